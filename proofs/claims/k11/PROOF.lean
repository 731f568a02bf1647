import PyProof.Rows.All
import Wide.All
import OpenK.AllK
import Wide.FinOn
import Lean
import PyProof.EqAt
import PyProof.EqKinds
import PyProof.TupleCall
import PySem.Challenge.RW_argosy_k11_timbers_felled_and_places
import KE.KIntText
import PyProof.StrWalks
import PyProof.MeetsStr
import PyProof.SliceStr2
import PyProof.EnumFor
import PyProof.EnumMake
import PyProof.Rows.SortWalk
import PyProof.RulesFinally
import KE.KTupSum
import PyProof.Rows.SumAny
import PyProof.MaxThree
import PyProof.AutoSeq1
import PyProof.Rows.TupDisplay
import KE.KTabLook
import KE.KDictSum
import PyProof.DictIter
import PyProof.DictWalks
import PyProof.Rows.EqDataRows
set_option Elab.async false
set_option linter.all false
set_option maxRecDepth 100000
/-! THE HAND LAYER, for ints, bools, texts, own classes, LISTS and tuples (index, slices, in, append, pop ..), calls, loops. Paste it whole ahead of your own text; what your proof does not reach may be deleted. -/
namespace L2
open PySem PySem.Spec PyProof.Rows

/-- a key: an int or a str -/
abbrev Key := Sum Int Str
def keyIs : Key → Value → Bool
  | .inl k, v => Value.isInt k v
  | .inr x, v => Value.isStrOf x v
def keyH (w : World) : Key → Int
  | .inl k => hashInt k
  | .inr x => hashStr w x
theorem keyIs_shape : ∀ {k : Key} {v : Value}, keyIs k v = true → (∃ i t, k = Sum.inl i ∧ v = Value.int i t) ∨ (∃ x t, k = Sum.inr x ∧ v = Value.str x t)
  | .inl i, v, h => by
    obtain ⟨t, e⟩ := Value.isInt_shape (k := i) (v := v) h
    exact .inl ⟨i, t, rfl, e⟩
  | .inr x, v, h => by
    obtain ⟨t, e⟩ := Value.isStrOf_shape (x := x) (v := v) h
    exact .inr ⟨x, t, rfl, e⟩
theorem keyIs_int (i : Int) (t : Tok) : keyIs (.inl i) (.int i t) = true := by simp [keyIs, Value.isInt]
theorem keyIs_str (x : Str) (t : Tok) : keyIs (.inr x) (.str x t) = true := by simp [keyIs, Value.isStrOf]
theorem key_ll (a b : Int) : decide ((Sum.inl a : Key) = Sum.inl b) = (a == b) := by
  by_cases e : a = b
  · subst e; simp
  · have h : ¬ (Sum.inl a : Key) = Sum.inl b := fun q => e (Sum.inl.inj q)
    rw [decide_eq_false h]
    exact (beq_eq_false_iff_ne.mpr e).symm
theorem key_rr (a b : Str) : decide ((Sum.inr a : Key) = Sum.inr b) = decide (a = b) := by
  by_cases e : a = b
  · subst e; simp
  · have h : ¬ (Sum.inr a : Key) = Sum.inr b := fun q => e (Sum.inr.inj q)
    rw [decide_eq_false h, decide_eq_false e]
theorem key_lr (a : Int) (b : Str) : decide ((Sum.inl a : Key) = Sum.inr b) = false := decide_eq_false (fun q => nomatch q)
theorem key_rl (a : Str) (b : Int) : decide ((Sum.inr a : Key) = Sum.inl b) = false := decide_eq_false (fun q => nomatch q)

def mixKind (prog : Program) (w : World) : PySem.KeyKind prog w Key where
  is := keyIs
  hash := keyH w
  inj := fun v a b ha hb => by
    rcases keyIs_shape ha with ⟨i, t, rfl, rfl⟩ | ⟨x, t, rfl, rfl⟩
    · rcases keyIs_shape hb with ⟨j, u, rfl, e⟩ | ⟨y, u, rfl, e⟩
      · injection e with e1 _; rw [e1]
      · exact nomatch e
    · rcases keyIs_shape hb with ⟨j, u, rfl, e⟩ | ⟨y, u, rfl, e⟩
      · exact nomatch e
      · injection e with e1 _; rw [e1]
  byValue := fun k v h => by
    rcases keyIs_shape h with ⟨i, t, rfl, rfl⟩ | ⟨x, t, rfl, rfl⟩ <;> rfl
  pyHash := fun hv h => by
    rcases keyIs_shape hv with ⟨i, t, rfl, rfl⟩ | ⟨x, t, rfl, rfl⟩
    · exact wpAny_pyHash_int h
    · exact wpAny_pyHash_str h
  eqBool := fun hu hv h => by
    rcases keyIs_shape hu with ⟨i, t, rfl, rfl⟩ | ⟨x, t, rfl, rfl⟩
    · rcases keyIs_shape hv with ⟨j, u, rfl, rfl⟩ | ⟨y, u, rfl, rfl⟩
      · rw [key_ll] at h; exact wpAny_eqBool_int h
      · rw [key_lr] at h; exact SeqAt.EqAt.int_str i t y u _ _ _ _ h
    · rcases keyIs_shape hv with ⟨j, u, rfl, rfl⟩ | ⟨y, u, rfl, rfl⟩
      · rw [key_rl] at h; exact SeqAt.EqAt.str_int x t j u _ _ _ _ h
      · rw [key_rr] at h; exact wpAny_eqBool_str h
  «strs» := fun k x t v h => by
    rcases keyIs_shape h with ⟨i, u, rfl, e⟩ | ⟨y, u, rfl, e⟩
    · exact nomatch e
    · injection e with e1 _
      subst e1
      cases v <;> rfl

theorem mixKind_is (prog : Program) (w : World) (k : Key) (v : Value) : (mixKind prog w).is k v = keyIs k v := rfl
theorem mixKind_int (prog : Program) (w : World) (i : Int) (t : Tok) : (mixKind prog w).is (.inl i) (.int i t) = true := keyIs_int i t
theorem mixKind_str (prog : Program) (w : World) (x : Str) (t : Tok) : (mixKind prog w).is (.inr x) (.str x t) = true := keyIs_str x t
end L2

namespace L2
open PySem PySem.Spec PyProof.Rows

/-- a value, without the heap -/
inductive V where
  | non | bl (b : Bool) | int (i : Int) | str (x : Str) | byt (b : Array UInt8) | flt (b : UInt64) | ref (a : Addr) | ty (n : String)
  deriving DecidableEq

def RelV : V → Value → Prop
  | .non, u => u = Value.none
  | .bl b, u => u = Value.bool b
  | .int i, u => ∃ t, u = Value.int i t
  | .str x, u => ∃ t, u = Value.str x t
  | .byt b, u => ∃ t, u = Value.bytes b t
  | .flt b, u => ∃ t, u = Value.float b t
  | .ref a, u => u = Value.ref a
  | .ty n, u => u = Value.type n

abbrev Vals : List V → List Value → Prop := Paired RelV
theorem Vals.length {xs : List V} {us : List Value} (r : Vals xs us) : xs.length = us.length := Paired.length r
theorem Vals.get : ∀ {xs : List V} {us : List Value} {i : Nat} {x : V}, Vals xs us → xs[i]? = some x → ∃ u, us[i]? = some u ∧ RelV x u
  | _, _, _, _, .nil, e => by simp at e
  | _, _, 0, _, .cons r _, e => by simp at e; subst e; exact ⟨_, rfl, r⟩
  | _, _, i + 1, x, .cons _ t, e => by
    obtain ⟨u, h1, h2⟩ := Vals.get (i := i) (x := x) t (by simpa using e)
    exact ⟨u, by simpa using h1, h2⟩
theorem Vals.set {x : V} {u : Value} (r : RelV x u) : ∀ {xs : List V} {us : List Value} (i : Nat), Vals xs us → Vals (xs.set i x) (us.set i u)
  | _, _, _, .nil => .nil
  | _, _, 0, .cons _ t => .cons r t
  | _, _, i + 1, .cons q t => .cons q (Vals.set r i t)
theorem Vals.append : ∀ {xs ys : List V} {us ws : List Value}, Vals xs us → Vals ys ws → Vals (xs ++ ys) (us ++ ws)
  | _, _, _, _, .nil, s => s
  | _, _, _, _, .cons r t, s => .cons r (Vals.append t s)
theorem Vals.take : ∀ {xs : List V} {us : List Value} (n : Nat), Vals xs us → Vals (xs.take n) (us.take n)
  | _, _, 0, _ => .nil
  | _, _, _ + 1, .nil => .nil
  | _, _, n + 1, .cons r t => .cons r (Vals.take n t)
theorem Vals.drop : ∀ {xs : List V} {us : List Value} (n : Nat), Vals xs us → Vals (xs.drop n) (us.drop n)
  | _, _, 0, r => r
  | _, _, _ + 1, .nil => .nil
  | _, _, n + 1, .cons _ t => Vals.drop n t
theorem Vals.none_of : ∀ {xs : List V} {us : List Value} {i : Nat}, Vals xs us → xs[i]? = none → us[i]? = none := fun {xs us i} r e => by
  have h1 := r.length
  have h2 : xs.length ≤ i := List.getElem?_eq_none_iff.mp e
  exact List.getElem?_eq_none_iff.mpr (by omega)

def RelO : Option V → Option Value → Prop
  | some v, some u => RelV v u
  | none, none => True
  | _, _ => False
def KV {κ : Type} : List (κ × V) → List (κ × Value) → Prop := Paired fun (p : κ × V) (q : κ × Value) => p.1 = q.1 ∧ RelV p.2 q.2

/-- a key of a dict (00_mix): an int or a text -/
def kV : Key → V
  | .inl i => .int i
  | .inr x => .str x

/-- what stands at a tracked address -/
inductive HO where
  /-- a list -/
  | lst (xs : List V)
  /-- a tuple (never changes) -/
  | tup (xs : List V)
  /-- a dict whose keys are ints and texts; one whose keys are tuples of ints and texts (the empty one is both) -/
  | dK (kvs : List (Key × V)) | dT (kvs : List (List Key × V))
  /-- a set of ints: its members, its size -/
  | set (S : Int → Bool) (n : Nat)
  /-- an instance of the class at C, its dict at dx, its attributes -/
  | ins (C dx : Addr) (fs : List (Str × V))
  /-- the dict of the instance at x -/
  | own (x : Addr)
  /-- the dict of an exception -/
  | xd (fs : List (Str × V))
  /-- a bound method, f of x -/
  | met (f x : Addr)
  /-- a range object lo, lo + 1, .. below hi -/
  | rng (lo hi : Int)
  /-- a thing that is known to the object (the script; a dict while a loop walks it): read, never written while it is so -/
  | frz (o : Obj) (u : HO)
  /-- a code object's table -/
  | tbl (ps : Array Value)
  /-- any other thing, by what is true of its one object (a def of one's own: SetO a S n := HO.ext fun h => ..) -/
  | ext (φ : Heap → Prop)

abbrev Hp := Addr → Option HO
def upd (H : Hp) (a : Addr) (o : HO) : Hp := fun b => if b = a then some o else H b
theorem upd_same {H : Hp} {a : Addr} {o : HO} : upd H a o a = some o := by unfold upd; rw [if_pos rfl]
theorem upd_ne {H : Hp} {a b : Addr} {o : HO} (h : b ≠ a) : upd H a o b = H b := by unfold upd; rw [if_neg h]
theorem upd_upd {H : Hp} {a : Addr} {o u : HO} : upd (upd H a o) a u = upd H a u := by
  funext b; unfold upd; split <;> rfl
/-- two objects of different content stand apart -/
theorem ne_of {H : Hp} {a b : Addr} {o u : HO} (h : H a = some o) (h' : H b = some u) (d : o ≠ u) : a ≠ b := by
  intro e; subst e; rw [h] at h'; exact d (Option.some.inj h')
theorem ne_of_none {H : Hp} {a b : Addr} {o : HO} (h : H a = some o) (h' : H b = none) : a ≠ b := by
  intro e; subst e; rw [h] at h'; cases h'

section
variable (P : Program) (w : World)
def ObjOk (H : Hp) (h : Heap) (a : Addr) : HO → Prop
  | .lst xs => xs.length ≤ sizeLine ∧ ∃ (its : List Value) (n : Nat), Vals xs its ∧ h.get? a = some { cls := .type "list", data := .seq its.toArray n }
  | .tup xs => xs.length ≤ sizeLine ∧ ∃ its : List Value, Vals xs its ∧ IsTup h a its.toArray
  | .dK kvs => kvs.length ≤ sizeLine ∧ (a == sysModules) = false ∧ ∃ vs, KV kvs vs ∧ h.DictOf (mixKind P w) a vs
  | .dT kvs => kvs.length ≤ sizeLine ∧ (a == sysModules) = false ∧ ∃ xs : List (List Key × Addr × Value),
      Paired (fun (p : List Key × V) (q : List Key × Addr × Value) => p.1 = q.1 ∧ H q.2.1 = some (.tup (p.1.map kV)) ∧ RelV p.2 q.2.2) kvs xs ∧
      ∃ o es ep, h.get? a = some o ∧ o.ExactDict ∧ o.data = .dict es ep ∧ es.toList = xs.map (entryOfKey (tupleKind (mixKind P w))) ∧ (xs.map (·.1)).Nodup
  | .set S n => h.SetOf (intKind P w) a S n
  | .ins C dx fs => H dx = some (.own a) ∧ fs.length ≤ 1000 ∧ dx ≠ a ∧ h.get? a = some (PySem.W.instObj C dx) ∧
      ∃ mA, h.Ns1 dx mA ∧ (∀ f, RelO (fs.lookup f) (mA f)) ∧ PySem.Within mA (fs.map (·.1))
  | .own _ => ∃ o, h.get? a = some o
  | .xd fs => ∃ mA, h.Ns1 a mA ∧ ∀ f, RelO (fs.lookup f) (mA f)
  | .rng lo hi => ∃ t u v, h.get? a = some { cls := .type "range", data := .fields #[.int lo t, .int hi u, .int 1 v] }
  | .frz o u => h.get? a = some o ∧ ObjOk H h a u
  | .tbl ps => h.get? a = some { cls := .none, data := .fields ps }
  | .met f x => h.get? a = some (PySem.W.methodObj (.ref f) (.ref x))
  | .ext φ => φ h ∧ (∃ o, h.get? a = some o) ∧ ∀ h1 h2 : Heap, φ h1 → (∀ o, h1.get? a = some o → h2.get? a = some o) → φ h2
/-- the abstract heap is held -/
def HOk (H : Hp) (h : Heap) : Prop := ∀ a o, H a = some o → ObjOk P w H h a o
end

section
variable {P : Program} {w : World} {H H' : Hp} {h h' : Heap} {a : Addr} {o : HO}
theorem ObjOk.lt (x : ObjOk P w H h a o) : a < h.objs.size := by
  cases o with
  | lst xs => obtain ⟨_, _, _, _, e⟩ := x; exact Heap.lt_size e
  | tup xs => obtain ⟨_, _, _, p⟩ := x; exact p.lt
  | dK kvs => obtain ⟨_, _, _, _, o, _, _, e, _⟩ := x; exact Heap.lt_size e
  | dT kvs => obtain ⟨_, _, _, _, o, _, _, e, _⟩ := x; exact Heap.lt_size e
  | set S n => obtain ⟨o, _, _, _, e, _⟩ := x; exact Heap.lt_size e
  | ins C dx fs => obtain ⟨_, _, _, e, _⟩ := x; exact Heap.lt_size e
  | own y => obtain ⟨_, e⟩ := x; exact Heap.lt_size e
  | xd fs => obtain ⟨_, ⟨_, _, _, e, _⟩, _⟩ := x; exact Heap.lt_size e
  | rng lo hi => obtain ⟨_, _, _, e⟩ := x; exact Heap.lt_size e
  | frz ob u => obtain ⟨e, _⟩ := x; exact Heap.lt_size e
  | tbl ps => exact Heap.lt_size (show h.get? a = some _ from x)
  | met f y => exact Heap.lt_size (show h.get? a = some _ from x)
  | ext φ => obtain ⟨_, ⟨_, e⟩, _⟩ := x; exact Heap.lt_size e
theorem Paired.mapP {α β : Type} {F G : α → β → Prop} : ∀ {l₁ : List α} {l₂ : List β}, Paired F l₁ l₂ → (∀ a b, F a b → G a b) → Paired G l₁ l₂
  | _, _, .nil, _ => .nil
  | _, _, .cons r t, f => .cons (f _ _ r) (Paired.mapP t f)
/-- what an object's description leans on: its own object, its own dict, the tuples -/
theorem ObjOk.stay (x : ObjOk P w H h a o) (k : ∀ b u, (b = a ∨ H b = some (.own a)) → h.get? b = some u → h'.get? b = some u)
    (ho : ∀ b, H b = some (.own a) → H' b = some (.own a)) (ht : ∀ b xs, H b = some (.tup xs) → H' b = some (.tup xs)) : ObjOk P w H' h' a o := by
  induction o with
  | lst xs => obtain ⟨z, its, n, r, e⟩ := x; exact ⟨z, its, n, r, k _ _ (.inl rfl) e⟩
  | tup xs => obtain ⟨z, its, r, ob, e, c⟩ := x; exact ⟨z, its, r, ob, k _ _ (.inl rfl) e, c⟩
  | dK kvs => obtain ⟨z, y, vs, r, ob, es, ep, e, c⟩ := x; exact ⟨z, y, vs, r, ob, es, ep, k _ _ (.inl rfl) e, c⟩
  | dT kvs =>
    obtain ⟨z, y, xs, r, ob, es, ep, e, c⟩ := x
    exact ⟨z, y, xs, Paired.mapP r fun p q z => ⟨z.1, ht _ _ z.2.1, z.2.2⟩, ob, es, ep, k _ _ (.inl rfl) e, c⟩
  | set S n => obtain ⟨ob, es, ep, t, e, c⟩ := x; exact ⟨ob, es, ep, t, k _ _ (.inl rfl) e, c⟩
  | ins C dx fs =>
    obtain ⟨d, z, ne, e, mA, ⟨od, es, ep, e2, c⟩, r⟩ := x
    exact ⟨ho _ d, z, ne, k _ _ (.inl rfl) e, mA, ⟨od, es, ep, k _ _ (.inr d) e2, c⟩, r⟩
  | own y => obtain ⟨ob, e⟩ := x; exact ⟨ob, k _ _ (.inl rfl) e⟩
  | xd fs => obtain ⟨mA, ⟨od, es, ep, e, c⟩, r⟩ := x; exact ⟨mA, ⟨od, es, ep, k _ _ (.inl rfl) e, c⟩, r⟩
  | rng lo hi => obtain ⟨t, u, v, e⟩ := x; exact ⟨t, u, v, k _ _ (.inl rfl) e⟩
  | frz ob u ih => obtain ⟨e, q⟩ := x; exact ⟨k _ _ (.inl rfl) e, ih q⟩
  | tbl ps =>
    have e : h.get? a = some { cls := .none, data := .fields ps } := x
    show h'.get? a = some { cls := .none, data := .fields ps }
    exact k a _ (.inl rfl) e
  | met f y =>
    have e : h.get? a = some (PySem.W.methodObj (.ref f) (.ref y)) := x
    show h'.get? a = some (PySem.W.methodObj (.ref f) (.ref y))
    exact k a _ (.inl rfl) e
  | ext φ => obtain ⟨p, ⟨o, e⟩, st⟩ := x; exact ⟨st _ _ p fun o q => k _ _ (.inl rfl) q, ⟨o, k _ _ (.inl rfl) e⟩, st⟩
theorem HOk.lt (x : HOk P w H h) (e : H a = some o) : a < h.objs.size := (x a o e).lt
theorem HOk.fresh (x : HOk P w H h) (e : h.objs.size ≤ a) : H a = none := by
  cases q : H a with
  | none => rfl
  | some u => exact absurd (Nat.lt_of_lt_of_le (x.lt q) e) (Nat.lt_irrefl _)
/-- every object of the heap is kept -/
theorem HOk.kept (x : HOk P w H h) (k : ∀ b u, h.get? b = some u → h'.get? b = some u) : HOk P w H h' := fun a o e =>
  (x a o e).stay (fun b u _ q => k b u q) (fun _ q => q) fun _ _ q => q
/-- a new object is laid and tracked -/
theorem HOk.laid (x : HOk P w H h) (k : ∀ b u, h.get? b = some u → h'.get? b = some u) (hp : h.objs.size ≤ a) (new : ObjOk P w (upd H a o) h' a o) : HOk P w (upd H a o) h' := fun b u e => by
  have hn := x.fresh hp
  by_cases hb : b = a
  · subst hb; rw [upd_same] at e; cases e; exact new
  · rw [upd_ne hb] at e
    exact (x b u e).stay (fun c v _ q => k c v q) (fun c q => by rw [upd_ne (ne_of_none q hn)]; exact q) fun c xs q => by rw [upd_ne (ne_of_none q hn)]; exact q
end

/-- what may be read as u: it is u, or a known u -/
def Rd (H : Hp) (a : Addr) (u : HO) : Prop := H a = some u ∨ ∃ o, H a = some (.frz o u)
theorem Rd.of {H : Hp} {a : Addr} {u : HO} (h : H a = some u) : Rd H a u := .inl h
theorem Rd.ok {P : Program} {w : World} {H : Hp} {h : Heap} {a : Addr} {u : HO} (r : Rd H a u) (x : HOk P w H h) : ObjOk P w H h a u := by
  rcases r with r | ⟨o, r⟩
  · exact x a u r
  · obtain ⟨_, q⟩ := x a _ r
    exact q
/-- what may be written -/
def Mut : Option HO → Prop
  | some (.lst _) => True
  | some (.dK _) => True
  | some (.dT _) => True
  | some (.set _ _) => True
  | some (.ins _ _ _) => True
  | some (.ext _) => True
  | _ => False
section
variable {P : Program} {w : World} {H : Hp} {h h' : Heap} {x e : Addr} {o' : HO}
/-- the object at e is changed: x itself, or the dict of the instance x -/
theorem HOk.write (ok : HOk P w H h) (mu : Mut (H x)) (he : e = x ∨ H e = some (.own x)) (k : ∀ b u, b ≠ e → h.get? b = some u → h'.get? b = some u) (heo : ∃ u, h'.get? e = some u)
    (new : ObjOk P w (upd H x o') h' x o') : HOk P w (upd H x o') h' := fun b u q => by
  have nown : ∀ c y, H c = some (.own y) → c ≠ x := fun c y r z => by subst z; rw [r] at mu; exact mu
  have ntup : ∀ c xs, H c = some (.tup xs) → c ≠ x := fun c xs r z => by subst z; rw [r] at mu; exact mu
  by_cases hb : b = x
  · subst hb; rw [upd_same] at q; cases q; exact new
  · rw [upd_ne hb] at q
    by_cases hbe : b = e
    · have q' : H b = some (.own x) := by
        rcases he with z | z
        · exact absurd (hbe.trans z) hb
        · rw [hbe]; exact z
      rw [q] at q'; cases q'
      obtain ⟨v, hv⟩ := heo
      exact ⟨v, by rw [hbe]; exact hv⟩
    · refine (ok b u q).stay (fun c v hc r => k c v ?_ r) (fun c r => by rw [upd_ne (nown c b r)]; exact r) fun c xs r => by rw [upd_ne (ntup c xs r)]; exact r
      rcases hc with rfl | hc
      · exact hbe
      · rintro rfl
        rcases he with z | z
        · exact nown c b hc z
        · rw [hc] at z; cases z; exact hb rfl
end

/-! ### kept unless tracked; of the frames at fs (the callers') the slots may change (an exception that passes writes there); of the records at ex (iterators) nothing is said -/
structure Un (fs ex : List Addr) (H H' : Hp) (h h' : Heap) : Prop where
  keep : ∀ b o, h.get? b = some o → H b = none → b ∉ fs → b ∉ ex → h'.get? b = some o
  slot : ∀ b o, h.get? b = some o → H b = none → b ∈ fs → b ∉ ex → ∃ sl, h'.get? b = some { o with slots := sl }
  free : ∀ b o, h.get? b = some o → H b = none → b ∉ ex → H' b = none
  there : ∀ b o, h.get? b = some o → b ∉ ex → ∃ o', h'.get? b = some o'
  tups : ∀ b xs, H b = some (.tup xs) → H' b = some (.tup xs)
  frzs : ∀ b o u, H b = some (.frz o u) → H' b = some (.frz o u)
  tbls : ∀ b ps, H b = some (.tbl ps) → ∃ more, H' b = some (.tbl (ps ++ more))
section
variable {fs fs' ex ex' : List Addr} {H H1 H2 : Hp} {h h1 h2 h' : Heap} {a x e : Addr} {o : HO}
theorem Un.any (u : Un fs ex H H1 h h1) {b : Addr} {ob : Obj} (q : h.get? b = some ob) (n : H b = none) (hx : b ∉ ex) : ∃ sl, h1.get? b = some { ob with slots := sl } := by
  by_cases hb : b ∈ fs
  · exact u.slot b ob q n hb hx
  · exact ⟨ob.slots, u.keep b ob q n hb hx⟩
theorem Un.trans (a : Un fs ex H H1 h h1) (b : Un fs ex H1 H2 h1 h2) : Un fs ex H H2 h h2 where
  keep := fun c ob q n hc hx => b.keep c ob (a.keep c ob q n hc hx) (a.free c ob q n hx) hc hx
  slot := fun c ob q n hc hx => by
    obtain ⟨sl, e1⟩ := a.slot c ob q n hc hx
    obtain ⟨sl', e2⟩ := b.slot c _ e1 (a.free c ob q n hx) hc hx
    exact ⟨sl', e2⟩
  free := fun c ob q n hx => by
    obtain ⟨o', e1⟩ := a.there c ob q hx
    exact b.free c o' e1 (a.free c ob q n hx) hx
  there := fun c ob q hx => by
    obtain ⟨o', e1⟩ := a.there c ob q hx
    exact b.there c o' e1 hx
  tups := fun c xs q => b.tups c xs (a.tups c xs q)
  frzs := fun c ob xs q => b.frzs c ob xs (a.frzs c ob xs q)
  tbls := fun c ps q => by
    obtain ⟨m1, e1⟩ := a.tbls c ps q
    obtain ⟨m2, e2⟩ := b.tbls c _ e1
    exact ⟨m1 ++ m2, by rw [e2, Array.append_assoc]⟩
theorem Un.kept (k : ∀ b u, h.get? b = some u → h'.get? b = some u) : Un fs ex H H h h' :=
  ⟨fun b ob q _ _ _ => k b ob q, fun b ob q _ _ _ => ⟨ob.slots, k b ob q⟩, fun _ _ _ n _ => n, fun b ob q _ => ⟨ob, k b ob q⟩, fun _ _ q => q, fun _ _ _ q => q, fun _ ps q => ⟨#[], by rw [q]; simp⟩⟩
theorem Un.refl : Un fs ex H H h h := Un.kept fun _ _ q => q
theorem Un.laid (k : ∀ b u, h.get? b = some u → h'.get? b = some u) (hp : h.objs.size ≤ a) (hn : H a = none) : Un fs ex H (upd H a o) h h' where
  keep := fun b u q _ _ _ => k b u q
  slot := fun b u q _ _ _ => ⟨u.slots, k b u q⟩
  free := fun b u q n _ => by rw [upd_ne (Nat.ne_of_lt (Nat.lt_of_lt_of_le (Heap.lt_size q) hp))]; exact n
  there := fun b u q _ => ⟨u, k b u q⟩
  tups := fun b xs q => by rw [upd_ne (ne_of_none q hn)]; exact q
  frzs := fun b u xs q => by rw [upd_ne (ne_of_none q hn)]; exact q
  tbls := fun b ps q => ⟨#[], by rw [upd_ne (ne_of_none q hn), q]; simp⟩
theorem Un.write (mu : Mut (H x)) (he : e = x ∨ H e = some (.own x)) (k : ∀ b u, b ≠ e → h.get? b = some u → h'.get? b = some u) (heo : ∃ u, h'.get? e = some u) : Un fs ex H (upd H x o) h h' := by
  have hx : ∀ b, H b = none → b ≠ x := fun b n z => by subst z; rw [n] at mu; exact mu
  have hb : ∀ b, H b = none → b ≠ e := fun b n z => by
    subst z
    rcases he with r | r
    · exact hx b n r
    · rw [n] at r; cases r
  have hm : ∀ b u, H b = some u → ¬ Mut (some u) → b ≠ x := fun b u q nm z => by subst z; rw [q] at mu; exact nm mu
  refine ⟨fun b u q n _ _ => k b u (hb b n) q, fun b u q n _ _ => ⟨u.slots, k b u (hb b n) q⟩, fun b u q n _ => by rw [upd_ne (hx b n)]; exact n, fun b u q _ => ?_,
    fun b xs q => by rw [upd_ne (hm b _ q fun z => z)]; exact q, fun b u xs q => by rw [upd_ne (hm b _ q fun z => z)]; exact q, fun b ps q => ⟨#[], by rw [upd_ne (hm b _ q fun z => z), q]; simp⟩⟩
  by_cases hbe : b = e
  · subst hbe; exact heo
  · exact ⟨u, k b u hbe q⟩
theorem Un.mono (u : Un fs ex H H1 h h1) (hs : ∀ b ∈ fs, b ∈ fs') (hx : ∀ b ∈ ex, b ∈ ex') : Un fs' ex' H H1 h h1 :=
  ⟨fun b ob q n hb he => u.keep b ob q n (fun z => hb (hs b z)) fun z => he (hx b z), fun _ _ q n _ he => u.any q n fun z => he (hx _ z), fun b ob q n he => u.free b ob q n fun z => he (hx b z), fun b ob q he => u.there b ob q fun z => he (hx b z), u.tups, u.frzs, u.tbls⟩
end

/-! ### the heap without what is tracked -/
def trk (h : Heap) (H : Hp) : List Addr := (List.range h.objs.size).filter fun a => (H a).isSome
def hidT (h : Heap) (H : Hp) : Heap := PySem.W.hideAll h (trk h H)
theorem hidT_size (h : Heap) (H : Hp) : (hidT h H).objs.size = h.objs.size := PySem.W.hideAll_size _ _
theorem hidT_get {h : Heap} {H : Hp} {b : Addr} {o : Obj} (e : h.get? b = some o) (n : H b = none) : (hidT h H).get? b = some o :=
  PySem.W.hideAll_get _ e fun hm => by
    have q : (H b).isSome = true := (List.mem_filter.mp hm).2
    rw [n] at q; simp at q
theorem of_hidT {h : Heap} {H : Hp} {b : Addr} {o : Obj} (e : (hidT h H).get? b = some o) : h.get? b = some o ∧ H b = none := by
  have e' : h.get? b = some o := PySem.W.of_hideAll (trk h H) e
  refine ⟨e', ?_⟩
  cases q : H b with
  | none => rfl
  | some x =>
    have hm : b ∈ trk h H := List.mem_filter.mpr ⟨List.mem_range.mpr (Heap.lt_size e'), by simp [q]⟩
    have z : (hidT h H).get? b = none := PySem.W.hideAll_none (trk h H) hm
    rw [z] at e; cases e

/-! ### OpenK's ledger, filled with every new object but one -/
def allNews (g h : Heap) (L : Addr) : List (Addr × Obj) := (List.range h.objs.size).filterMap fun a => if a = L ∨ (g.get? a).isSome = true then none else (h.get? a).map fun o => (a, o)
def rest (g h : Heap) (L d : Addr) : List (Addr × Obj) := (allNews g h L).filter fun p => decide (p.1 ≠ d)
end L2

namespace L2
open PySem PySem.Spec PyProof.Rows

/-- the module's facts, over the base: the heap at the law's entry without what is tracked there -/
structure Mod (K : PySem.W.Frag) (mg : Str → Option Value) (base : Heap) : Prop where
  kin : K.In base
  glob : base.Ns mainGlobals mg
  blt : ∃ mb, base.Ns builtinsNs mb ∧ ∀ x : Str, x ≠ "__name__" → mb x = bootBuiltins x
  nolimit : base.NoLimit

/-- the context: a def's body (or a comprehension's block) running. base: fixed through the whole law; s₀, H₀: the entry; outer: the frames whose slots others may change (a def's callers); stack: all frames that run;
   ex: iterators that were made ahead of the entry and are walked here (a comprehension's); fn: the names whose cells were made at the entry (a def: all; a comprehension's block: its own); calm: not within an except suite; pn: pins that every state bears; xe: what is wanted of an exception that leaves the code -/
structure Cx where
  prog : Program
  w : World
  K : PySem.W.Frag
  mg : Str → Option Value
  base : Heap
  A : Around
  N : List Str
  s₀ : Shared
  H₀ : Hp
  env : Env
  outer : List Env
  stack : List Env
  ex : List Addr
  fn : Str → Bool
  calm : Bool
  pn : List (Addr × Obj)
  xe : Value → Shared → Prop
/-- the callers' frames -/
def frs (l : List Env) : List Addr := l.filterMap (·.frame)
abbrev Cx.fs (X : Cx) : List Addr := frs X.outer

def Vis (sc : Scope) (x : Str) : Prop := sc.names.lookup x = some .local ∨ sc.names.lookup x = some .cell ∨ sc.names.lookup x = some .free
def Loc (sc : Scope) (x : Str) : Prop := sc.names.lookup x = some .local ∨ sc.names.lookup x = some .cell
def Look (env : Env) (h : Heap) (m : Str → Option Value) (x : Str) (u : Value) : Prop :=
  (env.kindOf x = some .local ∧ m x = some u) ∨ ((env.kindOf x = some .cell ∨ env.kindOf x = some .free) ∧ ∃ c, env.cells.lookup x = some c ∧ h.IsCell c (some u))

structure Cx.Ok (X : Cx) : Prop where
  mod : Mod X.K X.mg X.base
  kind : X.env.scope.kind = .function
  glob : X.env.globals = mainGlobals
  blt : X.env.builtins = builtinsNs
  above : X.s₀.heap.objs.size ≤ X.env.locals
  inj : ∀ x y c, X.env.cells.lookup x = some c → X.env.cells.lookup y = some c → x = y
  has : ∀ x, (X.env.kindOf x = some .cell ∨ X.env.kindOf x = some .free) → ∃ c, X.env.cells.lookup x = some c
  cab : ∀ x c, X.fn x = true → X.env.cells.lookup x = some c → X.s₀.heap.objs.size ≤ c
  hd : X.calm = true → X.A.handled = none
  frames : X.A.frames = some X.stack
  stk : X.stack = X.outer ∨ (X.stack = X.env :: X.outer ∧ X.env.frame = some X.env.locals)
  exf : ∀ b ∈ X.ex, b ≠ X.env.locals ∧ ∀ x c, X.env.cells.lookup x = some c → c ≠ b
  bs : ∀ b o, X.base.get? b = some o → X.s₀.heap.get? b = some o ∧ X.H₀ b = none
  bsz : X.base.objs.size ≤ X.s₀.heap.objs.size
  noex : ∀ b o, X.base.get? b = some o → b ∉ X.ex
  exfs : ∀ b ∈ X.ex, b ∉ X.fs
  funs : X.s₀.heap.FunFrames X.base X.outer
  frf : ∀ b ∈ X.fs, X.H₀ b = none

structure Inv (X : Cx) (pins : List (Addr × Obj)) (σ : List (Option V)) (H : Hp) (s : Shared) : Prop where
  ok : X.Ok
  os : s.os = X.s₀.os
  bare : AllBare s.gens
  base : Un X.fs X.ex X.H₀ H X.s₀.heap s.heap
  loc : ∃ m, s.heap.Ns X.env.locals m ∧ ∀ (i : Nat) (x : Str) (v : V), X.N[i]? = some x → σ[i]? = some (some v) → Vis X.env.scope x → ∃ u, RelV v u ∧ Look X.env s.heap m x u
  cell : ∀ x c, X.env.cells.lookup x = some c → ∃ v, s.heap.IsCell c v
  free : H X.env.locals = none
  freeC : ∀ x c, X.env.cells.lookup x = some c → H c = none
  pin : ∀ p ∈ X.pn ++ pins, s.heap.get? p.1 = some p.2 ∧ H p.1 = none ∧ p.1 ≠ X.env.locals ∧ p.1 ∉ X.fs ∧ ∀ v, p.2.data ≠ .cell v
  hok : HOk X.prog X.w H s.heap
  len : σ.length = X.N.length

section
variable {X : Cx} {pins : List (Addr × Obj)} {σ : List (Option V)} {H H' : Hp} {s : Shared} {h' : Heap}

theorem Cx.Ok.nofr (ok : X.Ok) {b : Addr} {o : Obj} (e : X.base.get? b = some o) : b ∉ X.fs := fun hb => by
  have := (ok.funs.mem hb).1
  rw [e] at this; cases this
theorem Inv.bs (I : Inv X pins σ H s) : ∀ b o, X.base.get? b = some o → s.heap.get? b = some o ∧ H b = none := fun b o e =>
  ⟨I.base.keep b o (I.ok.bs b o e).1 (I.ok.bs b o e).2 (I.ok.nofr e) (I.ok.noex b o e), I.base.free b o (I.ok.bs b o e).1 (I.ok.bs b o e).2 (I.ok.noex b o e)⟩
theorem Inv.bk (I : Inv X pins σ H s) : ∀ b o, X.base.get? b = some o → s.heap.get? b = some o := fun b o e => (I.bs b o e).1
theorem Inv.mod (I : Inv X pins σ H s) : Mod X.K X.mg X.base := I.ok.mod
theorem Inv.kIn (I : Inv X pins σ H s) : X.K.In s.heap := I.ok.mod.kin.keeps I.bk
theorem Inv.nolimit (I : Inv X pins σ H s) : s.heap.NoLimit := I.ok.mod.nolimit.keeps I.bk
/-- the frame over the base: for OpenK's rules (K.In X.base is I.mod.kin) -/
theorem Inv.fr (I : Inv X pins σ H s) : ∃ m, Fr X.base X.env.locals s.heap m :=
  let ⟨m, hn, _⟩ := I.loc
  ⟨m, hn, I.bk, Nat.le_trans I.ok.bsz I.ok.above⟩
theorem Inv.lt (I : Inv X pins σ H s) : X.env.locals < s.heap.objs.size := let ⟨_, hn, _⟩ := I.loc; hn.lt
theorem Inv.sz (I : Inv X pins σ H s) : X.s₀.heap.objs.size ≤ s.heap.objs.size := Nat.le_trans I.ok.above (Nat.le_of_lt I.lt)
theorem Inv.nofs (I : Inv X pins σ H s) {a : Addr} (h : s.heap.objs.size ≤ a) : a ∉ X.fs := fun hb => by
  obtain ⟨_, o, ho, _⟩ := I.ok.funs.mem hb
  exact absurd (Nat.lt_of_lt_of_le (Heap.lt_size ho) (Nat.le_trans I.sz h)) (Nat.lt_irrefl _)
theorem Inv.cne (I : Inv X pins σ H s) : ∀ x c, X.env.cells.lookup x = some c → c ≠ X.env.locals := fun x c e z => by
  obtain ⟨v, o, ho, hd⟩ := I.cell x c e
  obtain ⟨m, ⟨o', es, ep, ho', hd', _⟩, _⟩ := I.loc
  rw [z, ho'] at ho; cases ho; rw [hd'] at hd; cases hd
theorem Inv.funs (I : Inv X pins σ H s) : s.heap.FunFrames X.base X.outer := by
  have all : ∀ (l : List Env), (∀ b ∈ frs l, b ∈ X.fs) → X.s₀.heap.FunFrames X.base l → s.heap.FunFrames X.base l := by
    intro l
    induction l with
    | nil => intro _ _; trivial
    | cons env r ih =>
      intro hs hl
      obtain ⟨hk, ⟨L, o, hf, hn, ho, hd⟩, hr⟩ := hl
      have hL : L ∈ X.fs := hs L (by unfold frs; rw [List.filterMap_cons, hf]; exact List.mem_cons_self)
      obtain ⟨sl, e⟩ := I.base.slot L o ho (I.ok.frf L hL) hL fun z => I.ok.exfs L z hL
      exact ⟨hk, ⟨L, _, hf, hn, e, hd⟩, ih (fun b hb => hs b (by unfold frs; rw [List.filterMap_cons, hf]; exact List.mem_cons_of_mem _ hb)) hr⟩
  exact all X.outer (fun _ hb => hb) I.ok.funs

/-- the frames that run, for a call -/
theorem Inv.stack (I : Inv X pins σ H s) : s.heap.FunFrames X.base X.stack := by
  rcases I.ok.stk with e | ⟨e, hf⟩
  · rw [e]; exact I.funs
  · rw [e]
    obtain ⟨m, hn, _⟩ := I.loc
    refine .cons (by rw [I.ok.kind]; decide) hf hn ?_ I.funs
    exact Heap.get?_none_of_le (Nat.le_trans I.ok.bsz I.ok.above)
theorem Inv.stkSub (I : Inv X pins σ H s) : ∀ b ∈ frs X.stack, b ∈ X.env.locals :: X.fs := fun b hb => by
  rcases I.ok.stk with e | ⟨e, hf⟩
  · rw [e] at hb; exact List.mem_cons_of_mem _ hb
  · rw [e] at hb
    unfold frs at hb
    rw [List.filterMap_cons, hf] at hb
    exact hb
theorem Inv.stkFree (I : Inv X pins σ H s) : ∀ b ∈ frs X.stack, H b = none := fun b hb => by
  rcases List.mem_cons.mp (I.stkSub b hb) with e | hb
  · rw [e]; exact I.free
  · obtain ⟨_, o, ho, _⟩ := I.ok.funs.mem hb
    exact I.base.free b o ho (I.ok.frf b hb) fun z => I.ok.exfs b z hb

/-- THE STEP: the untracked objects but the frame and the records at ch are kept (the callers' frames up to slots), the frame's map is kept, the new abstract heap is held -/
theorem Inv.step {g' : Array GenState} {t' : Nat} {d' : Drawn} {ch : List Addr} (I : Inv X pins σ H s)
    (hch : ∀ b ∈ ch, (b ∈ X.ex ∨ X.s₀.heap.objs.size ≤ b) ∧ b ≠ X.env.locals ∧ (∀ x c, X.env.cells.lookup x = some c → c ≠ b) ∧ ∀ p ∈ X.pn ++ pins, p.1 ≠ b)
    (keep : ∀ b o, b ≠ X.env.locals → b ∉ X.fs → b ∉ ch → s.heap.get? b = some o → H b = none → h'.get? b = some o)
    (slot : ∀ b o, b ≠ X.env.locals → b ∈ X.fs → b ∉ ch → s.heap.get? b = some o → H b = none → ∃ sl, h'.get? b = some { o with slots := sl }) (free : ∀ b o, b ∉ ch → s.heap.get? b = some o → H b = none → H' b = none)
    (there : ∀ b o, b ∉ ch → s.heap.get? b = some o → ∃ o', h'.get? b = some o')
    (tups : ∀ b xs, H b = some (.tup xs) → H' b = some (.tup xs)) (frzs : ∀ b o u, H b = some (.frz o u) → H' b = some (.frz o u)) (tbls : ∀ b ps, H b = some (.tbl ps) → ∃ more, H' b = some (.tbl (ps ++ more)))
    (ns : ∀ m, s.heap.Ns X.env.locals m → h'.Ns X.env.locals m) (hok : HOk X.prog X.w H' h') (hg : AllBare g') :
    Inv X pins σ H' { s with heap := h', gens := g', drawn := d', toks := t' } := by
  have neL : ∀ b o, X.s₀.heap.get? b = some o → b ≠ X.env.locals := fun b o e => Nat.ne_of_lt (Nat.lt_of_lt_of_le (Heap.lt_size e) I.ok.above)
  have neC : ∀ b o, X.s₀.heap.get? b = some o → b ∉ X.ex → b ∉ ch := fun b o e hx hb => by
    rcases (hch b hb).1 with z | z
    · exact hx z
    · exact absurd (Nat.lt_of_lt_of_le (Heap.lt_size e) z) (Nat.lt_irrefl _)
  have cellK : ∀ x c, X.env.cells.lookup x = some c → ∀ v, s.heap.IsCell c v → h'.IsCell c v := fun x c e v ⟨o, ho, hd⟩ => by
    have nch : c ∉ ch := fun z => (hch c z).2.2.1 x c e rfl
    by_cases hc : c ∈ X.fs
    · obtain ⟨sl, q⟩ := slot c o (I.cne x c e) hc nch ho (I.freeC x c e)
      exact ⟨_, q, hd⟩
    · exact ⟨o, keep c o (I.cne x c e) hc nch ho (I.freeC x c e), hd⟩
  refine ⟨I.ok, I.os, hg, ⟨fun b o e n hb hx => ?_, fun b o e n hb hx => ?_, fun b o e n hx => ?_, fun b o e hx => ?_, fun b xs e => tups b xs (I.base.tups b xs e), fun b o xs e => frzs b o xs (I.base.frzs b o xs e), fun b ps e => ?_⟩, ?_, fun x c e => ?_, ?_, fun x c e => ?_, fun p hp => ?_, hok, I.len⟩
  · exact keep b o (neL b o e) hb (neC b o e hx) (I.base.keep b o e n hb hx) (I.base.free b o e n hx)
  · obtain ⟨sl, e1⟩ := I.base.slot b o e n hb hx
    obtain ⟨sl', e2⟩ := slot b _ (neL b o e) hb (neC b o e hx) e1 (I.base.free b o e n hx)
    exact ⟨sl', e2⟩
  · obtain ⟨o', e1⟩ := I.base.there b o e hx
    exact free b o' (neC b o e hx) e1 (I.base.free b o e n hx)
  · obtain ⟨o', e1⟩ := I.base.there b o e hx
    exact there b o' (neC b o e hx) e1
  · obtain ⟨m1, e1⟩ := I.base.tbls b ps e
    obtain ⟨m2, e2⟩ := tbls b _ e1
    exact ⟨m1 ++ m2, by rw [e2, Array.append_assoc]⟩
  · obtain ⟨m, hn, hl⟩ := I.loc
    refine ⟨m, ns m hn, fun i x v e1 e2 e3 => ?_⟩
    obtain ⟨u, r, l⟩ := hl i x v e1 e2 e3
    refine ⟨u, r, ?_⟩
    rcases l with l | ⟨k, c, e, z⟩
    · exact .inl l
    · exact .inr ⟨k, c, e, cellK x c e _ z⟩
  · obtain ⟨v, z⟩ := I.cell x c e
    exact ⟨v, cellK x c e v z⟩
  · obtain ⟨m, ⟨o, _, _, ho, _⟩, _⟩ := I.loc
    exact free _ o (fun z => (hch _ z).2.1 rfl) ho I.free
  · obtain ⟨v, o, ho, hd⟩ := I.cell x c e
    exact free c o (fun z => (hch c z).2.2.1 x c e rfl) ho (I.freeC x c e)
  · obtain ⟨e, n, ne, nf, d⟩ := I.pin p hp
    have nch : p.1 ∉ ch := fun z => (hch p.1 z).2.2.2 p hp rfl
    exact ⟨keep p.1 p.2 ne nf nch e n, free p.1 p.2 nch e n, ne, nf, d⟩
/-- .. where the frame's own object is kept too -/
theorem Inv.un {t' : Nat} (I : Inv X pins σ H s) (u : Un X.fs [] H H' s.heap h') (hok : HOk X.prog X.w H' h') : Inv X pins σ H' { s with heap := h', toks := t' } := by
  obtain ⟨m, ⟨o, es, ep, ho, r⟩, _⟩ := id I.loc
  obtain ⟨sl, hL⟩ := u.any ho I.free (by simp)
  exact I.step (g' := s.gens) (d' := s.drawn) (ch := []) (fun _ z => nomatch z) (fun b o _ hb _ e n => u.keep b o e n hb (by simp)) (fun b o _ hb _ e n => u.slot b o e n hb (by simp)) (fun b o _ e n => u.free b o e n (by simp)) (fun b o _ e => u.there b o e (by simp)) u.tups u.frzs u.tbls (fun m' hm => by
    obtain ⟨o', es', ep', ho', r'⟩ := hm
    rw [ho] at ho'; cases ho'
    exact ⟨_, es', ep', hL, r'⟩) hok I.bare
/-- behind a call (or a comprehension's block): the slots of this frame may have changed too, the records at ch may have turned -/
theorem Inv.call {g' : Array GenState} {t' : Nat} {d' : Drawn} {ch : List Addr} (I : Inv X pins σ H s) (u : Un (frs X.stack) ch H H' s.heap h') (hok : HOk X.prog X.w H' h') (hg : AllBare g')
    (hch : ∀ b ∈ ch, (b ∈ X.ex ∨ X.s₀.heap.objs.size ≤ b) ∧ b ≠ X.env.locals ∧ (∀ x c, X.env.cells.lookup x = some c → c ≠ b) ∧ ∀ p ∈ X.pn ++ pins, p.1 ≠ b) :
    Inv X pins σ H' { s with heap := h', gens := g', drawn := d', toks := t' } := by
  obtain ⟨m, ⟨o, es, ep, ho, r⟩, _⟩ := id I.loc
  obtain ⟨sl, hL⟩ := u.any ho I.free fun z => (hch _ z).2.1 rfl
  exact I.step (ch := ch) hch (fun b o hL hb hc e n => u.keep b o e n (fun z => (List.mem_cons.mp (I.stkSub b z)).elim hL hb) hc) (fun b o _ _ hc e n => u.any e n hc) (fun b o hc e n => u.free b o e n hc) (fun b o hc e => u.there b o e hc) u.tups u.frzs u.tbls (fun m' hm => by
    obtain ⟨o', es', ep', ho', r'⟩ := hm
    rw [ho] at ho'; cases ho'
    exact ⟨_, es', ep', hL, r'⟩) hok hg
/-- an untracked record of ours (an iterator) has turned -/
theorem Inv.turned {t' : Nat} {it : Addr} (I : Inv X pins σ H s) (k : ∀ b o, b ≠ it → s.heap.get? b = some o → h'.get? b = some o) (hn : H it = none) (hL : it ≠ X.env.locals)
    (h1 : it ∈ X.ex ∨ X.s₀.heap.objs.size ≤ it) (h2 : ∀ x c, X.env.cells.lookup x = some c → c ≠ it) (h3 : ∀ p ∈ X.pn ++ pins, p.1 ≠ it) : Inv X pins σ H { s with heap := h', toks := t' } := by
  have nit : ∀ b u, H b = some u → b ≠ it := fun b u e z => by rw [z, hn] at e; cases e
  refine I.step (g' := s.gens) (d' := s.drawn) (ch := [it]) (fun b hb => ?_) (fun b o _ _ hc e _ => k b o (fun z => hc (by simp [z])) e) (fun b o _ _ hc e _ => ⟨o.slots, k b o (fun z => hc (by simp [z])) e⟩) (fun _ _ _ _ n => n)
    (fun b o hc e => ⟨o, k b o (fun z => hc (by simp [z])) e⟩) (fun _ _ e => e) (fun _ _ _ e => e) (fun b ps e => ⟨#[], by rw [e]; simp⟩) (fun m hm => ?_) (fun b u e => ?_) I.bare
  · have e : b = it := by simpa using hb
    subst e
    exact ⟨h1, hL, h2, h3⟩
  · obtain ⟨o, es, ep, ho, r⟩ := hm
    exact ⟨o, es, ep, k _ o (Ne.symm hL) ho, r⟩
  · refine (I.hok b u e).stay (fun c v hc q => k c v ?_ q) (fun _ q => q) fun _ _ q => q
    rcases hc with z | z
    · rw [z]; exact nit b u e
    · exact nit c _ z
theorem Inv.tok (I : Inv X pins σ H s) (t : Nat) : Inv X pins σ H { s with toks := t } := I.un (h' := s.heap) (t' := t) Un.refl I.hok
/-- all objects kept -/
theorem Inv.kept {t' : Nat} (I : Inv X pins σ H s) (k : ∀ b u, s.heap.get? b = some u → h'.get? b = some u) : Inv X pins σ H { s with heap := h', toks := t' } := I.un (Un.kept k) (I.hok.kept k)
/-- a new object laid and tracked -/
theorem Inv.laid {a : Addr} {o : HO} {t' : Nat} (I : Inv X pins σ H s) (k : ∀ b u, s.heap.get? b = some u → h'.get? b = some u) (hp : s.heap.objs.size ≤ a) (new : ObjOk X.prog X.w (upd H a o) h' a o) :
    Inv X pins σ (upd H a o) { s with heap := h', toks := t' } := I.un (Un.laid k hp (I.hok.fresh hp)) (I.hok.laid k hp new)
/-- an object written -/
theorem Inv.write {x e : Addr} {o : HO} {t' : Nat} (I : Inv X pins σ H s) (mu : Mut (H x)) (he : e = x ∨ H e = some (.own x)) (k : ∀ b u, b ≠ e → s.heap.get? b = some u → h'.get? b = some u) (heo : ∃ u, h'.get? e = some u)
    (new : ObjOk X.prog X.w (upd H x o) h' x o) : Inv X pins σ (upd H x o) { s with heap := h', toks := t' } := I.un (Un.write mu he k heo) (I.hok.write mu he k heo new)
theorem Inv.pins_of {pins' : List (Addr × Obj)} (I : Inv X pins σ H s) (h : ∀ p ∈ pins', s.heap.get? p.1 = some p.2 ∧ H p.1 = none ∧ p.1 ≠ X.env.locals ∧ p.1 ∉ X.fs ∧ ∀ v, p.2.data ≠ .cell v) : Inv X pins' σ H s :=
  ⟨I.ok, I.os, I.bare, I.base, I.loc, I.cell, I.free, I.freeC, fun p hp => (List.mem_append.mp hp).elim (fun z => I.pin p (List.mem_append_left _ z)) (h p), I.hok, I.len⟩

theorem nodup_ix {N : List Str} (hN : N.Nodup) {i j : Nat} {x : Str} (a : N[i]? = some x) (b : N[j]? = some x) : i = j := by
  obtain ⟨h1, e1⟩ := List.getElem?_eq_some_iff.mp a
  obtain ⟨h2, e2⟩ := List.getElem?_eq_some_iff.mp b
  exact (List.getElem_inj hN).mp (e1.trans e2.symm)

/-- a name is stored; what changed -/
theorem store_ok2 {M : Model} {A : Around} {E : Value → Shared → Prop} {i : Nat} {x : Str} {v : V} {u : Value} {Q : Unit → Shared → Prop} (I : Inv X pins σ H s) (hN : X.N.Nodup) (hi : X.N[i]? = some x) (hx : Loc X.env.scope x) (r : RelV v u)
    (h : ∀ s', Inv X pins (σ.set i (some v)) H s' → (∃ a, Heap.SameBut a s.heap s'.heap ∧ (a = X.env.locals ∨ X.env.cells.lookup x = some a)) → Q () s') (hf : X.fn x = true ∨ X.env.scope.names.lookup x = some .local := by first | exact .inl rfl | exact .inr rfl | assumption) : wpAny M A (storeName X.env x u) Q E s := by
  obtain ⟨m, hn, hl⟩ := id I.loc
  have hcls : (X.env.scope.kind == .class || (X.env.scope.kind == .module && X.env.locals != X.env.globals)) = false := by rw [I.ok.kind]; rfl
  have hiσ : i < σ.length := by rw [I.len]; exact (List.getElem?_eq_some_iff.mp hi).1
  have cne := I.cne
  have tracked : ∀ {a : Addr} {h' : Heap}, (∃ o, s.heap.get? a = some o ∧ H a = none) → Heap.SameBut a s.heap h' → HOk X.prog X.w H h' := fun {a h'} ha hs b ob e => by
    obtain ⟨_, _, hfree⟩ := ha
    refine (I.hok b ob e).stay (fun c w' hc q => (hs.2 c ?_).trans q) (fun _ q => q) fun _ _ q => q
    rintro rfl
    rcases hc with rfl | hc
    · rw [hfree] at e; cases e
    · rw [hfree] at hc; cases hc
  rcases hx with hk | hk
  · refine wpAny_storeName_local hk hn (fun h' hn' hs => ?_) hcls
    obtain ⟨oL, _, _, hoL, _⟩ := id hn
    refine h _ ⟨I.ok, I.os, I.bare, ⟨fun b o e n hb hx => ?_, fun b o e n hb hx => ?_, I.base.free, fun b o e hx => ?_, I.base.tups, I.base.frzs, I.base.tbls⟩, ⟨_, hn', fun j y v' e1 e2 e3 => ?_⟩, fun y c e => ?_, I.free, I.freeC, fun p hp => ?_, tracked ⟨oL, hoL, I.free⟩ hs, by simpa using I.len⟩ ⟨_, hs, .inl rfl⟩
    · exact (hs.2 b (Nat.ne_of_lt (Nat.lt_of_lt_of_le (Heap.lt_size e) I.ok.above))).trans (I.base.keep b o e n hb hx)
    · obtain ⟨sl, e1⟩ := I.base.slot b o e n hb hx
      exact ⟨sl, (hs.2 b (Nat.ne_of_lt (Nat.lt_of_lt_of_le (Heap.lt_size e) I.ok.above))).trans e1⟩
    · obtain ⟨o', e1⟩ := I.base.there b o e hx
      exact ⟨o', (hs.2 b (Nat.ne_of_lt (Nat.lt_of_lt_of_le (Heap.lt_size e) I.ok.above))).trans e1⟩
    · by_cases hj : j = i
      · subst hj
        rw [hi] at e1; cases e1
        rw [List.getElem?_set_self hiσ] at e2
        cases e2
        exact ⟨u, r, .inl ⟨hk, by simp⟩⟩
      · rw [List.getElem?_set_ne (Ne.symm hj)] at e2
        obtain ⟨u', r', q⟩ := hl j y v' e1 e2 e3
        refine ⟨u', r', ?_⟩
        rcases q with ⟨k, e⟩ | ⟨k, c, e, z⟩
        · refine .inl ⟨k, ?_⟩
          have : y ≠ x := fun e => hj (nodup_ix hN e1 (e ▸ hi))
          simp [this, e]
        · exact .inr ⟨k, c, e, z.sameBut hs (cne y c e)⟩
    · obtain ⟨w', z⟩ := I.cell y c e
      exact ⟨w', z.sameBut hs (cne y c e)⟩
    · obtain ⟨e, n, ne, nf, d⟩ := I.pin p hp
      exact ⟨(hs.2 p.1 ne).trans e, n, ne, nf, d⟩
  · have hfn : X.fn x = true := by
      rcases hf with z | z
      · exact z
      · rw [z] at hk; cases hk
    obtain ⟨c, hc⟩ := I.ok.has x (.inl hk)
    obtain ⟨w', z⟩ := I.cell x c hc
    refine wpAny_storeName_cell I.ok.kind hk hc z (fun h' hc' hs => ?_)
    obtain ⟨oc, hoc, hocd⟩ := id z
    refine h { s with heap := h' } ⟨I.ok, I.os, I.bare, ⟨fun b o e n hb hx => ?_, fun b o e n hb hx => ?_, I.base.free, fun b o e hx => ?_, I.base.tups, I.base.frzs, I.base.tbls⟩, ⟨m, hn.sameBut hs (Ne.symm (cne x c hc)), fun j y v' e1 e2 e3 => ?_⟩, fun y c' e => ?_, I.free, I.freeC, fun p hp => ?_, tracked ⟨oc, hoc, I.freeC x c hc⟩ hs, by simpa using I.len⟩ ⟨c, hs, .inr hc⟩
    · exact (hs.2 b (Nat.ne_of_lt (Nat.lt_of_lt_of_le (Heap.lt_size e) (I.ok.cab x c hfn hc)))).trans (I.base.keep b o e n hb hx)
    · obtain ⟨sl, e1⟩ := I.base.slot b o e n hb hx
      exact ⟨sl, (hs.2 b (Nat.ne_of_lt (Nat.lt_of_lt_of_le (Heap.lt_size e) (I.ok.cab x c hfn hc)))).trans e1⟩
    · obtain ⟨o', e1⟩ := I.base.there b o e hx
      exact ⟨o', (hs.2 b (Nat.ne_of_lt (Nat.lt_of_lt_of_le (Heap.lt_size e) (I.ok.cab x c hfn hc)))).trans e1⟩
    · by_cases hj : j = i
      · subst hj
        rw [hi] at e1; cases e1
        rw [List.getElem?_set_self hiσ] at e2
        cases e2
        exact ⟨u, r, .inr ⟨.inl hk, c, hc, hc'⟩⟩
      · rw [List.getElem?_set_ne (Ne.symm hj)] at e2
        obtain ⟨u', r', q⟩ := hl j y v' e1 e2 e3
        refine ⟨u', r', ?_⟩
        rcases q with q | ⟨k, c', e, z'⟩
        · exact .inl q
        · refine .inr ⟨k, c', e, z'.sameBut hs ?_⟩
          rintro rfl
          exact hj (nodup_ix hN e1 (I.ok.inj _ _ _ e hc ▸ hi))
    · by_cases hcc : c' = c
      · subst hcc; exact ⟨_, hc'⟩
      · obtain ⟨w2, z2⟩ := I.cell y c' e
        exact ⟨w2, z2.sameBut hs hcc⟩
    · obtain ⟨e, n, ne, nf, d⟩ := I.pin p hp
      refine ⟨(hs.2 p.1 ?_).trans e, n, ne, nf, d⟩
      intro q
      rw [q, hoc] at e
      have q' : oc = p.2 := Option.some.inj e
      exact d w' (by rw [← q']; exact hocd)
theorem store_ok {M : Model} {A : Around} {E : Value → Shared → Prop} {i : Nat} {x : Str} {v : V} {u : Value} {Q : Unit → Shared → Prop} (I : Inv X pins σ H s) (hN : X.N.Nodup) (hi : X.N[i]? = some x) (hx : Loc X.env.scope x) (r : RelV v u)
    (h : ∀ s', Inv X pins (σ.set i (some v)) H s' → Q () s') (hf : X.fn x = true ∨ X.env.scope.names.lookup x = some .local := by first | exact .inl rfl | exact .inr rfl | assumption) : wpAny M A (storeName X.env x u) Q E s :=
  store_ok2 I hN hi hx r (fun s' I' _ => h s' I') hf
/-- behind a call or a block, the state as it is -/
theorem Inv.call' {s' : Shared} {ch : List Addr} (I : Inv X pins σ H s) (ho : s'.os = s.os) (u : Un (frs X.stack) ch H H' s.heap s'.heap) (hok : HOk X.prog X.w H' s'.heap) (hg : AllBare s'.gens)
    (hch : ∀ b ∈ ch, (b ∈ X.ex ∨ X.s₀.heap.objs.size ≤ b) ∧ b ≠ X.env.locals ∧ (∀ x c, X.env.cells.lookup x = some c → c ≠ b) ∧ ∀ p ∈ X.pn ++ pins, p.1 ≠ b) : Inv X pins σ H' s' := by
  obtain ⟨h', g', d', t', o'⟩ := s'
  have e : o' = s.os := ho
  subst e
  exact I.call (g' := g') (t' := t') (d' := d') u hok hg hch
end

/-! ### the judgements -/
/-- an exception: its class, its own dict's address (where it has one), the abstract heap behind it -/
abbrev XK := Value → Option Addr → Hp → Prop
abbrev St := List (Option V)
abbrev VK := V → Hp → Prop
/-- an expression's reading; a test's; an argument list's -/
abbrev TE := St → Hp → VK → Prop
abbrev TT := St → Hp → (Bool → Hp → Prop) → Prop
abbrev TA := St → Hp → (List V → Hp → Prop) → Prop
/-- what is wanted behind a statement -/
structure Ends where
  nx : St → Hp → Prop
  rt : VK
  bk : St → Hp → Prop := fun _ _ => False
  ct : St → Hp → Prop := fun _ _ => False
abbrev TS := Ends → St → Hp → Prop

def EP (X : Cx) (pins : List (Addr × Obj)) (σ : St) (Q : VK) (u : Value) (s' : Shared) : Prop := ∃ v H', Inv X pins σ H' s' ∧ RelV v u ∧ Q v H'
def TP (X : Cx) (pins : List (Addr × Obj)) (σ : St) (Q : Bool → Hp → Prop) (b : Bool) (s' : Shared) : Prop := ∃ H', Inv X pins σ H' s' ∧ Q b H'
def AP (X : Cx) (pins : List (Addr × Obj)) (σ : St) (Q : List V → Hp → Prop) (us : List Value) (s' : Shared) : Prop := ∃ vs H', Inv X pins σ H' s' ∧ Vals vs us ∧ Q vs H'
def SP (X : Cx) (pins : List (Addr × Obj)) (D : Ends) (f : Flow) (s' : Shared) : Prop :=
  match f with
  | .next => ∃ σ' H', Inv X pins σ' H' s' ∧ D.nx σ' H'
  | .brk => ∃ σ' H', Inv X pins σ' H' s' ∧ D.bk σ' H'
  | .cont => ∃ σ' H', Inv X pins σ' H' s' ∧ D.ct σ' H'
  | .ret u => ∃ v σ' H', Inv X pins σ' H' s' ∧ RelV v u ∧ D.rt v H'

def PE (X : Cx) (e : Expr) (t : TE) : Prop :=
  ∀ (pins : List (Addr × Obj)) (s : Shared) (σ : St) (H : Hp) (Q : VK), Inv X pins σ H s → t σ H Q → wpAny (model X.prog X.w) X.A (eval e X.env) (EP X pins σ Q) X.xe s
def PT (X : Cx) (e : Expr) (t : TT) : Prop :=
  ∀ (pins : List (Addr × Obj)) (s : Shared) (σ : St) (H : Hp) (Q : Bool → Hp → Prop), Inv X pins σ H s → t σ H Q → wpAny (model X.prog X.w) X.A (isTrue e X.env (eval e X.env)) (TP X pins σ Q) X.xe s
/-- a test whatever its 'whole' is (and, or) -/
def PW (X : Cx) (e : Expr) (t : TT) : Prop :=
  ∀ (whole : Sem Value) (pins : List (Addr × Obj)) (s : Shared) (σ : St) (H : Hp) (Q : Bool → Hp → Prop), Inv X pins σ H s → t σ H Q → wpAny (model X.prog X.w) X.A (isTrue e X.env whole) (TP X pins σ Q) X.xe s
theorem PW.pt {X : Cx} {e : Expr} {t : TT} (h : PW X e t) : PT X e t := h _
/-- an argument list (no star), from the left -/
def PA (X : Cx) (es : List Expr) (t : TA) : Prop :=
  ∀ (pos : Pos) (pins : List (Addr × Obj)) (s : Shared) (σ : St) (H : Hp) (Q : List V → Hp → Prop), Inv X pins σ H s → t σ H Q → wpAny (model X.prog X.w) X.A (spliced (backTo pos (starEach es X.env))) (AP X pins σ Q) X.xe s
def PS (X : Cx) (st : Stmt) (t : TS) : Prop :=
  ∀ (pins : List (Addr × Obj)) (s : Shared) (σ : St) (H : Hp) (D : Ends), Inv X pins σ H s → t D σ H → wpAny (model X.prog X.w) X.A (exec st X.env) (SP X pins D) X.xe s
def PSs (X : Cx) (st : List Stmt) (t : TS) : Prop :=
  ∀ (pins : List (Addr × Obj)) (s : Shared) (σ : St) (H : Hp) (D : Ends), Inv X pins σ H s → t D σ H → wpAny (model X.prog X.w) X.A (execs st X.env) (SP X pins D) X.xe s
/-- weaken the end -/
theorem thn {α : Type} {t : Sem α} {Q Q' : α → Shared → Prop} {M : Model} {A : Around} {E : Value → Shared → Prop} {s : Shared} (h : wpAny M A t Q E s) (hQ : ∀ a s, Q a s → Q' a s) : wpAny M A t Q' E s := wpAny_mono h hQ fun _ _ x => x
end L2

namespace L2
open PySem PySem.Spec PyProof.Rows
section
variable {X : Cx}

/-! ### names and constants -/
def tVar (i : Nat) : TE := fun σ H Q => ∃ v, σ[i]? = some (some v) ∧ Q v H
def tC (v : V) : TE := fun _ H Q => Q v H
theorem pe_var {i : Nat} {x : Str} {pos : Pos} (hN : X.N[i]? = some x) (hv : Vis X.env.scope x) (hd : (x == ("__debug__" : Str)) = false := by decide) (hcd : (x == ("__classdict__" : Str)) = false := by decide) : PE X (.Name x pos) (tVar i) := by
  intro pins s σ H Q I h
  obtain ⟨v, e, h⟩ := h
  obtain ⟨m, hn, hl⟩ := I.loc
  obtain ⟨u, r, l⟩ := hl i x v hN e hv
  have fin : EP X pins σ Q u s := ⟨v, H, I, r, h⟩
  rcases l with ⟨hk, hm⟩ | ⟨hk, c, hc, hcell⟩
  · exact wpAny_Name (wpAny_loadName_local I.ok.kind hk hn hm fin) hd
  · rcases hk with hk | hk
    · exact wpAny_Name (wpAny_loadName_cell I.ok.kind hk hc hcell fin) hd
    · exact wpAny_Name (wpAny_loadName_free I.ok.kind hk hc hcell fin hcd) hd
theorem pe_int {i j pos} : PE X (.Constant (.int i) j pos) (tC (.int i)) := fun _ _ _ H _ I h => wpAny_Constant_int ⟨.int i, H, I.tok _, ⟨_, rfl⟩, h⟩
theorem pe_bl {b j pos} : PE X (.Constant (.bool b) j pos) (tC (.bl b)) := fun _ _ _ H _ I h => Constant_bool ⟨.bl b, H, I, rfl, h⟩
theorem pe_non {j pos} : PE X (.Constant .none j pos) (tC .non) := fun _ _ _ H _ I h => Constant_none ⟨.non, H, I, rfl, h⟩
theorem pe_str {x j pos} : PE X (.Constant (.str x) j pos) (tC (.str x)) := fun _ _ _ H _ I h => Calls.Constant_str ⟨.str x, H, I.tok _, ⟨_, rfl⟩, h⟩

/-- a global name of the def -/
def Gl (X : Cx) (x : Str) : Prop := X.env.kindOf x = some .globalImplicit
theorem ld_glob {E : Value → Shared → Prop} {pins : List (Addr × Obj)} {s : Shared} {σ : St} {H : Hp} {x : Str} {u : Value} {pos : Pos} {Q : Value → Shared → Prop} (I : Inv X pins σ H s) (hg : Gl X x) (hm : X.mg x = some u) (h : Q u s)
    (hd : (x == ("__debug__" : Str)) = false := by decide) : wpAny (model X.prog X.w) X.A (eval (.Name x pos) X.env) Q E s :=
  Calls.Name_function_global I.ok.kind hg (Calls.loadGlobal_global (by rw [I.ok.glob]; exact I.mod.glob.keeps I.bk) hm h) hd
theorem ld_blt {E : Value → Shared → Prop} {pins : List (Addr × Obj)} {s : Shared} {σ : St} {H : Hp} {x : Str} {u : Value} {pos : Pos} {Q : Value → Shared → Prop} (I : Inv X pins σ H s) (hg : Gl X x) (hm : X.mg x = none) (hv : bootBuiltins x = some u) (h : Q u s)
    (hn : x ≠ "__name__" := by decide) (hd : (x == ("__debug__" : Str)) = false := by decide) : wpAny (model X.prog X.w) X.A (eval (.Name x pos) X.env) Q E s := by
  obtain ⟨mb, h1, h2⟩ := I.mod.blt
  exact Calls.Name_function_global I.ok.kind hg (Calls.loadGlobal_builtin (by rw [I.ok.glob]; exact I.mod.glob.keeps I.bk) hm (by rw [I.ok.blt]; exact h1.keeps I.bk) ((h2 x hn).trans hv) h) hd
/-- a module's constant, a class, a function, as a value -/
theorem pe_glob {x : Str} {v : V} {u : Value} {pos : Pos} (hg : Gl X x) (hm : X.mg x = some u) (r : RelV v u) (hd : (x == ("__debug__" : Str)) = false := by decide) : PE X (.Name x pos) (tC v) :=
  fun _ _ _ H _ I h => ld_glob I hg hm ⟨v, H, I, r, h⟩ hd
theorem pe_bltn {x : Str} {v : V} {u : Value} {pos : Pos} (hg : Gl X x) (hm : X.mg x = none) (hv : bootBuiltins x = some u) (r : RelV v u) (hn : x ≠ "__name__" := by decide) (hd : (x == ("__debug__" : Str)) = false := by decide) : PE X (.Name x pos) (tC v) :=
  fun _ _ _ H _ I h => ld_blt I hg hm hv ⟨v, H, I, r, h⟩ hn hd

/-! ### arithmetic -/
variable {a b : Expr} {ta tb : TE} {pos : Pos}
/-! ### comparisons -/
def PC (X : Cx) (op : CmpOp) (a b : Expr) (t : TE) : Prop :=
  ∀ (pins : List (Addr × Obj)) (s : Shared) (σ : St) (H : Hp) (Q : VK), Inv X pins σ H s → t σ H Q →
    wpAny (model X.prog X.w) X.A (eval a X.env) (fun v s₁ => wpAny (model X.prog X.w) X.A (eval b X.env) (fun u s₂ => wpAny (model X.prog X.w) X.A (compareOp op v u) (EP X pins σ Q) X.xe s₂) X.xe s₁) X.xe s
theorem nobehind (b : Expr) {op : CmpOp} (h : op ≠ .In) (h2 : op ≠ .NotIn) : behindInMarks op b = false := by
  have e1 : (op == CmpOp.In) = false := by cases op <;> first | rfl | exact absurd rfl h
  have e2 : (op == CmpOp.NotIn) = false := by cases op <;> first | rfl | exact absurd rfl h2
  cases b <;> simp [behindInMarks, e1, e2]
/-- is None -/
def tIsN (ta : TE) : TE := fun σ H Q => ta σ H fun x H1 => Q (.bl (decide (x = .non))) H1
def tNotN (ta : TE) : TE := fun σ H Q => ta σ H fun x H1 => Q (.bl (!decide (x = .non))) H1
theorem RelV.none_iff {x : V} {v : Value} (r : RelV x v) : (v == Value.none) = decide (x = .non) := by
  cases x with
  | non => cases r; rfl
  | bl _ => cases r; rfl
  | int _ => obtain ⟨t, rfl⟩ := r; rfl
  | str _ => obtain ⟨t, rfl⟩ := r; rfl
  | byt _ => obtain ⟨t, rfl⟩ := r; rfl
  | flt _ => obtain ⟨t, rfl⟩ := r; rfl
  | ref _ => cases r; rfl
  | ty _ => cases r; rfl
theorem pc_isN {j pos'} (ha : PE X a ta) : PC X .Is a (.Constant .none j pos') (tIsN ta) := by
  intro pins s σ H Q I h
  refine thn (ha pins s σ H _ I h) fun v s1 ⟨x, H1, I1, r1, q1⟩ => ?_
  exact Constant_none (is_none_gen ⟨.bl _, H1, I1, by rw [r1.none_iff]; rfl, q1⟩)
/-- a comparison as a value, as a test -/
def tB (t : TE) : TT := fun σ H Q => t σ H fun x H1 => ∃ c, x = .bl c ∧ Q c H1
theorem pe_cmp {op : CmpOp} {t : TE} (h : PC X op a b t) (h1 : behindInMarks op b = false := by first | exact nobehind _ (by decide) (by decide) | rfl) : PE X (.Compare a [op] [b] pos) t := fun pins s σ H Q I hw => wpAny_Compare1 (h pins s σ H Q I hw) h1
theorem pt_cmp {op : CmpOp} {t : TE} (h : PC X op a b t) (h1 : behindInMarks op b = false := by first | exact nobehind _ (by decide) (by decide) | rfl) : PT X (.Compare a [op] [b] pos) (tB t) := by
  intro pins s σ H Q I hw
  refine wpAny_isTrue_Compare1 (thn (h pins s σ H _ I hw) fun v s1 h1 => thn h1 fun u s2 h2 => thn h2 fun c s3 ⟨x, H1, I1, r1, q1⟩ => ?_) h1
  obtain ⟨d, rfl, q⟩ := q1
  cases r1
  exact wpAny_truthy_bool ⟨H1, I1, q⟩
/-- an expression whose value is a bool, as a test -/
theorem pt_val {e : Expr} {t : TE} (h : PE X e t) (he : ∀ whole, isTrue e X.env whole = (do let v ← whole; standAt e.pos; holding [v] (truthy v)) := by intro _; rfl) : PT X e (tB t) := by
  intro pins s σ H Q I hw
  refine isTrue_plain (thn (h pins s σ H _ I hw) fun v s1 ⟨x, H1, I1, r1, q1⟩ => ?_) (he _)
  obtain ⟨d, rfl, q⟩ := q1
  cases r1
  exact wpAny_truthy_bool ⟨H1, I1, q⟩

/-! ### and, or, not -/
variable {tA tB' : TT} {rest : List Expr}
def tAnd (t u : TT) : TT := fun σ H Q => t σ H fun c H1 => if c = true then u σ H1 Q else Q false H1
def tOr (t u : TT) : TT := fun σ H Q => t σ H fun c H1 => if c = true then Q true H1 else u σ H1 Q
def tNot (t : TT) : TT := fun σ H Q => t σ H fun c H1 => Q (!c) H1
theorem pw_and1 (ha : PT X a tA) : PW X (.BoolOp .And [a] pos) tA := by
  intro wh pins s σ H Q I h
  refine isTrue_and (thn (ha pins s σ H Q I h) fun c s1 e => ?_)
  cases c with
  | true => exact isTrue_and_nil e
  | false => exact e
theorem pw_or1 (ha : PT X a tA) : PW X (.BoolOp .Or [a] pos) tA := by
  intro wh pins s σ H Q I h
  refine isTrue_or (thn (ha pins s σ H Q I h) fun c s1 e => ?_)
  cases c with
  | false => exact isTrue_or_nil e
  | true => exact e
theorem pw_and (ha : PT X a tA) (hb : PW X (.BoolOp .And (b :: rest) pos) tB') : PW X (.BoolOp .And (a :: b :: rest) pos) (tAnd tA tB') := by
  intro wh pins s σ H Q I h
  refine isTrue_and (thn (ha pins s σ H _ I h) fun c s1 ⟨H1, I1, q1⟩ => ?_)
  cases c with
  | true => exact hb wh pins s1 σ H1 Q I1 q1
  | false => exact ⟨H1, I1, q1⟩
theorem pw_or (ha : PT X a tA) (hb : PW X (.BoolOp .Or (b :: rest) pos) tB') : PW X (.BoolOp .Or (a :: b :: rest) pos) (tOr tA tB') := by
  intro wh pins s σ H Q I h
  refine isTrue_or (thn (ha pins s σ H _ I h) fun c s1 ⟨H1, I1, q1⟩ => ?_)
  cases c with
  | true => exact ⟨H1, I1, q1⟩
  | false => exact hb wh pins s1 σ H1 Q I1 q1
theorem pt_not (ha : PT X a tA) : PT X (.UnaryOp .Not a pos) (tNot tA) := by
  intro pins s σ H Q I h
  exact isTrue_not (ha pins s σ H (fun c H1 => Q (!c) H1) I h)
/-- .. as values (bools) -/
def tAndV (ta tb : TE) : TE := fun σ H Q => ta σ H fun x H1 => ∃ c, x = .bl c ∧ if c = true then tb σ H1 Q else Q (.bl false) H1
def tOrV (ta tb : TE) : TE := fun σ H Q => ta σ H fun x H1 => ∃ c, x = .bl c ∧ if c = true then Q (.bl true) H1 else tb σ H1 Q
def tNotV (ta : TE) : TE := fun σ H Q => ta σ H fun x H1 => ∃ c, x = .bl c ∧ Q (.bl (!c)) H1
theorem pe_one {op} {t : TE} (h : PE X a t) : PE X (.BoolOp op [a] pos) t := fun pins s σ H Q I hw => BoolOp_one (h pins s σ H Q I hw)
theorem pe_and (ha : PE X a ta) (hb : PE X (.BoolOp .And (b :: rest) pos) tb) : PE X (.BoolOp .And (a :: b :: rest) pos) (tAndV ta tb) := by
  intro pins s σ H Q I h
  refine BoolOp_and (thn (ha pins s σ H _ I h) fun v s1 ⟨x, H1, I1, r1, q1⟩ => ?_)
  obtain ⟨c, rfl, q1⟩ := q1
  cases r1
  refine wpAny_truthy_bool ?_
  cases c with
  | true => exact hb pins s1 σ H1 Q I1 q1
  | false => exact ⟨.bl false, H1, I1, rfl, q1⟩
theorem pe_not (ha : PE X a ta) : PE X (.UnaryOp .Not a pos) (tNotV ta) := by
  intro pins s σ H Q I h
  refine UnaryOp_ (thn (ha pins s σ H _ I h) fun v s1 ⟨x, H1, I1, r1, q1⟩ => ?_)
  obtain ⟨c, rfl, q1⟩ := q1
  cases r1
  exact not_of (wpAny_truthy_bool ⟨.bl (!c), H1, I1, rfl, q1⟩)
/-- a if t else b -/
def tIf (t : TT) (ta tb : TE) : TE := fun σ H Q => t σ H fun c H1 => if c = true then ta σ H1 Q else tb σ H1 Q
end
end L2

namespace L2
open PySem PySem.Spec PyProof.Rows

/-! ### a list, a tuple that is read: tracked, frozen, or an object of the module -/
def SqL (K : PySem.W.Frag) (H : Hp) (a : Addr) (xs : List V) : Prop :=
  Rd H a (.lst xs) ∨
    ∃ (o : Obj) (its : Array Value) (n : Nat), K.lookup a = some o ∧ o.cls = .type "list" ∧ o.dict = none ∧ o.data = .seq its n ∧ its.size ≤ sizeLine ∧ Vals xs its.toList
def SqT (K : PySem.W.Frag) (H : Hp) (a : Addr) (xs : List V) : Prop :=
  Rd H a (.tup xs) ∨
    ∃ (o : Obj) (its : Array Value) (n : Nat), K.lookup a = some o ∧ o.cls = .type "tuple" ∧ o.data = .seq its n ∧ its.size ≤ sizeLine ∧ Vals xs its.toList
def absV : Value → Option V
  | .none => some .non
  | .bool b => some (.bl b)
  | .int i _ => some (.int i)
  | .str x _ => some (.str x)
  | .bytes b _ => some (.byt b)
  | .float b _ => some (.flt b)
  | .ref a => some (.ref a)
  | .type n => some (.ty n)
  | _ => none
theorem RelV.abs {x : V} {u : Value} (r : RelV x u) : absV u = some x := by
  cases x with
  | non => cases r; rfl
  | bl _ => cases r; rfl
  | int _ => obtain ⟨t, rfl⟩ := r; rfl
  | str _ => obtain ⟨t, rfl⟩ := r; rfl
  | byt _ => obtain ⟨t, rfl⟩ := r; rfl
  | flt _ => obtain ⟨t, rfl⟩ := r; rfl
  | ref _ => cases r; rfl
  | ty _ => cases r; rfl
theorem RelV.inj {x y : V} {u : Value} (r : RelV x u) (q : RelV y u) : x = y := Option.some.inj (r.abs.symm.trans q.abs)
theorem Vals.inj : ∀ {xs ys : List V} {us : List Value}, Vals xs us → Vals ys us → xs = ys
  | _, _, _, .nil, .nil => rfl
  | _, _, _, .cons r t, .cons r' t' => by rw [r.inj r', Vals.inj t t']
section
variable {X : Cx} {pins : List (Addr × Obj)} {σ : St} {H : Hp} {s : Shared} {a : Addr} {xs ys : List V}
theorem SqL.of {K : PySem.W.Frag} (h : H a = some (.lst xs)) : SqL K H a xs := .inl (.inl h)
theorem SqT.of {K : PySem.W.Frag} (h : H a = some (.tup xs)) : SqT K H a xs := .inl (.inl h)
theorem Inv.list (I : Inv X pins σ H s) (h : SqL X.K H a xs) : ∃ its : List Value, Vals xs its ∧ PlainL s.heap a its.toArray ∧ xs.length ≤ sizeLine := by
  rcases h with h | ⟨o, its, n, hk, hc, hd, hs, hz, r⟩
  · obtain ⟨z, its, n, r, e⟩ := h.ok I.hok
    exact ⟨its, r, ⟨_, n, e, rfl, rfl, rfl⟩, z⟩
  · refine ⟨its.toList, r, ⟨o, n, I.kIn a o hk, hc, hd, by simpa using hs⟩, ?_⟩
    have e := r.length
    simp only [Array.length_toList] at e
    omega
theorem Inv.tuple (I : Inv X pins σ H s) (h : SqT X.K H a xs) : ∃ its : List Value, Vals xs its ∧ IsTup s.heap a its.toArray ∧ xs.length ≤ sizeLine := by
  rcases h with h | ⟨o, its, n, hk, hc, hs, hz, r⟩
  · obtain ⟨z, its, r, p⟩ := h.ok I.hok
    exact ⟨its, r, p, z⟩
  · refine ⟨its.toList, r, ⟨o, I.kIn a o hk, hc, n, by simpa using hs⟩, ?_⟩
    have e := r.length
    simp only [Array.length_toList] at e
    omega
theorem Inv.list_inj (I : Inv X pins σ H s) (h : SqL X.K H a xs) (h' : SqL X.K H a ys) : xs = ys := by
  obtain ⟨its, r, ⟨o, n, e, _, _, d⟩, _⟩ := I.list h
  obtain ⟨its', r', ⟨o', n', e', _, _, d'⟩, _⟩ := I.list h'
  rw [e] at e'; cases e'
  rw [d] at d'
  injection d' with d1 _
  have : its = its' := by simpa using congrArg Array.toList d1
  subst this
  exact r.inj r'
theorem Inv.tuple_inj (I : Inv X pins σ H s) (h : SqT X.K H a xs) (h' : SqT X.K H a ys) : xs = ys := by
  obtain ⟨its, r, ⟨o, e, _, n, d⟩, _⟩ := I.tuple h
  obtain ⟨its', r', ⟨o', e', _, n', d'⟩, _⟩ := I.tuple h'
  rw [e] at e'; cases e'
  rw [d] at d'
  injection d' with d1 _
  have : its = its' := by simpa using congrArg Array.toList d1
  subst this
  exact r.inj r'
end

/-! ### another wish about exceptions -/
abbrev Cx.wish (X : Cx) (E : Value → Shared → Prop) : Cx := { X with xe := E }
/-- no exception leaves -/
abbrev Cx.nox (X : Cx) : Cx := X.wish fun _ _ => False
theorem Cx.Ok.wish {X : Cx} (ok : X.Ok) (E : Value → Shared → Prop) : (X.wish E).Ok :=
  ⟨ok.mod, ok.kind, ok.glob, ok.blt, ok.above, ok.inj, ok.has, ok.cab, ok.hd, ok.frames, ok.stk, ok.exf, ok.bs, ok.bsz, ok.noex, ok.exfs, ok.funs, ok.frf⟩
theorem Cx.Ok.unwish {X : Cx} {E : Value → Shared → Prop} (ok : (X.wish E).Ok) : X.Ok :=
  ⟨ok.mod, ok.kind, ok.glob, ok.blt, ok.above, ok.inj, ok.has, ok.cab, ok.hd, ok.frames, ok.stk, ok.exf, ok.bs, ok.bsz, ok.noex, ok.exfs, ok.funs, ok.frf⟩
section
variable {X : Cx} {pins : List (Addr × Obj)} {σ : St} {H : Hp} {s : Shared} {E : Value → Shared → Prop}
theorem Inv.wish (I : Inv X pins σ H s) (E : Value → Shared → Prop) : Inv (X.wish E) pins σ H s := ⟨I.ok.wish E, I.os, I.bare, I.base, I.loc, I.cell, I.free, I.freeC, I.pin, I.hok, I.len⟩
theorem Inv.unwish (I : Inv (X.wish E) pins σ H s) : Inv X pins σ H s := ⟨I.ok.unwish, I.os, I.bare, I.base, I.loc, I.cell, I.free, I.freeC, I.pin, I.hok, I.len⟩
theorem SP.unwish {D : Ends} {f : Flow} {s' : Shared} (h : SP (X.wish E) pins D f s') : SP X pins D f s' := by
  cases f with
  | next => obtain ⟨σ', H', I, q⟩ := h; exact ⟨σ', H', I.unwish, q⟩
  | brk => obtain ⟨σ', H', I, q⟩ := h; exact ⟨σ', H', I.unwish, q⟩
  | cont => obtain ⟨σ', H', I, q⟩ := h; exact ⟨σ', H', I.unwish, q⟩
  | ret u => obtain ⟨v, σ', H', I, r, q⟩ := h; exact ⟨v, σ', H', I.unwish, r, q⟩
theorem PE.nox {e : Expr} {t : TE} (h : PE X.nox e t) : PE X e t := fun pins s σ H Q I hw =>
  wpAny_mono (h pins s σ H Q (I.wish _) hw) (fun _ _ ⟨v, H', I', r, q⟩ => ⟨v, H', I'.unwish, r, q⟩) fun _ _ z => False.elim z
theorem PT.nox {e : Expr} {t : TT} (h : PT X.nox e t) : PT X e t := fun pins s σ H Q I hw =>
  wpAny_mono (h pins s σ H Q (I.wish _) hw) (fun _ _ ⟨H', I', q⟩ => ⟨H', I'.unwish, q⟩) fun _ _ z => False.elim z
theorem PSs.nox {st : List Stmt} {t : TS} (h : PSs X.nox st t) : PSs X st t := fun pins s σ H D I hw =>
  wpAny_mono (h pins s σ H D (I.wish _) hw) (fun _ _ q => q.unwish) fun _ _ z => False.elim z
end

/-! ### blocks and small statements -/
section
variable {X : Cx} {st : Stmt} {rest : List Stmt} {t u : TS} {e : Expr} {te : TE} {pos : Pos}
def tNext : TS := fun D σ H => D.nx σ H
def tSeq (t u : TS) : TS := fun D σ H => t { D with nx := u D } σ H
theorem pss_nil : PSs X [] tNext := fun _ _ σ H _ I h => wpAny_execs_nil ⟨σ, H, I, h⟩
theorem pss_cons (h1 : PS X st t) (h2 : PSs X rest u) : PSs X (st :: rest) (tSeq t u) := by
  intro pins s σ H D I h
  refine wpAny_execs_cons (thn (h1 pins s σ H { D with nx := u D } I h) fun f s1 q => ?_)
  cases f with
  | next =>
    obtain ⟨σ', H', I', q⟩ := q
    exact h2 pins s1 σ' H' D I' q
  | ret v => exact q
  | brk => exact q
  | cont => exact q
theorem pss_one (h1 : PS X st t) : PSs X [st] t := by
  intro pins s σ H D I h
  refine wpAny_execs_cons (thn (h1 pins s σ H D I h) fun f s1 q => ?_)
  cases f with
  | next => exact wpAny_execs_nil q
  | ret v => exact q
  | brk => exact q
  | cont => exact q
/-- in a def's body nothing is shown -/
theorem Inv.quiet {pins : List (Addr × Obj)} {σ : St} {H : Hp} {s : Shared} (I : Inv X pins σ H s) : interactive X.env = false := by simp [interactive, I.ok.kind]
/-- an expression whose value is dropped -/
def tDrop (te : TE) : TS := fun D σ H => te σ H fun _ H1 => D.nx σ H1
theorem ps_expr (he : PE X e te) (hs : swapsWith e none pos.line X.env = pure false := by rfl) : PS X (.Expr e pos) (tDrop te) := by
  intro pins s σ H D I h
  exact wpAny_Expr_any (thn (he pins s σ H _ I h) fun v s1 ⟨x, H1, I1, r1, q1⟩ => ⟨σ, H1, I1, q1⟩) I.quiet hs
def tRet (te : TE) : TS := fun D σ H => te σ H D.rt
theorem ps_ret (he : PE X e te) : PS X (.Return (some e) pos) (tRet te) := by
  intro pins s σ H D I h
  exact wpAny_Return_some (thn (he pins s σ H _ I h) fun v s1 ⟨x, H1, I1, r1, q1⟩ => ⟨x, σ, H1, I1, r1, q1⟩)
def tIfS (c : TT) (t u : TS) : TS := fun D σ H => c σ H fun b H1 => if b = true then t D σ H1 else u D σ H1
theorem ps_if {c : Expr} {a b : List Stmt} {tc : TT} (hc : PT X c tc) (ha : PSs X a t) (hb : PSs X b u) : PS X (.If c a b pos) (tIfS tc t u) := by
  intro pins s σ H D I h
  refine wpAny_If (thn (hc pins s σ H _ I h) fun d s1 ⟨H1, I1, q1⟩ => ?_)
  cases d with
  | true => exact ha pins s1 σ H1 D I1 q1
  | false => exact hb pins s1 σ H1 D I1 q1
end

/-! ### targets -/
abbrev TG := V → St → Hp → (St → Hp → Prop) → Prop
abbrev TGs := List V → St → Hp → (St → Hp → Prop) → Prop
def PG (X : Cx) (target : Expr) (t : TG) : Prop :=
  ∀ (pins : List (Addr × Obj)) (s : Shared) (σ : St) (H : Hp) (v : V) (u : Value) (Q : St → Hp → Prop), Inv X pins σ H s → RelV v u → t v σ H Q →
    wpAny (model X.prog X.w) X.A (assign target X.env u) (fun _ s' => ∃ σ' H', Inv X pins σ' H' s' ∧ Q σ' H') X.xe s
/-- several targets, one after another -/
def PGs (X : Cx) (ts : List Expr) (t : TGs) : Prop :=
  ∀ (pins : List (Addr × Obj)) (s : Shared) (σ : St) (H : Hp) (vs : List V) (us : List Value) (Q : St → Hp → Prop), Inv X pins σ H s → Vals vs us → t vs σ H Q →
    wpAny (model X.prog X.w) X.A (assignInOrder ((assignEach ts X.env).map (·.2)) us) (fun _ s' => ∃ σ' H', Inv X pins σ' H' s' ∧ Q σ' H') X.xe s
/-- o[i] = v, by values -/
abbrev TSet := V → V → V → Hp → (Hp → Prop) → Prop
def PSet (X : Cx) (t : TSet) : Prop :=
  ∀ (pins : List (Addr × Obj)) (s : Shared) (σ : St) (H : Hp) (o i v : V) (ov iv u : Value) (Q : Hp → Prop), Inv X pins σ H s → RelV o ov → RelV i iv → RelV v u → t o i v H Q →
    wpAny (model X.prog X.w) X.A (setItem ov iv u) (fun _ s' => ∃ H', Inv X pins σ H' s' ∧ Q H') X.xe s
/-- a op= b, by values -/
abbrev TIp := V → V → Hp → VK → Prop
section
variable {X : Cx} {pos : Pos}
def gName (i : Nat) : TG := fun v σ H Q => Q (σ.set i (some v)) H
theorem pg_name {i : Nat} {x : Str} (hN : X.N.Nodup) (hi : X.N[i]? = some x) (hx : Loc X.env.scope x) (hf : X.fn x = true ∨ X.env.scope.names.lookup x = some .local := by first | exact .inl rfl | exact .inr rfl | assumption) : PG X (.Name x pos) (gName i) := by
  intro pins s σ H v u Q I r h
  exact wpAny_assign_Name (store_ok I hN hi hx r (fun s' I' => ⟨_, H, I', h⟩) hf)
def gNil : TGs := fun vs σ H Q => vs = [] ∧ Q σ H
def gCons (t : TG) (u : TGs) : TGs := fun vs σ H Q => ∃ v r, vs = v :: r ∧ t v σ H fun σ' H' => u r σ' H' Q
theorem pgs_nil : PGs X [] gNil := by
  intro pins s σ H vs us Q I r h
  obtain ⟨e, h⟩ := h
  subst e
  cases r
  exact assignInOrder_nil ⟨σ, H, I, h⟩
theorem pgs_cons {e : Expr} {es : List Expr} {t : TG} {u : TGs} (h1 : PG X e t) (h2 : PGs X es u)
    (hs : (assignEach (e :: es) X.env).map (·.2) = assign e X.env :: (assignEach es X.env).map (·.2) := by rfl) : PGs X (e :: es) (gCons t u) := by
  intro pins s σ H vs us Q I r h
  obtain ⟨v, vr, e1, h⟩ := h
  subst e1
  cases r with
  | cons r rr =>
    rw [hs]
    refine assignInOrder_cons (thn (h1 pins s σ H _ _ _ I r h) fun _ s1 ⟨σ1, H1, I1, q1⟩ => ?_)
    exact h2 pins s1 σ1 H1 _ _ Q I1 rr q1
/-- (a, b, ..) = a tuple of that length -/
def gTup (K : PySem.W.Frag) (n : Nat) (t : TGs) : TG := fun v σ H Q => ∃ a xs, v = .ref a ∧ SqT K H a xs ∧ xs.length = n ∧ t xs σ H Q
theorem pg_tup {es : List Expr} {k : Nat} {t : TGs} {n : Nat} (hc : X.calm = true) (h : PGs X es t)
    (hn : (assignEach es X.env).length = n := by rfl) (hst : (assignEach es X.env).findIdx? (·.1) = none := by rfl) : PG X (.Tuple es k pos) (gTup X.K n t) := by
  intro pins s σ H v u Q I r hw
  obtain ⟨a, xs, e1, hq, hl, hw⟩ := hw
  subst e1
  cases r
  obtain ⟨its, rv, ht, hz⟩ := I.tuple hq
  refine assign_Tuple_tuple (I.ok.hd hc) ht (by simp [hn, ← hl, rv.length]) hst fun h' hx => ?_
  have I1 : Inv X pins σ H { s with heap := h' } := I.kept (t' := s.toks) fun b o e => hx b o (Nat.ne_of_lt (Heap.lt_size e)) e
  exact h pins _ σ H xs _ Q I1 (by simpa using rv) hw
/-- o[i] = .. -/
def gSub (to ti : TE) (t : TSet) : TG := fun v σ H Q => to σ H fun o H1 => ti σ H1 fun i H2 => t o i v H2 fun H3 => Q σ H3
theorem pg_sub {o i : Expr} {to ti : TE} {t : TSet} (ho : PE X o to) (hi : PE X i ti) (hs : PSet X t)
    (ha : ∀ v, assign (.Subscript o i pos) X.env v = (do
      let ov ← holding [v] (eval o X.env)
      let iv ← holding [v, ov] (eval i X.env)
      standAt pos
      holding [v, ov, iv] (setItem ov iv v)
      release [v, ov, iv] []) := by intro _; rfl) : PG X (.Subscript o i pos) (gSub to ti t) := by
  intro pins s σ H v u Q I r h
  rw [ha]
  refine wpAny_bind (wpAny_holding (thn (ho pins s σ H _ I h) fun ov s1 ⟨x, H1, I1, r1, q1⟩ => ?_))
  refine wpAny_bind (wpAny_holding (thn (hi pins s1 σ H1 _ I1 q1) fun iv s2 ⟨y, H2, I2, r2, q2⟩ => ?_))
  refine wpAny_bind (wpAny_standAt (wpAny_bind (wpAny_holding (thn (hs pins s2 σ H2 x y v ov iv u _ I2 r1 r2 r q2) fun _ s3 ⟨H3, I3, q3⟩ => ?_))))
  exact wpAny_release ⟨σ, H3, I3, q3⟩
/-- target = value -/
def tAsg (te : TE) (g : TG) : TS := fun D σ H => te σ H fun x H1 => g x σ H1 D.nx
theorem ps_asg {tg e : Expr} {te : TE} {g : TG} (he : PE X e te) (hg : PG X tg g) (hs : swapsWithSole [tg] e pos.line X.env = pure false := by rfl) (hw : swappedStores [tg] e X.env = pure none := by rfl)
    (h1 : (assignEach [tg] X.env).map (·.2) = [assign tg X.env] := by rfl) : PS X (.Assign [tg] e pos) (tAsg te g) := by
  intro pins s σ H D I h
  refine wpAny_Assign_stores (thn (he pins s σ H _ I h) fun v s1 ⟨x, H1, I1, r1, q1⟩ => ?_) hs hw
  rw [h1]
  exact thn (hg pins s1 σ H1 x v _ I1 r1 q1) fun _ s2 q => q
/-- name = value -/
theorem ps_set {i : Nat} {x : Str} {e : Expr} {te : TE} {pos' : Pos} (hN : X.N.Nodup) (hi : X.N[i]? = some x) (hx : Loc X.env.scope x) (he : PE X e te) (hs : swapsWith e (some (.Name x pos')) pos.line X.env = pure false := by rfl) (hf : X.fn x = true ∨ X.env.scope.names.lookup x = some .local := by first | exact .inl rfl | exact .inr rfl | assumption) :
    PS X (.Assign [.Name x pos'] e pos) (tAsg te (gName i)) := by
  intro pins s σ H D I h
  refine wpAny_Assign_Name (thn (he pins s σ H _ I h) fun v s1 ⟨y, H1, I1, r1, q1⟩ => ?_) hs
  exact store_ok I1 hN hi hx r1 (fun s2 I2 => ⟨_, H1, I2, q1⟩) hf
/-- a, b = x, y with plain local names: stored from the right; the pair itself is not tracked (the opening rows as in PyProof/Rows/TupAssign.lean:23) -/
def tPar (i j : Nat) (ta : TA) : TS := fun D σ H => ta σ H fun vs H1 => ∃ v w, vs = [v, w] ∧ D.nx ((σ.set i (some v)).set j (some w)) H1
theorem ps_par {i j : Nat} {x y : Str} {a b : Expr} {ta : TA} {px py pt : Pos} {kt k2 pt2} (hc : X.calm = true) (hN : X.N.Nodup) (hi : X.N[i]? = some x) (hj : X.N[j]? = some y) (hij : i ≠ j)
    (hx : X.env.scope.names.lookup x = some .local) (hy : X.env.scope.names.lookup y = some .local) (ha : PA X [a, b] ta)
    (hw : swappedStores [.Tuple [.Name x px, .Name y py] kt pt] (.Tuple [a, b] k2 pt2) X.env = pure (some [x, y]))
    (hs : swapsWithSole [.Tuple [.Name x px, .Name y py] kt pt] (.Tuple [a, b] k2 pt2) pos.line X.env = pure false := by rfl) :
    PS X (.Assign [.Tuple [.Name x px, .Name y py] kt pt] (.Tuple [a, b] k2 pt2) pos) (tPar i j ta) := by
  intro pins s σ H D I h
  rw [exec_Assign_arm]
  refine wpAny_bind (wpAny_standAt ?_)
  rw [hs]
  refine wpAny_bind (wpAny_pure ?_)
  rw [if_neg (by decide)]
  refine wpAny_bind (Tuple_ (thn (ha _ pins s σ H _ I h) fun us s1 ⟨vs, H1, I1, r1, q1⟩ => ?_))
  obtain ⟨v, w, e1, q1⟩ := q1
  subst e1
  obtain ⟨u1, u2, rfl, rv, rw'⟩ : ∃ u1 u2, us = [u1, u2] ∧ RelV v u1 ∧ RelV w u2 := by
    cases r1 with
    | cons p q =>
      cases q with
      | cons p' q' =>
        cases q'
        exact ⟨_, _, rfl, p, p'⟩
  refine wpAny_newObj_type ?_ (by show 2 ≤ sizeLine; decide)
  have I2 : Inv X pins σ H1 { s1 with heap := s1.heap.push { cls := .type "tuple", data := .seq [u1, u2].toArray } } := I1.kept (t' := s1.toks) fun b o e => Heap.get?_push_of_some _ e
  rw [hw]
  refine wpAny_bind (wpAny_pure ?_)
  show wpAny (model X.prog X.w) X.A (do rule "assign.swapped-stores"; let items ← unpackItems (.ref s1.heap.objs.size) 2 none; assignInOrder [fun v => bindName X.env y v, fun v => bindName X.env x v] items.reverse; pure Flow.next) _ _ _
  refine wpAny_bind (wpAny_rule (wpAny_bind (unpackItems_tuple (items := #[u1, u2]) (I.ok.hd hc) (IsTup.new s1.heap _) fun h' hx' => ?_)))
  have I3 := I2.kept (h' := h') (t' := s1.toks) fun b o e => hx' b o (Nat.ne_of_lt (Heap.lt_size e)) e
  show wpAny _ _ (assignInOrder [fun v => bindName X.env y v, fun v => bindName X.env x v] [u2, u1] >>= fun _ => pure Flow.next) _ _ _
  refine wpAny_bind (assignInOrder_cons (wpAny_bindName (store_ok I3 hN hj (.inl hy) rw' (fun s2 I4 => ?_) (.inr hy))))
  refine assignInOrder_cons (wpAny_bindName (store_ok I4 hN hi (.inl hx) rv (fun s3 I5 => assignInOrder_nil (wpAny_pure ?_)) (.inr hx)))
  rw [List.set_comm _ _ (Ne.symm hij)] at I5
  exact ⟨_, H1, I5, q1⟩
/-- name op= e -/
def tAug (i : Nat) (te : TE) (ti : TIp) : TS := fun D σ H => ∃ x, σ[i]? = some (some x) ∧ te σ H fun y H1 => ti x y H1 fun z H2 => D.nx (σ.set i (some z)) H2
/-- ints -/
def ipI (f : Int → Int → Int) : TIp := fun x y H Q => ∃ i j, x = .int i ∧ y = .int j ∧ Q (.int (f i j)) H
end

/-! ### while -/
section
variable {X : Cx} {pos : Pos}
/-- the invariant W with its measure -/
def tWhile (c : TT) (tb : TS) : TS := fun D σ H => ∃ W : Nat → St → Hp → Prop, (∃ m, W m σ H) ∧ ∀ m σ H, W m σ H →
  c σ H fun b H1 => if b = true then ∃ N : St → Hp → Prop, (∀ σ' H', N σ' H' → ∃ m', m' < m ∧ W m' σ' H') ∧ tb { D with nx := N, ct := N, bk := D.nx } σ H1 else D.nx σ H1
theorem ps_while {c : Expr} {body : List Stmt} {tc : TT} {tb : TS} (hp : PassesOwn (model X.prog X.w) X.A X.env X.xe) (hc : PT X c tc) (hb : PSs X body tb) : PS X (.While c body [] pos) (tWhile tc tb) := by
  intro pins s σ H D I h
  obtain ⟨W, ⟨m0, w0⟩, turn⟩ := h
  refine wpAny_While (codeAny_whileLoop (fun n s' => ∃ σ' H', Inv X pins σ' H' s' ∧ W n σ' H') ?_ m0 ⟨σ, H, I, w0⟩)
  rintro n s1 ⟨σ1, H1, I1, w1⟩
  refine wpAny_passesOwn hp (thn (hc pins s1 σ1 H1 _ I1 (turn n σ1 H1 w1)) fun b s2 ⟨H2, I2, q2⟩ => ?_)
  cases b with
  | true =>
    obtain ⟨N, hN, q2⟩ := q2
    rw [if_pos rfl]
    refine wpAny_passesOwn hp (thn (hb pins s2 σ1 H2 _ I2 q2) fun f s3 q3 => ?_)
    cases f with
    | next =>
      obtain ⟨σ3, H3, I3, n3⟩ := q3
      obtain ⟨m', hm, w3⟩ := hN σ3 H3 n3
      exact ⟨m', hm, σ3, H3, I3, w3⟩
    | cont =>
      obtain ⟨σ3, H3, I3, n3⟩ := q3
      obtain ⟨m', hm, w3⟩ := hN σ3 H3 n3
      exact ⟨m', hm, σ3, H3, I3, w3⟩
    | brk => exact q3
    | ret v => exact q3
  | false =>
    rw [if_neg Bool.false_ne_true]
    exact wpAny_execs_nil ⟨σ1, H2, I2, q2⟩
end

/-! ### what a loop or a comprehension walks -/
/-- at turn i: it yields x (the heap may grow), or it stops -/
structure It where
  go : Nat → Hp → Prop
  yld : Nat → Hp → V → Hp → Prop
  stop : Nat → Hp → Prop
/-- the iterator's own objects may turn: they are not the frame's, not pinned, younger than the entry (or a comprehension's own) -/
def FpOk (X : Cx) (pins : List (Addr × Obj)) (H : Hp) (b : Addr) : Prop :=
  H b = none ∧ b ≠ X.env.locals ∧ b ∉ X.fs ∧ (b ∈ X.ex ∨ X.s₀.heap.objs.size ≤ b) ∧ (∀ x c, X.env.cells.lookup x = some c → c ≠ b) ∧ ∀ p ∈ X.pn ++ pins, p.1 ≠ b
theorem Inv.fpOk {X : Cx} {pins : List (Addr × Obj)} {σ : St} {H H' : Hp} {s : Shared} {b : Addr} (I : Inv X pins σ H s) (hb : s.heap.objs.size ≤ b) (hn : H' b = none) : FpOk X pins H' b := by
  refine ⟨hn, Nat.ne_of_gt (Nat.lt_of_lt_of_le I.lt hb), I.nofs hb, .inr (Nat.le_trans I.sz hb), fun x c e z => ?_, fun p hp z => ?_⟩
  · obtain ⟨v, q⟩ := I.cell x c e
    exact absurd (Nat.lt_of_lt_of_le q.lt (by rw [z]; exact hb)) (Nat.lt_irrefl _)
  · exact absurd (Nat.lt_of_lt_of_le (Heap.lt_size (I.pin p hp).1) (by rw [z]; exact hb)) (Nat.lt_irrefl _)
structure Turn (P : Program) (w : World) (K : PySem.W.Frag) (tg : Expr) (J : It) (fp : List Addr) (it : Addr) (tn : Nat → Heap → Prop) : Prop where
  mem : it ∈ fp
  obj : ∀ i h, tn i h → ∀ b ∈ fp, ∃ o, h.get? b = some o ∧ ∀ v, o.data ≠ .cell v
  keep : ∀ i h h', tn i h → (∀ b ∈ fp, ∀ o, h.get? b = some o → h'.get? b = some o) → tn i h'
  item : ∀ (X : Cx), X.prog = P → X.w = w → X.K = K → X.calm = true → ∀ (i : Nat) (pins : List (Addr × Obj)) (s : Shared) (σ : St) (H : Hp) (E : Value → Shared → Prop), Inv X pins σ H s → (∀ b ∈ fp, FpOk X pins H b) → tn i s.heap → J.go i H →
    wpAny (model P w) X.A (pyNext (.ref it)) (fun r s1 => ∃ u, r = some u ∧
      wpAny (model P w) X.A (letOwnedTupleGo tg (.ref it) u) (fun _ s2 => ∃ x H', Inv X pins σ H' s2 ∧ RelV x u ∧ J.yld i H x H' ∧ tn (i + 1) s2.heap ∧ ∀ b ∈ fp, H' b = none) E s1) E s
  done : ∀ (X : Cx), X.prog = P → X.w = w → X.K = K → X.calm = true → ∀ (i : Nat) (pins : List (Addr × Obj)) (s : Shared) (σ : St) (H : Hp) (E : Value → Shared → Prop), Inv X pins σ H s → (∀ b ∈ fp, FpOk X pins H b) → tn i s.heap → J.stop i H →
    wpAny (model P w) X.A (pyNext (.ref it)) (fun r s1 => r = none ∧ Inv X pins σ H s1) E s
  self : ∀ (A : Around) (i : Nat) (s : Shared) (Q : Value → Shared → Prop) (E : Value → Shared → Prop), tn i s.heap → Q (.ref it) s → wpAny (model P w) A (pyIter (.ref it)) Q E s
abbrev TI := St → Hp → (It → Hp → Prop) → Prop
/-- an iterator has come -/
def PIE (X : Cx) (pins : List (Addr × Obj)) (σ : St) (tg : Expr) (R : It → Hp → Prop) (itv : Value) (s2 : Shared) : Prop :=
  ∃ (it : Addr) (fp : List Addr) (tn : Nat → Heap → Prop) (J : It) (H' : Hp), itv = .ref it ∧ Inv X pins σ H' s2 ∧ Turn X.prog X.w X.K tg J fp it tn ∧ tn 0 s2.heap ∧ (∀ b ∈ fp, FpOk X pins H' b) ∧ R J H'
def PI (X : Cx) (tg iter : Expr) (wi : TI) : Prop :=
  ∀ (pins : List (Addr × Obj)) (s : Shared) (σ : St) (H : Hp) (R : It → Hp → Prop), Inv X pins σ H s → wi σ H R →
    wpAny (model X.prog X.w) X.A (eval iter X.env) (fun v s1 => wpAny (model X.prog X.w) X.A (pyIter v) (PIE X pins σ tg R) X.xe s1) X.xe s

/-- the step ahead of the store is nothing for an iterator that keeps no tuple -/
theorem go_of {M : Model} {A : Around} {E : Value → Shared → Prop} {s : Shared} {tg : Expr} {it : Addr} {u : Value} {o : Obj} {n : String} {vs : Array Value} {Q : Unit → Shared → Prop} (ho : s.heap.get? it = some o) (hc : o.cls = .type n) (hd : o.data = .fields vs)
    (hn : ["enumerate", "zip", "dict_itemiterator", "dict_reverseitemiterator", "odict_iterator", "itertools.zip_longest", "itertools.pairwise"].contains n = false) (hQ : Q () s) : wpAny M A (letOwnedTupleGo tg (.ref it) u) Q E s := by
  unfold letOwnedTupleGo
  cases tg <;> first
    | exact wpAny_pure hQ
    | (cases u <;> first
        | exact wpAny_pure hQ
        | (refine wpAny_bind (wpAny_load ho ?_)
           rw [hc, hd]
           show wpAny M A (if (["enumerate", "zip", "dict_itemiterator", "dict_reverseitemiterator", "odict_iterator", "itertools.zip_longest", "itertools.pairwise"].contains n && vs[0]? == some (rawInt _)) = true then _ else _) Q E s
           rw [if_neg (by intro h; rw [hn, Bool.false_and] at h; cases h)]
           exact wpAny_pure hQ))

/-- the list at a, as it stands at each turn (a loop may append to it) -/
def Itl (K : PySem.W.Frag) (a : Addr) : It :=
  ⟨fun i H => ∃ xs x, SqL K H a xs ∧ xs[i]? = some x, fun i H x H' => H' = H ∧ ∀ xs, SqL K H a xs → xs[i]? = some x, fun i H => ∃ xs, SqL K H a xs ∧ xs.length ≤ i⟩
def Itt (K : PySem.W.Frag) (a : Addr) : It :=
  ⟨fun i H => ∃ xs x, SqT K H a xs ∧ xs[i]? = some x, fun i H x H' => H' = H ∧ ∀ xs, SqT K H a xs → xs[i]? = some x, fun i H => ∃ xs, SqT K H a xs ∧ xs.length ≤ i⟩
/-- lo, lo + 1, .. (n of them) -/
def Itr (lo : Int) (n : Nat) : It := ⟨fun i _ => i < n, fun i H x H' => H' = H ∧ x = .int (lo + i), fun i _ => n ≤ i⟩
theorem turn_list {P : Program} {w : World} {K : PySem.W.Frag} {tg : Expr} (a it : Addr) : Turn P w K tg (Itl K a) [it] it (fun i h => h.IsListIter it a i) where
  mem := by simp
  obj := fun i h st b hb => by
    have e : b = it := by simpa using hb
    subst e
    obtain ⟨o, e, c, d⟩ := st
    exact ⟨o, e, fun v z => by rw [d] at z; cases z⟩
  keep := fun i h h' st k => st.at fun o e => k it (by simp) o e
  item := by
    intro X hP hw hK hc i pins s σ H E I hf st hg
    subst hP hw hK
    obtain ⟨xs, x, hq, hx⟩ := hg
    obtain ⟨its, rv, p, hz⟩ := I.list hq
    obtain ⟨u, hu, ru⟩ := rv.get hx
    obtain ⟨f0, f1, f2, f3, f4, f5⟩ := hf it (by simp)
    refine wpAny_pyNext_list_item st p.isList (x := u) (by simpa using hu) fun h' st' sb => ?_
    have I1 : Inv X pins σ H { s with heap := h' } := I.turned (t' := s.toks) (fun b o hb e => (sb.2 b hb).trans e) f0 f1 f3 f4 f5
    obtain ⟨o, e, c, d⟩ := id st'
    exact ⟨u, rfl, go_of (s := { s with heap := h' }) e c d (by decide) ⟨x, H, I1, ru, ⟨rfl, fun ys hy => by rw [I.list_inj hy hq]; exact hx⟩, st', fun b hb => (hf b hb).1⟩⟩
  done := by
    intro X hP hw hK hc i pins s σ H E I hf st hg
    subst hP hw hK
    obtain ⟨xs, hq, hx⟩ := hg
    obtain ⟨its, rv, p, hz⟩ := I.list hq
    obtain ⟨f0, f1, f2, f3, f4, f5⟩ := hf it (by simp)
    have hl := rv.length
    exact wpAny_pyNext_list_end (I.ok.hd hc) st p.isList (by simp; omega) fun h' eb => ⟨rfl, I.turned (t' := s.toks) (fun b o hb e => eb b o hb e) f0 f1 f3 f4 f5⟩
  self := fun _ _ _ _ _ st h => wpAny_pyIter_listiter st h
theorem turn_range {P : Program} {w : World} {K : PySem.W.Frag} {tg : Expr} (it : Addr) (lo : Int) (n : Nat) : Turn P w K tg (Itr lo n) [it] it (fun i h => IsRangeIter h it (lo + (i : Nat) * 1) ((n : Int) - (i : Nat)) 1) where
  mem := by simp
  obj := fun i h st b hb => by
    have e : b = it := by simpa using hb
    subst e
    exact ⟨_, st, fun v z => by
      have z' : Data.fields _ = Data.cell v := z
      cases z'⟩
  keep := fun i h h' st k => k it (by simp) _ st
  item := by
    intro X hP hw hK hc i pins s σ H E I hf st hg
    subst hP hw hK
    obtain ⟨f0, f1, f2, f3, f4, f5⟩ := hf it (by simp)
    have W := Walks.range (prog := X.prog) (w := X.w) (I.ok.hd hc) it lo 1 n
    refine W.item i s _ _ hg st fun v h' tk hv st' kk => ?_
    obtain ⟨t, rfl⟩ := hv
    have I1 : Inv X pins σ H { s with heap := h', toks := tk } := I.turned (fun b o hb e => kk b o (by simpa using hb) e) f0 f1 f3 f4 f5
    refine ⟨_, rfl, go_of (s := { s with heap := h', toks := tk }) (n := "range_iterator") st' rfl rfl (by decide) ⟨.int (lo + i), H, I1, ⟨t, ?_⟩, ⟨rfl, rfl⟩, st', fun b hb => (hf b hb).1⟩⟩
    rw [Int.mul_one]
  done := by
    intro X hP hw hK hc i pins s σ H E I hf st hg
    subst hP hw hK
    obtain ⟨f0, f1, f2, f3, f4, f5⟩ := hf it (by simp)
    exact wpAny_pyNext_range_end (I.ok.hd hc) st (by have : n ≤ i := hg; omega) fun h' eb => ⟨rfl, I.turned (t' := s.toks) (fun b o hb e => eb b o hb e) f0 f1 f3 f4 f5⟩
  self := fun _ _ _ _ _ st h => wpAny_pyIter_rangeiter st h
end L2

namespace L2
open PySem PySem.Spec PyProof.Rows
section
variable {X : Cx} {tg : Expr}
def iList (K : PySem.W.Frag) (tl : TE) : TI := fun σ H R => tl σ H fun x H1 => ∃ a, x = .ref a ∧ (∃ xs, SqL K H1 a xs) ∧ R (Itl K a) H1
def iTup (K : PySem.W.Frag) (tl : TE) : TI := fun σ H R => tl σ H fun x H1 => ∃ a, x = .ref a ∧ (∃ xs, SqT K H1 a xs) ∧ R (Itt K a) H1
theorem pi_list {l : Expr} {tl : TE} (hl : PE X l tl) : PI X tg l (iList X.K tl) := by
  intro pins s σ H R I h
  refine thn (hl pins s σ H _ I h) fun v s1 ⟨x, H1, I1, r1, q1⟩ => ?_
  obtain ⟨a, e, ⟨xs, hq⟩, q⟩ := q1
  subst e
  cases r1
  obtain ⟨its, rv, p, hz⟩ := I1.list hq
  refine wpAny_pyIter_list p.isList ?_
  refine ⟨s1.heap.objs.size, [s1.heap.objs.size], _, _, H1, rfl, I1.kept (t' := s1.toks) fun b o e => Heap.get?_push_of_some _ e, turn_list a _, ⟨_, Heap.get?_push_size _ rfl, rfl, rfl⟩, fun b hb => ?_, q⟩
  have e : b = s1.heap.objs.size := by simpa using hb
  subst e
  exact I1.fpOk (Nat.le_refl _) (I1.hok.fresh (Nat.le_refl _))
/-- a range object just made, walked -/
theorem range_it {pins : List (Addr × Obj)} {σ : St} {H : Hp} {s : Shared} {R : It → Hp → Prop} {E : Value → Shared → Prop} {lo hi : Int} {t u v : Tok} {tk : Nat} (I : Inv X pins σ H s) (h1 : -(2 ^ 62) ≤ lo) (h2 : lo < 2 ^ 62) (h3 : -(2 ^ 62) ≤ hi) (h4 : hi < 2 ^ 62)
    (q : R (Itr lo (hi - lo).toNat) H) : wpAny (model X.prog X.w) X.A (pyIter (.ref s.heap.objs.size)) (PIE X pins σ tg R) E { s with heap := s.heap.push { cls := .type "range", data := .fields #[.int lo t, .int hi u, .int 1 v] }, toks := tk } := by
  refine wpAny_pyIter_range (IsRange.new ..) (small_one h1 h2 h3 h4) ?_
  have I1 : Inv X pins σ H { s with heap := s.heap.push { cls := .type "range", data := .fields #[.int lo t, .int hi u, .int 1 v] }, toks := tk } := I.kept fun b o e => Heap.get?_push_of_some _ e
  refine ⟨(s.heap.push { cls := .type "range", data := .fields #[.int lo t, .int hi u, .int 1 v] }).objs.size, [(s.heap.push { cls := .type "range", data := .fields #[.int lo t, .int hi u, .int 1 v] }).objs.size], _, _, H, rfl,
    I1.kept (t' := tk) fun b o e => Heap.get?_push_of_some _ e, turn_range _ lo (hi - lo).toNat, ?_, fun b hb => ?_, q⟩
  · have e1 : lo + ((0 : Nat) : Int) * 1 = lo := by simp
    have e2 : (((hi - lo).toNat : Nat) : Int) - ((0 : Nat) : Int) = Builtin.Range.rangeSize lo hi 1 := by rw [rangeSize_one]; split <;> omega
    show IsRangeIter _ _ (lo + ((0 : Nat) : Int) * 1) ((((hi - lo).toNat : Nat) : Int) - ((0 : Nat) : Int)) 1
    rw [e1, e2]
    exact Heap.get?_push_size _ rfl
  · have e : b = (s.heap.push { cls := .type "range", data := .fields #[.int lo t, .int hi u, .int 1 v] }).objs.size := by simpa using hb
    subst e
    exact I1.fpOk (Nat.le_refl _) (I1.hok.fresh (Nat.le_refl _))
def iRng1 (ta : TA) : TI := fun σ H R => ta σ H fun vs H1 => ∃ j : Int, vs = [.int j] ∧ -(2 ^ 62) ≤ j ∧ j < 2 ^ 62 ∧ R (Itr 0 j.toNat) H1
def iRng2 (ta : TA) : TI := fun σ H R => ta σ H fun vs H1 => ∃ i j : Int, vs = [.int i, .int j] ∧ (-(2 ^ 62) ≤ i ∧ i < 2 ^ 62 ∧ -(2 ^ 62) ≤ j ∧ j < 2 ^ 62) ∧ R (Itr i (j - i).toNat) H1
theorem pi_range1 {a : Expr} {ta : TA} {p pos : Pos} (hg : Gl X "range") (hm : X.mg "range" = none) (ha : PA X [a] ta) (hs : starEach [a] X.env = [(false, eval a X.env)] := by rfl) : PI X tg (.Call (.Name "range" p) [a] [] pos) (iRng1 ta) := by
  intro pins s σ H R I h
  refine Call_ (ld_blt I hg hm boot_range (PyProof.Rows.callWith_type1 (thn (ha pos pins s σ H _ I h) fun us s1 ⟨vs, H1, I1, r1, q1⟩ => ?_) hs rfl))
  obtain ⟨j, e, q1, q2, q⟩ := q1
  subst e
  cases r1 with
  | cons r rr =>
    cases rr
    obtain ⟨t, rfl⟩ := r
    exact call_range_1 (range_it I1 (by omega) (by omega) q1 q2 (by simpa using q))
theorem pi_range2 {a b : Expr} {ta : TA} {p pos : Pos} (hg : Gl X "range") (hm : X.mg "range" = none) (ha : PA X [a, b] ta) (hs : starEach [a, b] X.env = [(false, eval a X.env), (false, eval b X.env)] := by rfl) (hs2 : starEach [b] X.env = [(false, eval b X.env)] := by rfl) :
    PI X tg (.Call (.Name "range" p) [a, b] [] pos) (iRng2 ta) := by
  intro pins s σ H R I h
  refine Call_ (ld_blt I hg hm boot_range (PyProof.Rows.callWith_type1 (thn (ha pos pins s σ H _ I h) fun us s1 ⟨vs, H1, I1, r1, q1⟩ => ?_) (by rw [hs, hs2]) (by rw [hs2]; rfl)))
  obtain ⟨i, j, e, ⟨q1, q2, q3, q4⟩, q⟩ := q1
  subst e
  cases r1 with
  | cons r rr =>
    cases rr with
    | cons r' rr =>
      cases rr
      obtain ⟨t, rfl⟩ := r
      obtain ⟨t', rfl⟩ := r'
      exact call_range_2 (range_it I1 q1 q2 q3 q4 q)

/-! ### for -/
/-- W: the invariant by the turn and a measure; N: what the body is to reach -/
def tFor (wi : TI) (g : TG) (tb : TS) : TS := fun D σ H => wi σ H fun J H1 => ∃ W : Nat → Nat → St → Hp → Prop, (∃ m, W 0 m σ H1) ∧ ∀ i m σ H, W i m σ H →
  (J.stop i H ∧ D.nx σ H) ∨ (J.go i H ∧ ∃ N : St → Hp → Prop, (∀ σ' H', N σ' H' → ∃ m', m' < m ∧ W (i + 1) m' σ' H') ∧ ∀ x H', J.yld i H x H' → g x σ H' fun σ2 H2 => tb { D with nx := N, ct := N, bk := D.nx } σ2 H2)
/-- the records at fp as they stand -/
def pinsAt (fp : List Addr) (h : Heap) : List (Addr × Obj) := fp.filterMap fun b => (h.get? b).map fun o => (b, o)
theorem mem_pinsAt {fp : List Addr} {h : Heap} {b : Addr} {o : Obj} (hb : b ∈ fp) (e : h.get? b = some o) : (b, o) ∈ pinsAt fp h := List.mem_filterMap.mpr ⟨b, hb, by rw [e]; rfl⟩
theorem of_pinsAt {fp : List Addr} {h : Heap} {p : Addr × Obj} (hp : p ∈ pinsAt fp h) : p.1 ∈ fp ∧ h.get? p.1 = some p.2 := by
  obtain ⟨b, hb, e⟩ := List.mem_filterMap.mp hp
  cases q : h.get? b with
  | none => rw [q] at e; cases e
  | some o =>
    rw [q] at e
    have e' : (b, o) = p := Option.some.inj e
    subst e'
    exact ⟨hb, q⟩
theorem Inv.pinned {pins : List (Addr × Obj)} {σ : St} {H : Hp} {s : Shared} {fp : List Addr} (I : Inv X pins σ H s) (hf : ∀ b ∈ fp, FpOk X pins H b) (ho : ∀ b ∈ fp, ∃ o, s.heap.get? b = some o ∧ ∀ v, o.data ≠ .cell v) : Inv X (pins ++ pinsAt fp s.heap) σ H s :=
  I.pins_of fun p hp => (List.mem_append.mp hp).elim (fun z => I.pin p (List.mem_append_right _ z)) fun z => by
    obtain ⟨hb, e⟩ := of_pinsAt z
    obtain ⟨f0, f1, f2, _⟩ := hf p.1 hb
    obtain ⟨o, e', d⟩ := ho p.1 hb
    rw [e] at e'; cases e'
    exact ⟨e, f0, f1, f2, d⟩
theorem Inv.unpinned {pins pl : List (Addr × Obj)} {σ : St} {H : Hp} {s : Shared} (I : Inv X (pins ++ pl) σ H s) : Inv X pins σ H s := I.pins_of fun p hp => I.pin p (List.mem_append_right _ (List.mem_append_left _ hp))
theorem ps_for {iter : Expr} {body : List Stmt} {wi : TI} {g : TG} {tb : TS} {pos : Pos} (hp : PassesOwn (model X.prog X.w) X.A X.env X.xe) (hc : X.calm = true) (hi : PI X tg iter wi) (hg : PG X tg g) (hb : PSs X body tb)
    (hs : ∀ x, foldedSetIterable iter X.env x = pure x := by intro _; rfl) : PS X (.For tg iter body [] pos) (tFor wi g tb) := by
  intro pins s σ H D I h
  refine wpAny_For (thn (hi pins s σ H _ I h) fun v s1 h1 => thn h1 fun itv s2 h2 => ?_) hs
  obtain ⟨it, fp, tn, J, H2, e, I2, T, st2, f2, W, ⟨m0, w0⟩, turn⟩ := h2
  subst e
  -- what stays true of the iterator's objects through the loop
  have stat : ∀ {H' : Hp}, (∀ b ∈ fp, H' b = none) → ∀ b ∈ fp, FpOk X pins H' b := fun hn b hb => ⟨hn b hb, (f2 b hb).2⟩
  refine codeAny_forLoop_any (fun n s' => ∃ i σ' H', Inv X pins σ' H' s' ∧ tn i s'.heap ∧ (∀ b ∈ fp, H' b = none) ∧ W i n σ' H') ?_ m0 ⟨0, σ, H2, I2, st2, fun b hb => (f2 b hb).1, w0⟩
  rintro n s3 ⟨i, σ3, H3, I3, st3, fr3, w3⟩
  rcases turn i n σ3 H3 w3 with ⟨stop, qn⟩ | ⟨go, N, hN, step⟩
  · refine wpAny_passesOwn hp (thn (T.done X rfl rfl rfl hc i pins s3 σ3 H3 X.xe I3 (stat fr3) st3 stop) fun r s4 ⟨hr, I4⟩ => ?_)
    subst hr
    exact wpAny_execs_nil ⟨σ3, H3, I4, qn⟩
  · refine wpAny_passesOwn hp (thn (T.item X rfl rfl rfl hc i pins s3 σ3 H3 X.xe I3 (stat fr3) st3 go) fun r s4 ⟨u, hr, h4⟩ => ?_)
    subst hr
    refine wpAny_passesOwn hp (thn h4 fun _ s5 ⟨x, H5, I5, r5, y5, st5, fr5⟩ => ?_)
    have I5' := I5.pinned (stat fr5) (T.obj _ _ st5)
    refine wpAny_passesOwn hp (thn (hg _ s5 σ3 H5 x u _ I5' r5 (step x H5 y5)) fun _ s6 ⟨σ6, H6, I6, q6⟩ => ?_)
    refine wpAny_passesOwn hp (thn (hb _ s6 σ6 H6 _ I6 q6) fun f s7 q7 => ?_)
    have again : ∀ {σ7 : St} {H7 : Hp}, Inv X (pins ++ pinsAt fp s5.heap) σ7 H7 s7 → N σ7 H7 → ∃ m, m < n ∧ ∃ i σ' H', Inv X pins σ' H' s7 ∧ tn i s7.heap ∧ (∀ b ∈ fp, H' b = none) ∧ W i m σ' H' := fun {σ7 H7} I7 n7 => by
      obtain ⟨m', hm, w7⟩ := hN σ7 H7 n7
      refine ⟨m', hm, i + 1, σ7, H7, I7.unpinned, T.keep _ _ _ st5 fun b hb o e => (I7.pin (b, o) (List.mem_append_right _ (List.mem_append_right _ (mem_pinsAt hb e)))).1, fun b hb => ?_, w7⟩
      obtain ⟨o, e, d⟩ := T.obj _ _ st5 b hb
      exact (I7.pin (b, o) (List.mem_append_right _ (List.mem_append_right _ (mem_pinsAt hb e)))).2.1
    cases f with
    | next => obtain ⟨σ7, H7, I7, n7⟩ := q7; exact again I7 n7
    | cont => obtain ⟨σ7, H7, I7, n7⟩ := q7; exact again I7 n7
    | brk => obtain ⟨σ7, H7, I7, q7⟩ := q7; exact ⟨σ7, H7, I7.unpinned, q7⟩
    | ret v => obtain ⟨x7, σ7, H7, I7, r7, q7⟩ := q7; exact ⟨x7, σ7, H7, I7.unpinned, r7, q7⟩
end

/-! ### the forms one uses -/
/-- while, by a word and a measure of the state -/
theorem while_by {c : TT} {tb : TS} {D : Ends} {σ : St} {H : Hp} (Pv : St → Hp → Prop) (μ : St → Hp → Nat) (h0 : Pv σ H)
    (hs : ∀ σ H, Pv σ H → c σ H fun b H1 => if b = true then tb { D with nx := fun σ' H' => Pv σ' H' ∧ μ σ' H' < μ σ H, ct := fun σ' H' => Pv σ' H' ∧ μ σ' H' < μ σ H, bk := D.nx } σ H1 else D.nx σ H1)
    (mono : ∀ σ H Q Q', (∀ b H1, Q b H1 → Q' b H1) → c σ H Q → c σ H Q') : tWhile c tb D σ H := by
  refine ⟨fun m σ H => m = μ σ H ∧ Pv σ H, ⟨_, rfl, h0⟩, ?_⟩
  rintro m σ H ⟨rfl, p⟩
  refine mono σ H _ _ (fun b H1 q => ?_) (hs σ H p)
  cases b with
  | true => exact ⟨_, fun σ' H' ⟨p', l⟩ => ⟨_, l, rfl, p'⟩, q⟩
  | false => exact q
end L2

namespace L2
open PySem PySem.Spec PyProof.Rows

abbrev R2 := V → V → Hp → VK → Prop
/-- a two-place operation on values: f is binaryOp op, inplaceOp op or compareOp op -/
def OpR (X : Cx) (f : Value → Value → Sem Value) (r : R2) : Prop :=
  ∀ (pins : List (Addr × Obj)) (s : Shared) (σ : St) (H : Hp) (x y : V) (v u : Value) (Q : VK), Inv X pins σ H s → RelV x v → RelV y u → r x y H Q →
    wpAny (model X.prog X.w) X.A (f v u) (EP X pins σ Q) X.xe s
/-- a one-place operation -/
def UnR (X : Cx) (f : Value → Sem Value) (r : V → Hp → VK → Prop) : Prop :=
  ∀ (pins : List (Addr × Obj)) (s : Shared) (σ : St) (H : Hp) (x : V) (v : Value) (Q : VK), Inv X pins σ H s → RelV x v → r x H Q →
    wpAny (model X.prog X.w) X.A (f v) (EP X pins σ Q) X.xe s
/-- a call of a value that is known (a builtin, a type) with values -/
def CallR (X : Cx) (f : Value) (r : List V → Hp → VK → Prop) : Prop :=
  ∀ (pins : List (Addr × Obj)) (s : Shared) (σ : St) (H : Hp) (xs : List V) (us : List Value) (Q : VK), Inv X pins σ H s → Vals xs us → r xs H Q →
    wpAny (model X.prog X.w) X.A (call f us) (EP X pins σ Q) X.xe s
def tOp (r : R2) (ta tb : TE) : TE := fun σ H Q => ta σ H fun x H1 => tb σ H1 fun y H2 => r x y H2 Q
def tUn (r : V → Hp → VK → Prop) (ta : TE) : TE := fun σ H Q => ta σ H fun x H1 => r x H1 Q
/-- ints in, under C, and a value out -/
def rI (C : Int → Int → Prop) (g : Int → Int → V) : R2 := fun x y H Q => ∃ i j, x = .int i ∧ y = .int j ∧ C i j ∧ Q (g i j) H
def rI0 (g : Int → Int → V) : R2 := fun x y H Q => ∃ i j, x = .int i ∧ y = .int j ∧ Q (g i j) H
def rU (g : Int → V) : V → Hp → VK → Prop := fun x H Q => ∃ i, x = .int i ∧ Q (g i) H

section
variable {X : Cx} {a b c : Expr} {ta tb tc : TE} {pos : Pos}

theorem binT (ha : PE X a ta) (hb : PE X b tb) {pins : List (Addr × Obj)} {s : Shared} {σ : St} {H : Hp} {R : V → V → Hp → Prop} (I : Inv X pins σ H s)
    (h : ta σ H fun x H1 => tb σ H1 fun y H2 => R x y H2) {Q : Value → Shared → Prop} {f : Value → Value → Sem Value}
    (hf : ∀ v u s2 x y H2, Inv X pins σ H2 s2 → RelV x v → RelV y u → R x y H2 → wpAny (model X.prog X.w) X.A (f v u) Q X.xe s2) :
    wpAny (model X.prog X.w) X.A (eval a X.env) (fun v s₁ => wpAny (model X.prog X.w) X.A (eval b X.env) (fun u s₂ => wpAny (model X.prog X.w) X.A (f v u) Q X.xe s₂) X.xe s₁) X.xe s := by
  refine thn (ha pins s σ H _ I h) fun v s1 ⟨x, H1, I1, r1, q1⟩ => ?_
  refine thn (hb pins s1 σ H1 _ I1 q1) fun u s2 ⟨y, H2, I2, r2, q2⟩ => ?_
  exact hf v u s2 x y H2 I2 r1 r2 q2

theorem pe_op {op : Operator} {r : R2} (ho : OpR X (binaryOp op) r) (ha : PE X a ta) (hb : PE X b tb) : PE X (.BinOp a op b pos) (tOp r ta tb) := by
  intro pins s σ H Q I h
  exact wpAny_BinOp (binT ha hb I h fun v u s2 x y H2 I2 rx ry q => ho pins s2 σ H2 x y v u Q I2 rx ry q)
theorem pe_un {op : UnaryOp} {r : V → Hp → VK → Prop} (ho : UnR X (unaryOp op) r) (ha : PE X a ta) : PE X (.UnaryOp op a pos) (tUn r ta) := by
  intro pins s σ H Q I h
  exact UnaryOp_ (thn (ha pins s σ H _ I h) fun v s1 ⟨x, H1, I1, r1, q1⟩ => ho pins s1 σ H1 x v Q I1 r1 q1)
/-! ### ints -/
theorem opI {f : Value → Value → Sem Value} {C : Int → Int → Prop} {g : Int → Int → Int}
    (rule : ∀ (i j : Int) (t u : Tok) (s : Shared) (Q : Value → Shared → Prop) (E : Value → Shared → Prop), C i j → Q (.int (g i j) s.toks) { s with toks := s.toks + 1 } → wpAny (model X.prog X.w) X.A (f (.int i t) (.int j u)) Q E s) :
    OpR X f (rI C fun i j => .int (g i j)) := by
  intro pins s σ H x y v u Q I rx ry h
  obtain ⟨i, j, rfl, rfl, hc, q⟩ := h
  obtain ⟨t, rfl⟩ := rx
  obtain ⟨t', rfl⟩ := ry
  exact rule i j t t' s _ _ hc ⟨.int (g i j), H, I.tok _, ⟨_, rfl⟩, q⟩
theorem opI0 {f : Value → Value → Sem Value} {g : Int → Int → Int}
    (rule : ∀ (i j : Int) (t u : Tok) (s : Shared) (Q : Value → Shared → Prop) (E : Value → Shared → Prop), Q (.int (g i j) s.toks) { s with toks := s.toks + 1 } → wpAny (model X.prog X.w) X.A (f (.int i t) (.int j u)) Q E s) :
    OpR X f (rI0 fun i j => .int (g i j)) := by
  intro pins s σ H x y v u Q I rx ry h
  obtain ⟨i, j, rfl, rfl, q⟩ := h
  obtain ⟨t, rfl⟩ := rx
  obtain ⟨t', rfl⟩ := ry
  exact rule i j t t' s _ _ ⟨.int (g i j), H, I.tok _, ⟨_, rfl⟩, q⟩
theorem opB0 {f : Value → Value → Sem Value} {g : Int → Int → Bool}
    (rule : ∀ (i j : Int) (t u : Tok) (s : Shared) (Q : Value → Shared → Prop) (E : Value → Shared → Prop), Q (.bool (g i j)) s → wpAny (model X.prog X.w) X.A (f (.int i t) (.int j u)) Q E s) :
    OpR X f (rI0 fun i j => .bl (g i j)) := by
  intro pins s σ H x y v u Q I rx ry h
  obtain ⟨i, j, rfl, rfl, q⟩ := h
  obtain ⟨t, rfl⟩ := rx
  obtain ⟨t', rfl⟩ := ry
  exact rule i j t t' s _ _ ⟨.bl (g i j), H, I, rfl, q⟩

def CDiv (i j : Int) : Prop := 0 < j ∧ j < 1073741824
def CPow (i j : Int) : Prop := 0 ≤ j ∧ j ≤ 1000000 ∧ i.natAbs < 2 ^ 64
def CMul (i j : Int) : Prop := (-(2 ^ 64) < i ∧ i < 2 ^ 64) ∨ (-(2 ^ 64) < j ∧ j < 2 ^ 64)
theorem CMul.ok {i j : Int} (h : CMul i j) : IntMulOk i j := by
  rcases h with ⟨h1, h2⟩ | ⟨h1, h2⟩
  · exact .of_left (intBits_le_64 h1 h2)
  · exact .of_right (intBits_le_64 h1 h2)
theorem op_add : OpR X (binaryOp .Add) (rI0 fun i j => .int (i + j)) := opI0 fun _ _ _ _ _ _ _ q => add_int q
theorem op_sub : OpR X (binaryOp .Sub) (rI0 fun i j => .int (i - j)) := opI0 fun _ _ _ _ _ _ _ q => sub_int q
theorem op_mul : OpR X (binaryOp .Mult) (rI CMul fun i j => .int (i * j)) := opI fun _ _ _ _ _ _ _ hc q => mul_int q hc.ok
/-- // by a positive divisor -/
theorem op_fdiv : OpR X (binaryOp .FloorDiv) (rI CDiv fun i j => .int (i / j)) := opI fun i j _ _ _ _ _ hc q => by
  have h1 : (0 : Int) < j := hc.1
  have h2 : j < 1073741824 := hc.2
  exact floordiv_int (by omega) (by rw [Int.fdiv_eq_ediv_of_nonneg i (by omega)]; exact q) (.inl (PyProof.noPylong_small (by omega)))
/-- % by a positive divisor of any size -/
theorem op_mod : OpR X (binaryOp .Mod) (rI (fun _ j => 0 < j) fun i j => .int (i % j)) := opI fun i j _ _ _ _ _ hc q => by
  have h1 : (0 : Int) < j := hc
  exact mod_int' (by omega) (by rw [Int.fmod_eq_emod_of_nonneg i (by omega)]; exact q)
theorem op_pow : OpR X (binaryOp .Pow) (rI CPow fun i j => .int (i ^ j.toNat)) := opI fun _ _ _ _ _ _ _ hc q => pow_int_small hc.1 hc.2.1 hc.2.2 q
theorem unI {f : Value → Sem Value} {g : Int → Int}
    (rule : ∀ (i : Int) (t : Tok) (s : Shared) (Q : Value → Shared → Prop) (E : Value → Shared → Prop), Q (.int (g i) s.toks) { s with toks := s.toks + 1 } → wpAny (model X.prog X.w) X.A (f (.int i t)) Q E s) :
    UnR X f (rU fun i => .int (g i)) := by
  intro pins s σ H x v Q I rx h
  obtain ⟨i, rfl, q⟩ := h
  obtain ⟨t, rfl⟩ := rx
  exact rule i t s _ _ ⟨.int (g i), H, I.tok _, ⟨_, rfl⟩, q⟩
theorem un_neg : UnR X (unaryOp .USub) (rU fun i => .int (-i)) := unI fun _ _ _ _ _ q => neg_int q
/-! ### bools among ints: n += (a < b) -/
end

/-! ### comparisons -/
/-- the scalars that == tells apart as data does -/
def scal : V → V → Bool
  | .non, .non => true | .non, .int _ => true | .int _, .non => true | .non, .bl _ => true | .bl _, .non => true | .non, .str _ => true | .str _, .non => true
  | .int _, .int _ => true | .bl _, .bl _ => true | .str _, .str _ => true | .byt _, .byt _ => true
  | .int _, .str _ => true | .str _, .int _ => true | .bl _, .str _ => true | .str _, .bl _ => true
  | _, _ => false
def rEq : R2 := fun x y H Q => scal x y = true ∧ Q (.bl (decide (x = y))) H
def rNe : R2 := fun x y H Q => scal x y = true ∧ Q (.bl (!decide (x = y))) H

theorem dec_int {i j : Int} : decide (V.int i = V.int j) = (i == j) := by
  rw [Bool.eq_iff_iff]
  simp
theorem dec_bl {i j : Bool} : decide (V.bl i = V.bl j) = (i == j) := by
  rw [Bool.eq_iff_iff]
  simp
theorem dec_str {i j : Str} : decide (V.str i = V.str j) = (i == j) := by
  rw [Bool.eq_iff_iff]
  simp
theorem dec_byt {i j : Array UInt8} : decide (V.byt i = V.byt j) = (i.toList == j.toList) := by
  rw [Bool.eq_iff_iff]
  cases i
  cases j
  simp

section
variable {X : Cx} {a b c : Expr} {ta tb tc : TE} {pos : Pos}
theorem fin_bl {pins : List (Addr × Obj)} {σ : St} {H : Hp} {s : Shared} {Q : VK} {k k' : Bool} (I : Inv X pins σ H s) (q : Q (.bl k) H) (e : k = k') : EP X pins σ Q (.bool k') s := by
  subst e
  exact ⟨.bl k, H, I, rfl, q⟩
theorem op_eq : OpR X (compareOp .Eq) rEq := by
  intro pins s σ H x y v u Q I rx ry h
  obtain ⟨hs, q⟩ := h
  cases x with
  | non =>
    cases rx
    cases y with
    | non => cases ry; exact PySem.EqNone.eq_none_none (fin_bl I q (by simp))
    | bl j => cases ry; exact PySem.EqNone.eq_none_bool (fin_bl I q (by simp))
    | int j => obtain ⟨t', rfl⟩ := ry; exact PySem.EqNone.eq_none_int (fin_bl I q (by simp))
    | str j => obtain ⟨t', rfl⟩ := ry; exact PySem.EqNone.eq_none_str (fin_bl I q (by simp))
    | _ => exact absurd (show false = true from hs) Bool.false_ne_true
  | bl i =>
    cases rx
    cases y with
    | non => cases ry; exact PySem.EqNone.eq_bool_none (fin_bl I q (by simp))
    | bl j => cases ry; exact eq_bool (fin_bl I q dec_bl)
    | str j => obtain ⟨t', rfl⟩ := ry; exact PySem.EqMixed.eq_bool_str (fin_bl I q (by simp))
    | _ => exact absurd (show false = true from hs) Bool.false_ne_true
  | int i =>
    obtain ⟨t, rfl⟩ := rx
    cases y with
    | non => cases ry; exact PySem.EqNone.eq_int_none (fin_bl I q (by simp))
    | int j => obtain ⟨t', rfl⟩ := ry; exact eq_int (fin_bl I q dec_int)
    | str j => obtain ⟨t', rfl⟩ := ry; exact PySem.EqMixed.eq_int_str (fin_bl I q (by simp))
    | _ => exact absurd (show false = true from hs) Bool.false_ne_true
  | str i =>
    obtain ⟨t, rfl⟩ := rx
    cases y with
    | non => cases ry; exact PySem.EqNone.eq_str_none (fin_bl I q (by simp))
    | bl j => cases ry; exact PySem.EqMixed.eq_str_bool (fin_bl I q (by simp))
    | int j => obtain ⟨t', rfl⟩ := ry; exact PySem.EqMixed.eq_str_int (fin_bl I q (by simp))
    | str j => obtain ⟨t', rfl⟩ := ry; exact eq_str (fin_bl I q dec_str)
    | _ => exact absurd (show false = true from hs) Bool.false_ne_true
  | byt i =>
    obtain ⟨t, rfl⟩ := rx
    cases y with
    | byt j => obtain ⟨t', rfl⟩ := ry; exact PySem.W.eq_bytes (fin_bl I q dec_byt)
    | _ => exact absurd (show false = true from hs) Bool.false_ne_true
  | _ => cases y <;> exact absurd (show false = true from hs) Bool.false_ne_true
theorem op_ne : OpR X (compareOp .NotEq) rNe := by
  intro pins s σ H x y v u Q I rx ry h
  obtain ⟨hs, q⟩ := h
  cases x with
  | non =>
    cases rx
    cases y with
    | non => cases ry; exact PySem.EqNone.ne_none_none (fin_bl I q (by simp))
    | bl j => cases ry; exact PySem.EqNone.ne_none_bool (fin_bl I q (by simp))
    | int j => obtain ⟨t', rfl⟩ := ry; exact PySem.EqNone.ne_none_int (fin_bl I q (by simp))
    | str j => obtain ⟨t', rfl⟩ := ry; exact PySem.EqNone.ne_none_str (fin_bl I q (by simp))
    | _ => exact absurd (show false = true from hs) Bool.false_ne_true
  | bl i =>
    cases rx
    cases y with
    | non => cases ry; exact PySem.EqNone.ne_bool_none (fin_bl I q (by simp))
    | bl j => cases ry; exact ne_bool (fin_bl I q (congrArg not dec_bl))
    | str j => obtain ⟨t', rfl⟩ := ry; exact PySem.EqMixed.ne_bool_str (fin_bl I q (by simp))
    | _ => exact absurd (show false = true from hs) Bool.false_ne_true
  | int i =>
    obtain ⟨t, rfl⟩ := rx
    cases y with
    | non => cases ry; exact PySem.EqNone.ne_int_none (fin_bl I q (by simp))
    | int j => obtain ⟨t', rfl⟩ := ry; exact ne_int (fin_bl I q (congrArg not dec_int))
    | str j => obtain ⟨t', rfl⟩ := ry; exact PySem.EqMixed.ne_int_str (fin_bl I q (by simp))
    | _ => exact absurd (show false = true from hs) Bool.false_ne_true
  | str i =>
    obtain ⟨t, rfl⟩ := rx
    cases y with
    | non => cases ry; exact PySem.EqNone.ne_str_none (fin_bl I q (by simp))
    | bl j => cases ry; exact PySem.EqMixed.ne_str_bool (fin_bl I q (by simp))
    | int j => obtain ⟨t', rfl⟩ := ry; exact PySem.EqMixed.ne_str_int (fin_bl I q (by simp))
    | str j => obtain ⟨t', rfl⟩ := ry; exact ne_str (fin_bl I q (congrArg not dec_str))
    | _ => exact absurd (show false = true from hs) Bool.false_ne_true
  | byt i =>
    obtain ⟨t, rfl⟩ := rx
    cases y with
    | byt j => obtain ⟨t', rfl⟩ := ry; exact PySem.W.ne_bytes (fin_bl I q (congrArg not dec_byt))
    | _ => exact absurd (show false = true from hs) Bool.false_ne_true
  | _ => cases y <;> exact absurd (show false = true from hs) Bool.false_ne_true

theorem op_lt : OpR X (compareOp .Lt) (rI0 fun i j => .bl (decide (i < j))) := opB0 fun _ _ _ _ _ _ _ q => lt_int q
theorem op_le : OpR X (compareOp .LtE) (rI0 fun i j => .bl (decide (i ≤ j))) := opB0 fun _ _ _ _ _ _ _ q => le_int q
theorem op_gt : OpR X (compareOp .Gt) (rI0 fun i j => .bl (decide (j < i))) := opB0 fun _ _ _ _ _ _ _ q => gt_int q
theorem op_ge : OpR X (compareOp .GtE) (rI0 fun i j => .bl (decide (j ≤ i))) := opB0 fun _ _ _ _ _ _ _ q => ge_int q
/-- two rules for one operation: by cases -/
theorem OpR.or {f : Value → Value → Sem Value} {r r' : R2} (h : OpR X f r) (h' : OpR X f r') : OpR X f (fun x y H Q => r x y H Q ∨ r' x y H Q) := by
  intro pins s σ H x y v u Q I rx ry q
  rcases q with q | q
  · exact h pins s σ H x y v u Q I rx ry q
  · exact h' pins s σ H x y v u Q I rx ry q

theorem nomark (b : Expr) {op : CmpOp} (h : op ≠ .In := by decide) (h2 : op ≠ .NotIn := by decide) : behindInMarks op b = false := by
  have e1 : (op == CmpOp.In) = false := by cases op <;> first | rfl | exact absurd rfl h
  have e2 : (op == CmpOp.NotIn) = false := by cases op <;> first | rfl | exact absurd rfl h2
  cases b <;> simp [behindInMarks, e1, e2]
/-- a comparison as a value; hm: nomark b, or (for in, not in) by with_unfolding_all rfl -/
theorem pe_cmpR {op : CmpOp} {r : R2} (ho : OpR X (compareOp op) r) (ha : PE X a ta) (hb : PE X b tb) (hm : behindInMarks op b = false) : PE X (.Compare a [op] [b] pos) (tOp r ta tb) := by
  intro pins s σ H Q I h
  exact wpAny_Compare1 (binT ha hb I h fun v u s2 x y H2 I2 rx ry q => ho pins s2 σ H2 x y v u Q I2 rx ry q) hm
/-- a reading of a value as a test -/
def tTest (t : TE) : TT := fun σ H Q => t σ H fun x H' => ∃ k, x = .bl k ∧ Q k H'
theorem pt_cmpR {op : CmpOp} {r : R2} (ho : OpR X (compareOp op) r) (ha : PE X a ta) (hb : PE X b tb) (hm : behindInMarks op b = false) : PT X (.Compare a [op] [b] pos) (tTest (tOp r ta tb)) := by
  intro pins s σ H Q I h
  refine wpAny_isTrue_Compare1 (thn (ha pins s σ H _ I h) fun v s1 ⟨x, H1, I1, r1, q1⟩ => thn (hb pins s1 σ H1 _ I1 q1) fun u s2 ⟨y, H2, I2, r2, q2⟩ =>
    thn (ho pins s2 σ H2 x y v u _ I2 r1 r2 q2) fun c s3 ⟨z, H3, I3, r3, k, e, q3⟩ => ?_) hm
  subst e
  cases r3
  exact wpAny_truthy_bool ⟨H3, I3, q3⟩
/-- a op1 b op2 c -/
def tChain (r r' : R2) (ta tb tc : TE) : TE := fun σ H Q => ta σ H fun x H1 => tb σ H1 fun y H2 => r x y H2 fun z H3 => ∃ k, z = .bl k ∧
  (if k = true then tc σ H3 fun w' H4 => r' y w' H4 Q else Q (.bl false) H3)
theorem pe_chain {op op' : CmpOp} {r r' : R2} (ho : OpR X (compareOp op) r) (ho' : OpR X (compareOp op') r') (ha : PE X a ta) (hb : PE X b tb) (hc : PE X c tc)
    (hm : lastMarks [op, op'] [b, c] = false := by with_unfolding_all rfl) : PE X (.Compare a [op, op'] [b, c] pos) (tChain r r' ta tb tc) := by
  intro pins s σ H Q I h
  refine Compare_chain (thn (ha pins s σ H _ I h) fun v s1 ⟨x, H1, I1, r1, q1⟩ => chain_link (thn (hb pins s1 σ H1 _ I1 q1) fun u s2 ⟨y, H2, I2, r2, q2⟩ =>
    thn (ho pins s2 σ H2 x y v u _ I2 r1 r2 q2) fun d s3 ⟨z, H3, I3, r3, k, e, q3⟩ => ?_)) hm
  subst e
  cases r3
  refine wpAny_truthy_bool ?_
  cases k with
  | false => exact ite_ff ⟨.bl false, H3, I3, rfl, q3⟩
  | true => exact ite_tt (chain_last (thn (hc pins s3 σ H3 _ I3 q3) fun w' s4 ⟨z', H4, I4, r4, q4⟩ => ho' pins s4 σ H4 y z' u w' Q I4 r2 r4 q4))
/-! ### truth -/
theorem line63 : (sizeLine : Nat) < 2 ^ 63 := by rw [sizeLine_eq]; decide
/-! ### strs and bytes -/
/-! ### scalar builtins, by CallR -/
theorem vals1 {x : V} {us : List Value} (r : Vals [x] us) : ∃ u, us = [u] ∧ RelV x u := by
  cases r with
  | cons r1 r2 => cases r2; exact ⟨_, rfl, r1⟩
theorem vals2 {x y : V} {us : List Value} (r : Vals [x, y] us) : ∃ u w', us = [u, w'] ∧ RelV x u ∧ RelV y w' := by
  cases r with
  | cons r1 r2 =>
    cases r2 with
    | cons r3 r4 => cases r4; exact ⟨_, _, rfl, r1, r3⟩
theorem call_abs : CallR X (.builtin "abs") (fun xs H Q => ∃ i, xs = [.int i] ∧ Q (.int (if i < 0 then -i else i)) H) := by
  intro pins s σ H xs us Q I r h
  obtain ⟨i, rfl, q⟩ := h
  obtain ⟨u, rfl, t, rfl⟩ := vals1 r
  exact call_abs_int fun u tk => ⟨.int (if i < 0 then -i else i), H, I.tok _, ⟨_, rfl⟩, q⟩
theorem call_max2 (hc : X.calm = true) : CallR X (.builtin "max") (fun xs H Q => ∃ i j, xs = [.int i, .int j] ∧ Q (.int (if j > i then j else i)) H) := by
  intro pins s σ H xs us Q I r h
  obtain ⟨i, j, rfl, q⟩ := h
  obtain ⟨u, w', rfl, ⟨t, rfl⟩, ⟨t', rfl⟩⟩ := vals2 r
  refine max_two_ints (I.ok.hd hc) fun h' tk k => ⟨_, H, I.kept k, ?_, q⟩
  by_cases hj : j > i
  · rw [if_pos hj, if_pos hj]; exact ⟨_, rfl⟩
  · rw [if_neg hj, if_neg hj]; exact ⟨_, rfl⟩
theorem call_min2 (hc : X.calm = true) : CallR X (.builtin "min") (fun xs H Q => ∃ i j, xs = [.int i, .int j] ∧ Q (.int (if j < i then j else i)) H) := by
  intro pins s σ H xs us Q I r h
  obtain ⟨i, j, rfl, q⟩ := h
  obtain ⟨u, w', rfl, ⟨t, rfl⟩, ⟨t', rfl⟩⟩ := vals2 r
  refine min_two_ints (I.ok.hd hc) fun h' tk k => ⟨_, H, I.kept k, ?_, q⟩
  by_cases hj : j < i
  · rw [if_pos hj, if_pos hj]; exact ⟨_, rfl⟩
  · rw [if_neg hj, if_neg hj]; exact ⟨_, rfl⟩
theorem call_int1 : CallR X (.type "int") (fun xs H Q => (∃ i, xs = [.int i] ∧ Q (.int i) H) ∨ ∃ k, xs = [.bl k] ∧ Q (.int (if k then 1 else 0)) H) := by
  intro pins s σ H xs us Q I r h
  rcases h with ⟨i, rfl, q⟩ | ⟨k, rfl, q⟩
  · obtain ⟨u, rfl, t, rfl⟩ := vals1 r
    exact call_int_int ⟨.int i, H, I, ⟨_, rfl⟩, q⟩
  · obtain ⟨u, rfl, r1⟩ := vals1 r
    cases r1
    exact call_int_bool ⟨.int (if k then 1 else 0), H, I.tok _, ⟨_, rfl⟩, q⟩
end
end L2

namespace L2
open PySem PySem.Spec PyProof.Rows

/-! ### an instance, its attributes a map -/
structure ObjM (h : Heap) (x dx C : Addr) (mA : Str → Option Value) : Prop where
  obj : h.get? x = some (PySem.W.instObj C dx)
  ns : h.Ns1 dx mA
  ne : dx ≠ x

theorem lookIn_ns {h : Heap} {dx : Addr} {mA : Str → Option Value} (n : h.Ns1 dx mA) : ∃ od, h.get? dx = some od ∧ ∀ name, PySem.W.lookIn name od = some (mA name) := by
  obtain ⟨o, es, ep, ho, hd, hk, _, hm⟩ := n
  refine ⟨o, ho, fun name => ?_⟩
  have e := hm name
  unfold nsFind findBy at e
  rw [← Array.find?_toList] at e
  unfold PySem.W.lookIn
  rw [hd]
  dsimp only
  split
  · rename_i y q
    rw [q] at e
    exact congrArg some e
  · rename_i q
    rw [q] at e
    have a : es.toList.any (·.refKey) = false := by
      rw [List.any_eq_false]
      intro y hy
      obtain ⟨z, t, hkey⟩ := hk y (Array.mem_toList_iff.mp hy)
      simp [DictEntry.refKey, hkey]
    have a' : ¬ es.toList.any (·.refKey) = true := by rw [a]; exact Bool.false_ne_true
    rw [if_neg a']
    exact congrArg some e

theorem ObjM.look {h : Heap} {x dx C : Addr} {mA : Str → Option Value} (I : ObjM h x dx C mA) : ∃ od, PySem.W.InstAt h x (PySem.W.instObj C dx) C (some od) ∧ ∀ name, PySem.W.lookIn name od = some (mA name) :=
  let ⟨od, ho, hl⟩ := lookIn_ns I.ns
  ⟨od, ⟨I.obj, rfl, rfl, ho⟩, hl⟩

section
variable {prog : Program} {w : World} {A : Around} {E : Value → Shared → Prop} {s : Shared} {K : PySem.W.Frag} {x dx C f : Addr} {mA : Str → Option Value} {name : Str} {v : Value}

theorem get_map {expr : Bool} {Q : Value → Shared → Prop} (X : K.In s.heap) (I : ObjM s.heap x dx C mA) (hg : PySem.W.plainGet K C name = true) (hh : PySem.W.hasDictIn K C = true)
    (ha : PySem.W.findIn K (.ref C) name = some none) (hv : mA name = some v) (hv' : PySem.W.handedIn v = true) (h : Q v { s with toks := s.toks + 1 }) :
    wpAny (model prog w) A (getAttr (.ref x) name expr) Q E s := by
  obtain ⟨od, J, hl⟩ := I.look
  exact PySem.W.get_value X J (PySem.W.plainGet_of hg).1 (PySem.W.findObj_own hh ha rfl (by rw [hl, hv])) hv' h

theorem get_meth {pl : Sem Bool} {Q : Value × List Value → Shared → Prop} (X : K.In s.heap) (I : ObjM s.heap x dx C mA) (hg : PySem.W.plainGet K C name = true)
    (hf : PySem.W.findIn K (.ref C) name = some (some (.ref f))) (ht : PySem.W.isFn K (.ref f) = true) (hv : mA name = none) (h : Q (.ref f, [.ref x]) s) :
    wpAny (model prog w) A (getMethod (.ref x) name pl) Q E s := by
  obtain ⟨od, J, hl⟩ := I.look
  exact PySem.W.method_fn X J (PySem.W.plainGet_of hg).1 (PySem.W.plainGet_of hg).2 hf (beq_iff_eq.mp ht) (by show (PySem.W.lookIn name od).map (·.isSome) = some false; rw [hl, hv]; rfl) h

theorem set_map {ns : List Str} {Q : Unit → Shared → Prop} (X : K.In s.heap) (I : ObjM s.heap x dx C mA)
    (hs : PySem.W.findIn K (.ref C) "__setattr__" = some (some (.builtin "object.__setattr__"))) (hp : PySem.W.plainOver K C = true) (ht : PySem.W.takerIn K C name = some none) (hh : PySem.W.hasDictIn K C = true)
    (hw : PySem.Within mA ns) (hsz : ns.length ≤ sizeLine)
    (h : ∀ h', ObjM h' x dx C (fun y => if y = name then some v else mA y) → Heap.SameBut dx s.heap h' → Q () { s with heap := h', toks := s.toks + 2 }) :
    wpAny (model prog w) A (setAttr (.ref x) name v) Q E s := by
  obtain ⟨od, J, hl⟩ := I.look
  refine PySem.W.set_plain X J hs (PySem.W.osa_open (s := { s with toks := s.toks + 1 }) (r := none) X J hp ht fun b => ?_)
  obtain ⟨cd, hc, hd'⟩ := PySem.W.any_some hh
  have hx : s.heap.get? x = some ⟨.ref C, some dx, .plain, #[]⟩ := I.obj
  refine wpAny_bind (wpAny_pure (wpAny_bind (wpAny_bind (wpAny_loadPart hx (wpAny_bind (PySem.W.Looks.here (s := { s with toks := s.toks + 1 }) (PySem.W.looks_clsIn X hc) ?_))))))
  rw [hd']
  refine wpAny_pure (a := some dx) (wpAny_bind (wpAny_pure (wpAny_bind ?_)))
  refine wpAny_nsSet1 (s := { s with toks := s.toks + 1 }) I.ns fun h' hn2 hs2 => ?_
  obtain ⟨oD, esD, epD, hoD, hdD, hcD⟩ := hn2.count (PySem.Within.cons name v hw)
  refine wpAny_bind (wpAny_lookBehind hoD (by rw [hdD]; exact pastItsLine_dict (Nat.le_trans hcD (by rw [List.length_cons]; omega))) ?_)
  exact wpAny_pure (h _ ⟨(hs2.2 _ (Ne.symm I.ne)).trans I.obj, hn2, I.ne⟩ hs2)

/-- C(..): the dict at the heap's end, the instance behind it; then its __init__ -/
theorem make_map {R : Result → Shared → Prop} {vs : List Value} {kw : List (Str × Value)} (X : K.In s.heap) (hm : PySem.W.makesIn K C = true)
    (hi : PySem.W.findIn K (.ref C) "__init__" = some (some (.ref f))) (hf : PySem.W.typeIn K (.ref f) = some (.type "function"))
    (h : codeAny (model prog w) (A.under (.builtin "type.__call__" ⟨.ref C :: vs, kw⟩)) (.call (.ref f) ⟨.ref (s.heap.objs.size + 1) :: vs, kw⟩) (PySem.W.InitBack (s.heap.objs.size + 1) R)
      { s with heap := (s.heap.push PySem.W.emptyDict).push (PySem.W.instObj C s.heap.objs.size) }) :
    codeAny (model prog w) A (.call (.ref C) ⟨vs, kw⟩) R s := by
  obtain ⟨hh, g, d, t, os⟩ := s
  exact PySem.W.make_core (PySem.W.makes_of X hm) (PySem.W.looks_findIn X hi) (fun self => PySem.W.bind_fn X self hf) (.inl rfl) h
end

/-! ### the attributes as a list of pairs -/
def putF (f : Str) (v : V) : List (Str × V) → List (Str × V)
  | [] => [(f, v)]
  | (g, x) :: r => if g = f then (g, v) :: r else (g, x) :: putF f v r
theorem lookup_putF (f g : Str) (v : V) : ∀ fs : List (Str × V), (putF f v fs).lookup g = if g = f then some v else fs.lookup g
  | [] => by
    show List.lookup g [(f, v)] = _
    by_cases h : g = f
    · have hb : (g == f) = true := beq_iff_eq.mpr h
      simp only [List.lookup, hb, if_pos h]
    · have hb : (g == f) = false := beq_eq_false_iff_ne.mpr h
      simp only [List.lookup, hb, if_neg h]
  | (k, x) :: r => by
    have ih := lookup_putF f g v r
    rw [show putF f v ((k, x) :: r) = (if k = f then (k, v) :: r else (k, x) :: putF f v r) from rfl]
    by_cases hk : k = f
    · rw [if_pos hk]
      by_cases h : g = k
      · have hb : (g == k) = true := beq_iff_eq.mpr h
        simp only [List.lookup, hb, if_pos (h.trans hk)]
      · have hb : (g == k) = false := beq_eq_false_iff_ne.mpr h
        simp only [List.lookup, hb, if_neg (fun e : g = f => h (e.trans hk.symm))]
    · rw [if_neg hk]
      by_cases h : g = k
      · have hb : (g == k) = true := beq_iff_eq.mpr h
        simp only [List.lookup, hb, if_neg (fun e : g = f => hk (h.symm.trans e))]
      · have hb : (g == k) = false := beq_eq_false_iff_ne.mpr h
        simp only [List.lookup, hb]
        exact ih
theorem keys_putF (f : Str) (v : V) : ∀ fs : List (Str × V), f ∈ (putF f v fs).map (·.1) ∧ ∀ g, g ∈ fs.map (·.1) → g ∈ (putF f v fs).map (·.1)
  | [] => ⟨by simp [putF], fun g h => by simp at h⟩
  | (k, x) :: r => by
    obtain ⟨i1, i2⟩ := keys_putF f v r
    rw [show putF f v ((k, x) :: r) = (if k = f then (k, v) :: r else (k, x) :: putF f v r) from rfl]
    by_cases hk : k = f
    · rw [if_pos hk]
      subst hk
      exact ⟨by simp, fun g h => by simpa using h⟩
    · rw [if_neg hk]
      refine ⟨?_, fun g h => ?_⟩
      · rw [List.map_cons]
        exact List.mem_cons_of_mem _ i1
      · rw [List.map_cons] at h ⊢
        rcases List.mem_cons.mp h with e | e
        · exact List.mem_cons.mpr (.inl e)
        · exact List.mem_cons_of_mem _ (i2 g e)
theorem length_putF (f : Str) (v : V) : ∀ fs : List (Str × V), (putF f v fs).length ≤ fs.length + 1
  | [] => by simp [putF]
  | (k, x) :: r => by
    have ih := length_putF f v r
    rw [show putF f v ((k, x) :: r) = (if k = f then (k, v) :: r else (k, x) :: putF f v r) from rfl]
    by_cases hk : k = f
    · rw [if_pos hk, List.length_cons, List.length_cons]; omega
    · rw [if_neg hk, List.length_cons, List.length_cons]; omega

theorem RelO.some_of {v : V} {o : Option Value} (r : RelO (some v) o) : ∃ u, o = some u ∧ RelV v u := by
  cases o with
  | none => exact (show False from r).elim
  | some u => exact ⟨u, rfl, r⟩
theorem RelO.none_of {o : Option Value} (r : RelO none o) : o = none := by
  cases o with
  | none => rfl
  | some u => exact (show False from r).elim
theorem handed_of {v : V} {u : Value} (r : RelV v u) : PySem.W.handedIn u = true := by
  cases v with
  | non => cases (show u = Value.none from r); rfl
  | bl b => cases (show u = Value.bool b from r); rfl
  | int i => obtain ⟨t, e⟩ := (show ∃ t, u = Value.int i t from r); cases e; rfl
  | str x => obtain ⟨t, e⟩ := (show ∃ t, u = Value.str x t from r); cases e; rfl
  | byt b => obtain ⟨t, e⟩ := (show ∃ t, u = Value.bytes b t from r); cases e; rfl
  | flt b => obtain ⟨t, e⟩ := (show ∃ t, u = Value.float b t from r); cases e; rfl
  | ref a => cases (show u = Value.ref a from r); rfl
  | ty n => cases (show u = Value.type n from r); rfl

section
variable {P : Program} {w : World} {H H' : Hp} {h h' : Heap} {a C dx : Addr} {fs fs' : List (Str × V)}
theorem ins_get (hok : HOk P w H h) (e : H a = some (.ins C dx fs)) : ∃ mA, ObjM h a dx C mA ∧ (∀ f, RelO (fs.lookup f) (mA f)) ∧ PySem.Within mA (fs.map (·.1)) ∧ fs.length ≤ 1000 ∧ H dx = some (.own a) := by
  obtain ⟨d, z, ne, ob, mA, n, r, q⟩ := (show ObjOk P w H h a (.ins C dx fs) from hok a _ e)
  exact ⟨mA, ⟨ob, n, ne⟩, r, q, z, d⟩
end

/-! ### what of the text a class must have -/
structure Cls (K : PySem.W.Frag) (C : Addr) : Prop where
  pg : PySem.W.plainGet K C Str.empty = true
  hd : PySem.W.hasDictIn K C = true
  po : PySem.W.plainOver K C = true
  sa : PySem.W.findIn K (.ref C) "__setattr__" = some (some (.builtin "object.__setattr__"))
theorem Cls.get {K : PySem.W.Frag} {C : Addr} (c : Cls K C) (f : Str) : PySem.W.plainGet K C f = true := c.pg
/-- no class of it has the name -/
def NoAttr (K : PySem.W.Frag) (C : Addr) (f : Str) : Prop := PySem.W.findIn K (.ref C) f = some none
theorem NoAttr.taker {K : PySem.W.Frag} {C : Addr} {f : Str} (n : NoAttr K C f) : PySem.W.takerIn K C f = some none := by
  unfold PySem.W.takerIn
  rw [show PySem.W.findIn K (.ref C) f = some none from n]
  rfl
/-- a constant of the class -/
structure Con (K : PySem.W.Frag) (C : Addr) (f : Str) (v : V) (u : Value) : Prop where
  at_ : PySem.W.findIn K (.ref C) f = some (some u)
  rel : RelV v u
  get : PySem.W.specialIn K u "__get__" = some none
  cp : PySem.W.copiedNames.contains f = false
/-- a method: a plain def of the class or of one above it -/
structure Meth (K : PySem.W.Frag) (C : Addr) (m : Str) (f : Addr) : Prop where
  at_ : PySem.W.findIn K (.ref C) m = some (some (.ref f))
  fn : PySem.W.isFn K (.ref f) = true
  kp : PySem.W.keepIn K (.ref f) = true

section
variable {X : Cx} {pins : List (Addr × Obj)} {σ : St} {H : Hp} {s : Shared} {a C dx : Addr} {fs : List (Str × V)} {f : Str} {v : V} {A : Around} {E : Value → Shared → Prop}

theorem getattr_ok {b : Bool} {Q : Value → Shared → Prop} (I : Inv X pins σ H s) (e : H a = some (.ins C dx fs)) (c : Cls X.K C) (n : NoAttr X.K C f) (l : fs.lookup f = some v)
    (h : ∀ u s', Inv X pins σ H s' → RelV v u → Q u s') : wpAny (model X.prog X.w) A (getAttr (.ref a) f b) Q E s := by
  obtain ⟨mA, O, r, _, _, _⟩ := ins_get I.hok e
  obtain ⟨u, hu, ru⟩ := RelO.some_of (v := v) (o := mA f) (by rw [← l]; exact r f)
  exact get_map I.kIn O (c.get f) c.hd n hu (handed_of ru) (h u _ (I.tok _) ru)

theorem getmeth_ok {m : Str} {g : Addr} {pl : Sem Bool} {Q : Value × List Value → Shared → Prop} (I : Inv X pins σ H s) (e : H a = some (.ins C dx fs)) (c : Cls X.K C) (k : Meth X.K C m g) (l : fs.lookup m = none)
    (h : Q (.ref g, [.ref a]) s) : wpAny (model X.prog X.w) A (getMethod (.ref a) m pl) Q E s := by
  obtain ⟨mA, O, r, _, _, _⟩ := ins_get I.hok e
  have hn : mA m = none := RelO.none_of (by rw [← l]; exact r m)
  exact get_meth I.kIn O (c.get m) k.at_ k.fn hn h

theorem setattr_ok {y : V} {u : Value} {Q : Unit → Shared → Prop} (I : Inv X pins σ H s) (e : H a = some (.ins C dx fs)) (c : Cls X.K C) (n : NoAttr X.K C f) (hl : fs.length < 1000) (ry : RelV y u)
    (h : ∀ s', Inv X pins σ (upd H a (.ins C dx (putF f y fs))) s' → Q () s') : wpAny (model X.prog X.w) A (setAttr (.ref a) f u) Q E s := by
  obtain ⟨mA, O, r, wi, _, ho⟩ := ins_get I.hok e
  have hz : (fs.map (·.1)).length ≤ sizeLine := by rw [List.length_map, sizeLine_eq]; omega
  refine set_map I.kIn O c.sa c.po n.taker c.hd wi hz fun h' O' sb => h _ ?_
  have hd : ∃ o, h'.get? dx = some o := let ⟨o, _, _, e', _⟩ := O'.ns; ⟨o, e'⟩
  refine I.write (x := a) (e := dx) (by rw [e]; exact True.intro) (.inr ho) (fun b q hb z => (sb.2 b hb).trans z) hd ?_
  refine ⟨by rw [upd_ne O.ne]; exact ho, ?_, O.ne, O'.obj, _, O'.ns, fun g => ?_, fun g hg => ?_⟩
  · have := length_putF f y fs; omega
  · show RelO ((putF f y fs).lookup g) (if g = f then some u else mA g)
    rw [lookup_putF]
    by_cases q : g = f
    · rw [if_pos q, if_pos q]; exact ry
    · rw [if_neg q, if_neg q]; exact r g
  · by_cases q : g = f
    · rw [q]; exact (keys_putF f y fs).1
    · refine (keys_putF f y fs).2 g (wi g fun z => hg ?_)
      show (if g = f then some u else mA g) = none
      rw [if_neg q]; exact z

/-- a new instance, tracked, without attributes -/
theorem Inv.made (I : Inv X pins σ H s) : Inv X pins σ (upd (upd H s.heap.objs.size (.own (s.heap.objs.size + 1))) (s.heap.objs.size + 1) (.ins C s.heap.objs.size []))
    { s with heap := (s.heap.push PySem.W.emptyDict).push (PySem.W.instObj C s.heap.objs.size) } := by
  have e1 : (s.heap.push PySem.W.emptyDict).get? s.heap.objs.size = some PySem.W.emptyDict := Heap.get?_push_size s.heap rfl
  have e2 : ((s.heap.push PySem.W.emptyDict).push (PySem.W.instObj C s.heap.objs.size)).get? (s.heap.objs.size + 1) = some (PySem.W.instObj C s.heap.objs.size) := by
    have := Heap.get?_push_size (s.heap.push PySem.W.emptyDict) (o := PySem.W.instObj C s.heap.objs.size) rfl
    rwa [Heap.size_push] at this
  have e3 : (s.heap.push PySem.W.emptyDict).Ns s.heap.objs.size (fun _ => none) := ⟨PySem.W.emptyDict, #[], _, e1, rfl, (fun e he => absurd he (by simp)), fun _ => rfl⟩
  have I1 := I.laid (a := s.heap.objs.size) (o := .own (s.heap.objs.size + 1)) (h' := s.heap.push PySem.W.emptyDict) (t' := s.toks) (fun b u q => Heap.get?_push_of_some _ q) (Nat.le_refl _) ⟨_, e1⟩
  refine I1.laid (a := s.heap.objs.size + 1) (o := .ins C s.heap.objs.size []) (t' := s.toks) (fun b u q => Heap.get?_push_of_some _ q) (Nat.le_of_eq (Heap.size_push _ _)) ?_
  have ne : s.heap.objs.size ≠ s.heap.objs.size + 1 := Nat.ne_of_lt (Nat.lt_succ_self _)
  refine ⟨by rw [upd_ne ne, upd_same], Nat.zero_le _, ne, e2, fun _ => none, (Heap.Ns1.of_empty e3).at fun o q => Heap.get?_push_of_some _ q, fun _ => True.intro, fun y hy => absurd rfl hy⟩

/-- e.f where nothing but the object is asked: through attributeBase (super) and the last hold -/
theorem attr_of {prog : Program} {w : World} {env : Env} {e : Expr} {f : Str} {pos : Pos} {s : Shared} {Q : Value → Shared → Prop} (hb : attributeBase e f env (eval e env) = eval e env)
    (h : wpAny (model prog w) A (eval e env) (fun o s₁ => wpAny (model prog w) A (getAttr o f true) Q E s₁) E s) : wpAny (model prog w) A (eval (.Attribute e f pos) env) Q E s :=
  Attribute_any_ h (by rw [arm_eval_Attribute, hb])
end

/-! ### readings and rules -/
/-- e.f, an attribute of the instance -/
def tFld (K : PySem.W.Frag) (ta : TE) (f : Str) : TE := fun σ H Q => ta σ H fun x H1 => ∃ a C dx fs v, x = .ref a ∧ H1 a = some (.ins C dx fs) ∧ Cls K C ∧ NoAttr K C f ∧ fs.lookup f = some v ∧ Q v H1
/-- e.f = value -/
def sFld (K : PySem.W.Frag) (ta tv : TE) (f : Str) : TS := fun D σ H => tv σ H fun y H1 => ta σ H1 fun x H2 => ∃ a C dx fs, x = .ref a ∧ H2 a = some (.ins C dx fs) ∧ Cls K C ∧ NoAttr K C f ∧ fs.length < 1000 ∧
  D.nx σ (upd H2 a (.ins C dx (putF f y fs)))
section
variable {X : Cx} {o e value : Expr} {f : Str} {pos pos' tpos : Pos} {ta tv : TE}
theorem pe_fld (he : PE X e ta) (hb : attributeBase e f X.env (eval e X.env) = eval e X.env) : PE X (.Attribute e f pos) (tFld X.K ta f) := by
  intro pins s σ H Q I h
  refine attr_of hb (thn (he pins s σ H _ I h) fun u s1 ⟨x, H1, I1, rx, a, C, dx, fs, v, ex, ea, c, n, l, q⟩ => ?_)
  subst ex
  obtain rfl : u = Value.ref a := rx
  exact getattr_ok I1 ea c n l fun u' s2 I2 ru => ⟨v, H1, I2, ru, q⟩
theorem ps_fld (ha : PE X o ta) (hv : PE X value tv) (hs : swapsWith value (some (.Attribute o f pos')) pos.line X.env = pure false) : PS X (.Assign [.Attribute o f pos'] value pos) (sFld X.K ta tv f) := by
  intro pins s σ H D I h
  refine plainObj_wpAny_Assign_Attribute (thn (hv pins s σ H _ I h) fun u s1 ⟨y, H1, I1, ry, q⟩ => thn (ha pins s1 σ H1 _ I1 q) fun ov s2 ⟨x, H2, I2, rx, a, C, dx, fs, ex, ea, c, n, l, q2⟩ => ?_) hs
  subst ex
  obtain rfl : ov = Value.ref a := rx
  exact setattr_ok I2 ea c n l ry fun s3 I3 => ⟨σ, _, I3, q2⟩
end

/-! ### isinstance -/
section
variable {X : Cx} {pins : List (Addr × Obj)} {σ : St} {H : Hp} {s : Shared} {A : Around} {E : Value → Shared → Prop} {Q : Value → Shared → Prop} {c : Value} {b : Bool}
/-- the type of a value, as the fragment's deciders take it; for an instance its class -/
inductive TyOf (K : PySem.W.Frag) (H : Hp) : V → Value → Prop where
  | non : TyOf K H .non (.type "NoneType")
  | bl (x : Bool) : TyOf K H (.bl x) (.type "bool")
  | int (i : Int) : TyOf K H (.int i) (.type "int")
  | str (x : Str) : TyOf K H (.str x) (.type "str")
  | flt (x : UInt64) : TyOf K H (.flt x) (.type "float")
  | lst {a : Addr} {xs : List V} (e : H a = some (.lst xs)) : TyOf K H (.ref a) (.type "list")
  | frz {a : Addr} {o : Obj} {xs : List V} (e : H a = some (.frz o (.lst xs))) : TyOf K H (.ref a) (.type "list")
  | tup {a : Addr} {xs : List V} (e : H a = some (.tup xs)) : TyOf K H (.ref a) (.type "tuple")
  | dK {a : Addr} {kvs : List (Key × V)} (e : H a = some (.dK kvs)) : TyOf K H (.ref a) (.type "dict")
  | dT {a : Addr} {kvs : List (List Key × V)} (e : H a = some (.dT kvs)) : TyOf K H (.ref a) (.type "dict")
  | ins {a C dx : Addr} {fs : List (Str × V)} (e : H a = some (.ins C dx fs)) (cl : Cls K C) (ha : PySem.W.findIn K (.ref C) "__class__" = some (some (.builtin "object.__class__")))
      (hn : PySem.W.specialIn K (.builtin "object.__class__") "__get__" = some (some (.builtin "getset_descriptor.__get__"))) (htk : PySem.W.takesIn K (.builtin "object.__class__") = some true)
      (hm : PySem.W.mroIn K C (.type "object") = some true) : TyOf K H (.ref a) (.ref C)
/-- isinstance(x, c) for one class c, a built-in or an own one: kitOne's answer -/
theorem isinst_ok {x : V} {u t : Value} (I : Inv X pins σ H s) (rx : RelV x u) (ty : TyOf X.K H x t) (e : PySem.W.kitOne X.K t c = some b) (h : ∀ tk, Q (.bool b) { s with toks := tk }) :
    wpAny (model X.prog X.w) A (call (.builtin "isinstance") [u, c]) Q E s := by
  cases ty with
  | non => cases (show u = Value.none from rx); exact PySem.W.kia_one PySem.W.kitx_none I.kIn True.intro e (fun z => nomatch z) h
  | bl y => cases (show u = Value.bool y from rx); exact PySem.W.kia_one PySem.W.kitx_bool I.kIn True.intro e (fun z => nomatch z) h
  | int i => obtain ⟨t, q⟩ := (show ∃ t, u = Value.int i t from rx); cases q; exact PySem.W.kia_one PySem.W.kitx_int I.kIn True.intro e (fun z => nomatch z) h
  | str y => obtain ⟨t, q⟩ := (show ∃ t, u = Value.str y t from rx); cases q; exact PySem.W.kia_one PySem.W.kitx_str I.kIn True.intro e (fun z => nomatch z) h
  | flt y => obtain ⟨t, q⟩ := (show ∃ t, u = Value.float y t from rx); cases q; exact PySem.W.kia_one PySem.W.kitx_float I.kIn True.intro e (fun z => nomatch z) h
  | @lst a xs ea =>
    cases (show u = Value.ref a from rx)
    obtain ⟨_, _, n, _, h1⟩ := (show ObjOk X.prog X.w H s.heap a (.lst xs) from I.hok a _ ea)
    exact PySem.W.kia_one PySem.W.kitx_list I.kIn ⟨_, h1, rfl⟩ e (fun z => nomatch z) h
  | @frz a ob xs ea =>
    cases (show u = Value.ref a from rx)
    obtain ⟨_, _, _, n, _, h1⟩ := (show ObjOk X.prog X.w H s.heap a (.frz ob (.lst xs)) from I.hok a _ ea)
    exact PySem.W.kia_one PySem.W.kitx_list I.kIn ⟨_, h1, rfl⟩ e (fun z => nomatch z) h
  | @tup a xs ea =>
    cases (show u = Value.ref a from rx)
    obtain ⟨_, _, _, p⟩ := (show ObjOk X.prog X.w H s.heap a (.tup xs) from I.hok a _ ea)
    obtain ⟨o, h1, h2, _⟩ := p
    exact PySem.W.kia_one PySem.W.kitx_tuple I.kIn ⟨o, h1, h2⟩ e (fun z => nomatch z) h
  | @dK a kvs ea =>
    cases (show u = Value.ref a from rx)
    obtain ⟨_, _, vs, _, p⟩ := (show ObjOk X.prog X.w H s.heap a (.dK kvs) from I.hok a _ ea)
    obtain ⟨o, es, ep, h1, h2, _⟩ := p
    exact PySem.W.kia_one PySem.W.kitx_dict I.kIn ⟨o, h1, h2.1⟩ e (fun z => nomatch z) h
  | @dT a kvs ea =>
    cases (show u = Value.ref a from rx)
    obtain ⟨_, _, xs, _, o, es, ep, h1, h2, _⟩ := (show ObjOk X.prog X.w H s.heap a (.dT kvs) from I.hok a _ ea)
    exact PySem.W.kia_one PySem.W.kitx_dict I.kIn ⟨o, h1, h2.1⟩ e (fun z => nomatch z) h
  | @ins a C dx fs ea cl ha hn htk hm =>
    cases (show u = Value.ref a from rx)
    obtain ⟨mA, O, _⟩ := ins_get I.hok ea
    obtain ⟨od, J, _⟩ := O.look
    exact PySem.W.kia_one (PySem.W.kitx_own (cl.get _) cl.hd ha hn htk hm) I.kIn J e (fun z => nomatch z) h
end
end L2

namespace L2
open PySem PySem.Spec PyProof.Rows

/-! ### room -/
structure Room (k : Nat) (A : Around) : Prop where
  hd : A.handled = none
  dp : A.depth + 3 * k + 5 < recursionLimit
  un : A.units + 16 * k + 200 < cLine
theorem Room.mono {j k : Nat} {A : Around} (r : Room k A) (h : j ≤ k) : Room j A := ⟨r.hd, by have := r.dp; omega, by have := r.un; omega⟩
theorem Room.deeper {k : Nat} {A : Around} (r : Room (k + 1) A) (env : Env) : Room k (A.deeper env) :=
  ⟨r.hd, by have := r.dp; show A.depth + 1 + 3 * k + 5 < _; omega, by have := r.un; show A.units + 3 + 16 * k + 200 < _; omega⟩
theorem Room.in1 {k : Nat} {A : Around} (r : Room (k + 1) A) : Room k A.in1 :=
  ⟨r.hd, by have := r.dp; show A.depth + 3 * k + 5 < _; omega, by have := r.un; show A.units + 1 + 16 * k + 200 < _; omega⟩
theorem make_depth {A : Around} {C : Addr} {us : List Value} {kw : List (Str × Value)} : (A.under (.builtin "type.__call__" ⟨.ref C :: us, kw⟩)).depth = A.depth + 1 := by
  first | rfl | simp [Around.under, Code.weight, Code.isCreation, Code.isGuard, Code.isCaller, Code.frames, Code.isFrame, guardIds]
theorem make_units {A : Around} {C : Addr} {us : List Value} {kw : List (Str × Value)} : (A.under (.builtin "type.__call__" ⟨.ref C :: us, kw⟩)).units = A.units + 1 := by
  first | rfl | simp [Around.under, Code.cUnits, Code.frames, Code.isFrame]
theorem Room.make {k : Nat} {A : Around} (r : Room (k + 1) A) (C : Addr) (us : List Value) (kw : List (Str × Value)) : Room k (A.under (.builtin "type.__call__" ⟨.ref C :: us, kw⟩)) :=
  ⟨r.hd, by have := r.dp; rw [make_depth]; omega, by have := r.un; rw [make_units]; omega⟩
theorem Room.depth {k : Nat} {A : Around} (r : Room k A) : A.depth < recursionLimit := by have := r.dp; omega
theorem Room.units {k : Nat} {A : Around} (r : Room k A) : A.units + 64 < cLine := by have := r.un; omega
/-! ### argument lists and displays -/
def tNil : TA := fun _ H Q => Q [] H
def tCons (ta : TE) (tr : TA) : TA := fun σ H Q => ta σ H fun x H1 => tr σ H1 fun xs H2 => Q (x :: xs) H2
section
variable {X : Cx} {e : Expr} {es : List Expr} {te : TE} {t : TA} {pos : Pos}
theorem pa_nil : PA X [] tNil := fun _ _ _ _ H Q I h => Calls.spliced_nil ⟨[], H, I, .nil, h⟩
theorem pa_cons (ha : PE X e te) (hr : PA X es t) (hs : starEach (e :: es) X.env = (false, eval e X.env) :: starEach es X.env := by rfl) : PA X (e :: es) (tCons te t) := by
  intro pos pins s σ H Q I h
  rw [hs]
  show wpAny _ _ (spliced ((false, eval e X.env) :: backTo pos (starEach es X.env))) _ _ s
  refine Calls.spliced_cons (thn (ha pins s σ H _ I h) fun u s1 ⟨x, H1, I1, r1, q1⟩ => ?_)
  exact thn (hr pos pins s1 σ H1 _ I1 q1) fun us s2 ⟨xs, H2, I2, r2, q2⟩ => ⟨x :: xs, H2, I2, .cons r1 r2, q2⟩

/-- a tuple, a list of written items -/
def tTup (t : TA) : TE := fun σ H Q => t σ H fun xs H1 => xs.length ≤ sizeLine ∧ ∀ p, H1 p = none → Q (.ref p) (upd H1 p (.tup xs))
def tLst (t : TA) : TE := fun σ H Q => t σ H fun xs H1 => xs.length ≤ sizeLine ∧ ∀ p, H1 p = none → Q (.ref p) (upd H1 p (.lst xs))
theorem pe_tup {x1} (h : PA X es t) : PE X (.Tuple es x1 pos) (tTup t) := by
  intro pins s σ H Q I hq
  refine wpAny_Tuple_spliced (thn (h pos pins s σ H _ I hq) fun us s1 ⟨xs, H1, I1, r, z, q⟩ => ⟨by rw [← r.length]; exact z, ?_⟩)
  have hf : H1 s1.heap.objs.size = none := I1.hok.fresh (Nat.le_refl _)
  refine ⟨.ref s1.heap.objs.size, upd H1 s1.heap.objs.size (.tup xs), I1.laid (t' := s1.toks) (fun b u e => Heap.get?_push_of_some _ e) (Nat.le_refl _) ?_, rfl, q _ hf⟩
  exact ⟨z, us, r, ⟨_, Heap.get?_push_size _ rfl, rfl, _, rfl⟩⟩
theorem pe_lst (h : PA X es t) : PE X (.List es pos) (tLst t) := by
  intro pins s σ H Q I hq
  refine wpAny_List_spliced (thn (h pos pins s σ H _ I hq) fun us s1 ⟨xs, H1, I1, r, z, q⟩ => ⟨by rw [← r.length]; exact z, ?_⟩)
  have hf : H1 s1.heap.objs.size = none := I1.hok.fresh (Nat.le_refl _)
  refine ⟨.ref s1.heap.objs.size, upd H1 s1.heap.objs.size (.lst xs), I1.laid (t' := s1.toks) (fun b u e => Heap.get?_push_of_some _ e) (Nat.le_refl _) ?_, rfl, q _ hf⟩
  exact ⟨z, us, 0, r, Heap.get?_push_size _ rfl⟩
end

/-! ### what a def promises -/
/-- a def's promise: the bound arguments in the parameters' order, the heap, the wanted end, the wanted exception -/
abbrev Sp := List V → Hp → VK → XK → Prop
/-- how an exception lies behind a call (file 08 gives it): the callers' frames, abstract heap and state ahead of the call, the wish, the exception, the state -/
abbrev CXT := List Env → Hp → Shared → XK → Value → Shared → Prop

/-- the state at a call -/
structure Env0 (P : Program) (w : World) (K : PySem.W.Frag) (mg : Str → Option Value) (base : Heap) (A : Around) (outer : List Env) (s : Shared) (H : Hp) : Prop where
  frames : A.frames = some outer
  mod : Mod K mg base
  bs : ∀ b o, base.get? b = some o → s.heap.get? b = some o ∧ H b = none
  bsz : base.objs.size ≤ s.heap.objs.size
  funs : s.heap.FunFrames base outer
  frf : ∀ b ∈ frs outer, H b = none
  hok : HOk P w H s.heap
  bare : AllBare s.gens
/-- a call's end -/
def CE (outer : List Env) (P : Program) (w : World) (H : Hp) (s : Shared) (Q : VK) (u : Value) (s' : Shared) : Prop :=
  ∃ v H', s'.os = s.os ∧ AllBare s'.gens ∧ Un (frs outer) [] H H' s.heap s'.heap ∧ HOk P w H' s'.heap ∧ RelV v u ∧ Q v H'
def CR (CX : CXT) (outer : List Env) (P : Program) (w : World) (H : Hp) (s : Shared) (Q : VK) (E : XK) (r : Result) (s' : Shared) : Prop :=
  match r with
  | .ok (.ret u) => CE outer P w H s Q u s'
  | .ok _ => False
  | .error e => CX outer H s E e s'
structure FnOk (P : Program) (w : World) (K : PySem.W.Frag) (mg : Str → Option Value) (base : Heap) (CX : CXT) (k : Nat) (f : Addr) (fd : FuncData) (ps : List Str) (sp : Sp) : Prop where
  len : ∀ vs H Q E, sp vs H Q E → vs.length = ps.length
  run : ∀ (A : Around) (outer : List Env) (s : Shared) (H : Hp) (args : Args) (us : List Value) (vs : List V) (Q : VK) (E : XK), Room k A → Env0 P w K mg base A outer s H → BindsTo s fd args (ps.zip us) → Vals vs us → sp vs H Q E →
    codeAny (model P w) A (.call (.ref f) args) (CR CX outer P w H s Q E) s
theorem FnOk.mono {P : Program} {w : World} {K : PySem.W.Frag} {mg : Str → Option Value} {base : Heap} {CX : CXT} {j k : Nat} {f : Addr} {fd : FuncData} {ps : List Str} {sp : Sp} (F : FnOk P w K mg base CX j f fd ps sp) (h : j ≤ k) :
    FnOk P w K mg base CX k f fd ps sp := ⟨F.len, fun A outer s H args us vs Q E hr => F.run A outer s H args us vs Q E (hr.mono h)⟩
/-- a weaker promise -/
theorem FnOk.imp {P : Program} {w : World} {K : PySem.W.Frag} {mg : Str → Option Value} {base : Heap} {CX : CXT} {k : Nat} {f : Addr} {fd : FuncData} {ps : List Str} {sp sp' : Sp} (F : FnOk P w K mg base CX k f fd ps sp)
    (h : ∀ vs H Q E, sp' vs H Q E → sp vs H Q E) : FnOk P w K mg base CX k f fd ps sp' :=
  ⟨fun vs H Q E q => F.len vs H Q E (h _ _ _ _ q), fun A outer s H args us vs Q E hr he hb hv hs => F.run A outer s H args us vs Q E hr he hb hv (h _ _ _ _ hs)⟩

theorem Env0.make {P : Program} {w : World} {K : PySem.W.Frag} {mg : Str → Option Value} {base : Heap} {A : Around} {outer : List Env} {s : Shared} {H : Hp} (e : Env0 P w K mg base A outer s H) (C : Addr) (us : List Value) (kw : List (Str × Value)) :
    Env0 P w K mg base (A.under (.builtin "type.__call__" ⟨.ref C :: us, kw⟩)) outer s H := ⟨by first | exact e.frames | (simpa [Around.under, Code.envs, Code.isFrame, pushEnvs] using e.frames), e.mod, e.bs, e.bsz, e.funs, e.frf, e.hok, e.bare⟩
theorem Env0.in1 {P : Program} {w : World} {K : PySem.W.Frag} {mg : Str → Option Value} {base : Heap} {A : Around} {outer : List Env} {s : Shared} {H : Hp} (e : Env0 P w K mg base A outer s H) :
    Env0 P w K mg base A.in1 outer s H := ⟨e.frames, e.mod, e.bs, e.bsz, e.funs, e.frf, e.hok, e.bare⟩

section
variable {X : Cx} {pins : List (Addr × Obj)} {σ : St} {H : Hp} {s s' : Shared}
/-- from a body: what a callee wants -/
theorem Inv.env0 (I : Inv X pins σ H s) : Env0 X.prog X.w X.K X.mg X.base X.A X.stack s H :=
  ⟨I.ok.frames, I.ok.mod, I.bs, Nat.le_trans I.ok.bsz I.sz, I.stack, I.stkFree, I.hok, I.bare⟩
/-- behind a call -/
theorem Inv.after {Q : VK} {u : Value} (I : Inv X pins σ H s) (h : CE X.stack X.prog X.w H s Q u s') : EP X pins σ Q u s' := by
  obtain ⟨v, H', os, bare, un, hok, r, q⟩ := h
  obtain ⟨hh, g, d, t, os'⟩ := s'
  obtain rfl : os' = s.os := os
  exact ⟨v, H', I.call (h' := hh) (g' := g) (d' := d) (t' := t) (ch := []) un hok bare (fun b z => absurd z (by simp)), r, q⟩
end

/-! ### calls -/
/-- f(..): the written arguments, then the defaults dvs; E: what is wanted of an exception -/
def tCall (sp : Sp) (dvs : List V) (E : XK) (t : TA) : TE := fun σ H Q => t σ H fun vs H1 => sp (vs ++ dvs) H1 Q E
/-- o.m(..) of an instance of the class at C -/
def tMeth (C : Addr) (m : Str) (sp : Sp) (dvs : List V) (E : XK) (ta : TE) (t : TA) : TE := fun σ H Q => ta σ H fun x H1 => ∃ a dx fs, x = .ref a ∧ H1 a = some (.ins C dx fs) ∧ fs.lookup m = none ∧
  t σ H1 fun vs H2 => sp (x :: (vs ++ dvs)) H2 Q E
/-- C(..): a new instance and its dict, then __init__ -/
def tMake (C : Addr) (sp : Sp) (dvs : List V) (E : XK) (t : TA) : TE := fun σ H Q => t σ H fun vs H1 => ∀ x dx, H1 x = none → H1 dx = none → dx ≠ x →
  sp (.ref x :: (vs ++ dvs)) (upd (upd H1 dx (.own x)) x (.ins C dx [])) (fun v H2 => v = .non ∧ Q (.ref x) H2) E

/-- how the parameters are bound: us the positional arguments, kw the keywords' values by name, ds the defaults that fill up -/
def Binds (K : PySem.W.Frag) (fd : FuncData) (ps : List Str) (ds : List Value) : Prop :=
  ∀ (s : Shared) (us : List Value), K.In s.heap → (us ++ ds).length = ps.length → BindsTo s fd ⟨us, []⟩ (ps.zip (us ++ ds))
/-- every parameter is given -/
theorem Binds.all {K : PySem.W.Frag} {fd : FuncData} {ps : List Str} (h : ∀ us : List Value, us.length = ps.length → bindArgs fd ⟨us, []⟩ = pure (ps.zip us)) : Binds K fd ps [] := fun s us _ hl => by
  rw [List.append_nil] at hl ⊢
  exact .of_eq (h us hl)

/-- an exception of a callee reaches what this body wants of exceptions -/
def Passes (CX : CXT) (X : Cx) (E : XK) : Prop := ∀ (pins : List (Addr × Obj)) (σ : St) (H : Hp) (s : Shared) (e : Value) (s' : Shared), Inv X pins σ H s → CX X.stack H s E e s' → X.xe e s'

section
variable {X : Cx} {CX : CXT} {k : Nat} {f C : Addr} {fd : FuncData} {ps : List Str} {sp : Sp} {dvs : List V} {ds : List Value} {E : XK} {x m : Str} {p pos apos : Pos} {e o : Expr} {es : List Expr} {ta : TE} {t : TA}

/-- the callee runs -/
theorem run_fn {pins : List (Addr × Obj)} {σ : St} {H : Hp} {s : Shared} {Q : VK} {us : List Value} {vs : List V} (F : FnOk X.prog X.w X.K X.mg X.base CX k f fd ps sp) (hr : Room k X.A) (hb : Binds X.K fd ps ds) (hd : Vals dvs ds) (hx : Passes CX X E)
    (I : Inv X pins σ H s) (r : Vals vs us) (h : sp (vs ++ dvs) H Q E) : wpAny (model X.prog X.w) X.A (call (.ref f) us) (EP X pins σ Q) X.xe s := by
  have r2 : Vals (vs ++ dvs) (us ++ ds) := r.append hd
  have hl : (us ++ ds).length = ps.length := by rw [← r2.length]; exact F.len _ _ _ _ h
  refine wpAny_call (codeAny_mono (F.run X.A X.stack s H ⟨us, []⟩ (us ++ ds) (vs ++ dvs) Q E hr I.env0 (hb s us I.kIn hl) r2 h) fun r s' hq => ?_)
  cases r with
  | error e => exact hx pins σ H s e s' I hq
  | ok fl =>
    cases fl with
    | ret u => exact I.after hq
    | next => exact False.elim hq
    | brk => exact False.elim hq
    | cont => exact False.elim hq

theorem pe_call (F : FnOk X.prog X.w X.K X.mg X.base CX k f fd ps sp) (hr : Room k X.A) (hg : Gl X x) (hm : X.mg x = some (.ref f)) (hk : PySem.W.keepIn X.K (.ref f) = true) (hb : Binds X.K fd ps ds) (hd : Vals dvs ds) (hx : Passes CX X E)
    (ha : PA X (e :: es) t) (hdb : (x == ("__debug__" : Str)) = false := by decide) (he : starEach (e :: es) X.env = (false, eval e X.env) :: starEach es X.env := by rfl) (hpl : (backTo pos (starEach es X.env)).any (·.1) = false := by rfl) :
    PE X (.Call (.Name x p) (e :: es) [] pos) (tCall sp dvs E t) := by
  intro pins s σ H Q I h
  refine wpAny_Call_Name_kw (ld_glob I hg hm ?_ hdb)
  refine PySem.W.callWith_K (h₀ := X.base) I.ok.mod.kin hk (thn (ha pos pins s σ H _ I h) fun us s1 ⟨vs, H1, I1, r, q⟩ => ⟨I1.kIn, ?_⟩) he hpl
  exact run_fn F hr hb hd hx I1 r q
/-- o.m(e, ..) -/
theorem pe_meth {pl : Sem Bool} (he : PE X o ta) (c : Cls X.K C) (hm : Meth X.K C m f) (F : FnOk X.prog X.w X.K X.mg X.base CX k f fd ps sp) (hr : Room k X.A) (hb : Binds X.K fd ps ds) (hd : Vals dvs ds) (hx : Passes CX X E) (ha : PA X (e :: es) t)
    (hst : starEach (e :: es) X.env = (false, eval e X.env) :: starEach es X.env := by rfl) (hpl : (backTo pos (starEach es X.env)).any (·.1) = false := by rfl)
    (ht : eval (.Call (.Attribute o m apos) (e :: es) [] pos) X.env = (do
      let ov ← eval o X.env
      standAt apos.atName
      let (f, first) ← holding [ov] (getMethod ov m pl)
      callWith pos f first (backTo pos (starEach (e :: es) X.env)) (backToKw pos (keywordEach [] X.env))) := by rfl) :
    PE X (.Call (.Attribute o m apos) (e :: es) [] pos) (tMeth C m sp dvs E ta t) := by
  intro pins s σ H Q I h
  refine PySem.W.methodCall_KW (pl := pl) (thn (he pins s σ H _ I h) fun u s1 ⟨x, H1, I1, rx, a, dx, fs, ex, ea, l, q⟩ => ?_) ht
  subst ex
  obtain rfl : u = Value.ref a := rx
  refine getmeth_ok I1 ea c hm l ?_
  refine PySem.W.callWith_K (first := [.ref a]) (h₀ := X.base) I.ok.mod.kin hm.kp (thn (ha pos pins s1 σ H1 _ I1 q) fun us s2 ⟨vs, H2, I2, r, q2⟩ => ⟨I2.kIn, ?_⟩) hst hpl
  exact run_fn (us := .ref a :: us) (vs := .ref a :: vs) F hr hb hd hx I2 (.cons rfl r) q2
/-- o.m() -/
theorem pe_meth0 {pl : Sem Bool} (he : PE X o ta) (c : Cls X.K C) (hm : Meth X.K C m f) (F : FnOk X.prog X.w X.K X.mg X.base CX k f fd ps sp) (hr : Room k X.A) (hb : Binds X.K fd ps ds) (hd : Vals dvs ds) (hx : Passes CX X E)
    (ht : eval (.Call (.Attribute o m apos) [] [] pos) X.env = (do
      let ov ← eval o X.env
      standAt apos.atName
      let (f, first) ← holding [ov] (getMethod ov m pl)
      callWith pos f first (backTo pos (starEach [] X.env)) (backToKw pos (keywordEach [] X.env))) := by rfl) :
    PE X (.Call (.Attribute o m apos) [] [] pos) (tMeth C m sp dvs E ta tNil) := by
  intro pins s σ H Q I h
  refine PySem.W.methodCall_KW (pl := pl) (thn (he pins s σ H _ I h) fun u s1 ⟨x, H1, I1, rx, a, dx, fs, ex, ea, l, q⟩ => ?_) ht
  subst ex
  obtain rfl : u = Value.ref a := rx
  refine getmeth_ok I1 ea c hm l ?_
  exact PySem.W.callWith_K0 (first := [.ref a]) I1.kIn hm.kp (run_fn (us := [.ref a]) (vs := [.ref a]) F hr hb hd hx I1 (.cons rfl .nil) q)

/-- what a class must have to be made -/
structure Mk (K : PySem.W.Frag) (C f : Addr) : Prop where
  makes : PySem.W.makesIn K C = true
  init : PySem.W.findIn K (.ref C) "__init__" = some (some (.ref f))
  fn : PySem.W.isFn K (.ref f) = true
  kp : PySem.W.keepIn K (.ref C) = true

theorem run_make {pins : List (Addr × Obj)} {σ : St} {H : Hp} {s : Shared} {Q : VK} {us : List Value} {vs : List V} (M : Mk X.K C f) (F : FnOk X.prog X.w X.K X.mg X.base CX k f fd ps sp) (hr : Room (k + 1) X.A) (hb : Binds X.K fd ps ds) (hd : Vals dvs ds)
    (hx : Passes CX X E) (I : Inv X pins σ H s) (r : Vals vs us)
    (h : ∀ x dx, H x = none → H dx = none → dx ≠ x → sp (.ref x :: (vs ++ dvs)) (upd (upd H dx (.own x)) x (.ins C dx [])) (fun v H2 => v = .non ∧ Q (.ref x) H2) E) :
    wpAny (model X.prog X.w) X.A (call (.ref C) us) (EP X pins σ Q) X.xe s := by
  have hq := h (s.heap.objs.size + 1) s.heap.objs.size (I.hok.fresh (Nat.le_succ _)) (I.hok.fresh (Nat.le_refl _)) (Nat.ne_of_lt (Nat.lt_succ_self _))
  have I2 := Inv.made (C := C) I
  have r2 : Vals (V.ref (s.heap.objs.size + 1) :: (vs ++ dvs)) (Value.ref (s.heap.objs.size + 1) :: (us ++ ds)) := .cons rfl (r.append hd)
  have hl : (Value.ref (s.heap.objs.size + 1) :: us ++ ds).length = ps.length := by
    have e := r2.length
    rw [F.len _ _ _ _ hq] at e
    exact e.symm
  refine wpAny_call (make_map (f := f) I.kIn M.makes M.init (beq_iff_eq.mp M.fn) (codeAny_mono (F.run _ X.stack _ _ ⟨Value.ref (s.heap.objs.size + 1) :: us, []⟩ (Value.ref (s.heap.objs.size + 1) :: (us ++ ds)) _ _ E (hr.make C us [])
    (I2.env0.make C us []) (hb _ (Value.ref (s.heap.objs.size + 1) :: us) I2.kIn hl) r2 hq) fun r s' hq' => ?_))
  cases r with
  | error e => exact hx pins σ _ _ e s' I2 hq'
  | ok fl =>
    cases fl with
    | ret u =>
      obtain ⟨v, H', I3, rv, ev, q3⟩ := I2.after hq'
      subst ev
      exact ⟨rv, ⟨V.ref (s.heap.objs.size + 1), H', I3, rfl, q3⟩⟩
    | next => exact False.elim hq'
    | brk => exact False.elim hq'
    | cont => exact False.elim hq'
theorem pe_make (M : Mk X.K C f) (F : FnOk X.prog X.w X.K X.mg X.base CX k f fd ps sp) (hr : Room (k + 1) X.A) (hg : Gl X x) (hm : X.mg x = some (.ref C)) (hb : Binds X.K fd ps ds) (hd : Vals dvs ds) (hx : Passes CX X E)
    (ha : PA X (e :: es) t) (hdb : (x == ("__debug__" : Str)) = false := by decide) (he : starEach (e :: es) X.env = (false, eval e X.env) :: starEach es X.env := by rfl) (hpl : (backTo pos (starEach es X.env)).any (·.1) = false := by rfl) :
    PE X (.Call (.Name x p) (e :: es) [] pos) (tMake C sp dvs E t) := by
  intro pins s σ H Q I h
  refine wpAny_Call_Name_kw (ld_glob I hg hm ?_ hdb)
  refine PySem.W.callWith_K (h₀ := X.base) I.ok.mod.kin M.kp (thn (ha pos pins s σ H _ I h) fun us s1 ⟨vs, H1, I1, r, q⟩ => ⟨I1.kIn, ?_⟩) he hpl
  exact run_make M F hr hb hd hx I1 r q
theorem pe_make0 (M : Mk X.K C f) (F : FnOk X.prog X.w X.K X.mg X.base CX k f fd ps sp) (hr : Room (k + 1) X.A) (hg : Gl X x) (hm : X.mg x = some (.ref C)) (hb : Binds X.K fd ps ds) (hd : Vals dvs ds) (hx : Passes CX X E)
    (hdb : (x == ("__debug__" : Str)) = false := by decide) : PE X (.Call (.Name x p) [] [] pos) (tMake C sp dvs E tNil) := by
  intro pins s σ H Q I h
  refine wpAny_Call_Name_kw (ld_glob I hg hm ?_ hdb)
  exact PySem.W.callWith_K0 I.kIn M.kp (run_make (us := []) M F hr hb hd hx I .nil h)
end

/-! ### keywords -/
section
variable {X : Cx} {CX : CXT} {k : Nat} {f C : Addr} {fd : FuncData} {ps ks : List Str} {sp : Sp} {E : XK} {x m : Str} {p pos apos kpos : Pos} {e o : Expr} {es : List Expr} {kws : List Keyword} {te ta : TE} {t tk : TA} {nm : Option Str}
/-- how a call with keywords binds: g puts the positional values us and the keywords' values ws (names ks) in the parameters' order, defaults among them -/
structure KBinds (K : PySem.W.Frag) (fd : FuncData) (ps ks : List Str) (g : List Value → List Value → List Value) (gV : List V → List V → List V) : Prop where
  to : ∀ (s : Shared) (us ws : List Value), K.In s.heap → (g us ws).length = ps.length → BindsTo s fd ⟨us, ks.zip ws⟩ (ps.zip (g us ws))
  rel : ∀ {vs : List V} {us : List Value} {zs : List V} {ws : List Value}, Vals vs us → Vals zs ws → Vals (gV vs zs) (g us ws)
variable {g : List Value → List Value → List Value} {gV : List V → List V → List V}
end

/-! ### a def's body keeps its promise -/
/-- names: the parameters first -/
structure FnScope (N P : List Str) (sc : Scope) : Prop where
  kind : sc.kind = .function
  co : sc.isCoroutine = false
  gen : sc.isGenerator = false
  nd : N.Nodup
  pre : N.take P.length = P
  par : ∀ x ∈ P, sc.names.lookup x = some .local ∨ sc.names.lookup x = some .cell
  nofree : ∀ y ∈ sc.names, y.2 ≠ .free

theorem bindL_out {kindOf : Str → Option NameKind} {x : Str} : ∀ {binds : List (Str × Value)} {m : Str → Option Value}, (∀ v, (x, v) ∉ binds) → bindL kindOf binds m x = m x
  | [], _, _ => rfl
  | (n, v) :: r, m, h => by
    unfold bindL
    rw [bindL_out fun w hw => h w (List.mem_cons_of_mem _ hw)]
    split
    · have : x ≠ n := by rintro rfl; exact h v List.mem_cons_self
      simp [this]
    · rfl
theorem bindC_out {kindOf : Str → Option NameKind} {x : Str} : ∀ {binds : List (Str × Value)} {m : Str → Option Value}, (∀ v, (x, v) ∉ binds) → bindC kindOf binds m x = m x
  | [], _, _ => rfl
  | (n, v) :: r, m, h => by
    unfold bindC
    rw [bindC_out fun w hw => h w (List.mem_cons_of_mem _ hw)]
    split
    · rfl
    · have : x ≠ n := by rintro rfl; exact h v List.mem_cons_self
      simp [this]
theorem bindL_get {kindOf : Str → Option NameKind} {x : Str} {v : Value} : ∀ {P : List Str} {vs : List Value} {i : Nat} {m : Str → Option Value}, P.Nodup → P[i]? = some x → vs[i]? = some v → kindOf x = some .local →
    bindL kindOf (P.zip vs) m x = some v
  | [], _, _, _, _, h, _, _ => by simp at h
  | _ :: _, [], _, _, _, _, h, _ => by simp at h
  | p :: P, w :: vs, 0, m, nd, h1, h2, hk => by
    simp at h1 h2; subst h1; subst h2
    show bindL kindOf ((p, w) :: P.zip vs) m p = _
    unfold bindL
    rw [bindL_out fun v hv => (List.nodup_cons.mp nd).1 (List.of_mem_zip hv).1, if_pos hk]
    simp
  | p :: P, w :: vs, i + 1, m, nd, h1, h2, hk => by
    show bindL kindOf ((p, w) :: P.zip vs) m x = _
    unfold bindL
    exact bindL_get (i := i) (List.nodup_cons.mp nd).2 (by simpa using h1) (by simpa using h2) hk
theorem bindC_get {kindOf : Str → Option NameKind} {x : Str} {v : Value} : ∀ {P : List Str} {vs : List Value} {i : Nat} {m : Str → Option Value}, P.Nodup → P[i]? = some x → vs[i]? = some v → kindOf x ≠ some .local →
    bindC kindOf (P.zip vs) m x = some v
  | [], _, _, _, _, h, _, _ => by simp at h
  | _ :: _, [], _, _, _, _, h, _ => by simp at h
  | p :: P, w :: vs, 0, m, nd, h1, h2, hk => by
    simp at h1 h2; subst h1; subst h2
    show bindC kindOf ((p, w) :: P.zip vs) m p = _
    unfold bindC
    rw [bindC_out fun v hv => (List.nodup_cons.mp nd).1 (List.of_mem_zip hv).1, if_neg hk]
    simp
  | p :: P, w :: vs, i + 1, m, nd, h1, h2, hk => by
    show bindC kindOf ((p, w) :: P.zip vs) m x = _
    unfold bindC
    exact bindC_get (i := i) (List.nodup_cons.mp nd).2 (by simpa using h1) (by simpa using h2) hk

/-- the names' values at the entry -/
def start (N : List Str) (vs : List V) : St := vs.map some ++ List.replicate (N.length - vs.length) none

/-- the context of a def's body, at its entry; an exception leaves the frame, then lies as CX says -/
def cxOf (CX : CXT) (P : Program) (w : World) (K : PySem.W.Frag) (mg : Str → Option Value) (base : Heap) (N : List Str) (qual : Str) (scope : Scope) (f : Addr) (cd : Value) (A : Around) (outer : List Env) (s : Shared) (H : Hp) (E : XK) : Cx where
  prog := P
  w := w
  K := K
  mg := mg
  base := base
  A := A.deeper (envOfC qual scope s.heap.objs.size f cd)
  N := N
  s₀ := s
  H₀ := H
  env := envOfC qual scope s.heap.objs.size f cd
  outer := outer
  stack := envOfC qual scope s.heap.objs.size f cd :: outer
  ex := []
  calm := true
  fn := fun _ => true
  pn := []
  xe := fun e s' => wpAny (model P w) (A.deeper (envOfC qual scope s.heap.objs.size f cd)) (leaving (envOfC qual scope s.heap.objs.size f cd) e) (fun _ s'' => CX outer H s E e s'') (fun e' s'' => CX outer H s E e' s'') s'

theorem cell_has {sc : Scope} {n : Nat} {x : Str} (h : sc.names.lookup x = some .cell) : ∃ c, (cellsFrom n sc.names []).lookup x = some c := by
  have q := PySem.W.cellsFrom_some sc.names n [] (.inl h)
  exact Option.isSome_iff_exists.mp q

theorem inv_start {CX : CXT} {P : Program} {w : World} {K : PySem.W.Frag} {mg : Str → Option Value} {base : Heap} {N ps : List Str} {qual : Str} {scope : Scope} {f : Addr} {cd : Value} {A : Around} {outer : List Env} {s s1 : Shared} {H : Hp} {E : XK} {us : List Value} {vs : List V}
    (S : FnScope N ps scope) (hd : A.handled = none) (e0 : Env0 P w K mg base A outer s H) (hl : vs.length = ps.length) (r : Vals vs us)
    (x : InCallC s s.heap.objs.size (bindL (envOfC qual scope s.heap.objs.size f cd).kindOf (ps.zip us) fun _ => none) (cellsFrom (s.heap.objs.size + 1) scope.names []) (bindC (envOfC qual scope s.heap.objs.size f cd).kindOf (ps.zip us) fun _ => none) s1) :
    Inv (cxOf CX P w K mg base N qual scope f cd A outer s H E) [] (start N vs) H s1 := by
  have hpl : ps.length ≤ N.length := by have := congrArg List.length S.pre; rw [List.length_take] at this; omega
  obtain ⟨h1, tk, rfl, hk⟩ := x.done
  have noA : ∀ b : Addr, b ∉ (cxOf CX P w K mg base N qual scope f cd A outer s H E).ex := fun b z => absurd (show b ∈ ([] : List Addr) from z) (by simp)
  refine ⟨⟨e0.mod, S.kind, rfl, rfl, Nat.le_refl _, fun y z c h1 h2 => ?_, fun y hy => ?_, fun y c _ h => ?_, fun _ => hd, Around.frames_deeper e0.frames, .inr ⟨rfl, rfl⟩, fun b z => absurd z (noA b), e0.bs, e0.bsz, fun b _ _ => noA b, fun b z => absurd z (noA b), e0.funs, e0.frf⟩,
    rfl, e0.bare, Un.kept hk, ⟨_, x.toInCall.ns, fun i y v h1 h2 h3 => ?_⟩, fun y c h => ⟨_, x.cell y c h⟩, e0.hok.fresh (Nat.le_refl _), fun y c h => ?_, fun p hp => absurd (show p ∈ ([] : List (Addr × Obj)) from hp) (by simp), e0.hok.kept hk, ?_⟩
  · exact name_of_addr x.apart (PySem.mem_of_lookup h1) (PySem.mem_of_lookup h2)
  · have hy : scope.names.lookup y = some .cell ∨ scope.names.lookup y = some .free := hy
    rcases hy with hy | hy
    · exact cell_has hy
    · exact absurd rfl (S.nofree _ (PySem.mem_of_lookup hy))
  · exact Nat.le_of_lt (x.above y c (PySem.mem_of_lookup h))
  · have hi : i < vs.length := by
      unfold start at h2
      by_cases hi : i < vs.length
      · exact hi
      · rw [List.getElem?_append_right (by simpa using hi)] at h2
        rw [List.getElem?_replicate] at h2
        split at h2 <;> cases h2
    have ha : vs[i]? = some v := by
      unfold start at h2
      rw [List.getElem?_append_left (by simpa using hi), List.getElem?_map] at h2
      cases e : vs[i]? with
      | none => rw [e] at h2; cases h2
      | some a => rw [e] at h2; cases h2; rfl
    obtain ⟨u, hu, rv⟩ := r.get ha
    have hp : ps[i]? = some y := by
      rw [← S.pre, List.getElem?_take_of_lt (by omega)]; exact h1
    have ndP : ps.Nodup := by rw [← S.pre]; exact S.nd.sublist (List.take_sublist _ _)
    refine ⟨u, rv, ?_⟩
    rcases S.par y (List.mem_of_getElem? hp) with k | k
    · exact .inl ⟨k, bindL_get ndP hp hu k⟩
    · obtain ⟨c, e⟩ := cell_has (n := s.heap.objs.size + 1) k
      refine .inr ⟨.inl k, c, e, ?_⟩
      have q := x.cell y c e
      rw [bindC_get ndP hp hu (by show scope.names.lookup y ≠ _; rw [k]; decide)] at q
      exact q
  · exact e0.hok.fresh (Nat.le_of_lt (x.above y c (PySem.mem_of_lookup h)))
  · unfold start
    show _ = N.length
    rw [List.length_append, List.length_map, List.length_replicate]
    omega

/-- THE RULE: a def (or a method) of the text, by its body. The body's reading t is chosen for each entry; it is run at the parameters' values -/
theorem fn_of {CX : CXT} {P : Program} {w : World} {K : PySem.W.Frag} {mg : Str → Option Value} {base : Heap} {k : Nat} {f : Addr} {name qual : Str} {params : Arguments} {body : List Stmt} {scope : Scope} {dV kV doc pm cdv ct oc : Value} {an od : Option Addr}
    {osl : Array (Option Value)} {N ps : List Str} {sp : Sp} (lk : K.lookup f = some ⟨oc, od, .func (PySem.W.fnOf name qual params body scope dV kV doc pm an cdv ct), osl⟩) (hcd : PySem.W.codeIn K cdv qual = true) (S : FnScope N ps scope)
    (len : ∀ vs H Q E, sp vs H Q E → vs.length = ps.length)
    (hbody : ∀ (A : Around) (outer : List Env) (s : Shared) (H : Hp) (vs : List V) (Q : VK) (E : XK), Room k (A.deeper (envOfC qual scope s.heap.objs.size f cdv)) → sp vs H Q E →
      ∃ t, PSs (cxOf CX P w K mg base N qual scope f cdv A outer s H E) body t ∧ t { nx := fun _ H' => Q .non H', rt := Q } (start N vs) H) :
    FnOk P w K mg base CX (k + 1) f (PySem.W.fnOf name qual params body scope dV kV doc pm an cdv ct) ps sp := by
  refine ⟨len, fun A outer s H args us vs Q E hr e0 hb r hsp => ?_⟩
  have hl := len _ _ _ _ hsp
  have KX : K.In s.heap := e0.mod.kin.keeps fun b o e => (e0.bs b o e).1
  have lim : s.heap.NoLimit := e0.mod.nolimit.keeps fun b o e => (e0.bs b o e).1
  have hkind : ∀ y ∈ ps.zip us, scope.names.lookup y.1 = some .local ∨ (scope.names.lookup y.1 = some .cell ∧ ((cellsFrom (s.heap.objs.size + 1) scope.names []).lookup y.1).isSome = true) := fun ⟨n, v⟩ hy => by
    rcases S.par n (List.of_mem_zip hy).1 with q | q
    · exact .inl q
    · exact .inr ⟨q, PySem.W.cellsFrom_some _ _ _ (.inl q)⟩
  refine codeAny_call_function hr.depth (KX _ _ lk) rfl S.co S.gen rfl (PySem.W.codeRec_of KX hcd) (hb _ _ _ _ ?_)
  refine wpAny_newFunctionEnv_cells S.kind hkind fun env he s1 x => ?_
  subst he
  refine ⟨lim.keeps x.toInCall.keep, codeAny_func ?_⟩
  obtain ⟨t, ht, hq⟩ := hbody A outer s H vs Q E (hr.deeper _) hsp
  have I : Inv (cxOf CX P w K mg base N qual scope f cdv A outer s H E) [] (start N vs) H s1 := inv_start S hr.hd e0 hl r x
  refine wpAny_mono (ht [] s1 (start N vs) H _ I hq) (fun fl s' hs => ?_) fun e s' hs => hs
  have fin : ∀ {σ' : St} {H' : Hp} {v : V} {u : Value}, Inv (cxOf CX P w K mg base N qual scope f cdv A outer s H E) [] σ' H' s' → RelV v u → Q v H' → CE outer P w H s Q u s' :=
    fun {σ' H' v u} J rv q => ⟨v, H', J.os, J.bare, J.base, J.hok, rv, q⟩
  cases fl with
  | ret u =>
    obtain ⟨v, σ', H', J, rv, q⟩ := hs
    exact fin J rv q
  | next =>
    obtain ⟨σ', H', J, q⟩ := hs
    exact fin (v := V.non) (u := Value.none) J rfl q
  | brk =>
    obtain ⟨_, _, _, q⟩ := hs
    exact False.elim q
  | cont =>
    obtain ⟨_, _, _, q⟩ := hs
    exact False.elim q
end L2

namespace L2
open PySem PySem.Spec PyProof.Rows
section
variable {X : Cx} {x : Str} {p pos : Pos} {e : Expr} {es : List Expr} {t : TA} {id T : String} {r : List V → Hp → VK → Prop}

def tCB (r : List V → Hp → VK → Prop) (t : TA) : TE := fun σ H Q => t σ H fun vs H1 => r vs H1 Q
/-- f(e, ..), f a built-in function -/
theorem pe_callB (hc : CallR X (.builtin id) r) (hg : Gl X x) (hm : X.mg x = none) (hv : bootBuiltins x = some (.builtin id)) (ha : PA X (e :: es) t) (hn : x ≠ "__name__" := by decide) (hdb : (x == ("__debug__" : Str)) = false := by decide)
    (he : starEach (e :: es) X.env = (false, eval e X.env) :: starEach es X.env := by rfl) (hpl : (backTo pos (starEach es X.env)).any (·.1) = false := by rfl) : PE X (.Call (.Name x p) (e :: es) [] pos) (tCB r t) := by
  intro pins s σ H Q I h
  refine wpAny_Call_Name_kw (ld_blt I hg hm hv ?_ hn hdb)
  exact PyProof.Rows.callWith_builtin1 (thn (ha pos pins s σ H _ I h) fun us s1 ⟨vs, H1, I1, r1, q1⟩ => hc pins s1 σ H1 vs us Q I1 r1 q1) he hpl
/-- T(e, ..), T a built-in type -/
theorem pe_callTy (hc : CallR X (.type T) r) (hg : Gl X x) (hm : X.mg x = none) (hv : bootBuiltins x = some (.type T)) (ha : PA X (e :: es) t) (hn : x ≠ "__name__" := by decide) (hdb : (x == ("__debug__" : Str)) = false := by decide)
    (he : starEach (e :: es) X.env = (false, eval e X.env) :: starEach es X.env := by rfl) (hpl : (backTo pos (starEach es X.env)).any (·.1) = false := by rfl) : PE X (.Call (.Name x p) (e :: es) [] pos) (tCB r t) := by
  intro pins s σ H Q I h
  refine wpAny_Call_Name_kw (ld_blt I hg hm hv ?_ hn hdb)
  exact PyProof.Rows.callWith_type1 (thn (ha pos pins s σ H _ I h) fun us s1 ⟨vs, H1, I1, r1, q1⟩ => hc pins s1 σ H1 vs us Q I1 r1 q1) he hpl
end
end L2

namespace HT
open PySem PyProof.Rows

section
open PySem.SeqAt
open PySem.AutoSeq1 (wpAny_loadPart')
open PySem.MeetsSeq PySem.MeetsSeq2 PySem.MeetsSeq3

end

section
variable {prog : Program} {w : World} {A : Around} {E : Value → Shared → Prop} {s : Shared}

/-! ### t[a:b], not the whole -/
/-- a slice's bound as a place among n (d where it is left out) -/
def sIx (n d : Nat) : Option Int → Nat
  | none => d
  | some v => if v < 0 then (v + (n : Int)).toNat else min v.toNat n
theorem sIx_none (n d : Nat) : sIx n d none = d := rfl
theorem sIx_nat (n d k : Nat) : sIx n d (some (k : Int)) = min k n := by
  show (if (k : Int) < 0 then ((k : Int) + (n : Int)).toNat else min (k : Int).toNat n) = min k n
  rw [if_neg (by omega), Int.toNat_natCast]
theorem sIx_le (n d : Nat) (hd : d ≤ n) (o : Option Int) : sIx n d o ≤ n := by
  cases o with
  | none => exact hd
  | some v =>
    show (if v < 0 then (v + (n : Int)).toNat else min v.toNat n) ≤ n
    by_cases hv : v < 0
    · rw [if_pos hv]; omega
    · rw [if_neg hv]; exact Nat.min_le_right _ _
theorem clip_eq (v : Int) (n d : Nat) : (if v < 0 then max (v + (n : Int)) 0 else min v (n : Int)) = ((sIx n d (some v) : Nat) : Int) := by
  show (if v < 0 then max (v + (n : Int)) 0 else min v (n : Int)) = (((if v < 0 then (v + (n : Int)).toNat else min v.toNat n) : Nat) : Int)
  by_cases hv : v < 0
  · simp only [if_pos hv]; omega
  · simp only [if_neg hv]; omega
theorem adjust_gen (lo hi : Option Int) (n : Nat) : Builtin.Slice.sliceAdjust lo hi 1 (n : Int) = (((sIx n 0 lo : Nat) : Int), ((sIx n n hi : Nat) : Int)) := by
  have h1 : ¬ ((1 : Int) < 0) := by omega
  unfold Builtin.Slice.sliceAdjust
  simp only [h1, if_false]
  refine Prod.ext ?_ ?_
  · cases lo with
    | none => rfl
    | some v => exact clip_eq v n 0
  · cases hi with
    | none => rfl
    | some v => exact clip_eq v n n
theorem places_gen (i j : Nat) : Builtin.Slice.slicePlaces (i : Int) (j : Int) 1 = j - i := by
  unfold Builtin.Slice.slicePlaces
  have h1 : (1 : Int) > 0 := by omega
  simp only [h1, if_true, Int.ediv_one]
  split <;> omega
theorem slicePart_ {v : Value} {o : Option Int} {Q : Option Int → Shared → Prop} (p : IsPart v o) (h : Q o s) : wpAny (model prog w) A (Builtin.Slice.slicePartIndex v) Q E s := by
  cases p with
  | none => exact slicePart_none h
  | int i t => exact slicePart_int h
theorem sliceApplied_gen {sl : Addr} {vl vu : Value} {lo hi : Option Int} {n : Nat} {Q : Int × Int × Nat → Shared → Prop} (hs : s.heap.IsSliceOf sl vl vu .none) (pl : IsPart vl lo) (pu : IsPart vu hi)
    (h : Q (((sIx n 0 lo : Nat) : Int), 1, sIx n n hi - sIx n 0 lo) s) : wpAny (model prog w) A (Builtin.Slice.sliceApplied (.ref sl) (pure (n : Int))) Q E s := by
  obtain ⟨os, hos, hcs, hds⟩ := id hs
  unfold Builtin.Slice.sliceApplied Builtin.Slice.sliceFields
  refine wpAny_bind (wpAny_bind (wpAny_field hos hds (x := vl) rfl (wpAny_bind (wpAny_field hos hds (x := vu) rfl (wpAny_bind (wpAny_field hos hds (x := .none) rfl (wpAny_pure ?_)))))))
  refine wpAny_bind (slicePart_none ?_)
  show wpAny _ _ (if ((1 : Int) == 0) = true then _ else _) _ _ s
  rw [if_neg (by decide)]
  refine wpAny_bind (slicePart_ pl (wpAny_bind (slicePart_ pu (wpAny_bind (wpAny_pure ?_)))))
  show wpAny _ _ (match Builtin.Slice.sliceAdjust lo hi 1 (n : Int) with | (lo, hi) => pure (lo, (1 : Int), Builtin.Slice.slicePlaces lo hi 1)) _ _ s
  rw [adjust_gen lo hi n]
  show wpAny _ _ (pure (((sIx n 0 lo : Nat) : Int), (1 : Int), Builtin.Slice.slicePlaces ((sIx n 0 lo : Nat) : Int) ((sIx n n hi : Nat) : Int) 1)) _ _ s
  rw [places_gen]
  exact wpAny_pure h
theorem pick_gen (xs : Array Value) (i k : Nat) : ((List.range k).filterMap fun (m : Nat) => xs[((i : Int) + (m : Int) * 1).toNat]?).toArray = ((xs.toList.drop i).take k).toArray := by
  have e : (fun (m : Nat) => xs[((i : Int) + (m : Int) * 1).toNat]?) = fun m => xs[i + m]? := by
    funext m
    have : ((i : Int) + (m : Int) * 1).toNat = i + m := by omega
    rw [this]
  rw [e]
  have := pick_run xs i k
  rw [List.filterMap_map] at this
  have e2 : ((fun x => xs[x]?) ∘ fun x => i + x) = fun m => xs[i + m]? := rfl
  rw [e2] at this
  rw [this]

theorem getItem_tuple_cut {t sl : Addr} {items : Array Value} {vl vu : Value} {lo hi : Option Int} {Q : Value → Shared → Prop} (ht : IsTup s.heap t items) (hs : s.heap.IsSliceOf sl vl vu .none) (pl : IsPart vl lo) (pu : IsPart vu hi)
    (hw : ¬ (sIx items.size 0 lo = 0 ∧ sIx items.size items.size hi = items.size))
    (h : Q (.ref s.heap.objs.size) { s with heap := s.heap.push { cls := .type "tuple", data := .seq ((items.toList.drop (sIx items.size 0 lo)).take (sIx items.size items.size hi - sIx items.size 0 lo)).toArray } })
    (hsz : items.size ≤ sizeLine) : wpAny (model prog w) A (getItem (.ref t) (.ref sl)) Q E s := by
  have htake : sizeOk (.seq ((items.toList.drop (sIx items.size 0 lo)).take (sIx items.size items.size hi - sIx items.size 0 lo)).toArray) := by
    show ((items.toList.drop (sIx items.size 0 lo)).take (sIx items.size items.size hi - sIx items.size 0 lo)).toArray.size ≤ sizeLine
    rw [List.size_toArray, List.length_take, List.length_drop, Array.length_toList]
    omega
  have hj : sIx items.size items.size hi ≤ items.size := sIx_le _ _ (Nat.le_refl _) hi
  obtain ⟨os, hos, hcs, hds⟩ := id hs
  have hTs : s.TypeIs (.ref sl) "slice" := ⟨os, hos, hcs⟩
  unfold getItem
  try with_reducible refine wpAny_holding ?_
  first | refine wpAny_bind (wpAny_pure ?_) | skip
  refine wpAny_bind (wpAny_sequenceKey ht.typeIs (by decide) ?_)
  refine wpAny_bind (wpAny_callSpecial?_slot (name := Str.ofString "__getitem__") ht.typeIs PyProof.Rows.slot_tuple_getitem
    (wpAny_call_entry PyProof.Rows.slot_tuple_getitem ht.typeIs entry_tuple_getitem ?_ (args_tuple_getitem _ _)))
  show wpAny _ _ (Builtin.Tuple.tupleItemsOf (.ref t) >>= _) _ _ s
  refine wpAny_bind (tupleItemsOf_ ht ?_)
  refine wpAny_bind (wpAny_typeOf hTs ?_)
  rw [if_pos (by decide)]
  refine wpAny_bind (sliceApplied_gen hs pl pu ?_)
  have hno : ¬ ((((sIx items.size 0 lo : Nat) : Int) == 0 && (1 : Int) == 1 && (sIx items.size items.size hi - sIx items.size 0 lo) == items.size) = true) := by
    intro q
    rw [Bool.and_eq_true, Bool.and_eq_true] at q
    have q1 : ((sIx items.size 0 lo : Nat) : Int) = 0 := eq_of_beq q.1.1
    have q2 : sIx items.size items.size hi - sIx items.size 0 lo = items.size := eq_of_beq q.2
    exact hw ⟨by omega, by omega⟩
  show wpAny _ _ (if (((sIx items.size 0 lo : Nat) : Int) == 0 && (1 : Int) == 1 && (sIx items.size items.size hi - sIx items.size 0 lo) == items.size) = true then _ else _) _ _ s
  rw [if_neg hno, pick_gen]
  first
    | exact wpAny_bind (m := Builtin.Tuple.tupleExact _) (wpAny_newObj_type (wpAny_pure ⟨_, rfl, wpAny_pure h⟩) htake)
    | exact wpAny_bind (m := Builtin.Tuple.tupleExact _) (wpAny_newObj_type (wpAny_bind (wpAny_pure (wpAny_pure ⟨_, rfl, wpAny_pure h⟩))) htake)
    | exact wpAny_bind (wpAny_bind (m := Builtin.Tuple.tupleExact _) (wpAny_newObj_type (wpAny_pure (wpAny_pure ⟨_, rfl, wpAny_pure h⟩)) htake))
    | exact wpAny_bind (wpAny_bind (m := Builtin.Tuple.tupleExact _) (wpAny_newObj_type (wpAny_pure ⟨_, rfl, wpAny_pure h⟩) htake))
end
end HT

namespace L2
open PySem PySem.Spec PyProof.Rows

/-! ### the parts of a slice -/
abbrev TO := St → Hp → (Option Int → Hp → Prop) → Prop
/-- a slice's part (left out, or an int) -/
def PO (X : Cx) (e : Option Expr) (t : TO) : Prop :=
  ∀ (pins : List (Addr × Obj)) (s : Shared) (σ : St) (H : Hp) (Q : Option Int → Hp → Prop), Inv X pins σ H s → t σ H Q →
    wpAny (model X.prog X.w) X.A (evalPart e X.env) (fun u s' => ∃ o H', Inv X pins σ H' s' ∧ IsPart u o ∧ Q o H') X.xe s
def tNoPart : TO := fun _ H Q => Q none H
def tPart (t : TE) : TO := fun σ H Q => t σ H fun x H1 => ∃ i, x = .int i ∧ Q (some i) H1

section
variable {X : Cx} {e : Expr} {te : TE} {lo hi : Option Expr} {tl th : TO} {pos p2 : Pos}

theorem po_none : PO X none tNoPart := by
  intro pins s σ H Q I h
  rw [evalPart_none]
  exact wpAny_pure ⟨none, H, I, .none, h⟩
theorem po_some (h : PE X e te) : PO X (some e) (tPart te) := by
  intro pins s σ H Q I hw
  rw [evalPart_some]
  refine thn (h pins s σ H _ I hw) fun u s1 ⟨x, H1, I1, r1, q1⟩ => ?_
  obtain ⟨i, rfl, q⟩ := q1
  obtain ⟨t, rfl⟩ := r1
  exact ⟨some i, H1, I1, .int i t, q⟩

/-- what a slice of a value is, by values: the slice object stands at sl -/
def SlR (X : Cx) (r : V → Option Int → Option Int → Hp → VK → Prop) : Prop :=
  ∀ (pins : List (Addr × Obj)) (s : Shared) (σ : St) (H : Hp) (x : V) (v vl vu : Value) (lo hi : Option Int) (sl : Addr) (Q : VK), Inv X pins σ H s → RelV x v → s.heap.IsSliceOf sl vl vu .none → IsPart vl lo → IsPart vu hi → r x lo hi H Q →
    ∃ T id, typeLookup (.type T) "__getitem__" = pure (some (.builtin id)) ∧ s.TypeIs v T ∧ wpAny (model X.prog X.w) X.A (getItem v (.ref sl)) (EP X pins σ Q) X.xe s
theorem SlR.or {r r' : V → Option Int → Option Int → Hp → VK → Prop} (h : SlR X r) (h' : SlR X r') : SlR X (fun x lo hi H Q => r x lo hi H Q ∨ r' x lo hi H Q) := by
  intro pins s σ H x v vl vu lo hi sl Q I rx hs pl pu q
  rcases q with q | q
  · exact h pins s σ H x v vl vu lo hi sl Q I rx hs pl pu q
  · exact h' pins s σ H x v vl vu lo hi sl Q I rx hs pl pu q
def tSl (r : V → Option Int → Option Int → Hp → VK → Prop) (te : TE) (tl th : TO) : TE := fun σ H Q => te σ H fun x H1 => tl σ H1 fun l H2 => th σ H2 fun u H3 => r x l u H3 Q
/-- a[lo:hi], any a -/
theorem pe_slice {r : V → Option Int → Option Int → Hp → VK → Prop} (hr : SlR X r) (he : PE X e te) (hl : PO X lo tl) (hu : PO X hi th) : PE X (.Subscript e (.Slice lo hi none p2) pos) (tSl r te tl th) := by
  intro pins s σ H Q I h
  refine Subscript_ (thn (he pins s σ H _ I h) fun v s1 ⟨x, H1, I1, r1, q1⟩ => ?_)
  refine wpAny_Slice (thn (hl pins s1 σ H1 _ I1 q1) fun vl s2 ⟨l, H2, I2, pl, q2⟩ => thn (hu pins s2 σ H2 _ I2 q2) fun vu s3 ⟨u, H3, I3, pu, q3⟩ => ?_)
  rw [evalPart_none]
  refine wpAny_pure ?_
  have I4 : Inv X pins σ H3 { s3 with heap := s3.heap.push { cls := .type "slice", data := .fields #[vl, vu, .none] } } := I3.kept (t' := s3.toks) fun b ob q => Heap.get?_push_of_some _ q
  obtain ⟨T, id, hT, ht, hg⟩ := hr pins { s3 with heap := s3.heap.push { cls := .type "slice", data := .fields #[vl, vu, .none] } } σ H3 x v vl vu l u s3.heap.objs.size Q I4 r1 (Heap.IsSliceOf.new ..) pl pu q3
  show wpAny (model X.prog X.w) X.A (subscriptTail e (.Slice lo hi none p2) v (.ref s3.heap.objs.size)) (EP X pins σ Q) X.xe { s3 with heap := s3.heap.push { cls := .type "slice", data := .fields #[vl, vu, .none] } }
  exact tail_any (ops := [.ref s3.heap.objs.size, v]) ht hT hg (by with_unfolding_all rfl)

/-- the items of xs[lo:hi] -/
def cutV (xs : List V) (lo hi : Option Int) : List V := (xs.drop (HT.sIx xs.length 0 lo)).take (HT.sIx xs.length xs.length hi - HT.sIx xs.length 0 lo)
theorem cutV_length (xs : List V) (lo hi : Option Int) : (cutV xs lo hi).length ≤ xs.length := by
  unfold cutV
  rw [List.length_take, List.length_drop]
  omega
/-- t[lo:hi], not the whole of it (the whole would be t itself) -/
def rSlT (K : PySem.W.Frag) : V → Option Int → Option Int → Hp → VK → Prop := fun x lo hi H Q => ∃ a xs, x = .ref a ∧ SqT K H a xs ∧
  ¬ (HT.sIx xs.length 0 lo = 0 ∧ HT.sIx xs.length xs.length hi = xs.length) ∧ ∀ p, H p = none → Q (.ref p) (upd H p (.tup (cutV xs lo hi)))
theorem sl_tup : SlR X (rSlT X.K) := by
  intro pins s σ H x v vl vu lo hi sl Q I rx hs pl pu h
  obtain ⟨a, xs, rfl, hx, hw, q⟩ := h
  cases rx
  obtain ⟨its, r, ht, hz⟩ := I.tuple hx
  have hlen : its.toArray.size = xs.length := by rw [List.size_toArray]; exact r.length.symm
  refine ⟨"tuple", _, PyProof.Rows.slot_tuple_getitem.lookup, ht.typeIs, ?_⟩
  refine HT.getItem_tuple_cut ht hs pl pu (by rw [hlen]; exact hw) ?_ (by rw [hlen]; exact hz)
  rw [hlen]
  refine ⟨.ref s.heap.objs.size, _, I.laid (t' := s.toks) (o := .tup (cutV xs lo hi)) (fun b ob q => Heap.get?_push_of_some _ q) (Nat.le_refl _) ?_, rfl, q _ (I.hok.fresh (Nat.le_refl _))⟩
  exact ⟨Nat.le_trans (cutV_length xs lo hi) hz, _, (r.drop (HT.sIx xs.length 0 lo)).take (HT.sIx xs.length xs.length hi - HT.sIx xs.length 0 lo), IsTup.new _ _⟩

/-! ### t < u, t + u -/
end
end L2

namespace L2
open PySem PySem.Spec PyProof.Rows

/-! ### places -/
/-- the place that an index of any sign means -/
def ixN (n : Nat) (i : Int) : Option Nat := if 0 ≤ i then (if i < n then some i.toNat else none) else if -(n : Int) ≤ i then some (i + n).toNat else none
def atI {α : Type} (xs : List α) (i : Int) : Option α := (ixN xs.length i).bind fun j => xs[j]?
theorem ixN_seq {n : Nat} {i : Int} {j : Nat} (h : ixN n i = some j) : seqIndex? i n = some j ∧ j < n ∧ -(n : Int) ≤ i ∧ i < n := by
  unfold ixN at h
  by_cases h0 : 0 ≤ i
  · rw [if_pos h0] at h
    by_cases h1 : i < n
    · rw [if_pos h1] at h
      have e : i.toNat = j := Option.some.inj h
      exact ⟨by rw [seqIndex_of h0 h1, e], by omega, by omega, h1⟩
    · rw [if_neg h1] at h; cases h
  · rw [if_neg h0] at h
    by_cases h1 : -(n : Int) ≤ i
    · rw [if_pos h1] at h
      have e : (i + n).toNat = j := Option.some.inj h
      exact ⟨by rw [seqIndex_neg (by omega) h1, e], by omega, h1, by omega⟩
    · rw [if_neg h1] at h; cases h
theorem atI_get {α : Type} {xs : List α} {i : Int} {v : α} (h : atI xs i = some v) : ∃ j, seqIndex? i xs.length = some j ∧ xs[j]? = some v ∧ j < xs.length ∧ -(xs.length : Int) ≤ i ∧ i < xs.length := by
  unfold atI at h
  cases e : ixN xs.length i with
  | none => rw [e] at h; cases h
  | some j =>
    rw [e] at h
    obtain ⟨h1, h2, h3, h4⟩ := ixN_seq e
    exact ⟨j, h1, h, h2, h3, h4⟩
theorem atI_nat {α : Type} {xs : List α} {j : Nat} {v : α} (h : xs[j]? = some v) : atI xs (j : Int) = some v := by
  have hj : j < xs.length := (List.getElem?_eq_some_iff.mp h).1
  have e : ixN xs.length (j : Int) = some j := by
    unfold ixN
    rw [if_pos (by omega), if_pos (by omega)]; simp
  unfold atI; rw [e]; exact h
/-! ### what may be subscripted -/
/-- what stands as an index of a plain subscript -/
def PlainIx (b : Expr) : Prop := ∀ o i, subscripted b false o i = operate [o, i] (getItem o i)
/-- a subscript by values -/
def IxR (X : Cx) (r : R2) : Prop :=
  ∀ (value slice : Expr) (pins : List (Addr × Obj)) (s : Shared) (σ : St) (H : Hp) (x y : V) (v u : Value) (Q : VK), Inv X pins σ H s → RelV x v → RelV y u → r x y H Q →
    subscripted slice false v u = operate [v, u] (getItem v u) → wpAny (model X.prog X.w) X.A (subscriptTail value slice v u) (EP X pins σ Q) X.xe s
/-- a call of a builtin's method by values: the receiver, the arguments -/
def MtR (X : Cx) (id : String) (r : V → List V → Hp → VK → Prop) : Prop :=
  ∀ (pins : List (Addr × Obj)) (s : Shared) (σ : St) (H : Hp) (x : V) (xs : List V) (v : Value) (us : List Value) (Q : VK), Inv X pins σ H s → RelV x v → Vals xs us → r x xs H Q →
    wpAny (model X.prog X.w) X.A (call (.builtin id) (v :: us)) (EP X pins σ Q) X.xe s
section
variable {X : Cx} {a b : Expr} {ta tb : TE} {pos : Pos}
theorem IxR.or {r r' : R2} (h : IxR X r) (h' : IxR X r') : IxR X (fun x y H Q => r x y H Q ∨ r' x y H Q) := by
  intro value slice pins s σ H x y v u Q I rx ry q hs
  rcases q with q | q
  · exact h value slice pins s σ H x y v u Q I rx ry q hs
  · exact h' value slice pins s σ H x y v u Q I rx ry q hs
theorem MtR.or {id : String} {r r' : V → List V → Hp → VK → Prop} (h : MtR X id r) (h' : MtR X id r') : MtR X id (fun x xs H Q => r x xs H Q ∨ r' x xs H Q) := by
  intro pins s σ H x xs v us Q I rx rs q
  rcases q with q | q
  · exact h pins s σ H x xs v us Q I rx rs q
  · exact h' pins s σ H x xs v us Q I rx rs q
/-- a[b] -/
theorem pe_ix {r : R2} (hr : IxR X r) (ha : PE X a ta) (hb : PE X b tb) (hs : PlainIx b) : PE X (.Subscript a b pos) (tOp r ta tb) := by
  intro pins s σ H Q I h
  exact Subscript_ (binT ha hb I h fun v u s2 x y H2 I2 rx ry q => hr a b pins s2 σ H2 x y v u Q I2 rx ry q (hs _ _))

def rIxL (K : PySem.W.Frag) : R2 := fun x y H Q => ∃ p xs i v, x = .ref p ∧ y = .int i ∧ SqL K H p xs ∧ atI xs i = some v ∧ Q v H
def rIxT (K : PySem.W.Frag) : R2 := fun x y H Q => ∃ p xs i v, x = .ref p ∧ y = .int i ∧ SqT K H p xs ∧ atI xs i = some v ∧ Q v H
theorem ix_list : IxR X (rIxL X.K) := by
  intro value slice pins s σ H x y v u Q I rx ry h hs
  obtain ⟨p, xs, i, z, rfl, rfl, hq, he, q⟩ := h
  cases rx
  obtain ⟨t, rfl⟩ := ry
  obtain ⟨its, r, pl, hz⟩ := I.list hq
  obtain ⟨j, h1, h2, h3, h4, h5⟩ := atI_get he
  obtain ⟨w, ew, rw'⟩ := r.get h2
  have hl := r.length
  have hn := line63
  have fin : EP X pins σ Q w s := ⟨z, H, I, rw', q⟩
  by_cases h0 : 0 ≤ i
  · have hj : i.toNat = j := by
      rw [seqIndex_of h0 h5] at h1
      exact Option.some.inj h1
    exact item_listR pl.isList h0 (by omega) (by rw [hj]; simpa using ew) fin hs
  · have hj : (i + (its.toArray.size : Int)).toNat = j := by
      rw [seqIndex_neg (by omega) h4] at h1
      rw [List.size_toArray, ← hl]
      exact Option.some.inj h1
    exact subscriptTail_builtinR (x := w) pl.isList.typeIs slot_list_getitem.lookup
      (wpAny_getItem_list_neg (Q := fun r s' => r = w ∧ EP X pins σ Q r s') pl.isList (by omega) (by rw [List.size_toArray] <;> omega) (by omega) (by rw [hj]; simpa using ew) ⟨rfl, fin⟩) hs
theorem ix_tup : IxR X (rIxT X.K) := by
  intro value slice pins s σ H x y v u Q I rx ry h hs
  obtain ⟨p, xs, i, z, rfl, rfl, hq, he, q⟩ := h
  cases rx
  obtain ⟨t, rfl⟩ := ry
  obtain ⟨its, r, pl, hz⟩ := I.tuple hq
  obtain ⟨j, h1, h2, h3, h4, h5⟩ := atI_get he
  obtain ⟨w, ew, rw'⟩ := r.get h2
  have hl := r.length
  have hn := line63
  have fin : EP X pins σ Q w s := ⟨z, H, I, rw', q⟩
  exact subscriptTail_builtinR (x := w) pl.typeIs slot_tuple_getitem.lookup
    (getItem_tuple (j := j) (Q := fun r s' => r = w ∧ EP X pins σ Q r s') pl (by omega) (by omega) (by rw [List.size_toArray, ← hl]; exact h1) (by simpa using ew) ⟨rfl, fin⟩) hs
/-! ### xs[i] = v, any sign -/
/-- the list's object behind a store -/
theorem mapSeq_set (its : List Value) (n j : Nat) (u : Value) : Obj.mapSeq (·.setIfInBounds j u) { cls := .type "list", data := .seq its.toArray n } = { cls := .type "list", data := .seq (its.set j u).toArray n } := by
  simp [Obj.mapSeq]
theorem Inv.lst {pins : List (Addr × Obj)} {σ : St} {H : Hp} {s : Shared} {p : Addr} {xs : List V} (I : Inv X pins σ H s) (h : H p = some (.lst xs)) :
    ∃ (its : List Value) (n : Nat), Vals xs its ∧ s.heap.get? p = some { cls := .type "list", data := .seq its.toArray n } ∧ xs.length ≤ sizeLine := by
  obtain ⟨z, its, n, r, e⟩ := I.hok p _ h
  exact ⟨its, n, r, e, z⟩
/-- the list at p is written by an update of its object -/
theorem Inv.lstUpd {pins : List (Addr × Obj)} {σ : St} {H : Hp} {s : Shared} {p : Addr} {xs ys : List V} {its its' : List Value} {n n' : Nat} {f : Obj → Obj} (I : Inv X pins σ H s) (h : H p = some (.lst xs))
    (ho : s.heap.get? p = some { cls := .type "list", data := .seq its.toArray n }) (hf : f { cls := .type "list", data := .seq its.toArray n } = { cls := .type "list", data := .seq its'.toArray n' }) (r : Vals ys its') (hz : ys.length ≤ sizeLine) (t : Nat) :
    Inv X pins σ (upd H p (.lst ys)) { s with heap := s.heap.update p f, toks := t } := by
  have e : (s.heap.update p f).get? p = some { cls := .type "list", data := .seq its'.toArray n' } := by
    rw [Heap.get?_update_self f ho (by rw [hf] <;> rfl), hf]
  refine I.write (x := p) (e := p) (by rw [h]; trivial) (.inl rfl) (fun b u hb q => (Heap.get?_update_other _ _ (Ne.symm hb)).trans q) ⟨_, e⟩ ?_
  exact ⟨hz, its', n', r, e⟩
def rSetL : V → V → V → Hp → (Hp → Prop) → Prop := fun o i v H Q => ∃ p xs k j, o = .ref p ∧ i = .int k ∧ H p = some (.lst xs) ∧ ixN xs.length k = some j ∧ Q (upd H p (.lst (xs.set j v)))
theorem set_list : PSet X rSetL := by
  intro pins s σ H o i v ov iv u Q I ro ri rv h
  obtain ⟨p, xs, k, j, rfl, rfl, hp, hj, q⟩ := h
  cases ro
  obtain ⟨t, rfl⟩ := ri
  obtain ⟨its, n, r, ho, hz⟩ := I.lst hp
  obtain ⟨h1, h2, h3, h4⟩ := ixN_seq hj
  have hl := r.length
  have hn := line63
  have I' : Inv X pins σ (upd H p (.lst (xs.set j v))) { s with heap := s.heap.update p (Obj.mapSeq (·.setIfInBounds j u)) } :=
    I.lstUpd hp ho (mapSeq_set its n j u) (r.set rv j) (by rw [List.length_set]; exact hz) s.toks
  by_cases h0 : 0 ≤ k
  · have hk : k.toNat = j := by
      rw [seqIndex_of h0 h4] at h1
      exact Option.some.inj h1
    exact PySem.W.ki_setAt ho h0 (by omega) (by rw [List.size_toArray, ← hl]; exact h4) (by rw [hk]; exact ⟨_, I', q⟩)
  · have hk : (k + (its.toArray.size : Int)).toNat = j := by
      rw [seqIndex_neg (by omega) h3] at h1
      rw [List.size_toArray, ← hl]
      exact Option.some.inj h1
    exact PySem.W.ki_setBack ho (by omega) (by rw [List.size_toArray, ← hl]; exact h3) (by omega) (by rw [hk]; exact ⟨_, I', q⟩)

/-! ### slices -/
theorem slice_bounds (lo hi : Option Int) (n : Nat) : (sliceBounds lo hi none n).1 = ((HT.sIx n 0 lo : Nat) : Int) ∧ (sliceBounds lo hi none n).2.1 = ((HT.sIx n n hi : Nat) : Int) ∧ (sliceBounds lo hi none n).2.2 = 1 := by
  refine ⟨?_, ?_, rfl⟩
  · cases lo with
    | none => simp [sliceBounds, HT.sIx]
    | some i =>
      simp only [sliceBounds, HT.sIx, Option.getD_none, show (1 : Int) > 0 by decide, if_true]
      by_cases h : i < 0
      · simp only [h, if_true] <;> omega
      · simp only [h, if_false] <;> omega
  · cases hi with
    | none => simp [sliceBounds, HT.sIx]
    | some i =>
      simp only [sliceBounds, HT.sIx, Option.getD_none, show (1 : Int) > 0 by decide, if_true]
      by_cases h : i < 0
      · simp only [h, if_true] <;> omega
      · simp only [h, if_false] <;> omega
theorem slicePick_cut (its : List Value) (lo hi : Option Int) : slicePick its.toArray lo hi none = ((its.drop (HT.sIx its.length 0 lo)).take (HT.sIx its.length its.length hi - HT.sIx its.length 0 lo)).toArray := by
  obtain ⟨h1, h2, h3⟩ := slice_bounds lo hi its.toArray.size
  unfold slicePick
  rw [h1, h2, h3]
  simp only [sliceRange_one, pick_run, List.size_toArray] <;> rfl
/-- xs[lo:hi] of a list: a new list -/
def rSlL (K : PySem.W.Frag) : V → Option Int → Option Int → Hp → VK → Prop := fun x lo hi H Q => ∃ a xs, x = .ref a ∧ SqL K H a xs ∧ ∀ p, H p = none → Q (.ref p) (upd H p (.lst (cutV xs lo hi)))
theorem sl_list : SlR X (rSlL X.K) := by
  intro pins s σ H x v vl vu lo hi sl Q I rx hs pl pu h
  obtain ⟨a, xs, rfl, hx, q⟩ := h
  cases rx
  obtain ⟨its, r, ht, hz⟩ := I.list hx
  have hlen := r.length
  refine ⟨"list", _, slot_list_getitem.lookup, ht.isList.typeIs, ?_⟩
  refine wpAny_getItem_list_slice ht.isList hs pl pu .none (by simp) ?_ (by rw [List.size_toArray] <;> omega)
  rw [slicePick_cut, ← hlen]
  refine ⟨.ref s.heap.objs.size, _, I.laid (t' := s.toks) (o := .lst (cutV xs lo hi)) (fun b ob q => Heap.get?_push_of_some _ q) (Nat.le_refl _) ?_, rfl, q _ (I.hok.fresh (Nat.le_refl _))⟩
  exact ⟨Nat.le_trans (cutV_length xs lo hi) hz, _, 0, (r.drop (HT.sIx xs.length 0 lo)).take (HT.sIx xs.length xs.length hi - HT.sIx xs.length 0 lo), Heap.get?_push_size _ rfl⟩

/-! ### in, not in: flat items -/
def flatV : V → Bool
  | .non => true
  | .bl _ => true
  | .int _ => true
  | .str _ => true
  | _ => false
/-- == of flat values -/
def eqV : V → V → Bool
  | .non, .non => true
  | .bl a, .bl b => a == b
  | .bl a, .int b => (if a then 1 else 0) == b
  | .int a, .bl b => a == (if b then 1 else 0)
  | .int a, .int b => a == b
  | .str a, .str b => a == b
  | _, _ => false
theorem eqAt_V {A : Around} {s : Shared} {y x : V} {u v : Value} (ry : RelV y u) (rx : RelV x v) (fy : flatV y = true) (fx : flatV x = true) : SeqAt.EqAt A s u v (eqV y x) := by
  cases y with
  | non =>
    cases ry
    cases x with
    | non => cases rx; exact SeqAt.EqAt.same _
    | bl b => cases rx; exact SeqAt.EqAt.none_bool b
    | int b => obtain ⟨t, rfl⟩ := rx; exact SeqAt.EqAt.none_int b t
    | str b => obtain ⟨t, rfl⟩ := rx; exact SeqAt.EqAt.none_str b t
    | _ => exact absurd (show false = true from fx) Bool.false_ne_true
  | bl a =>
    cases ry
    cases x with
    | non => cases rx; exact SeqAt.EqAt.bool_none a
    | bl b => cases rx; exact SeqAt.EqAt.bool_bool a b
    | int b => obtain ⟨t, rfl⟩ := rx; exact SeqAt.EqAt.bool_int a b t
    | str b => obtain ⟨t, rfl⟩ := rx; exact SeqAt.EqAt.bool_str a b t
    | _ => exact absurd (show false = true from fx) Bool.false_ne_true
  | int a =>
    obtain ⟨t', rfl⟩ := ry
    cases x with
    | non => cases rx; exact SeqAt.EqAt.int_none a t'
    | bl b => cases rx; exact SeqAt.EqAt.int_bool a t' b
    | int b => obtain ⟨t, rfl⟩ := rx; exact SeqAt.EqAt.int_int a t' b t
    | str b => obtain ⟨t, rfl⟩ := rx; exact SeqAt.EqAt.int_str a t' b t
    | _ => exact absurd (show false = true from fx) Bool.false_ne_true
  | str a =>
    obtain ⟨t', rfl⟩ := ry
    cases x with
    | non => cases rx; exact SeqAt.EqAt.str_none a t'
    | bl b => cases rx; exact SeqAt.EqAt.str_bool a t' b
    | int b => obtain ⟨t, rfl⟩ := rx; exact SeqAt.EqAt.str_int a t' b t
    | str b => obtain ⟨t, rfl⟩ := rx; exact SeqAt.EqAt.str_str a t' b t
    | _ => exact absurd (show false = true from fx) Bool.false_ne_true
  | _ => exact absurd (show false = true from fy) Bool.false_ne_true
/-- the items' answers, read off the values (a value's own answer does not lean on its token) -/
def eqU (x : V) (u : Value) : Bool := match u with
  | .none => eqV .non x
  | .bool b => eqV (.bl b) x
  | .int i _ => eqV (.int i) x
  | .str z _ => eqV (.str z) x
  | _ => false
theorem eqU_of {x y : V} {u : Value} (r : RelV y u) (f : flatV y = true) : eqU x u = eqV y x := by
  cases y with
  | non => cases r; rfl
  | bl b => cases r; rfl
  | int i => obtain ⟨t, rfl⟩ := r; rfl
  | str z => obtain ⟨t, rfl⟩ := r; rfl
  | _ => exact absurd (show false = true from f) Bool.false_ne_true
theorem any_eqU {x : V} : ∀ {xs : List V} {us : List Value}, Vals xs us → xs.all flatV = true → us.any (eqU x) = xs.any fun y => eqV y x
  | _, _, .nil, _ => rfl
  | y :: xs, u :: us, .cons r t, f => by
    rw [List.all_cons, Bool.and_eq_true] at f
    rw [List.any_cons, List.any_cons, eqU_of r f.1, any_eqU t f.2]
theorem mem_eqAt {A : Around} {s : Shared} {x : V} {v : Value} (rx : RelV x v) (fx : flatV x = true) : ∀ {xs : List V} {us : List Value}, Vals xs us → xs.all flatV = true → ∀ u ∈ us, SeqAt.EqAt A s u v (eqU x u)
  | _, _, .nil, _ => fun u hu => by cases hu
  | y :: xs, u :: us, .cons r t, f => fun u' hu => by
    rw [List.all_cons, Bool.and_eq_true] at f
    rcases List.mem_cons.mp hu with rfl | hu
    · rw [eqU_of r f.1]; exact eqAt_V r rx f.1 fx
    · exact mem_eqAt rx fx t f.2 u' hu
def inV (x : V) (xs : List V) : Bool := xs.any fun y => eqV y x
/-- x in a list or tuple of flat items -/
def rIn (K : PySem.W.Frag) (neg : Bool) : R2 := fun x y H Q => ∃ p xs, y = .ref p ∧ (SqL K H p xs ∨ SqT K H p xs) ∧ flatV x = true ∧ xs.all flatV = true ∧ Q (.bl (if neg then !inV x xs else inV x xs)) H
theorem op_in_seq : OpR X (compareOp .In) (rIn X.K false) := by
  intro pins s σ H x y v u Q I rx ry h
  obtain ⟨p, xs, rfl, hq, fx, fs, q⟩ := h
  cases ry
  rcases hq with hq | hq
  · obtain ⟨its, r, pl, hz⟩ := I.list hq
    refine SeqAt.in_listAt (eqU x) pl.isList (fun w hw => mem_eqAt rx fx r fs w (by simpa using hw)) ⟨.bl _, H, I, rfl, ?_⟩
    rw [show its.toArray.any (eqU x) = its.any (eqU x) by simp, any_eqU r fs]
    exact q
  · obtain ⟨its, r, pl, hz⟩ := I.tuple hq
    refine SeqAt.in_tupleAt (eqU x) pl (fun w hw => mem_eqAt rx fx r fs w (by simpa using hw)) ⟨.bl _, H, I, rfl, ?_⟩
    rw [show its.toArray.any (eqU x) = its.any (eqU x) by simp, any_eqU r fs]
    exact q
/-! ### len, list(x), tuple(x) of any list or tuple that is read -/
theorem call_len_seq : CallR X (.builtin "len") (fun xs H Q => ∃ p ys, xs = [.ref p] ∧ (SqL X.K H p ys ∨ SqT X.K H p ys) ∧ Q (.int ys.length) H) := by
  intro pins s σ H xs us Q I r h
  obtain ⟨p, ys, rfl, hq, q⟩ := h
  obtain ⟨u, rfl, rx⟩ := vals1 r
  cases rx
  have hn := line63
  rcases hq with hq | hq
  · obtain ⟨its, r', pl, hz⟩ := I.list hq
    have hlen := r'.length
    exact Calls.call_len_list pl.isList (by simp only [List.size_toArray] <;> omega) ⟨.int ys.length, H, I.tok _, ⟨s.toks + 1, by rw [List.size_toArray, hlen]⟩, q⟩
  · obtain ⟨its, r', pl, hz⟩ := I.tuple hq
    have hlen := r'.length
    exact len_tuple pl (by simp only [List.size_toArray] <;> omega) ⟨.int ys.length, H, I.tok _, ⟨s.toks + 1, by rw [List.size_toArray, hlen]⟩, q⟩
theorem CallR.or {f : Value} {r r' : List V → Hp → VK → Prop} (h : CallR X f r) (h' : CallR X f r') : CallR X f (fun xs H Q => r xs H Q ∨ r' xs H Q) := by
  intro pins s σ H xs us Q I rs q
  rcases q with q | q
  · exact h pins s σ H xs us Q I rs q
  · exact h' pins s σ H xs us Q I rs q
theorem call_list_of : CallR X (.type "list") (fun xs H Q => ∃ p ys, xs = [.ref p] ∧ (SqL X.K H p ys ∨ SqT X.K H p ys) ∧ ∀ l, H l = none → Q (.ref l) (upd H l (.lst ys))) := by
  intro pins s σ H xs us Q I r h
  obtain ⟨p, ys, rfl, hq, q⟩ := h
  obtain ⟨u, rfl, rx⟩ := vals1 r
  cases rx
  have fin : ∀ (its : List Value), Vals ys its → ys.length ≤ sizeLine → ∀ (h' : Heap) (c' : Nat), (∀ b o', s.heap.get? b = some o' → h'.get? b = some o') →
      h'.get? s.heap.objs.size = some { cls := .type "list", dict := none, data := .seq its.toArray c', slots := #[] } → EP X pins σ Q (.ref s.heap.objs.size) { s with heap := h' } := fun its r' hz h' c' kp e =>
    ⟨.ref s.heap.objs.size, _, I.laid (t' := s.toks) kp (Nat.le_refl _) (show ObjOk X.prog X.w _ h' _ (.lst ys) from ⟨hz, its, c', r', e⟩), rfl, q _ (I.hok.fresh (Nat.le_refl _))⟩
  rcases hq with hq | hq
  · obtain ⟨its, r', pl, hz⟩ := I.list hq
    have hlen := r'.length
    obtain ⟨o, ho, hc, n, hd⟩ := pl.isList
    exact call_list_seq p (.inl rfl) ho hc hd (fun h' c' kp e => fin its r' hz h' c' kp e) (by simp only [List.size_toArray] <;> omega)
  · obtain ⟨its, r', pl, hz⟩ := I.tuple hq
    have hlen := r'.length
    obtain ⟨o, ho, hc, n, hd⟩ := pl
    exact call_list_seq p (.inr rfl) ho hc hd (fun h' c' kp e => fin its r' hz h' c' kp e) (by simp only [List.size_toArray] <;> omega)
/-! ### the call of a builtin's method: o.m(..) -/
/-- the value is of that builtin type -/
def tyV (K : PySem.W.Frag) (T : String) (x : V) (H : Hp) : Prop := match x with
  | .str _ => T = "str"
  | .int _ => T = "int"
  | .ref p => (T = "list" ∧ ∃ xs, SqL K H p xs) ∨ (T = "tuple" ∧ ∃ o, K.lookup p = some o ∧ o.cls = .type "tuple" ∧ o.dict = none) ∨
      (T = "dict" ∧ ((∃ kvs, H p = some (.dK kvs)) ∨ ∃ kvs, H p = some (.dT kvs))) ∨ (T = "set" ∧ ∃ S n, H p = some (.set S n))
  | _ => False
theorem tyV_is {pins : List (Addr × Obj)} {σ : St} {H : Hp} {s : Shared} {T : String} {x : V} {v : Value} (I : Inv X pins σ H s) (r : RelV x v) (ty : tyV X.K T x H) :
    s.TypeIs v T ∧ ∀ a, v = .ref a → ∃ ob, s.heap.get? a = some ob ∧ ob.dict = none := by
  cases x with
  | str z =>
    obtain ⟨t, rfl⟩ := r
    cases (show T = "str" from ty)
    exact ⟨typeIs_str s z t, fun _ e => nomatch e⟩
  | int i =>
    obtain ⟨t, rfl⟩ := r
    cases (show T = "int" from ty)
    exact ⟨typeIs_int s i t, fun _ e => nomatch e⟩
  | ref p =>
    cases r
    rcases ty with ⟨rfl, xs, hq⟩ | ⟨rfl, o, hk, hc, hd⟩ | ⟨rfl, hk⟩ | ⟨rfl, S, n, hk⟩
    · obtain ⟨its, _, pl, _⟩ := I.list hq
      refine ⟨pl.isList.typeIs, fun a e => ?_⟩
      cases e
      obtain ⟨o, n, e, c, hd, _⟩ := pl
      exact ⟨o, e, hd⟩
    · refine ⟨⟨o, I.kIn p o hk, hc⟩, fun a e => ?_⟩
      cases e
      exact ⟨o, I.kIn _ o hk, hd⟩
    · have z : ∃ o, s.heap.get? p = some o ∧ o.ExactDict := by
        rcases hk with ⟨kvs, hk⟩ | ⟨kvs, hk⟩
        · obtain ⟨_, _, _, _, o, _, _, e, ex, _⟩ := I.hok p _ hk
          exact ⟨o, e, ex⟩
        · obtain ⟨_, _, _, _, o, _, _, e, ex, _⟩ := I.hok p _ hk
          exact ⟨o, e, ex⟩
      obtain ⟨o, e, ex⟩ := z
      refine ⟨⟨o, e, ex.1⟩, fun a e2 => ?_⟩
      cases e2
      exact ⟨o, e, ex.2.1⟩
    · obtain ⟨o, _, _, _, e, ex, _⟩ := I.hok p _ hk
      refine ⟨⟨o, e, ex.1⟩, fun a e2 => ?_⟩
      cases e2
      exact ⟨o, e, ex.2.1⟩
  | _ => exact False.elim ty
def tBM0 (K : PySem.W.Frag) (T : String) (r : V → List V → Hp → VK → Prop) (to : TE) : TE := fun σ H Q => to σ H fun x H1 => tyV K T x H1 ∧ r x [] H1 Q
def tBM (K : PySem.W.Frag) (T : String) (r : V → List V → Hp → VK → Prop) (to : TE) (t : TA) : TE := fun σ H Q => to σ H fun x H1 => tyV K T x H1 ∧ t σ H1 fun xs H2 => r x xs H2 Q
variable {o e : Expr} {es : List Expr} {to : TE} {t : TA} {name : Str} {apos cpos : Pos} {T id : String} {r : V → List V → Hp → VK → Prop}
theorem pe_bm0 (pa : PlainAttrs T) (slot : Slot T name id) (hty : typeOf (.builtin id) = pure (.type "method_descriptor")) (hm : MtR X id r) (ho : PE X o to)
    (hbase : attributeBase o name X.env (eval o X.env) = eval o X.env := by rfl) (hline : (apos.endLine == cpos.line) = true := by rfl) : PE X (.Call (.Attribute o name apos) [] [] cpos) (tBM0 X.K T r to) := by
  intro pins s σ H Q I h
  refine wpAny_Call_method0_late hbase hline (thn (ho pins s σ H _ I h) fun v s1 ⟨x, H1, I1, r1, ty, q1⟩ => ?_)
  obtain ⟨h1, h2⟩ := tyV_is I1 r1 ty
  exact ⟨T, id, pa, slot, hty, h1, h2, Calls.callWith_builtin rfl (PySem.evalArgs_none (hm pins s1 σ H1 x [] v [] Q I1 r1 .nil q1))⟩
theorem pe_bm (pa : PlainAttrs T) (slot : Slot T name id) (hty : typeOf (.builtin id) = pure (.type "method_descriptor")) (hm : MtR X id r) (ho : PE X o to) (ha : PA X (e :: es) t)
    (hbase : attributeBase o name X.env (eval o X.env) = eval o X.env := by rfl)
    (hfew : ((backTo cpos (starEach (e :: es) X.env)).all (fun x => !x.1) && (backToKw cpos (keywordEach [] X.env)).all (fun x => x.1.isSome)
      && decide ((e :: es).length + ([] : List Keyword).length + (if ([] : List Keyword).isEmpty then 0 else 1) < 30)) = true := by rfl)
    (hline : (apos.endLine == cpos.line) = true := by rfl) (hs : starEach (e :: es) X.env = (false, eval e X.env) :: starEach es X.env := by rfl) (hplain : (backTo cpos (starEach es X.env)).any (·.1) = false := by rfl) :
    PE X (.Call (.Attribute o name apos) (e :: es) [] cpos) (tBM X.K T r to t) := by
  intro pins s σ H Q I h
  refine wpAny_Call_method_late hbase hfew hline rfl (thn (ho pins s σ H _ I h) fun v s1 ⟨x, H1, I1, r1, ty, q1⟩ => ?_)
  obtain ⟨h1, h2⟩ := tyV_is I1 r1 ty
  refine ⟨T, id, pa, slot, hty, h1, h2, ?_⟩
  have hA := ha cpos pins s1 σ H1 _ I1 q1
  rw [hs] at hA ⊢
  refine Calls.callWith_builtin (by show (false || (backTo cpos (starEach es X.env)).any (·.1)) = false; rw [hplain] <;> rfl) (Calls.evalArgs_plain ?_)
  exact thn hA fun us s2 ⟨vs, H2, I2, r2, q2⟩ => hm pins s2 σ H2 x vs v us Q I2 r1 r2 q2
/- xs.append(e), list.index on a module's tuple .. are MtR facts of 06m -/
end
end L2

namespace L2
open PySem PySem.Spec PyProof.Rows

def MtM (X : Cx) (id : String) (r : V → List V → Hp → VK → Prop) : Prop :=
  ∀ (pins : List (Addr × Obj)) (s : Shared) (σ : St) (H : Hp) (x : V) (xs : List V) (v : Value) (us : List Value) (Q : VK), Inv X pins σ H s → RelV x v → Vals xs us → r x xs H Q →
    wpAny (model X.prog X.w) X.A (call (.builtin id) (v :: us)) (EP X pins σ Q) X.xe s

/-! ### lists of values -/
theorem Vals.one : ∀ {x : V} {us : List Value}, Vals [x] us → ∃ u, us = [u] ∧ RelV x u
  | _, _, .cons r .nil => ⟨_, rfl, r⟩
theorem Vals.two : ∀ {x y : V} {us : List Value}, Vals [x, y] us → ∃ u v, us = [u, v] ∧ RelV x u ∧ RelV y v
  | _, _, _, .cons r (.cons q .nil) => ⟨_, _, rfl, r, q⟩
theorem Vals.zero : ∀ {us : List Value}, Vals [] us → us = []
  | _, .nil => rfl
theorem Vals.eraseIdx : ∀ {xs : List V} {us : List Value} (i : Nat), Vals xs us → Vals (xs.eraseIdx i) (us.eraseIdx i)
  | _, _, _, .nil => .nil
  | _, _, 0, .cons _ t => t
  | _, _, i + 1, .cons r t => .cons r (Vals.eraseIdx i t)
theorem Vals.reverse {xs : List V} {us : List Value} (h : Vals xs us) : Vals xs.reverse us.reverse := by
  induction h with
  | nil => exact .nil
  | cons r t ih => rw [List.reverse_cons, List.reverse_cons]; exact Vals.append ih (.cons r .nil)
section
variable {X : Cx} {pins : List (Addr × Obj)} {σ : St} {H : Hp} {s : Shared} {l b : Addr} {xs ys zs : List V}

/-! ### the two steps: a tracked list is rewritten, a new list is laid -/
theorem Inv.lset {its its' : List Value} {n : Nat} {f : Array Value → Array Value} {t' : Nat} (I : Inv X pins σ H s) (hH : H l = some (.lst xs))
    (e : s.heap.get? l = some { cls := .type "list", data := .seq its.toArray n }) (hf : f its.toArray = its'.toArray) (hv : Vals ys its') (hz : ys.length ≤ sizeLine) :
    Inv X pins σ (upd H l (.lst ys)) { s with heap := s.heap.update l (Obj.mapSeq f), toks := t' } := by
  have q := PySem.IsL.update e f
  rw [hf] at q
  refine I.write (x := l) (e := l) (by rw [hH]; exact trivial) (.inl rfl) (fun b' u hb hu => (Heap.get?_update_other s.heap (Obj.mapSeq f) (Ne.symm hb)).trans hu) ⟨_, q⟩ ?_
  exact ⟨hz, its', _, hv, q⟩
theorem Inv.lnew {its : List Value} {t' : Nat} (I : Inv X pins σ H s) (hv : Vals ys its) (hz : ys.length ≤ sizeLine) :
    Inv X pins σ (upd H s.heap.objs.size (.lst ys)) { s with heap := s.heap.push { cls := .type "list", data := .seq its.toArray }, toks := t' } :=
  I.laid (fun _ _ q => Heap.get?_push_of_some _ q) (Nat.le_refl _) ⟨hz, its, 0, hv, Heap.get?_push_size _ rfl⟩
theorem Inv.fresh (I : Inv X pins σ H s) : H s.heap.objs.size = none := I.hok.fresh (Nat.le_refl _)
theorem Inv.lstM (I : Inv X pins σ H s) (hH : H l = some (.lst xs)) : xs.length ≤ sizeLine ∧ ∃ (its : List Value) (n : Nat), Vals xs its ∧ xs.length = its.length ∧ s.heap.get? l = some { cls := .type "list", data := .seq its.toArray n } := by
  obtain ⟨z, its, n, r, e⟩ := I.hok l _ hH
  exact ⟨z, its, n, r, r.length, e⟩

end

section
variable {X : Cx}

/-! ### methods -/
def rAppend : V → List V → Hp → VK → Prop := fun x vs H Q => ∃ l xs y, x = .ref l ∧ vs = [y] ∧ H l = some (.lst xs) ∧ xs.length < sizeLine ∧ Q .non (upd H l (.lst (xs ++ [y])))
theorem mt_append : MtM X "list.append" rAppend := by
  intro pins s σ H x vs v us Q I rx rv h
  obtain ⟨l, xs, y, rfl, rfl, hH, hz, q⟩ := h
  cases rx
  obtain ⟨u, rfl, ru⟩ := rv.one
  obtain ⟨z, its, n, r, hl, e⟩ := I.lstM hH
  refine call_meets F.slot_list_append ⟨_, e, rfl⟩ F.entry_list_append (F.args_list_append_2 _ _) (PySem.list_append l its.toArray n u (by rw [List.size_toArray]; omega)) ⟨e, ?_⟩
  refine ⟨.non, _, I.lset (its' := its ++ [u]) hH e (by simp) (r.append (.cons ru .nil)) ?_, rfl, q⟩
  rw [List.length_append, List.length_singleton]
  omega

/-! ### list + list, list += list, list * int -/
def rCat : R2 := fun x y H Q => ∃ l b xs zs, x = .ref l ∧ y = .ref b ∧ H l = some (.lst xs) ∧ H b = some (.lst zs) ∧ xs.length + zs.length ≤ sizeLine ∧ ∀ p, H p = none → Q (.ref p) (upd H p (.lst (xs ++ zs)))
theorem op_cat : OpR X (binaryOp .Add) rCat := by
  intro pins s σ H x y v u Q I rx ry h
  obtain ⟨l, b, xs, zs, rfl, rfl, hH, hB, hz, q⟩ := h
  cases rx
  cases ry
  obtain ⟨z, its, n, r, hl, e⟩ := I.lstM hH
  obtain ⟨z2, its2, n2, r2, hl2, e2⟩ := I.lstM hB
  refine PySem.P.add_list e e2 ?_ (by rw [List.size_toArray, List.size_toArray]; omega)
  have ea : its.toArray ++ its2.toArray = (its ++ its2).toArray := by simp
  rw [ea]
  exact ⟨.ref _, _, I.lnew (t' := s.toks) (r.append r2) (by rw [List.length_append]; omega), rfl, q _ I.fresh⟩
/-! ### del xs[i] -/
end

/-! ### xs[a:b] = ys -/
section
variable {prog : Program} {w : World} {A : Around} {E : Value → Shared → Prop} {s : Shared}
end

section
variable {X : Cx}
end
end L2

namespace Att
open PySem PySem.W PySem.Calls PyProof.Rows

/-! ### the script -/
theorem ints_of_wellAll {P : Params} {h : Heap} : ∀ (ns : List Int) (vs : List Value), WellAll P h vs (ns.map WData.int) → IntsAre vs ns := by
  intro ns
  induction ns with
  | nil =>
    intro vs w
    rw [List.map_nil] at w
    cases w
    exact .nil
  | cons n ns ih =>
    intro vs w
    rw [List.map_cons] at w
    cases w with
    | cons a b =>
      cases a
      exact .cons _ _ (ih _ b)

theorem script_of {l : OpenLaw} {n : Nat} (hn : l.most = some n) {P : Params} {h : Heap} {args : List WData} {vals : List Value}
    (hpre : l.row.toRowW.claim.pre args = true) (hwl : WellAll P h vals args) :
    ∃ a vs ns, vals = [Value.ref a] ∧ args = [WData.list (ns.map WData.int)] ∧ h.get? a = some { cls := .type "list", data := .seq vs.toArray } ∧ IntsAre vs ns ∧ ns.length ≤ n := by
  have hsh : WShape.hasAll [] args [.list .int] = true := (pre_splitW hpre).1
  have hc : l.pre.holds [] { args := args } = true := (pre_splitW hpre).2
  obtain ⟨d, r, rfl, h1, h2⟩ := hasAllW_cons hsh
  obtain rfl := hasAllW_nil h2
  obtain ⟨xs, rfl, h3⟩ := hasW_list h1
  obtain ⟨ns, rfl⟩ := items_int h3
  have hlen : ns.length ≤ n := by
    unfold OpenLaw.pre at hc
    have h4 : (WTm.not (.lt (.lit (.int (n : Int))) (.len (.arg 0)))).holds [] { args := [.list (ns.map .int)] } = true := by
      have h4 := (holds_andW hc).1
      rw [hn] at h4
      exact h4
    have h5 := condW_of h4 (w_not (w_lt w_lit (w_len_list (w_arg rfl))))
    rw [List.length_map] at h5
    refine Nat.le_of_not_lt fun q => ?_
    have q' : (n : Int) < ((ns.length : Nat) : Int) := by omega
    first
      | (rw [decide_eq_true q'] at h5; exact absurd h5 (by decide))
      | (simp at h5; omega)
  cases hwl with
  | cons w1 w2 =>
    cases w2
    cases w1 with
    | list ho hall => exact ⟨_, _, ns, rfl, rfl, ho, ints_of_wellAll ns _ hall, hlen⟩

theorem post_true (l : OpenLaw) (args : List WData) : l.row.toRowW.claim.post args (.bool true) args = true :=
  postW_of (r := l.row.toRowW) (X := (true == true))
    (show WShape.has [] (.bool true) .bool = true by first | rfl | decide | simp [WShape.has, WShape.arms, WShape.armsAll])
    (show (WTm.eq .res (.lit (.bool true))).value [] { args := args, res := some (.bool true), after := args } = some (.bool (true == true)) from w_eq_bool (w_res rfl) w_lit) rfl

/-! ### the attachment: holds_open's last premise (the goal 'hc' behind k_head) from a wpAny of the law's body -/
/-- the same from a codeAny of the CALL (for a layer whose function contracts speak of calls) -/
theorem attach_call {l : OpenLaw} {n : Nat} {q : Program} {loose : List Str} {XP : (Str → Option Value) → Heap → Prop} {YP : World → Heap → Prop} {d : DefRec}
    (hn : l.most = some n) (hdf : d.params.defaults = [])
    (call : ∀ (w : World) (s₀ s₁ : Shared) (mg mb : Str → Option Value) (fa : Addr) (o : Obj) (pm cd doc : Value) (a : Addr) (vs : List Value) (ns : List Int),
      Ground q loose [] XP w s₀ mg mb s₁.heap → YP w s₁.heap →
      s₁.heap.get? fa = some o → o.data = .func (docDef d.name d.params d.body d.scope pm cd doc) → s₁.heap.CodeRec cd d.name → mg d.name = some (.ref fa) →
      s₁.heap.get? a = some { cls := .type "list", data := .seq vs.toArray } → IntsAre vs ns → ns.length ≤ n → s₁.gens = #[] →
      codeAny (model l.prog w) callerA (.call (.ref fa) ⟨[.ref a], []⟩) (fun r s' => r = .ok (.ret (.bool true)) ∧ OldK s₁.heap s'.heap ∧ s'.os = s₁.os ∧ AllBare s'.gens) s₁) :
    WalkO q loose XP YP l.row.toRowW d [] (fun f vs => PySem.call f vs) := by
  intro w s₀ s₁ mg mb G Y fa o pm cd doc dV kV ho hd hcd hD hmg hg args vals as hpre hlay hrd hwl hlo
  obtain rfl : dV = .none := Dflts.none hD hdf
  obtain rfl : kV = .none := Dflts.noKw hD
  obtain ⟨a, vs, ns, rfl, rfl, hobj, hints, hlen⟩ := script_of hn hpre hwl
  refine enter_call (codeAny_mono (call w s₀ s₁ mg mb fa o pm cd doc a vs ns G Y ho (fd_plain hd) hcd hmg hobj hints hlen hg) fun r s' hq => ?_)
  obtain ⟨rfl, h2, h3, h4⟩ := hq
  exact ⟨.inl ⟨.bool true, .bool true, [], rfl, fun _ => rfl, .bool true, post_true l _, fun _ => ⟨List.Pairwise.nil, fun _ hm => (nomatch hm)⟩⟩, h2, h3, h4⟩

/-! ### rules over ANY heap (no ledger) from facts about the written part K: the library's own take a ledger (News) for what they write -/
section
variable {prog : Program} {w : World} {A : Around} {E : Value → Shared → Prop} {s : Shared} {K : Frag}

/-! the whole heap as the ledger: makes every rule that writes through a ledger a rule over any heap -/
def ledger (h : Heap) (L d : Addr) : List (Addr × Obj) := (List.range h.objs.size).filterMap fun a => if a = L ∨ a = d then none else (h.get? a).map fun o => (a, o)
end
end Att

namespace L2
open PySem PySem.Spec PyProof.Rows

theorem vals_ints : ∀ {vs : List Value} {ns : List Int}, IntsAre vs ns → Vals (ns.map V.int) vs
  | _, _, .nil => .nil
  | _, _, .cons n t h => .cons ⟨t, rfl⟩ (vals_ints h)

/-- nothing is tracked but the script, known to the object (or it is an object of the module) -/
def Only (H : Hp) : Prop := ∀ b, H b = none ∨ ∃ o xs, H b = some (.frz o (.lst xs))

/-- THE HEAD: the law's promise, at the heap behind the top. F, the promise of the law's def, may use that base is part of the heap (so K.In base, base.Ns mainGlobals mg stand in Mod) -/
theorem law_call {P : Program} {w : World} {K : PySem.W.Frag} {mg mb : Str → Option Value} {CX : CXT} {k : Nat} {fa a : Addr} {fd : FuncData} {x : Str} {sp : Sp} {s₁ : Shared} {vs : List Value} {ns : List Int}
    (KX : K.In s₁.heap) (hns : s₁.heap.Ns mainGlobals mg) (hb : s₁.heap.Ns builtinsNs mb) (hbb : ∀ x : Str, x ≠ "__name__" → mb x = bootBuiltins x) (hlim : s₁.heap.NoLimit) (hg : s₁.gens = #[])
    (ha : s₁.heap.get? a = some { cls := .type "list", data := .seq vs.toArray }) (hi : IntsAre vs ns) (hl : ns.length ≤ sizeLine) (hr : Room k callerA)
    (F : ∀ base : Heap, K.In base → base.Ns mainGlobals mg → FnOk P w K mg base CX k fa fd [x] sp) (hbind : ∀ (s : Shared) (u : Value), BindsTo s fd ⟨[u], []⟩ [(x, u)])
    (hsp : ∀ H : Hp, Only H → SqL K H a (ns.map V.int) → sp [.ref a] H (fun v _ => v = .bl true) fun _ _ _ => False)
    (hCX : ∀ H e s', CX [] H s₁ (fun _ _ _ => False) e s' → False) :
    codeAny (model P w) callerA (.call (.ref fa) ⟨[.ref a], []⟩) (fun r s' => r = .ok (.ret (.bool true)) ∧ OldK s₁.heap s'.heap ∧ s'.os = s₁.os ∧ AllBare s'.gens) s₁ := by
  have rv := vals_ints hi
  have lenV := hi.length
  -- from an abstract heap in which nothing but the script may be tracked
  have core : ∀ H : Hp, Only H → SqL K H a (ns.map V.int) → HOk P w H s₁.heap → (∀ b, H b ≠ none → b = a) → (H a ≠ none → K.lookup a = none) →
      codeAny (model P w) callerA (.call (.ref fa) ⟨[.ref a], []⟩) (fun r s' => r = .ok (.ret (.bool true)) ∧ OldK s₁.heap s'.heap ∧ s'.os = s₁.os ∧ AllBare s'.gens) s₁ := by
    intro H hO hS hok hA hK
    have base_of : ∀ {b : Addr} {o : Obj}, s₁.heap.get? b = some o → H b = none → (hidT s₁.heap H).get? b = some o := fun e n => hidT_get e n
    have noA : ∀ {b : Addr} {o : Obj} {es : Array DictEntry} {ep : Nat}, s₁.heap.get? b = some o → o.data = .dict es ep → H b = none := fun {b o es ep} e d => by
      cases q : H b with
      | none => rfl
      | some u =>
        have e' : b = a := hA b (by rw [q]; simp)
        subst e'
        rw [ha] at e; cases e
        have d' : Data.seq vs.toArray _ = Data.dict es ep := d
        cases d'
    have nsK : ∀ {b : Addr} {m : Str → Option Value}, s₁.heap.Ns b m → (hidT s₁.heap H).Ns b m := fun {b m} ⟨o, es, ep, e, d, r⟩ => ⟨o, es, ep, base_of e (noA e d), d, r⟩
    have hKb : K.In (hidT s₁.heap H) := fun b o e => base_of (KX b o e) (by
      cases q : H b with
      | none => rfl
      | some u =>
        have e' : b = a := hA b (by rw [q]; simp)
        subst e'
        rw [hK (by rw [q]; simp)] at e; cases e)
    have hM : Mod K mg (hidT s₁.heap H) := ⟨hKb, nsK hns, ⟨mb, nsK hb, hbb⟩, let ⟨mc, h1, h2⟩ := hlim; ⟨mc, nsK h1, h2⟩⟩
    have e0 : Env0 P w K mg (hidT s₁.heap H) callerA [] s₁ H := ⟨rfl, hM, fun b o e => of_hidT e, Nat.le_of_eq (hidT_size _ _), trivial, fun b hb => absurd (show b ∈ ([] : List Addr) from hb) (by simp), hok, .of_eq hg⟩
    refine codeAny_mono ((F _ hKb (nsK hns)).run callerA [] s₁ H ⟨[.ref a], []⟩ [.ref a] [.ref a] _ _ hr e0 (hbind s₁ (.ref a)) (.cons rfl .nil) (hsp H hO hS)) fun r s' h => ?_
    cases r with
    | error e => exact (hCX H e s' h).elim
    | ok fl =>
      cases fl with
      | next => exact False.elim h
      | brk => exact False.elim h
      | cont => exact False.elim h
      | ret u =>
        obtain ⟨v, H', os, bare, un, hok', r', q⟩ := h
        have q' : v = .bl true := q
        subst q'
        obtain rfl : u = Value.bool true := r'
        refine ⟨rfl, OldK.of_keep fun b o e => ?_, os, bare⟩
        cases q : H b with
        | none => exact un.keep b o e q (by intro z; exact absurd (show b ∈ ([] : List Addr) from z) (by simp)) (by simp)
        | some u =>
          rcases hO b with z | ⟨ob, xs, z⟩
          · rw [q] at z; cases z
          · have z2 := un.frzs b ob _ z
            obtain ⟨e1, _⟩ := hok b _ z
            obtain ⟨e2, _⟩ := hok' b _ z2
            rw [e] at e1; cases e1
            exact e2
  cases hk : K.lookup a with
  | some o =>
    -- the script is one of the module's own objects
    have e := KX a o hk
    rw [ha] at e
    cases e
    refine core (fun _ => none) (fun _ => .inl rfl) (.inr ⟨_, vs.toArray, _, hk, rfl, rfl, rfl, by rw [List.size_toArray, lenV]; exact hl, by simpa using rv⟩) (fun b u z => by have z' : (none : Option HO) = some u := z; cases z') (fun b z => absurd rfl z) fun z => absurd rfl z
  | none =>
    refine core (fun b => if b = a then some (.frz { cls := .type "list", data := .seq vs.toArray } (.lst (ns.map V.int))) else none) (fun b => ?_) (.inl (.inr ⟨{ cls := .type "list", data := .seq vs.toArray }, if_pos rfl⟩)) (fun b u z => ?_) (fun b z => ?_) fun _ => hk
    · by_cases hb : b = a
      · exact .inr ⟨_, _, if_pos hb⟩
      · exact .inl (if_neg hb)
    · by_cases hb : b = a
      · have z' := (if_pos hb).symm.trans z
        cases z'
        subst hb
        exact ⟨ha, by rw [List.length_map]; exact hl, vs, _, rv, ha⟩
      · have z' := (if_neg hb).symm.trans z
        cases z'
    · by_cases hb : b = a
      · exact hb
      · exact absurd (if_neg hb) z
end L2

namespace L2
open PySem PySem.Spec PyProof.Rows

abbrev KOf {K : PySem.W.Frag} {h : Heap} (_ : K.In h) : PySem.W.Frag := K

/-- the goal that k_head leaves (case hc), from the law's promise. F gives the function object fd (K's own) once, then the promise over every base -/
theorem walk_of {l : PySem.W.OpenLaw} {n k : Nat} {q : Program} {loose : List Str} {XP : (Str → Option Value) → Heap → Prop} {YP : World → Heap → Prop} {d : DefRec} {K : Params → PySem.W.Frag} {CX : World → CXT} {sp : World → Sp} {x : Str}
    (hn : l.most = some n) (hn2 : n ≤ sizeLine) (hdf : d.params.defaults = []) (hr : Room k callerA)
    (hY : ∀ (w : World) (h : Heap), YP w h → (K w.params).In h)
    (F : ∀ (w : World) (mg : Str → Option Value) (fa : Addr) (h : Heap), (K w.params).In h → h.Ns mainGlobals mg → mg d.name = some (.ref fa) →
      ∃ fd : FuncData, (∀ (s : Shared) (u : Value), BindsTo s fd ⟨[u], []⟩ [(x, u)]) ∧
        ∀ base : Heap, (K w.params).In base → base.Ns mainGlobals mg → FnOk l.prog w (K w.params) mg base (CX w) k fa fd [x] (sp w))
    (hsp : ∀ (w : World) (H : Hp) (a : Addr) (ns : List Int), ns.length ≤ n → Only H → SqL (K w.params) H a (ns.map V.int) → sp w [.ref a] H (fun v _ => v = .bl true) fun _ _ _ => False)
    (hCX : ∀ (w : World) (H : Hp) (s : Shared) (e : Value) (s' : Shared), CX w [] H s (fun _ _ _ => False) e s' → False) :
    PySem.W.WalkO q loose XP YP l.row.toRowW d [] (fun f vs => PySem.call f vs) := by
  refine Att.attach_call hn hdf fun w s₀ s₁ mg mb fa o pm cd doc a vs ns G Y ho hd hcd hmg hobj hints hlen hg => ?_
  have KX := hY w _ Y
  obtain ⟨fd, hb, hF⟩ := F w mg fa _ KX G.T.g hmg
  exact law_call KX G.T.g G.T.b G.T.builtins G.T.nolimit hg hobj hints (Nat.le_trans hlen hn2) hr hF hb (fun H hO hS => hsp w H a ns hlen hO hS) fun H e s' => hCX w H s₁ e s'
end L2

/- THE LAST THEOREM (shape; LID, My.* are yours):
   My.Adr: a structure of the addresses that your layer names (classes, functions); My.Txt K t: a structure (Prop) of the equations over K;
   My.txt_mk : {K} {implicit addresses ..} (e1 : nsIn K mainGlobals "law" = some (some (.ref f))) (e2 : K.lookup f = some ⟨oc, od, .func (fnOf "law" "law" params body scope dV kV doc pm an cdv ct), sl⟩) (e3 : codeIn K cdv "law" = true) .. : ∃ t, My.Txt K t

set_option maxRecDepth 100000 in
set_option maxHeartbeats 0 in
theorem PySem.Challenge.cw_LID_holds : PySem.Challenge.rw_LID.Holds := by
  w_on; o_law; k_head; (case hw => w_witness2)
  k_fill
  refine L2.walk_of (l := PySem.Challenge.rw_LID) (n := 63) (k := 40) (x := "script") (CX := fun w => ..) (sp := fun _ => My.sp_law) rfl (by decide) rfl ⟨rfl, by decide, by decide⟩ (fun w h Y => PySem.W.kIn_of Y) ?F ?S ?C
  case F =>
    intro w mg fa h KX G hmg
    have T : ∃ t, My.Txt (L2.KOf KX) t := by
      dsimp only [L2.KOf]                          -- K must stand as «<heap const> w.params» for k_is
      refine' My.txt_mk ?e1 ?e2 ?e3 ..
      (case e1 => PySem.W.k_is)                    -- in the order: a name -> its address -> its object -> its parts
      (case e2 => PySem.W.k_is)
      ..
    obtain ⟨t, T⟩ := T
    have e0 := hmg.symm.trans (PySem.W.mg_of KX G T.law)
    cases e0                                       -- fa is the law's own address
    exact ⟨_, fun s u => .of_eq rfl, fun base kb nb => My.law_fn T kb nb⟩     -- if «.of_eq rfl» comes too early: refine' ⟨_, ?b, fun base kb nb => My.law_fn T kb nb⟩; exact fun s u => .of_eq rfl
  case S => exact fun w H a ns hl hO hS => ..
  case C => exact ..
(the tactic k_is has no namespace: write k_is) -/

/-! SHORT WORDS over the layer: a def of the text, its body, what a loop and a test want. -/
namespace L2
open PySem PySem.Spec PyProof.Rows

/-! ### the text by places -/
/-- the j-th statement of a class's body -/
def inClass (s : Stmt) (j : Nat) : Stmt := match s with
  | .ClassDef _ _ _ body _ _ _ _ _ _ _ => body.getD j (.Pass ⟨0, 0, 0, 0⟩)
  | _ => .Pass ⟨0, 0, 0, 0⟩
def defArgs (s : Stmt) : Arguments := match s with
  | .FunctionDef _ a _ _ _ _ _ _ _ _ => a
  | _ => { posonlyargs := [], args := [], vararg := none, kwonlyargs := [], kw_defaults := [], kwarg := none, defaults := [] }
def defBody (s : Stmt) : List Stmt := match s with
  | .FunctionDef _ _ b _ _ _ _ _ _ _ => b
  | _ => []
def defScope (s : Stmt) : Scope := match s with
  | .FunctionDef _ _ _ _ _ _ sc _ _ _ => sc
  | _ => { kind := .function, names := [], isGenerator := false, isCoroutine := false }

/-! ### no exception leaves a def -/
abbrev CX0 : CXT := fun _ _ _ _ _ _ => False
abbrev E0 : XK := fun _ _ _ => False
theorem pass0 {X : Cx} : Passes CX0 X E0 := fun _ _ _ _ _ _ _ h => h.elim

/-! ### a def (or method) of the text as it stands behind the top -/
structure Fun (K : PySem.W.Frag) (x qual : Str) (st : Stmt) (f : Addr) (fd : FuncData) : Prop where
  ex : ∃ (oc : Value) (od : Option Addr) (kV doc pm : Value) (an : Option Addr) (cdv ct : Value) (osl : Array (Option Value)),
    fd = PySem.W.fnOf x qual (defArgs st) (defBody st) (defScope st) .none kV doc pm an cdv ct ∧ K.lookup f = some ⟨oc, od, .func fd, osl⟩ ∧ PySem.W.codeIn K cdv qual = true
  kp : PySem.W.keepIn K (.ref f) = true
section
variable {P : Program} {w : World} {K : PySem.W.Frag} {mg : Str → Option Value} {base : Heap}
/-- THE RULE for a def: its body as a term of rules, and the reading of that term -/
theorem Fun.ok {x qual : Str} {st : Stmt} {f : Addr} {fd : FuncData} {N ps : List Str} {k : Nat} {sp : Sp} (F : Fun K x qual st f fd) (S : FnScope N ps (defScope st)) (len : ∀ vs H Q E, sp vs H Q E → vs.length = ps.length)
    (hbody : ∀ (cdv : Value) (A : Around) (outer : List Env) (s : Shared) (H : Hp) (vs : List V) (Q : VK) (E : XK), Room k (A.deeper (envOfC qual (defScope st) s.heap.objs.size f cdv)) → sp vs H Q E →
      ∃ t, PSs (cxOf CX0 P w K mg base N qual (defScope st) f cdv A outer s H E).nox (defBody st) t ∧ t { nx := fun _ H' => Q .non H', rt := Q } (start N vs) H) : FnOk P w K mg base CX0 (k + 1) f fd ps sp := by
  obtain ⟨oc, od, kV, doc, pm, an, cdv, ct, osl, rfl, lk, hcd⟩ := F.ex
  refine fn_of lk hcd S len fun A outer s H vs Q E hr hsp => ?_
  obtain ⟨t, h, q⟩ := hbody cdv A outer s H vs Q E hr hsp
  exact ⟨t, h.nox, q⟩
/-- how its arguments bind (no defaults): h is «fun _ _ _ _ _ _ us hl => match us, hl with | [_, _], _ => rfl», one _ a parameter -/
theorem Fun.binds {x qual : Str} {st : Stmt} {f : Addr} {fd : FuncData} {ps : List Str} (F : Fun K x qual st f fd)
    (h : ∀ (kV doc pm : Value) (an : Option Addr) (cdv ct : Value) (us : List Value), us.length = ps.length → bindArgs (PySem.W.fnOf x qual (defArgs st) (defBody st) (defScope st) .none kV doc pm an cdv ct) ⟨us, []⟩ = pure (ps.zip us)) : Binds K fd ps [] := by
  obtain ⟨oc, od, kV, doc, pm, an, cdv, ct, osl, rfl, lk, hcd⟩ := F.ex
  exact .all (h kV doc pm an cdv ct)
theorem fun_mk {x qual : Str} {st : Stmt} {f : Addr} {oc : Value} {od an : Option Addr} {osl : Array (Option Value)} {kV doc pm cdv ct : Value} (l : K.lookup f = some ⟨oc, od, .func (PySem.W.fnOf x qual (defArgs st) (defBody st) (defScope st) .none kV doc pm an cdv ct), osl⟩)
    (c : PySem.W.codeIn K cdv qual = true) (k : PySem.W.keepIn K (.ref f) = true) : Fun K x qual st f (PySem.W.fnOf x qual (defArgs st) (defBody st) (defScope st) .none kV doc pm an cdv ct) := ⟨⟨oc, od, kV, doc, pm, an, cdv, ct, osl, rfl, l, c⟩, k⟩
end
theorem small1000 {n : Nat} (h : n ≤ 1000) : n < sizeLine := Nat.lt_of_le_of_lt h (by decide)

/-! ### expressions in short: the name that stands in the i-th slot -/
section
variable {X : Cx}
theorem pv (i : Nat) {x : Str} {pos : Pos} (hN : X.N[i]? = some x := by rfl) (hv : Vis X.env.scope x := by first | exact Or.inl rfl | exact Or.inr (Or.inl rfl) | exact Or.inr (Or.inr rfl)) (hd : (x == ("__debug__" : Str)) = false := by decide)
    (hcd : (x == ("__classdict__" : Str)) = false := by decide) : PE X (.Name x pos) (tVar i) := pe_var hN hv hd hcd
end

/-! ### tests -/
theorem iteF {A B : Prop} (h : B) : if false = true then A else B := by
  rw [if_neg Bool.false_ne_true]
  exact h
theorem iteT {A B : Prop} (h : A) : if true = true then A else B := by
  rw [if_pos rfl]
  exact h
theorem ite2 {c A B : Prop} [Decidable c] (h1 : c → A) (h2 : ¬ c → B) : if c then A else B := by
  by_cases h : c
  · rw [if_pos h]
    exact h1 h
  · rw [if_neg h]
    exact h2 h
theorem iteNS {c A B : Prop} [Decidable c] (hc : c) (h : B) : if (!decide c) = true then A else B := by
  rw [decide_eq_true hc]
  exact iteF h

/-! ### heaps -/
/-- all that was tracked is as it was -/
def Same (H H' : Hp) : Prop := ∀ b o, H b = some o → H' b = some o
theorem Same.refl (H : Hp) : Same H H := fun _ _ h => h
theorem Same.trans {H H1 H2 : Hp} (a : Same H H1) (b : Same H1 H2) : Same H H2 := fun c o h => b c o (a c o h)
theorem Same.free {H H' : Hp} (e : Same H H') {l : Addr} (h : H' l = Option.none) : H l = Option.none := by
  cases q : H l with
  | none => rfl
  | some o =>
    rw [e l o q] at h
    cases h
theorem Same.seq {K : PySem.W.Frag} {H H' : Hp} {a : Addr} {xs : List V} (e : Same H H') (h : SqL K H a xs) : SqL K H' a xs := by
  rcases h with (h | ⟨o, h⟩) | h
  · exact .inl (.inl (e _ _ h))
  · exact .inl (.inr ⟨o, e _ _ h⟩)
  · exact .inr h

end L2

set_option maxHeartbeats 4000000
namespace L2
open PySem PySem.Spec PyProof.Rows

/-! ### A. big numbers -/
def CDivB (_ j : Int) : Prop := 0 < j ∧ j.natAbs.log2 < 9000
section
variable {X : Cx}
theorem op_fdivB : OpR X (binaryOp .FloorDiv) (rI CDivB fun i j => .int (i / j)) := opI fun i j _ _ _ _ _ hc q => by
  have h1 : (0 : Int) < j := hc.1
  exact floordiv_int (by omega) (by rw [Int.fdiv_eq_ediv_of_nonneg i (by omega)]; exact q) (.inl (PyProof.noPylong_of_log2 hc.2))
end
theorem log2_lt_of {n k : Nat} (h : n < 2 ^ k) (hk : 0 < k) : n.log2 < k := by
  rcases Nat.eq_zero_or_pos n with h0 | hp
  · rw [h0]; exact hk
  · exact (Nat.log2_lt (Nat.ne_of_gt hp)).mpr h

/-! ### B. records that turn, a new object laid, an object taken over -/
section
variable {X : Cx} {pins : List (Addr × Obj)} {σ : St} {H : Hp} {s : Shared} {h' : Heap} {ch : List Addr} {a : Addr} {o : HO}
theorem Inv.chg {t' : Nat} (I : Inv X pins σ H s) (hch : ∀ b ∈ ch, FpOk X pins H b) (k : ∀ b u, b ∉ ch → s.heap.get? b = some u → h'.get? b = some u) : Inv X pins σ H { s with heap := h', toks := t' } := by
  have nch : ∀ b u, H b = some u → b ∉ ch := fun b u e z => by rw [(hch b z).1] at e; cases e
  refine I.step (g' := s.gens) (d' := s.drawn) (ch := ch) (fun b hb => ?_) (fun b u _ _ hc e _ => k b u hc e) (fun b u _ _ hc e _ => ⟨u.slots, k b u hc e⟩) (fun _ _ _ _ n => n)
    (fun b u hc e => ⟨u, k b u hc e⟩) (fun _ _ e => e) (fun _ _ _ e => e) (fun b ps e => ⟨#[], by rw [e]; simp⟩) (fun m hm => ?_) (fun b u e => ?_) I.bare
  · obtain ⟨_, f1, _, f3, f4, f5⟩ := hch b hb
    exact ⟨f3, f1, f4, f5⟩
  · obtain ⟨u, es, ep, ho, r⟩ := hm
    exact ⟨u, es, ep, k _ u (fun z => (hch _ z).2.1 rfl) ho, r⟩
  · refine (I.hok b u e).stay (fun c v hc q => k c v ?_ q) (fun _ q => q) fun _ _ q => q
    rcases hc with z | z
    · rw [z]; exact nch b u e
    · exact nch c _ z
theorem Inv.chgLaid {t' : Nat} (I : Inv X pins σ H s) (hch : ∀ b ∈ ch, FpOk X pins H b) (k : ∀ b u, b ∉ ch → s.heap.get? b = some u → h'.get? b = some u) (hp : s.heap.objs.size ≤ a)
    (new : ObjOk X.prog X.w (upd H a o) h' a o) : Inv X pins σ (upd H a o) { s with heap := h', toks := t' } := by
  have nch : ∀ b u, H b = some u → b ∉ ch := fun b u e z => by rw [(hch b z).1] at e; cases e
  have hn : H a = none := I.hok.fresh hp
  refine I.step (g' := s.gens) (d' := s.drawn) (ch := ch) (fun b hb => ?_) (fun b u _ _ hc e _ => k b u hc e) (fun b u _ _ hc e _ => ⟨u.slots, k b u hc e⟩)
    (fun b u _ e n => by rw [upd_ne (Nat.ne_of_lt (Nat.lt_of_lt_of_le (Heap.lt_size e) hp))]; exact n)
    (fun b u hc e => ⟨u, k b u hc e⟩) (fun b xs e => by rw [upd_ne (ne_of_none e hn)]; exact e) (fun b u v e => by rw [upd_ne (ne_of_none e hn)]; exact e) (fun b ps e => ⟨#[], by rw [upd_ne (ne_of_none e hn), e]; simp⟩) (fun m hm => ?_) (fun b u e => ?_) I.bare
  · obtain ⟨_, f1, _, f3, f4, f5⟩ := hch b hb
    exact ⟨f3, f1, f4, f5⟩
  · obtain ⟨u, es, ep, ho, r⟩ := hm
    exact ⟨u, es, ep, k _ u (fun z => (hch _ z).2.1 rfl) ho, r⟩
  · by_cases hb : b = a
    · subst hb; rw [upd_same] at e; cases e; exact new
    · rw [upd_ne hb] at e
      refine (I.hok b u e).stay (fun c v hc q => k c v ?_ q) (fun c q => by rw [upd_ne (ne_of_none q hn)]; exact q) fun c xs q => by rw [upd_ne (ne_of_none q hn)]; exact q
      rcases hc with z | z
      · rw [z]; exact nch b u e
      · exact nch c _ z
/-- an object that is there untracked is tracked from now on -/
theorem Inv.track (I : Inv X pins σ H s) (f : FpOk X pins H a) (new : ObjOk X.prog X.w (upd H a o) s.heap a o) : Inv X pins σ (upd H a o) s := by
  obtain ⟨hn, f1, _, f3, f4, f5⟩ := f
  have z : Inv X pins σ (upd H a o) { s with heap := s.heap, gens := s.gens, drawn := s.drawn, toks := s.toks } := by
    refine I.step (g' := s.gens) (d' := s.drawn) (ch := [a]) (fun b hb => ?_) (fun b u _ _ _ e _ => e) (fun b u _ _ _ e _ => ⟨u.slots, e⟩)
      (fun b u hc e n => by rw [upd_ne (fun z => hc (by simp [z]))]; exact n)
      (fun b u _ e => ⟨u, e⟩) (fun b xs e => by rw [upd_ne (ne_of_none e hn)]; exact e) (fun b u v e => by rw [upd_ne (ne_of_none e hn)]; exact e) (fun b ps e => ⟨#[], by rw [upd_ne (ne_of_none e hn), e]; simp⟩) (fun m hm => hm) (fun b u e => ?_) I.bare
    · have e : b = a := by simpa using hb
      subst e
      exact ⟨f3, f1, f4, f5⟩
    · by_cases hb : b = a
      · subst hb; rw [upd_same] at e; cases e; exact new
      · rw [upd_ne hb] at e
        exact (I.hok b u e).stay (fun c v hc q => q) (fun c q => by rw [upd_ne (ne_of_none q hn)]; exact q) fun c xs q => by rw [upd_ne (ne_of_none q hn)]; exact q
  exact z
end
end L2

namespace L2
open PySem PySem.Spec PyProof.Rows
section
variable {prog : Program} {w : World} {A : Around} {E : Value → Shared → Prop} {s : Shared}
theorem nextOf_tuple_item {it l : Addr} {i : Nat} {items} {x : Value} {Q : Value → Shared → Prop} (hit : s.heap.IsTupleIter it l i)
    (hl : s.heap.IsTuple l items) (hx : items[i]? = some x)
    (hQ : ∀ h', h'.IsTupleIter it l (i + 1) → Heap.SameBut it s.heap h' → Q x { s with heap := h' }) :
    wpAny (model prog w) A (Builtin.SmallTypes.nextOf (.ref it)) Q E s := by
  obtain ⟨o, ho, hc, hd⟩ := id hit
  obtain ⟨ol, hol, _, nl, hdl⟩ := hl
  unfold Builtin.SmallTypes.nextOf
  refine wpAny_bind (wpAny_callSpecial?_slot (name := Str.ofString "__next__") hit.typeIs F.slot_tuple_iterator_next
    (wpAny_call_entry F.slot_tuple_iterator_next hit.typeIs F.entry_tuple_iterator_next ?_ (F.args_tuple_iterator_next_1 _)))
  show wpAny _ _ (field (.ref it) 0 >>= _) _ _ s
  refine wpAny_bind (wpAny_field ho hd (x := .ref l) rfl ?_)
  show wpAny _ _ (if (Value.ref l == Value.none) = true then _ else _) _ _ s
  rw [if_neg (show ¬ ((Value.ref l == Value.none) = true) from Bool.false_ne_true)]
  show wpAny _ _ (field (.ref it) 1 >>= _) _ _ s
  refine wpAny_bind (wpAny_field ho hd (x := .int i 0) rfl ?_)
  show wpAny _ _ (seqItems? (.ref l) >>= _) _ _ s
  refine wpAny_bind (wpAny_seqItems hol hdl ?_)
  simp only [Int.toNat_natCast, hx]
  refine wpAny_bind (wpAny_setField ho hd (by simp) (wpAny_pure ⟨x, rfl, wpAny_pure (hQ _ ?_ (Heap.SameBut.update ..))⟩))
  exact ⟨_, Heap.get?_update_self _ ho (Obj.isFreed_of_fields (Obj.data_mapFields hd _)), (Obj.cls_mapFields ..).trans hc, by
    rw [Obj.data_mapFields hd]; simp [rawInt]⟩
theorem nextOf_tuple_end {it l : Addr} {i : Nat} {items} {Q : Value → Shared → Prop} (hh : A.handled = none)
    (hit : s.heap.IsTupleIter it l i) (hl : s.heap.IsTuple l items) (hx : items[i]? = none)
    (hE : ∀ h' e, Heap.ExtBut it s.heap h' → (∃ o, h'.get? e = some o ∧ o.cls = .type "StopIteration") → E (.ref e) { s with heap := h' }) :
    wpAny (model prog w) A (Builtin.SmallTypes.nextOf (.ref it)) Q E s := by
  obtain ⟨o, ho, hc, hd⟩ := id hit
  obtain ⟨ol, hol, _, nl, hdl⟩ := hl
  unfold Builtin.SmallTypes.nextOf
  refine wpAny_bind (wpAny_callSpecial?_slot (name := Str.ofString "__next__") hit.typeIs F.slot_tuple_iterator_next
    (wpAny_call_entry F.slot_tuple_iterator_next hit.typeIs F.entry_tuple_iterator_next ?_ (F.args_tuple_iterator_next_1 _)))
  show wpAny _ _ (field (.ref it) 0 >>= _) _ _ s
  refine wpAny_bind (wpAny_field ho hd (x := .ref l) rfl ?_)
  show wpAny _ _ (if (Value.ref l == Value.none) = true then _ else _) _ _ s
  rw [if_neg (show ¬ ((Value.ref l == Value.none) = true) from Bool.false_ne_true)]
  show wpAny _ _ (field (.ref it) 1 >>= _) _ _ s
  refine wpAny_bind (wpAny_field ho hd (x := .int i 0) rfl ?_)
  show wpAny _ _ (seqItems? (.ref l) >>= _) _ _ s
  refine wpAny_bind (wpAny_seqItems hol hdl ?_)
  simp only [Int.toNat_natCast, hx]
  refine wpAny_bind (wpAny_rule (wpAny_bind (wpAny_setField ho hd (by simp) ?_)))
  show wpAny _ _ (newExc (.type "StopIteration") [] >>= _) _ _ _
  refine wpAny_bind ?_
  simp only [newExc, newTuple]
  refine wpAny_bind (wpAny_newObj_type ?_ (by size_fits))
  refine wpAny_bind (m := firstArgMember _ _) (wpAny_of_eq (a := Value.none) (by first | rfl | (simp only [firstArgMember]; rfl)) ?_)
  refine wpAny_newObj_type ?_ (by size_fits)
  simp only [raiseNew]
  refine wpAny_bind (wpAny_handled ?_)
  first | rw [show A.in1.handled = none from hh] | rw [hh]
  refine wpAny_bind (wpAny_pure (wpAny_throw ?_))
  exact hE _ _ (((Heap.SameBut.update ..).extBut.push _).push _) ⟨_, Heap.get?_push_size _ rfl, rfl⟩
end

/-- one source of a zip: the iterator at it over the sequence at l -/
structure Src (it l : Addr) (IT : Nat → Heap → Prop) (SL : Array Value → Heap → Prop) : Prop where
  obj : ∀ i h, IT i h → ∃ o, h.get? it = some o ∧ ∀ v, o.data ≠ .cell v
  fr : ∀ i (h h' : Heap), IT i h → (∀ o, h.get? it = some o → h'.get? it = some o) → IT i h'
  frS : ∀ xs (h h' : Heap), SL xs h → (∀ o, h.get? l = some o → h'.get? l = some o) → SL xs h'
  item : ∀ (prog : Program) (w : World) (A : Around) (i : Nat) (s : Shared) (xs : Array Value) (x : Value) (Q : Value → Shared → Prop) (E : Value → Shared → Prop), IT i s.heap → SL xs s.heap → xs[i]? = some x →
    (∀ h', IT (i + 1) h' → Heap.SameBut it s.heap h' → Q x { s with heap := h' }) → wpAny (model prog w) A (Builtin.SmallTypes.nextOf (.ref it)) Q E s
  done : ∀ (prog : Program) (w : World) (A : Around) (i : Nat) (s : Shared) (xs : Array Value) (Q : Value → Shared → Prop) (E : Value → Shared → Prop), A.handled = none → IT i s.heap → SL xs s.heap → xs[i]? = none →
    (∀ h' e, Heap.ExtBut it s.heap h' → (∃ o, h'.get? e = some o ∧ o.cls = .type "StopIteration") → E (.ref e) { s with heap := h' }) → wpAny (model prog w) A (Builtin.SmallTypes.nextOf (.ref it)) Q E s
theorem Src.list (it l : Addr) : Src it l (fun i h => h.IsListIter it l i) (fun xs h => h.IsList l xs) where
  obj := fun i h st => by
    obtain ⟨o, e, c, d⟩ := st
    exact ⟨o, e, fun v z => by rw [d] at z; cases z⟩
  fr := fun i h h' st k => st.at fun o e => k o e
  frS := fun xs h h' st k => st.at fun o e => k o e
  item := fun prog w A i s xs x Q E st hl hx hQ => wpAny_nextOf_list_item st hl hx hQ
  done := fun prog w A i s xs Q E hh st hl hx hE => wpAny_nextOf_list_end hh st hl hx hE
theorem Src.tuple (it l : Addr) : Src it l (fun i h => h.IsTupleIter it l i) (fun xs h => h.IsTuple l xs) where
  obj := fun i h st => by
    obtain ⟨o, e, c, d⟩ := st
    exact ⟨o, e, fun v z => by rw [d] at z; cases z⟩
  fr := fun i h h' ⟨o, e, r⟩ k => ⟨o, k o e, r⟩
  frS := fun xs h h' ⟨o, e, r⟩ k => ⟨o, k o e, r⟩
  item := fun prog w A i s xs x Q E st hl hx hQ => nextOf_tuple_item st hl hx hQ
  done := fun prog w A i s xs Q E hh st hl hx hE => nextOf_tuple_end hh st hl hx hE

section
variable {prog : Program} {w : World} {A : Around} {E : Value → Shared → Prop} {s : Shared} {z TI TO i1 i2 l1 l2 : Addr} {IT1 IT2 : Nat → Heap → Prop} {SL1 SL2 : Array Value → Heap → Prop} {k : Nat} {xs ys : Array Value} {x y a b : Value}

theorem Src.bt {it l c : Addr} {IT : Nat → Heap → Prop} {SL : Array Value → Heap → Prop} (S : Src it l IT SL) {i : Nat} {h h' : Heap} (st : IT i h) (hs : Heap.SameBut c h h') (n : it ≠ c) : IT i h' := S.fr i h h' st fun o e => hs.extBut _ _ n e
theorem Src.bs {it l c : Addr} {IT : Nat → Heap → Prop} {SL : Array Value → Heap → Prop} (S : Src it l IT SL) {xs : Array Value} {h h' : Heap} (st : SL xs h) (hs : Heap.SameBut c h h') (n : l ≠ c) : SL xs h' := S.frS xs h h' st fun o e => hs.extBut _ _ n e

theorem zipS_item {Q : Value → Shared → Prop} (D : ZipApart z TI TO i1 i2 l1 l2) (S1 : Src i1 l1 IT1 SL1) (S2 : Src i2 l2 IT2 SL2)
    (hz : IsZip s.heap z TI TO .none) (hTI : IsPair s.heap TI (.ref i1) (.ref i2)) (hTO : IsPair s.heap TO a b)
    (h1 : IT1 k s.heap) (h2 : IT2 k s.heap) (hl1 : SL1 xs s.heap) (hl2 : SL2 ys s.heap) (hx : xs[k]? = some x) (hy : ys[k]? = some y)
    (hQ : ∀ h', IsZip h' z TI TO (rawInt s.heap.objs.size) → IsPair h' TO x y → IT1 (k + 1) h' → IT2 (k + 1) h' → IsPair h' s.heap.objs.size x y → h'.objs.size = s.heap.objs.size + 1 →
      (∀ c o, c ≠ z → c ≠ TO → c ≠ i1 → c ≠ i2 → s.heap.get? c = some o → h'.get? c = some o) → Q (.ref s.heap.objs.size) { s with heap := h' }) :
    wpAny (model prog w) A (Builtin.«zip.__next__» ⟨[.ref z], []⟩) (fun fin s' => ∃ v, fin = .done (.ret v) ∧ Q v s') E s := by
  show wpAny _ _ (field (.ref z) 2 >>= _) _ _ _
  refine wpAny_bind (wpAny_field hz rfl (x := .bool false) rfl ?_)
  show wpAny _ _ (field (.ref z) 3 >>= _) _ _ _
  refine wpAny_bind (wpAny_field hz rfl (x := .ref TI) rfl ?_)
  refine wpAny_bind (wpAny_seqItems hTI rfl ?_)
  show wpAny _ _ (Builtin.SmallTypes.ownedTupleIsFree (.ref z) >>= _) _ _ _
  refine wpAny_bind ?_
  unfold Builtin.SmallTypes.ownedTupleIsFree
  refine wpAny_bind (wpAny_field hz rfl (x := .none) rfl (wpAny_pure ?_))
  simp only [if_true]
  refine wpAny_bind (wpAny_rule ?_)
  refine wpAny_bind (wpAny_field hz rfl (x := .ref TO) rfl ?_)
  refine wpAny_bind (wpAny_setField_rec hz (by simp) fun h₁ hz₁ hs₁ => ?_)
  replace hz₁ : IsZip h₁ z TI TO .ellipsis := hz₁
  refine wpAny_bind ?_
  simp only [List.zipIdx_cons, List.zipIdx_nil, List.forIn_cons, List.forIn_nil]
  refine wpAny_bind (wpAny_bind (wpAny_onRaise ?_))
  show wpAny _ _ (Builtin.SmallTypes.nextOf (.ref i1) >>= _) _ _ _
  refine wpAny_bind (S1.item _ _ _ k _ xs x _ _ (S1.bt h1 hs₁ D.i1z) (S1.bs hl1 hs₁ D.l1z) hx fun h₂ h1₂ hs₂ => wpAny_pure ?_)
  have hTO₂ : IsPair h₂ TO a b := hs₂.extBut _ _ D.TOi1 (hs₁.extBut _ _ D.TOz hTO)
  refine wpAny_bind (wpAny_seqItems hTO₂ rfl ?_)
  refine wpAny_bind (wpAny_updateSeq_pair hTO₂ fun h₃ hTO₃ hs₃ => ?_)
  replace hTO₃ : IsPair h₃ TO x b := hTO₃
  refine wpAny_bind (wpAny_letGo (wpAny_pure ?_))
  refine wpAny_bind (wpAny_bind (wpAny_onRaise ?_))
  show wpAny _ _ (Builtin.SmallTypes.nextOf (.ref i2) >>= _) _ _ _
  refine wpAny_bind (S2.item _ _ _ k _ ys y _ _ (S2.bt (S2.bt (S2.bt h2 hs₁ D.i2z) hs₂ D.i12.symm) hs₃ D.TOi2.symm)
    (S2.bs (S2.bs (S2.bs hl2 hs₁ D.l2z) hs₂ D.l2i1) hs₃ D.l2TO) hy fun h₄ h2₄ hs₄ => wpAny_pure ?_)
  have hTO₄ : IsPair h₄ TO x b := hs₄.extBut _ _ D.TOi2 hTO₃
  refine wpAny_bind (wpAny_seqItems hTO₄ rfl ?_)
  refine wpAny_bind (wpAny_updateSeq_pair hTO₄ fun h₅ hTO₅ hs₅ => ?_)
  replace hTO₅ : IsPair h₅ TO x y := hTO₅
  refine wpAny_bind (wpAny_letGo (wpAny_pure (wpAny_pure ?_)))
  refine wpAny_bind (wpAny_seqItems hTO₅ rfl ?_)
  refine wpAny_bind (wpAny_newTuple ?_)
  have hsz : h₅.objs.size = s.heap.objs.size := by rw [hs₅.1, hs₄.1, hs₃.1, hs₂.1, hs₁.1]
  have hz₅ : IsZip h₅ z TI TO .ellipsis := hs₅.extBut _ _ D.TOz.symm (hs₄.extBut _ _ D.i2z.symm (hs₃.extBut _ _ D.TOz.symm (hs₂.extBut _ _ D.i1z.symm hz₁)))
  have hk₅ : ∀ c o, c ≠ z → c ≠ TO → c ≠ i1 → c ≠ i2 → s.heap.get? c = some o → h₅.get? c = some o := fun c o c1 c2 c3 c4 e =>
    hs₅.extBut _ _ c2 (hs₄.extBut _ _ c4 (hs₃.extBut _ _ c2 (hs₂.extBut _ _ c3 (hs₁.extBut _ _ c1 e))))
  have h1₅ : IT1 (k + 1) h₅ := S1.bt (S1.bt (S1.bt h1₂ hs₃ D.TOi1.symm) hs₄ D.i12) hs₅ D.TOi1.symm
  have h2₅ : IT2 (k + 1) h₅ := S2.bt h2₄ hs₅ D.TOi2.symm
  have hzlt : z < h₅.objs.size := Heap.lt_size hz₅
  have hTOlt : TO < h₅.objs.size := Heap.lt_size hTO₅
  show wpAny _ _ (Builtin.SmallTypes.ownedTupleHandOut (.ref z) (.ref h₅.objs.size) >>= _) _ _ _
  refine wpAny_bind ?_
  unfold Builtin.SmallTypes.ownedTupleHandOut
  have hz₆ : IsZip (h₅.push { cls := .type "tuple", data := .seq #[x, y] }) z TI TO .ellipsis := Heap.get?_push_of_some _ hz₅
  refine wpAny_bind (wpAny_setField_rec hz₆ (by simp) fun h₇ hz₇ hs₇ => ?_)
  replace hz₇ : IsZip h₇ z TI TO (rawInt h₅.objs.size) := hz₇
  refine wpAny_setField_rec hz₇ (by simp) fun h₈ hz₈ hs₈ => ?_
  replace hz₈ : IsZip h₈ z TI TO (rawInt h₅.objs.size) := hz₈
  have up : ∀ c o, c ≠ z → h₅.get? c = some o → h₈.get? c = some o := fun c o c1 e => hs₈.extBut _ _ c1 (hs₇.extBut _ _ c1 (Heap.get?_push_of_some _ e))
  have hT₈ : IsPair h₈ h₅.objs.size x y := hs₈.extBut _ _ (Nat.ne_of_gt hzlt) (hs₇.extBut _ _ (Nat.ne_of_gt hzlt) (Heap.get?_push_size _ rfl))
  have hz8 : h₈.objs.size = h₅.objs.size + 1 := by rw [hs₈.1, hs₇.1, Heap.size_push]
  rw [hsz] at hz₈ hT₈ hz8
  refine wpAny_pure ⟨_, rfl, ?_⟩
  show Q (.ref h₅.objs.size) _
  rw [hsz]
  exact hQ h₈ hz₈ (up _ _ D.TOz hTO₅) (S1.fr _ _ _ h1₅ fun o e => up _ o D.i1z e) (S2.fr _ _ _ h2₅ fun o e => up _ o D.i2z e) hT₈ hz8 fun c o c1 c2 c3 c4 e => up c o c1 (hk₅ c o c1 c2 c3 c4 e)

theorem zipS_end {Q : Fin → Shared → Prop} (hh : A.handled = none) (D : ZipApart z TI TO i1 i2 l1 l2) (S1 : Src i1 l1 IT1 SL1) (S2 : Src i2 l2 IT2 SL2)
    (hz : IsZip s.heap z TI TO .none) (hTI : IsPair s.heap TI (.ref i1) (.ref i2)) (hTO : IsPair s.heap TO a b)
    (h1 : IT1 k s.heap) (h2 : IT2 k s.heap) (hl1 : SL1 xs s.heap) (hl2 : SL2 ys s.heap) (hend : xs[k]? = none ∨ ys[k]? = none)
    (hE : ∀ h' e, (∀ c o, c ≠ z → c ≠ TO → c ≠ i1 → c ≠ i2 → s.heap.get? c = some o → h'.get? c = some o) → (∃ o, h'.get? e = some o ∧ o.cls = .type "StopIteration") → E (.ref e) { s with heap := h' }) :
    wpAny (model prog w) A (Builtin.«zip.__next__» ⟨[.ref z], []⟩) Q E s := by
  show wpAny _ _ (field (.ref z) 2 >>= _) _ _ _
  refine wpAny_bind (wpAny_field hz rfl (x := .bool false) rfl ?_)
  show wpAny _ _ (field (.ref z) 3 >>= _) _ _ _
  refine wpAny_bind (wpAny_field hz rfl (x := .ref TI) rfl ?_)
  refine wpAny_bind (wpAny_seqItems hTI rfl ?_)
  show wpAny _ _ (Builtin.SmallTypes.ownedTupleIsFree (.ref z) >>= _) _ _ _
  refine wpAny_bind ?_
  unfold Builtin.SmallTypes.ownedTupleIsFree
  refine wpAny_bind (wpAny_field hz rfl (x := .none) rfl (wpAny_pure ?_))
  simp only [if_true]
  refine wpAny_bind (wpAny_rule ?_)
  refine wpAny_bind (wpAny_field hz rfl (x := .ref TO) rfl ?_)
  refine wpAny_bind (wpAny_setField_rec hz (by simp) fun h₁ hz₁ hs₁ => ?_)
  replace hz₁ : IsZip h₁ z TI TO .ellipsis := hz₁
  refine wpAny_bind ?_
  simp only [List.zipIdx_cons, List.zipIdx_nil, List.forIn_cons, List.forIn_nil]
  refine wpAny_bind (wpAny_bind (wpAny_onRaise ?_))
  show wpAny _ _ (Builtin.SmallTypes.nextOf (.ref i1) >>= _) _ _ _
  cases hx : xs[k]? with
  | none =>
    refine wpAny_bind (S1.done _ _ _ k _ xs _ _ hh (S1.bt h1 hs₁ D.i1z) (S1.bs hl1 hs₁ D.l1z) hx fun h₂ e hs₂ he => ?_)
    obtain ⟨oe, hoe, hce⟩ := he
    have hz₂ : IsZip h₂ z TI TO .ellipsis := hs₂ _ _ D.i1z.symm hz₁
    have hez : e ≠ z := fun x => by subst x; rw [hz₂] at hoe; cases hoe; simp at hce
    refine wpAny_setField_rec hz₂ (by simp) fun h₃ _ hs₃ => hE h₃ e (fun c o c1 _ c3 _ x => hs₃.extBut _ _ c1 (hs₂ _ _ c3 (hs₁.extBut _ _ c1 x))) ⟨oe, hs₃.extBut _ _ hez hoe, hce⟩
  | some x =>
    have hy : ys[k]? = none := by rcases hend with h | h; rw [hx] at h; cases h; exact h
    refine wpAny_bind (S1.item _ _ _ k _ xs x _ _ (S1.bt h1 hs₁ D.i1z) (S1.bs hl1 hs₁ D.l1z) hx fun h₂ h1₂ hs₂ => wpAny_pure ?_)
    have hTO₂ : IsPair h₂ TO a b := hs₂.extBut _ _ D.TOi1 (hs₁.extBut _ _ D.TOz hTO)
    refine wpAny_bind (wpAny_seqItems hTO₂ rfl ?_)
    refine wpAny_bind (wpAny_updateSeq_pair hTO₂ fun h₃ hTO₃ hs₃ => ?_)
    refine wpAny_bind (wpAny_letGo (wpAny_pure ?_))
    refine wpAny_bind (wpAny_bind (wpAny_onRaise ?_))
    show wpAny _ _ (Builtin.SmallTypes.nextOf (.ref i2) >>= _) _ _ _
    refine wpAny_bind (S2.done _ _ _ k _ ys _ _ hh (S2.bt (S2.bt (S2.bt h2 hs₁ D.i2z) hs₂ D.i12.symm) hs₃ D.TOi2.symm)
      (S2.bs (S2.bs (S2.bs hl2 hs₁ D.l2z) hs₂ D.l2i1) hs₃ D.l2TO) hy fun h₄ e hs₄ he => ?_)
    obtain ⟨oe, hoe, hce⟩ := he
    have hz₄ : IsZip h₄ z TI TO .ellipsis := hs₄ _ _ D.i2z.symm (hs₃.extBut _ _ D.TOz.symm (hs₂.extBut _ _ D.i1z.symm hz₁))
    have hez : e ≠ z := fun x => by subst x; rw [hz₄] at hoe; cases hoe; simp at hce
    refine wpAny_setField_rec hz₄ (by simp) fun h₅ _ hs₅ => hE h₅ e (fun c o c1 c2 c3 c4 x => hs₅.extBut _ _ c1 (hs₄ _ _ c4 (hs₃.extBut _ _ c2 (hs₂.extBut _ _ c3 (hs₁.extBut _ _ c1 x))))) ⟨oe, hs₅.extBut _ _ hez hoe, hce⟩

theorem pyNext_zipS_item {Q : Option Value → Shared → Prop} (D : ZipApart z TI TO i1 i2 l1 l2) (S1 : Src i1 l1 IT1 SL1) (S2 : Src i2 l2 IT2 SL2)
    (hz : IsZip s.heap z TI TO .none) (hTI : IsPair s.heap TI (.ref i1) (.ref i2)) (hTO : IsPair s.heap TO a b)
    (h1 : IT1 k s.heap) (h2 : IT2 k s.heap) (hl1 : SL1 xs s.heap) (hl2 : SL2 ys s.heap) (hx : xs[k]? = some x) (hy : ys[k]? = some y)
    (hQ : ∀ h', IsZip h' z TI TO (rawInt s.heap.objs.size) → IsPair h' TO x y → IT1 (k + 1) h' → IT2 (k + 1) h' → IsPair h' s.heap.objs.size x y → h'.objs.size = s.heap.objs.size + 1 →
      (∀ c o, c ≠ z → c ≠ TO → c ≠ i1 → c ≠ i2 → s.heap.get? c = some o → h'.get? c = some o) → Q (some (.ref s.heap.objs.size)) { s with heap := h' }) :
    wpAny (model prog w) A (pyNext (.ref z)) Q E s := by
  have hT : s.TypeIs (.ref z) "zip" := ⟨_, hz, rfl⟩
  unfold pyNext
  exact wpAny_bind (wpAny_attempt (wpAny_callSpecial?_slot (name := Str.ofString "__next__") hT F.slot_zip_next
    (wpAny_call_entry F.slot_zip_next hT F.entry_zip_next
      (zipS_item D S1 S2 hz hTI hTO h1 h2 hl1 hl2 hx hy fun h' a1 a2 a3 a4 a5 a6 a7 => wpAny_pure (hQ h' a1 a2 a3 a4 a5 a6 a7)) (F.args_zip_next_1 _))))
theorem pyNext_zipS_end {Q : Option Value → Shared → Prop} (hh : A.handled = none) (D : ZipApart z TI TO i1 i2 l1 l2) (S1 : Src i1 l1 IT1 SL1) (S2 : Src i2 l2 IT2 SL2)
    (hz : IsZip s.heap z TI TO .none) (hTI : IsPair s.heap TI (.ref i1) (.ref i2)) (hTO : IsPair s.heap TO a b)
    (h1 : IT1 k s.heap) (h2 : IT2 k s.heap) (hl1 : SL1 xs s.heap) (hl2 : SL2 ys s.heap) (hend : xs[k]? = none ∨ ys[k]? = none)
    (hQ : ∀ h', (∀ c o, c ≠ z → c ≠ TO → c ≠ i1 → c ≠ i2 → s.heap.get? c = some o → h'.get? c = some o) → Q none { s with heap := h' }) : wpAny (model prog w) A (pyNext (.ref z)) Q E s := by
  have hT : s.TypeIs (.ref z) "zip" := ⟨_, hz, rfl⟩
  unfold pyNext
  refine wpAny_bind (wpAny_attempt (wpAny_callSpecial?_slot (name := Str.ofString "__next__") hT F.slot_zip_next
    (wpAny_call_entry F.slot_zip_next hT F.entry_zip_next (zipS_end hh D S1 S2 hz hTI hTO h1 h2 hl1 hl2 hend fun h' e hk he => ?_) (F.args_zip_next_1 _))))
  obtain ⟨o, ho, hc⟩ := he
  refine wpAny_bind (wpAny_isInstance (T := "StopIteration") (b := true) ⟨o, ho, hc⟩ isSubtype_stop ?_)
  exact wpAny_pure (hQ _ hk)
end

/-! ### zip over two lists, or two tuples -/
def Itz (S1 S2 : Hp → List V → Prop) : It :=
  ⟨fun i H => ∃ xs ys u v, S1 H xs ∧ S2 H ys ∧ xs[i]? = some u ∧ ys[i]? = some v,
   fun i H x H' => ∃ T u v, x = .ref T ∧ H T = none ∧ H' = upd H T (.tup [u, v]) ∧ ∀ xs ys, S1 H xs → S2 H ys → xs[i]? = some u ∧ ys[i]? = some v,
   fun i H => ∃ xs ys, S1 H xs ∧ S2 H ys ∧ (xs.length ≤ i ∨ ys.length ≤ i)⟩
/-- what the source is, by the abstract heap -/
structure SrcV (K : PySem.W.Frag) (SL : Array Value → Heap → Prop) (SV : Hp → List V → Prop) : Prop where
  val : ∀ (X : Cx), X.K = K → ∀ (pins : List (Addr × Obj)) (σ : St) (H : Hp) (s : Shared) (xs : List V), Inv X pins σ H s → SV H xs → ∃ its : List Value, Vals xs its ∧ SL its.toArray s.heap
  inj : ∀ (X : Cx), X.K = K → ∀ (pins : List (Addr × Obj)) (σ : St) (H : Hp) (s : Shared) (xs ys : List V), Inv X pins σ H s → SV H xs → SV H ys → xs = ys
theorem SrcV.list (K : PySem.W.Frag) (l : Addr) : SrcV K (fun xs h => h.IsList l xs) (fun H xs => SqL K H l xs) where
  val := fun X hK pins σ H s xs I h => by
    subst hK
    obtain ⟨its, rv, p, _⟩ := I.list h
    exact ⟨its, rv, p.isList⟩
  inj := fun X hK pins σ H s xs ys I h h' => by
    subst hK
    exact I.list_inj h h'
theorem SrcV.tuple (K : PySem.W.Frag) (l : Addr) : SrcV K (fun xs h => h.IsTuple l xs) (fun H xs => SqT K H l xs) where
  val := fun X hK pins σ H s xs I h => by
    subst hK
    obtain ⟨its, rv, p, _⟩ := I.tuple h
    exact ⟨its, rv, p⟩
  inj := fun X hK pins σ H s xs ys I h h' => by
    subst hK
    exact I.tuple_inj h h'
theorem turn_zip {P : Program} {w : World} {K : PySem.W.Frag} {es : List Expr} {kk : Nat} {pos : Pos} {z TI TO i1 i2 l1 l2 : Addr} {IT1 IT2 : Nat → Heap → Prop} {SL1 SL2 : Array Value → Heap → Prop} {SV1 SV2 : Hp → List V → Prop}
    (D : ZipApart z TI TO i1 i2 l1 l2) (S1 : Src i1 l1 IT1 SL1) (S2 : Src i2 l2 IT2 SL2) (V1 : SrcV K SL1 SV1) (V2 : SrcV K SL2 SV2) :
    Turn P w K (.Tuple es kk pos) (Itz SV1 SV2) [z, TI, TO, i1, i2] z (fun i h => IsZip h z TI TO .none ∧ IsPair h TI (.ref i1) (.ref i2) ∧ (∃ a b, IsPair h TO a b) ∧ IT1 i h ∧ IT2 i h) where
  mem := by simp
  obj := fun i h st b hb => by
    obtain ⟨hz, hTI, ⟨a, c, hTO⟩, h1, h2⟩ := st
    simp only [List.mem_cons, List.not_mem_nil, or_false] at hb
    rcases hb with rfl | rfl | rfl | rfl | rfl
    · exact ⟨_, hz, fun v e => by cases e⟩
    · exact ⟨_, hTI, fun v e => by cases e⟩
    · exact ⟨_, hTO, fun v e => by cases e⟩
    · exact S1.obj _ _ h1
    · exact S2.obj _ _ h2
  keep := fun i h h' st k => by
    obtain ⟨hz, hTI, ⟨a, c, hTO⟩, h1, h2⟩ := st
    exact ⟨k z (by simp) _ hz, k TI (by simp) _ hTI, ⟨a, c, k TO (by simp) _ hTO⟩, S1.fr _ _ _ h1 fun o e => k i1 (by simp) o e, S2.fr _ _ _ h2 fun o e => k i2 (by simp) o e⟩
  item := by
    intro X hP hw hK hc i pins s σ H E I hf st hg
    obtain ⟨xs, ys, u, v, q1, q2, e1, e2⟩ := hg
    obtain ⟨its, rv, p1⟩ := V1.val X hK pins σ H s xs I q1
    obtain ⟨jts, rw', p2⟩ := V2.val X hK pins σ H s ys I q2
    obtain ⟨a1, b1, r1⟩ := rv.get e1
    obtain ⟨a2, b2, r2⟩ := rw'.get e2
    obtain ⟨hz, hTI, ⟨a, c, hTO⟩, h1, h2⟩ := id st
    subst hP hw
    refine pyNext_zipS_item D S1 S2 hz hTI hTO h1 h2 p1 p2 (x := a1) (y := a2) (by simpa using b1) (by simpa using b2) fun h' g1 g2 g3 g4 g5 g6 g7 => ?_
    refine ⟨_, rfl, wpAny_letOwnedTupleGo_zip g1 fun h'' g1' hs' => ?_⟩
    have ne : ∀ {b : Addr} {o : Obj}, s.heap.get? b = some o → s.heap.objs.size ≠ b := fun e => Nat.ne_of_gt (Heap.lt_size e)
    have kk : ∀ b o, b ∉ [z, TO, i1, i2] → s.heap.get? b = some o → h''.get? b = some o := fun b o hb e => by
      simp only [List.mem_cons, List.not_mem_nil, or_false, not_or] at hb
      exact hs'.extBut _ _ hb.1 (g7 b o hb.1 hb.2.1 hb.2.2.1 hb.2.2.2 e)
    have hT : h''.get? s.heap.objs.size = some { cls := .type "tuple", data := .seq #[a1, a2] } := hs'.extBut _ _ (ne hz) g5
    have hch : ∀ b ∈ [z, TO, i1, i2], FpOk X pins H b := fun b hb => hf b (by
      simp only [List.mem_cons, List.not_mem_nil, or_false] at hb ⊢
      rcases hb with rfl | rfl | rfl | rfl <;> simp)
    have new : ObjOk X.prog X.w (upd H s.heap.objs.size (.tup [u, v])) h'' s.heap.objs.size (.tup [u, v]) :=
      ⟨by show 2 ≤ sizeLine; decide, [a1, a2], .cons r1 (.cons r2 .nil), _, hT, rfl, _, rfl⟩
    have I1 : Inv X pins σ (upd H s.heap.objs.size (.tup [u, v])) { s with heap := h'', toks := s.toks } := I.chgLaid hch kk (Nat.le_refl _) new
    have hn : H s.heap.objs.size = none := I.hok.fresh (Nat.le_refl _)
    refine ⟨.ref s.heap.objs.size, _, I1, rfl, ⟨_, u, v, rfl, hn, rfl, fun xs' ys' w1 w2 => ?_⟩, ⟨g1', ?_, ⟨a1, a2, hs'.extBut _ _ D.TOz g2⟩, S1.bt g3 hs' D.i1z, S2.bt g4 hs' D.i2z⟩, fun b hb => ?_⟩
    · rw [V1.inj X hK pins σ H s xs' xs I w1 q1, V2.inj X hK pins σ H s ys' ys I w2 q2]
      exact ⟨e1, e2⟩
    · exact kk TI _ (by simp only [List.mem_cons, List.not_mem_nil, or_false, not_or]; exact ⟨D.TIz, D.TITO, D.TIi1, D.TIi2⟩) hTI
    · obtain ⟨o, ho, _⟩ := (show ∃ o, s.heap.get? b = some o ∧ ∀ v, o.data ≠ .cell v from by
        simp only [List.mem_cons, List.not_mem_nil, or_false] at hb
        rcases hb with rfl | rfl | rfl | rfl | rfl
        · exact ⟨_, hz, fun v e => by cases e⟩
        · exact ⟨_, hTI, fun v e => by cases e⟩
        · exact ⟨_, hTO, fun v e => by cases e⟩
        · exact S1.obj _ _ h1
        · exact S2.obj _ _ h2)
      rw [upd_ne (Ne.symm (ne ho))]
      exact (hf b hb).1
  done := by
    intro X hP hw hK hc i pins s σ H E I hf st hg
    obtain ⟨xs, ys, q1, q2, e⟩ := hg
    obtain ⟨its, rv, p1⟩ := V1.val X hK pins σ H s xs I q1
    obtain ⟨jts, rw', p2⟩ := V2.val X hK pins σ H s ys I q2
    have l1 := rv.length
    have l2 := rw'.length
    obtain ⟨hz, hTI, ⟨a, c, hTO⟩, h1, h2⟩ := id st
    subst hP hw
    refine pyNext_zipS_end (I.ok.hd hc) D S1 S2 hz hTI hTO h1 h2 p1 p2 (by simp; omega) fun h' g7 => ⟨rfl, ?_⟩
    have hch : ∀ b ∈ [z, TO, i1, i2], FpOk X pins H b := fun b hb => hf b (by
      simp only [List.mem_cons, List.not_mem_nil, or_false] at hb ⊢
      rcases hb with rfl | rfl | rfl | rfl <;> simp)
    exact I.chg (t' := s.toks) hch fun b o hb e => by
      simp only [List.mem_cons, List.not_mem_nil, or_false, not_or] at hb
      exact g7 b o hb.1 hb.2.1 hb.2.2.1 hb.2.2.2 e
  self := fun _ _ _ _ _ st h => wpAny_pyIter_zip st.1 h

/-! ### the call zip(a, b) -/
abbrev zipT1 (h : Heap) (l1 : Addr) : Heap := h.push { cls := .type "tuple_iterator", data := .fields #[.ref l1, .int 0 0] }
abbrev zipT2 (h : Heap) (l1 l2 : Addr) : Heap := (zipT1 h l1).push { cls := .type "tuple_iterator", data := .fields #[.ref l2, .int 0 0] }
abbrev zipT3 (h : Heap) (l1 l2 : Addr) : Heap := (zipT2 h l1 l2).push { cls := .type "tuple", data := .seq #[.ref h.objs.size, .ref (zipT1 h l1).objs.size] }
abbrev zipT4 (h : Heap) (l1 l2 : Addr) : Heap := (zipT3 h l1 l2).push { cls := .type "tuple", data := .seq #[.none, .none] }
abbrev zipT5 (h : Heap) (l1 l2 : Addr) : Heap := (zipT4 h l1 l2).push { cls := .type "zip", data := .fields #[.none, .bool false, .bool false, .ref (zipT2 h l1 l2).objs.size, .ref (zipT3 h l1 l2).objs.size] }
theorem meets_zipT (l1 l2 : Addr) (xs ys : Array Value) :
    Meets (Builtin.«zip.__new__» ⟨[.type "zip", .ref l1, .ref l2], []⟩) (fun _ R s => s.heap.IsTuple l1 xs ∧ s.heap.IsTuple l2 ys ∧
      R (.ok (.ret (.ref (zipT4 s.heap l1 l2).objs.size))) { s with heap := zipT5 s.heap l1 l2 }) :=
  .of_wp fun prog w A R s h => by
    obtain ⟨hp, g, d, tk, os⟩ := s; obtain ⟨hl1, hl2, h⟩ := h
    have hsub := sub_zip
    have hL1 : Heap.IsTuple (Shared.heap ⟨hp, g, d, tk, os⟩) l1 xs := hl1
    have hL2 : Heap.IsTuple (Shared.heap ⟨hp.push { cls := .type "tuple_iterator", data := .fields #[.ref l1, .int 0 0] }, g, d, tk, os⟩) l2 ys := Heap.IsTuple.push hl2 _
    wp_walk using wpAny_pyIter_tuple hL1, wpAny_pyIter_tuple hL2
    exact ⟨_, rfl, h⟩
theorem call_zipT {prog : Program} {w : World} {A : Around} {E : Value → Shared → Prop} {s : Shared} {l1 l2 : Addr} {xs ys : Array Value} {Q : Value → Shared → Prop} (hl1 : s.heap.IsTuple l1 xs) (hl2 : s.heap.IsTuple l2 ys)
    (h : ∀ h', IsZip h' (s.heap.objs.size + 4) (s.heap.objs.size + 2) (s.heap.objs.size + 3) .none → IsPair h' (s.heap.objs.size + 2) (.ref s.heap.objs.size) (.ref (s.heap.objs.size + 1)) →
      IsPair h' (s.heap.objs.size + 3) .none .none → h'.IsTupleIter s.heap.objs.size l1 0 → h'.IsTupleIter (s.heap.objs.size + 1) l2 0 → h'.objs.size = s.heap.objs.size + 5 →
      (∀ c o, s.heap.get? c = some o → h'.get? c = some o) → Q (.ref (s.heap.objs.size + 4)) { s with heap := h' }) :
    wpAny (model prog w) A (call (.type "zip") [.ref l1, .ref l2]) Q E s := by
  refine callType_new F.called_zip (by decide) (F.typeCall_zip_2 _ _) (F.newCall_zip_2 _ _) (fun obj => F.args_object_init_3 obj _ _) F.entry_zip_new
    (meets_zipT l1 l2 xs ys) ⟨hl1, hl2, ?_⟩
  have z1 : (zipT1 s.heap l1).objs.size = s.heap.objs.size + 1 := Heap.size_push ..
  have z2 : (zipT2 s.heap l1 l2).objs.size = s.heap.objs.size + 2 := by rw [Heap.size_push, z1]
  have z3 : (zipT3 s.heap l1 l2).objs.size = s.heap.objs.size + 3 := by rw [Heap.size_push, z2]
  have z4 : (zipT4 s.heap l1 l2).objs.size = s.heap.objs.size + 4 := by rw [Heap.size_push, z3]
  have z5 : (zipT5 s.heap l1 l2).objs.size = s.heap.objs.size + 5 := by rw [Heap.size_push, z4]
  have g5 : (zipT5 s.heap l1 l2).get? (zipT4 s.heap l1 l2).objs.size = some _ := Heap.get?_push_size _ rfl
  have g4 : (zipT5 s.heap l1 l2).get? (zipT3 s.heap l1 l2).objs.size = some _ := Heap.get?_push_of_some _ (Heap.get?_push_size _ rfl)
  have g3 : (zipT5 s.heap l1 l2).get? (zipT2 s.heap l1 l2).objs.size = some _ := Heap.get?_push_of_some _ (Heap.get?_push_of_some _ (Heap.get?_push_size _ rfl))
  have g2 : (zipT5 s.heap l1 l2).get? (zipT1 s.heap l1).objs.size = some _ := Heap.get?_push_of_some _ (Heap.get?_push_of_some _ (Heap.get?_push_of_some _ (Heap.get?_push_size _ rfl)))
  have g1 : (zipT5 s.heap l1 l2).get? s.heap.objs.size = some _ := Heap.get?_push_of_some _ (Heap.get?_push_of_some _ (Heap.get?_push_of_some _ (Heap.get?_push_of_some _ (Heap.get?_push_size _ rfl))))
  show _ ∧ _
  rw [z2, z3, z4] at g5
  rw [z1, z2] at g3
  rw [z3] at g4
  rw [z1] at g2
  rw [z4]
  exact ⟨⟨_, g5, rfl⟩, h _ g5 g3 g4 ⟨_, g1, rfl, rfl⟩ ⟨_, g2, rfl, rfl⟩ z5 fun c o x =>
    Heap.get?_push_of_some _ (Heap.get?_push_of_some _ (Heap.get?_push_of_some _ (Heap.get?_push_of_some _ (Heap.get?_push_of_some _ x))))⟩

section
variable {X : Cx} {es : List Expr} {kk : Nat} {tpos : Pos}
theorem zip_apart {n l1 l2 : Nat} (h1 : l1 < n) (h2 : l2 < n) : ZipApart (n + 4) (n + 2) (n + 3) n (n + 1) l1 l2 := by
  refine ⟨?_, ?_, ?_, ?_, ?_, ?_, ?_, ?_, ?_, ?_, ?_, ?_, ?_, ?_, ?_, ?_, ?_, ?_⟩
  all_goals intro e
  · have e' : (n + 2 : Nat) = n + 4 := e; omega
  · have e' : (n + 3 : Nat) = n + 4 := e; omega
  · have e' : (n : Nat) = n + 4 := e; omega
  · have e' : (n + 1 : Nat) = n + 4 := e; omega
  · have e' : (n + 2 : Nat) = n + 3 := e; omega
  · have e' : (n + 2 : Nat) = n := e; omega
  · have e' : (n + 2 : Nat) = n + 1 := e; omega
  · have e' : (n + 3 : Nat) = n := e; omega
  · have e' : (n + 3 : Nat) = n + 1 := e; omega
  · have e' : (n : Nat) = n + 1 := e; omega
  · have e' : (l1 : Nat) = n + 4 := e; omega
  · have e' : (l1 : Nat) = n + 3 := e; omega
  · have e' : (l1 : Nat) = n := e; omega
  · have e' : (l1 : Nat) = n + 1 := e; omega
  · have e' : (l2 : Nat) = n + 4 := e; omega
  · have e' : (l2 : Nat) = n + 3 := e; omega
  · have e' : (l2 : Nat) = n := e; omega
  · have e' : (l2 : Nat) = n + 1 := e; omega
/-- zip of two lists, of two tuples -/
def iZip (K : PySem.W.Frag) (ta : TA) : TI := fun σ H R => ta σ H fun vs H1 => ∃ a b, vs = [.ref a, .ref b] ∧
  ((∃ xs ys, SqL K H1 a xs ∧ SqL K H1 b ys ∧ R (Itz (fun H xs => SqL K H a xs) (fun H ys => SqL K H b ys)) H1) ∨
   (∃ xs ys, SqT K H1 a xs ∧ SqT K H1 b ys ∧ R (Itz (fun H xs => SqT K H a xs) (fun H ys => SqT K H b ys)) H1))
theorem pi_zip {a b : Expr} {ta : TA} {p pos : Pos} (hg : Gl X "zip") (hm : X.mg "zip" = none) (ha : PA X [a, b] ta) (hs : starEach [a, b] X.env = [(false, eval a X.env), (false, eval b X.env)] := by rfl) (hs2 : starEach [b] X.env = [(false, eval b X.env)] := by rfl)
    (hv : bootBuiltins "zip" = some (.type "zip") := by first | rfl | decide +kernel) :
    PI X (.Tuple es kk tpos) (.Call (.Name "zip" p) [a, b] [] pos) (iZip X.K ta) := by
  intro pins s σ H R I h
  refine Call_ (ld_blt I hg hm hv (PyProof.Rows.callWith_type1 (thn (ha pos pins s σ H _ I h) fun us s1 ⟨vs, H1, I1, r1, q1⟩ => ?_) (by rw [hs, hs2]) (by rw [hs2]; rfl)))
  obtain ⟨l1, l2, e, q⟩ := q1
  subst e
  obtain ⟨u1, u2, rfl, e1, e2⟩ := vals2 r1
  cases e1
  cases e2
  have fp : ∀ (h' : Heap) (H' : Hp), (∀ b, s1.heap.objs.size ≤ b → H' b = none) → ∀ b ∈ [s1.heap.objs.size + 4, s1.heap.objs.size + 2, s1.heap.objs.size + 3, s1.heap.objs.size, s1.heap.objs.size + 1], FpOk X pins H' b := fun h' H' hn b hb => by
    simp only [List.mem_cons, List.not_mem_nil, or_false] at hb
    have hle : s1.heap.objs.size ≤ b := by omega
    exact I1.fpOk hle (hn b hle)
  rcases q with ⟨xs, ys, q1, q2, q⟩ | ⟨xs, ys, q1, q2, q⟩
  · obtain ⟨its, rv, p1, _⟩ := I1.list q1
    obtain ⟨jts, rw', p2, _⟩ := I1.list q2
    have lt1 : l1 < s1.heap.objs.size := by obtain ⟨_, e, _⟩ := p1.isList; exact Heap.lt_size e
    have lt2 : l2 < s1.heap.objs.size := by obtain ⟨_, e, _⟩ := p2.isList; exact Heap.lt_size e
    refine call_zip_2 p1.isList p2.isList fun h' g1 g2 g3 g4 g5 g6 g7 => ?_
    refine wpAny_pyIter_zip g1 ?_
    exact ⟨_, _, _, _, H1, rfl, I1.kept (t' := s1.toks) g7, turn_zip (zip_apart lt1 lt2) (Src.list _ l1) (Src.list _ l2) (SrcV.list X.K l1) (SrcV.list X.K l2), ⟨g1, g2, ⟨_, _, g3⟩, g4, g5⟩, fp h' H1 fun b hb => I1.hok.fresh hb, q⟩
  · obtain ⟨its, rv, p1, _⟩ := I1.tuple q1
    obtain ⟨jts, rw', p2, _⟩ := I1.tuple q2
    have lt1 : l1 < s1.heap.objs.size := by obtain ⟨_, e, _⟩ := p1; exact Heap.lt_size e
    have lt2 : l2 < s1.heap.objs.size := by obtain ⟨_, e, _⟩ := p2; exact Heap.lt_size e
    refine call_zipT (show s1.heap.IsTuple l1 its.toArray from p1) (show s1.heap.IsTuple l2 jts.toArray from p2) fun h' g1 g2 g3 g4 g5 g6 g7 => ?_
    refine wpAny_pyIter_zip g1 ?_
    exact ⟨_, _, _, _, H1, rfl, I1.kept (t' := s1.toks) g7, turn_zip (zip_apart lt1 lt2) (Src.tuple _ l1) (Src.tuple _ l2) (SrcV.tuple X.K l1) (SrcV.tuple X.K l2), ⟨g1, g2, ⟨_, _, g3⟩, g4, g5⟩, fp h' H1 fun b hb => I1.hok.fresh hb, q⟩
end
end L2

namespace L2
open PySem PySem.Spec PyProof.Rows

/-! ### D. comprehensions: the block's scope -/
theorem relabel_free {env : Env} : ∀ {names : List (Str × NameKind)} {x : Str}, names.lookup x = some .free →
    (names.map fun (n, k) => if (k == NameKind.free && env.scope.kind == .function && env.kindOf n == some .cell) then (n, NameKind.cell) else (n, k)).lookup x = some .cell ∨
    (names.map fun (n, k) => if (k == NameKind.free && env.scope.kind == .function && env.kindOf n == some .cell) then (n, NameKind.cell) else (n, k)).lookup x = some .free
  | [], _, h => by simp at h
  | (n, k) :: r, x, h => by
    have ih := @relabel_free env r x
    show List.lookup x ((if (k == NameKind.free && env.scope.kind == .function && env.kindOf n == some .cell) = true then (n, NameKind.cell) else (n, k)) :: _) = _ ∨ List.lookup x ((if (k == NameKind.free && env.scope.kind == .function && env.kindOf n == some .cell) = true then (n, NameKind.cell) else (n, k)) :: _) = _
    cases hx : x == n with
    | true =>
      simp only [List.lookup_cons, hx] at h
      by_cases hc : (k == NameKind.free && env.scope.kind == .function && env.kindOf n == some .cell) = true
      · rw [if_pos hc]; left; simp only [List.lookup_cons, hx]
      · rw [if_neg hc]; right; simp only [List.lookup_cons, hx]; exact h
    | false =>
      simp only [List.lookup_cons, hx] at h
      by_cases hc : (k == NameKind.free && env.scope.kind == .function && env.kindOf n == some .cell) = true
      · rw [if_pos hc]; simp only [List.lookup_cons, hx]; exact ih h
      · rw [if_neg hc]; simp only [List.lookup_cons, hx]; exact ih h
theorem relabel_inv {env : Env} : ∀ {names : List (Str × NameKind)} {x : Str} {j : NameKind}, (j = .cell ∨ j = .free) →
    (names.map fun (n, k) => if (k == NameKind.free && env.scope.kind == .function && env.kindOf n == some .cell) then (n, NameKind.cell) else (n, k)).lookup x = some j → names.lookup x = some .cell ∨ names.lookup x = some .free
  | [], _, _, _, h => by simp at h
  | (n, k) :: r, x, j, hj, h => by
    have ih := @relabel_inv env r x j hj
    replace h : List.lookup x ((if (k == NameKind.free && env.scope.kind == .function && env.kindOf n == some .cell) = true then (n, NameKind.cell) else (n, k)) :: (r.map fun (n, k) => if (k == NameKind.free && env.scope.kind == .function && env.kindOf n == some .cell) then (n, NameKind.cell) else (n, k))) = some j := h
    cases hx : x == n with
    | true =>
      simp only [List.lookup_cons, hx]
      by_cases hc : (k == NameKind.free && env.scope.kind == .function && env.kindOf n == some .cell) = true
      · right
        simp only [Bool.and_eq_true] at hc
        exact congrArg some (beq_iff_eq.mp hc.1.1)
      · rw [if_neg hc] at h
        simp only [List.lookup_cons, hx] at h
        cases h
        rcases hj with rfl | rfl
        · exact .inl rfl
        · exact .inr rfl
    | false =>
      simp only [List.lookup_cons, hx]
      by_cases hc : (k == NameKind.free && env.scope.kind == .function && env.kindOf n == some .cell) = true
      · rw [if_pos hc] at h; simp only [List.lookup_cons, hx] at h; exact ih h
      · rw [if_neg hc] at h; simp only [List.lookup_cons, hx] at h; exact ih h

def clos (cells : List (Str × Addr)) : List (Str × NameKind) → List (Str × Addr) → List (Str × Addr)
  | [], acc => acc
  | (n, k) :: r, acc => clos cells r (if (k == NameKind.free) = true then (n, (cells.lookup n).getD 0) :: acc else acc)
theorem clos_loop {env : Env} : ∀ (names : List (Str × NameKind)) (acc : List (Str × Addr)), (∀ y ∈ names, y.2 = .free → ∃ c, env.cells.lookup y.1 = some c) →
    (forIn names acc (fun (x : Str × NameKind) (cs : List (Str × Addr)) => match x with | (name, kind) => if (kind == NameKind.free) = true then (do let a ← cellOf env name; pure (ForInStep.yield ((name, a) :: cs))) else pure (ForInStep.yield cs)) : Sem (List (Str × Addr))) = pure (clos env.cells names acc)
  | [], acc, _ => rfl
  | (n, k) :: r, acc, h => by
    rw [List.forIn_cons]
    have hr := fun acc => clos_loop r acc fun y hy => h y (List.mem_cons_of_mem _ hy)
    by_cases hk : (k == NameKind.free) = true
    · obtain ⟨c, hc⟩ := h (n, k) List.mem_cons_self (beq_iff_eq.mp hk)
      have e : cellOf env n = pure c := by unfold cellOf; rw [hc]
      simp only [hk, if_true, e, pure_bind, clos, hc, Option.getD_some]
      exact hr _
    · simp only [hk, if_false, pure_bind, clos]
      exact hr _
theorem closureFor_clos {scope : Scope} {env : Env} (h : ∀ y ∈ scope.names, y.2 = .free → ∃ c, env.cells.lookup y.1 = some c) : closureFor scope env = pure (clos env.cells scope.names []) := by
  have e := clos_loop scope.names [] h
  unfold closureFor
  simp only [e]
  first | rfl | simp
theorem clos_get {cells : List (Str × Addr)} {x : Str} : ∀ (names : List (Str × NameKind)) (acc : List (Str × Addr)), ((x, NameKind.free) ∈ names ∨ acc.lookup x = some ((cells.lookup x).getD 0)) →
    (clos cells names acc).lookup x = some ((cells.lookup x).getD 0)
  | [], acc, h => by
    rcases h with h | h
    · cases h
    · exact h
  | (n, k) :: r, acc, h => by
    unfold clos
    refine clos_get r _ ?_
    by_cases hk : (k == NameKind.free) = true
    · rw [if_pos hk]
      by_cases hx : x = n
      · right; subst hx; simp
      · rcases h with h | h
        · rcases List.mem_cons.mp h with e | e
          · cases e; exact absurd rfl hx
          · exact .inl e
        · right
          have hx' : (x == n) = false := by simpa using hx
          simp only [List.lookup_cons, hx']
          exact h
    · rw [if_neg hk]
      rcases h with h | h
      · rcases List.mem_cons.mp h with e | e
        · cases e; exact absurd rfl hk
        · exact .inl e
      · exact .inr h
theorem clos_inv {cells : List (Str × Addr)} {x : Str} {c : Addr} : ∀ (names : List (Str × NameKind)) (acc : List (Str × Addr)), (clos cells names acc).lookup x = some c →
    acc.lookup x = some c ∨ ((x, NameKind.free) ∈ names ∧ c = (cells.lookup x).getD 0)
  | [], acc, h => .inl h
  | (n, k) :: r, acc, h => by
    unfold clos at h
    rcases clos_inv r _ h with q | ⟨q, e⟩
    · by_cases hk : (k == NameKind.free) = true
      · rw [if_pos hk] at q
        cases hx : x == n with
        | true =>
          simp only [List.lookup_cons, hx] at q
          have hx' : x = n := by simpa using hx
          subst hx'
          have hk' : k = .free := beq_iff_eq.mp hk
          subst hk'
          exact .inr ⟨List.mem_cons_self, (Option.some.inj q).symm⟩
        | false =>
          simp only [List.lookup_cons, hx] at q
          exact .inl q
      · rw [if_neg hk] at q
        exact .inl q
    · exact .inr ⟨List.mem_cons_of_mem _ q, e⟩

/-- the scope of a block: its own names, and the names from around by their slots there -/
structure CompScope (N : List Str) (osc scope : Scope) (own : List Str) (fre : List (Nat × Str)) : Prop where
  kind : scope.kind = .function
  ocell : ∀ y ∈ scope.names, y.2 ≠ .cell
  locs : ∀ y ∈ scope.names, y.2 = .local → scope.names.lookup y.1 = some .local
  frees : ∀ y ∈ scope.names, y.2 = .free → osc.names.lookup y.1 = some .cell ∨ osc.names.lookup y.1 = some .free
  fres : ∀ p ∈ fre, N[p.1]? = some p.2 ∧ scope.names.lookup p.2 = some .free
def startC (n : Nat) (fre : List (Nat × Str)) (σ : St) : St := List.replicate n none ++ fre.map fun p => (σ[p.1]?).join
def cxC (X : Cx) (N' : List Str) (scope : Scope) (cl : List (Str × Addr)) (C : Addr) (s₂ : Shared) (H₂ : Hp) (fp : List Addr) : Cx where
  prog := X.prog
  w := X.w
  K := X.K
  mg := X.mg
  base := X.base
  A := X.A
  N := N'
  s₀ := s₂
  H₀ := H₂
  env := compEnvC scope cl C X.env
  outer := X.stack
  stack := X.stack
  ex := fp
  fn := fun _ => false
  calm := X.calm
  pn := []
  xe := fun _ _ => False

section
variable {X : Cx} {pins : List (Addr × Obj)} {σ : St} {H : Hp} {s : Shared} {scope : Scope} {own : List Str} {fre : List (Nat × Str)} {fp : List Addr} {C D : Addr} {h1 : Heap} {m : Str → Option Value}
theorem Inv.clos_cells (I : Inv X pins σ H s) (S : CompScope X.N X.env.scope scope own fre) : ∀ y ∈ scope.names, y.2 = .free → ∃ c, X.env.cells.lookup y.1 = some c := fun y hy e => I.ok.has y.1 (S.frees y hy e)
theorem Inv.clos_sub (I : Inv X pins σ H s) (S : CompScope X.N X.env.scope scope own fre) {x : Str} {c : Addr} (h : (clos X.env.cells scope.names []).lookup x = some c) : X.env.cells.lookup x = some c := by
  rcases clos_inv _ _ h with q | ⟨q, e⟩
  · cases q
  · obtain ⟨c', hc⟩ := I.clos_cells S _ q rfl
    rw [hc] at e ⊢
    exact congrArg some e.symm
theorem inv_comp {tk : Nat} (I : Inv X pins σ H s) (S : CompScope X.N X.env.scope scope own fre) (hfp : ∀ b ∈ fp, FpOk X pins H b) (hfo : ∀ b ∈ fp, ∃ o, s.heap.get? b = some o)
    (old : ∀ b o, s.heap.get? b = some o → h1.get? b = some o) (hC : s.heap.objs.size ≤ C) (hns : h1.Ns C m) (hD : s.heap.objs.size ≤ D) (hDC : D ≠ C) (hDo : h1.get? D = some (LCg.lst [])) :
    Inv (cxC X (own ++ fre.map (·.2)) scope (clos X.env.cells scope.names []) C s H fp) [(D, LCg.lst [])] (startC own.length fre σ) H { s with heap := h1, toks := tk } := by
  have sub := fun {x : Str} {c : Addr} => I.clos_sub (x := x) (c := c) S
  have lt : ∀ b ∈ fp, b < s.heap.objs.size := fun b hb => by obtain ⟨o, e⟩ := hfo b hb; exact Heap.lt_size e
  have clt : ∀ x c, X.env.cells.lookup x = some c → c < s.heap.objs.size := fun x c e => by obtain ⟨v, q⟩ := I.cell x c e; exact q.lt
  refine ⟨⟨I.ok.mod, S.kind, I.ok.glob, I.ok.blt, hC, fun x y c e1 e2 => I.ok.inj x y c (sub e1) (sub e2), fun x hx => ?_, fun x c z => absurd z (by show ¬ (false = true); decide), I.ok.hd, I.ok.frames, .inl rfl, fun b hb => ?_, I.bs, Nat.le_trans I.ok.bsz I.sz, fun b o e hb => ?_, fun b hb => ?_, I.stack, I.stkFree⟩,
    rfl, I.bare, Un.kept old, ⟨m, hns, fun i x v e1 e2 e3 => ?_⟩, fun x c e => ?_, I.hok.fresh hC, fun x c e => I.freeC x c (sub e), fun p hp => ?_, I.hok.kept old, ?_⟩
  · have hx' : scope.names.lookup x = some .cell ∨ scope.names.lookup x = some .free := by
      rcases hx with z | z
      · exact relabel_inv (.inl rfl) z
      · exact relabel_inv (.inr rfl) z
    rcases hx' with z | z
    · exact absurd rfl (S.ocell _ (PySem.mem_of_lookup z))
    · exact ⟨_, clos_get _ _ (.inl (PySem.mem_of_lookup z))⟩
  · exact ⟨Nat.ne_of_lt (Nat.lt_of_lt_of_le (lt b hb) hC), fun x c e => (hfp b hb).2.2.2.2.1 x c (sub e)⟩
  · obtain ⟨_, _, _, f3, _⟩ := hfp b hb
    rcases f3 with z | z
    · exact I.ok.noex b o e z
    · exact absurd (Nat.lt_of_lt_of_le (Heap.lt_size e) (Nat.le_trans I.ok.bsz z)) (Nat.lt_irrefl _)
  · intro z
    rcases List.mem_cons.mp (I.stkSub b z) with q | q
    · exact (hfp b hb).2.1 q
    · exact (hfp b hb).2.2.1 q
  · have hi : own.length ≤ i := by
      rcases Nat.lt_or_ge i own.length with z | z
      · unfold startC at e2
        rw [List.getElem?_append_left (by simpa using z), List.getElem?_replicate] at e2
        split at e2 <;> cases e2
      · exact z
    unfold startC at e2
    rw [List.getElem?_append_right (by simpa using hi), List.getElem?_map, List.length_replicate] at e2
    replace e1 : (own ++ fre.map (·.2))[i]? = some x := e1
    rw [List.getElem?_append_right hi, List.getElem?_map] at e1
    cases q : fre[i - own.length]? with
    | none => rw [q] at e1; cases e1
    | some p =>
      rw [q] at e1 e2
      have e1' : p.2 = x := Option.some.inj e1
      have e2' : (σ[p.1]?).join = some v := Option.some.inj e2
      subst e1'
      have e4 : σ[p.1]? = some (some v) := by
        cases r : σ[p.1]? with
        | none => rw [r] at e2'; cases e2'
        | some w => rw [r] at e2'; exact congrArg some e2'
      obtain ⟨n1, n2⟩ := S.fres p (List.mem_of_getElem? q)
      have hm := PySem.mem_of_lookup n2
      have kd := S.frees _ hm rfl
      obtain ⟨m2, hn2, hl2⟩ := I.loc
      obtain ⟨u, ru, lk⟩ := hl2 p.1 p.2 v n1 e4 (.inr kd)
      refine ⟨u, ru, ?_⟩
      rcases lk with ⟨z, _⟩ | ⟨_, c, hc, hcell⟩
      · have z' : X.env.scope.names.lookup p.2 = some .local := z
        rcases kd with k | k
        · have k' : X.env.scope.names.lookup p.2 = some .cell := k
          rw [z'] at k'; cases k'
        · have k' : X.env.scope.names.lookup p.2 = some .free := k
          rw [z'] at k'; cases k'
      · refine .inr ⟨relabel_free n2, c, ?_, ?_⟩
        · have := clos_get (cells := X.env.cells) (x := p.2) scope.names [] (.inl hm)
          rw [hc] at this
          exact this
        · obtain ⟨o, ho, hd⟩ := hcell
          exact ⟨o, old _ _ ho, hd⟩
  · obtain ⟨v, o, ho, hd⟩ := I.cell x c (sub e)
    exact ⟨v, o, old _ _ ho, hd⟩
  · have e : p = (D, LCg.lst []) := by
      have hp' : p ∈ [(D, LCg.lst [])] := hp
      simpa using hp'
    subst e
    refine ⟨hDo, I.hok.fresh hD, hDC, fun z => ?_, fun v z => by cases z⟩
    rcases List.mem_cons.mp (I.stkSub D z) with q | q
    · exact absurd I.lt (Nat.not_lt.mpr (by rw [← q]; exact hD))
    · exact I.nofs hD q
  · unfold startC
    show _ = (own ++ fre.map (·.2)).length
    simp
end

theorem compLoop_gen {prog : Program} {w : World} {A : Around} {R : Result → Shared → Prop} {s : Shared} {elt target iter : Expr} {ifs : List Expr} {scope : Scope} {pos : Pos} {it acc : Value} {env : Env} (I : Nat → Shared → Prop)
    (turn : ∀ n s, I n s → wpAny (model prog w) A (pyNext it) (fun r s₁ => match r with
      | none => R (.ok .next) s₁
      | some v => wpAny (model prog w) A (letOwnedTupleGo target it v) (fun _ s₁' => wpAny (model prog w) A (assign target env v) (fun _ s₂ =>
          wpAny (model prog w) A (forIn ifs true fun c r => if r = true then do let ok ← isTrue c env (eval c env); pure (ForInStep.yield ok) else pure (ForInStep.yield r)) (fun ok s₃ =>
            if ok = true then wpAny (model prog w) A (eval elt env) (fun x s₄ =>
              wpAny (model prog w) A (call (.builtin "list.append") [acc, x]) (fun _ s₅ => ∃ m, m < n ∧ I m s₅) (notedBy (model prog w) A env fun e s' => R (.error e) s') s₄) (notedBy (model prog w) A env fun e s' => R (.error e) s') s₃
            else ∃ m, m < n ∧ I m s₃) (notedBy (model prog w) A env fun e s' => R (.error e) s') s₂) (notedBy (model prog w) A env fun e s' => R (.error e) s') s₁') (notedBy (model prog w) A env fun e s' => R (.error e) s') s₁) (notedBy (model prog w) A env fun e s' => R (.error e) s') s)
    (n : Nat) (h : I n s) :
    codeAny (model prog w) A (.compLoop (.ListComp elt [⟨target, iter, ifs, 0⟩] scope pos) 0 it acc env) R s := by
  refine codeAny_loop rfl I (fun n s hI => ?_) n h
  show wpAny _ A ((compTurn (.ListComp elt [⟨target, iter, ifs, 0⟩] scope pos) 0 it acc env).onRaise (fun x => do noteFrame x env; theTreesLotGoes x)) _ _ s
  refine wpAny_noted ?_
  rw [compTurn_list]
  refine wpAny_bind (wpAny_standAt (wpAny_bind (wpAny_mono (turn n s hI) (fun r s₁ h₁ => ?_) fun _ _ h' => h')))
  cases r with
  | none => exact wpAny_pure h₁
  | some v =>
    refine wpAny_bind (wpAny_mono h₁ (fun _ s₁' h₁' => ?_) fun _ _ h' => h')
    refine wpAny_bind (wpAny_mono h₁' (fun _ s₂ h₂ => wpAny_bind (wpAny_mono h₂ (fun ok s₃ h₃ => ?_) fun _ _ h' => h')) fun _ _ h' => h')
    cases ok with
    | false => exact wpAny_pure ⟨rfl, h₃⟩
    | true =>
      exact wpAny_bind (wpAny_bind (wpAny_mono h₃ (fun x s₄ h₄ => wpAny_bind (wpAny_mono h₄ (fun _ s₅ h₅ => wpAny_pure (wpAny_pure ⟨rfl, h₅⟩)) fun _ _ h' => h')) fun _ _ h' => h'))

/-! ### the tests of a block -/
def PTs (X : Cx) (ifs : List Expr) (t : TT) : Prop :=
  ∀ (pins : List (Addr × Obj)) (s : Shared) (σ : St) (H : Hp) (Q : Bool → Hp → Prop), Inv X pins σ H s → t σ H Q →
    wpAny (model X.prog X.w) X.A (forIn ifs true fun c r => if r = true then do let ok ← isTrue c X.env (eval c X.env); pure (ForInStep.yield ok) else pure (ForInStep.yield r)) (TP X pins σ Q) X.xe s
def tYes : TT := fun _ H Q => Q true H
theorem pts_nil {X : Cx} : PTs X [] tYes := fun _ _ _ H _ I h => wpAny_tests_nil ⟨H, I, h⟩
theorem pts_one {X : Cx} {c : Expr} {t : TT} (h : PT X c t) : PTs X [c] t := fun pins s σ H Q I hw => wpAny_tests_one (h pins s σ H Q I hw)

/-- what is wanted of a comprehension's turns; Fin: of the list and the heap at the end -/
def CompT (J : It) (g : TG) (tt : TT) (te : TE) (Fin : List V → Hp → Prop) (σ₀ : St) (H1 : Hp) : Prop :=
  ∃ W : Nat → Nat → List V → St → Hp → Prop, (∃ m, W 0 m [] σ₀ H1) ∧ ∀ i m ys σ' H', W i m ys σ' H' → (J.stop i H' ∧ Fin ys H') ∨
    (J.go i H' ∧ ys.length < sizeLine ∧ ∀ x H2, J.yld i H' x H2 → g x σ' H2 fun σ3 H3 => tt σ3 H3 fun b H4 => if b = true then te σ3 H4 fun y H5 => ∃ m', m' < m ∧ W (i + 1) m' (ys ++ [y]) σ3 H5 else ∃ m', m' < m ∧ W (i + 1) m' ys σ3 H4)
def tComp (n : Nat) (fre : List (Nat × Str)) (wi : TI) (g : TG) (tt : TT) (te : TE) : TE := fun σ H Q => wi σ H fun J H1 => CompT J g tt te (fun ys H' => ∀ D, H' D = none → Q (.ref D) (upd H' D (.lst ys))) (startC n fre σ) H1

section
variable {X : Cx} {pins : List (Addr × Obj)} {σ : St} {scope : Scope} {own : List Str} {fre : List (Nat × Str)} {elt tg iter : Expr} {ifs : List Expr} {pos : Pos} {wi : TI} {g : TG} {tt : TT} {te : TE}

theorem comp_block {s2 : Shared} {H2 : Hp} {it : Addr} {fp : List Addr} {tn : Nat → Heap → Prop} {J : It} {Fin : List V → Hp → Prop} {RR : Value → Addr → Result → Shared → Prop} {E : Value → Shared → Prop}
    (hc : X.calm = true) (S : CompScope X.N X.env.scope scope own fre) (I2 : Inv X pins σ H2 s2) (T : Turn X.prog X.w X.K tg J fp it tn) (st2 : tn 0 s2.heap) (f2 : ∀ b ∈ fp, FpOk X pins H2 b)
    (hg : ∀ cl C s₂ H₂ fp, PG (cxC X (own ++ fre.map (·.2)) scope cl C s₂ H₂ fp) tg g) (ht : ∀ cl C s₂ H₂ fp, PTs (cxC X (own ++ fre.map (·.2)) scope cl C s₂ H₂ fp) ifs tt) (he : ∀ cl C s₂ H₂ fp, PE (cxC X (own ++ fre.map (·.2)) scope cl C s₂ H₂ fp) elt te)
    (turns : CompT J g tt te Fin (startC own.length fre σ) H2)
    (hend : ∀ (D C : Addr) (s' : Shared) (H' : Hp) (ys : List V) (its : List Value) (m : Str → Option Value), s2.heap.objs.size ≤ D → s2.heap.objs.size ≤ C → D ≠ C → Inv X pins σ H' s' → H' D = none → H' C = none → s'.heap.get? D = some (LCg.lst its) → s'.heap.Ns C m → Vals ys its → ys.length ≤ sizeLine → Fin ys H' → RR (.ref D) C (.ok .next) s') :
    wpAny (model X.prog X.w) X.A (newList []) (fun acc s₃ => wpAny (model X.prog X.w) X.A (newFunctionEnv scope X.env.globals (clos X.env.cells scope.names []) [] X.env.qual none .none (some X.env)) (fun cenv s₄ =>
      codeAny (model X.prog X.w) X.A (.compStart (.ListComp elt [⟨tg, iter, ifs, 0⟩] scope pos) 0 (.ref it) acc { cenv with scope := relabel scope X.env }) (RR acc cenv.locals) s₄) E s₃) E s2 := by
  obtain ⟨W, ⟨m0, w0⟩, turn⟩ := turns
  refine wpAny_newObj_type (wpAny_newFunctionEnv S.ocell (by intro y hy; simp at hy) (fun h₁ hns₁ hsb₁ => ?_) S.kind)
  dsimp only at hns₁ hsb₁ ⊢
  generalize hH2 : s2.heap.push { cls := .type "list", dict := none, data := .seq ([] : List Value).toArray } = HH at hns₁ hsb₁ ⊢
  have hC : HH.objs.size = s2.heap.objs.size + 1 := by rw [← hH2, Heap.size_push]
  have hDC : s2.heap.objs.size ≠ HH.objs.size := by rw [hC]; exact Nat.ne_of_lt (Nat.lt_succ_self _)
  have hCle : s2.heap.objs.size ≤ HH.objs.size := by rw [hC]; exact Nat.le_succ _
  have old : ∀ b o, s2.heap.get? b = some o → h₁.get? b = some o := fun b o e =>
    hsb₁.extBut b o (by rw [hC]; exact Nat.ne_of_lt (Nat.lt_succ_of_lt (Heap.lt_size e))) (Heap.get?_push_of_some _ (hH2 ▸ Heap.get?_push_of_some _ e))
  have hacc : h₁.get? s2.heap.objs.size = some (LCg.lst []) := hsb₁.extBut _ _ hDC (Heap.get?_push_of_some _ (hH2 ▸ Heap.get?_push_size _ rfl))
  have hfo : ∀ b ∈ fp, ∃ o, s2.heap.get? b = some o := fun b hb => by obtain ⟨o, e, _⟩ := T.obj _ _ st2 b hb; exact ⟨o, e⟩
  have flt : ∀ b ∈ fp, b < s2.heap.objs.size := fun b hb => by obtain ⟨o, e⟩ := hfo b hb; exact Heap.lt_size e
  have I1 := inv_comp (tk := s2.toks + ([] : List (Str × Value)).length) I2 S f2 hfo old hCle hns₁ (Nat.le_refl _) hDC hacc
  generalize hX' : cxC X (own ++ fre.map (·.2)) scope (clos X.env.cells scope.names []) HH.objs.size s2 H2 fp = X' at I1
  have eP : X'.prog = X.prog := by rw [← hX']; rfl
  have eW : X'.w = X.w := by rw [← hX']; rfl
  have eK : X'.K = X.K := by rw [← hX']; rfl
  have eA : X'.A = X.A := by rw [← hX']; rfl
  have eE : X'.env = compEnvC scope (clos X.env.cells scope.names []) HH.objs.size X.env := by rw [← hX']; rfl
  have eX : X'.xe = fun _ _ => False := by rw [← hX']; rfl
  have ePn : X'.pn = [] := by rw [← hX']; rfl
  have eC : X'.calm = true := by rw [← hX']; exact hc
  have eS : X'.s₀ = s2 := by rw [← hX']; rfl
  have eH : X'.H₀ = H2 := by rw [← hX']; rfl
  have eF : X'.fs = frs X.stack := by rw [← hX']; rfl
  have eEx : X'.ex = fp := by rw [← hX']; rfl
  have hg' : PG X' tg g := by rw [← hX']; exact hg _ _ _ _ _
  have ht' : PTs X' ifs tt := by rw [← hX']; exact ht _ _ _ _ _
  have he' : PE X' elt te := by rw [← hX']; exact he _ _ _ _ _
  have ccell : ∀ x c, X'.env.cells.lookup x = some c → c < s2.heap.objs.size := fun x c e => by
    rw [eE] at e
    obtain ⟨v, q⟩ := I2.cell x c (I2.clos_sub S e)
    exact q.lt
  have stat : ∀ {H' : Hp} {o : Obj}, (∀ b ∈ fp, H' b = none) → ∀ b ∈ fp, FpOk X' [(s2.heap.objs.size, o)] H' b := fun {H' o} hn b hb => by
    refine ⟨hn b hb, ?_, ?_, .inl (by rw [eEx]; exact hb), fun x c e => ?_, fun p hp => ?_⟩
    · rw [eE]; exact Nat.ne_of_lt (Nat.lt_of_lt_of_le (flt b hb) hCle)
    · rw [eF]; intro z
      rcases List.mem_cons.mp (I2.stkSub b z) with q | q
      · exact (f2 b hb).2.1 q
      · exact (f2 b hb).2.2.1 q
    · rw [eE] at e
      exact (f2 b hb).2.2.2.2.1 x c (I2.clos_sub S e)
    · rw [ePn] at hp
      have e : p = (s2.heap.objs.size, o) := by simpa using hp
      rw [e]
      exact Nat.ne_of_gt (flt b hb)
  have statD : ∀ {H' : Hp}, H' s2.heap.objs.size = none → FpOk X' [] H' s2.heap.objs.size := fun {H'} hn => by
    refine ⟨hn, ?_, ?_, .inr (by rw [eS]; exact Nat.le_refl _), fun x c e => Nat.ne_of_lt (ccell x c e), fun p hp => ?_⟩
    · rw [eE]; exact hDC
    · rw [eF]; intro z
      rcases List.mem_cons.mp (I2.stkSub _ z) with q | q
      · exact absurd I2.lt (by rw [← q]; exact Nat.lt_irrefl _)
      · exact I2.nofs (Nat.le_refl _) q
    · rw [ePn] at hp; cases hp
  have loop : ∀ s₃ : Shared, s₃ = { s2 with heap := h₁, toks := s2.toks + ([] : List (Str × Value)).length } →
      codeAny (model X.prog X.w) X.A (.compLoop (.ListComp elt [⟨tg, iter, ifs, 0⟩] scope pos) 0 (.ref it) (.ref s2.heap.objs.size) (compEnvC scope (clos X.env.cells scope.names []) HH.objs.size X.env))
        (RR (.ref s2.heap.objs.size) HH.objs.size) s₃ := by
    rintro s₃ rfl
    rw [← eE]
    refine compLoop_gen (fun n s' => ∃ i ys its σ' H', Inv X' [(s2.heap.objs.size, LCg.lst its)] σ' H' s' ∧ Vals ys its ∧ ys.length ≤ sizeLine ∧ tn i s'.heap ∧ (∀ b ∈ fp, H' b = none) ∧ W i n ys σ' H') ?_ m0
      ⟨0, [], [], _, H2, I1, .nil, Nat.zero_le _, T.keep _ _ _ st2 fun b _ o e => old b o e, fun b hb => (f2 b hb).1, w0⟩
    rintro n s3 ⟨i, ys, its, σ3, H3, I3, rv, hlen, st3, fr3, w3⟩
    have pD := I3.pin (s2.heap.objs.size, LCg.lst its) (by rw [ePn]; simp)
    rcases turn i n ys σ3 H3 w3 with ⟨stop, fin⟩ | ⟨go, hz, step⟩
    · have dn := T.done X' eP eW eK eC i _ s3 σ3 H3 (notedBy (model X.prog X.w) X.A X'.env fun e s' => RR (.ref s2.heap.objs.size) HH.objs.size (.error e) s') I3 (stat fr3) st3 stop
      rw [eA] at dn
      refine wpAny_mono dn (fun r s4 ⟨hr, I4⟩ => ?_) fun _ _ z => z
      subst hr
      have pD4 := I4.pin (s2.heap.objs.size, LCg.lst its) (by rw [ePn]; simp)
      obtain ⟨m4, hn4, _⟩ := I4.loc
      have b4 : Un (frs X.stack) fp H2 H3 s2.heap s4.heap := by
        have z := I4.base
        rw [eF, eEx, eH, eS] at z
        exact z
      have o4 : s4.os = s2.os := by have z := I4.os; rw [eS] at z; exact z
      have k4 : HOk X.prog X.w H3 s4.heap := by have z := I4.hok; rw [eP, eW] at z; exact z
      have Io : Inv X pins σ H3 s4 := I2.call' o4 b4 k4 I4.bare fun b hb => by
        obtain ⟨_, f1, _, f3, f4, f5⟩ := f2 b hb
        exact ⟨f3, f1, f4, f5⟩
      refine hend _ _ s4 H3 ys its m4 (Nat.le_refl _) hCle hDC Io pD4.2.1 ?_ pD4.1 ?_ rv hlen fin
      · have z := I4.free; rw [eE] at z; exact z
      · rw [eE] at hn4; exact hn4
    · have itm := T.item X' eP eW eK eC i _ s3 σ3 H3 (notedBy (model X.prog X.w) X.A X'.env fun e s' => RR (.ref s2.heap.objs.size) HH.objs.size (.error e) s') I3 (stat fr3) st3 go
      rw [eA] at itm
      refine wpAny_mono itm (fun r s4 ⟨u, hr, h4⟩ => ?_) fun _ _ z => z
      subst hr
      refine wpAny_mono h4 (fun _ s5 ⟨x, H5, I5, r5, y5, st5, fr5⟩ => ?_) fun _ _ z => z
      have I5' := I5.pinned (stat fr5) (T.obj _ _ st5)
      have as := hg' _ s5 σ3 H5 x u _ I5' r5 (step x H5 y5)
      rw [eP, eW, eA] at as
      refine wpAny_mono as (fun _ s6 ⟨σ6, H6, I6, q6⟩ => ?_) (fun _ _ z => by rw [eX] at z; exact z.elim)
      have ts := ht' _ s6 σ6 H6 _ I6 q6
      rw [eP, eW, eA] at ts
      refine wpAny_mono ts (fun b s7 ⟨H7, I7, q7⟩ => ?_) (fun _ _ z => by rw [eX] at z; exact z.elim)
      have back : ∀ {σ8 : St} {H8 : Hp} {s8 : Shared}, Inv X' ([(s2.heap.objs.size, LCg.lst its)] ++ pinsAt fp s5.heap) σ8 H8 s8 → tn (i + 1) s8.heap ∧ (∀ b ∈ fp, H8 b = none) ∧ s8.heap.get? s2.heap.objs.size = some (LCg.lst its) ∧ H8 s2.heap.objs.size = none := fun {σ8 H8 s8} I8 => by
        refine ⟨T.keep _ _ _ st5 fun b hb o e => (I8.pin (b, o) (List.mem_append_right _ (List.mem_append_right _ (mem_pinsAt hb e)))).1, fun b hb => ?_, ?_⟩
        · obtain ⟨o, e, d⟩ := T.obj _ _ st5 b hb
          exact (I8.pin (b, o) (List.mem_append_right _ (List.mem_append_right _ (mem_pinsAt hb e)))).2.1
        · have z := I8.pin (s2.heap.objs.size, LCg.lst its) (List.mem_append_right _ (List.mem_append_left _ (by simp)))
          exact ⟨z.1, z.2.1⟩
      cases b with
      | false =>
        rw [if_neg Bool.false_ne_true]
        rw [if_neg Bool.false_ne_true] at q7
        obtain ⟨m', hm', w7⟩ := q7
        obtain ⟨b1, b2, b3, b4⟩ := back I7
        exact ⟨m', hm', i + 1, ys, its, σ6, H7, I7.unpinned, rv, hlen, b1, b2, w7⟩
      | true =>
        rw [if_pos rfl]
        rw [if_pos rfl] at q7
        have el := he' _ s7 σ6 H7 _ I7 q7
        rw [eP, eW, eA] at el
        refine wpAny_mono el (fun yv s8 ⟨y, H8, I8, r8, q8⟩ => ?_) (fun _ _ z => by rw [eX] at z; exact z.elim)
        obtain ⟨m', hm', w8⟩ := q8
        obtain ⟨b1, b2, b3, b4⟩ := back I8
        have hl := rv.length
        refine append_at (hsz := by show its.toArray.size ≤ sizeLine; rw [List.size_toArray, ← hl]; exact hlen) b3 fun h9 hs9 hD9 => ?_
        have J0 : Inv X' [] σ6 H8 s8 := I8.pins_of fun p hp => absurd hp (by simp)
        have J1 : Inv X' [] σ6 H8 { s8 with heap := h9, toks := s8.toks } := J0.chg (ch := [s2.heap.objs.size]) (fun b hb => by
          have e : b = s2.heap.objs.size := by simpa using hb
          rw [e]; exact statD b4) fun b o hb e => hs9.extBut _ _ (by simpa using hb) e
        have hD9' : h9.get? s2.heap.objs.size = some (LCg.lst (its ++ [yv])) := hD9.trans (congrArg some (LCg.lst_snoc its yv))
        have J2 : Inv X' [(s2.heap.objs.size, LCg.lst (its ++ [yv]))] σ6 H8 { s8 with heap := h9, toks := s8.toks } := J1.pins_of fun p hp => by
          have e : p = (s2.heap.objs.size, LCg.lst (its ++ [yv])) := by simpa using hp
          rw [e]
          have z := statD b4
          exact ⟨hD9', b4, z.2.1, z.2.2.1, fun v q => by cases q⟩
        refine ⟨m', hm', i + 1, ys ++ [y], its ++ [yv], σ6, H8, J2, rv.append (.cons r8 .nil), by rw [List.length_append, List.length_singleton]; exact hz, ?_, b2, w8⟩
        exact T.keep _ _ _ b1 fun b hb o e => hs9.extBut _ _ (Nat.ne_of_lt (flt b hb)) e
  exact codeAny_compStart_list (loop _ rfl) (T.self X.A 0 _ _ _ (T.keep _ _ _ st2 fun b _ o e => old b o e) (loop _ rfl))

/-- [elt for tg in iter if ..] -/
theorem pe_lcomp (hc : X.calm = true) (S : CompScope X.N X.env.scope scope own fre) (hi : PI X tg iter wi)
    (hg : ∀ cl C s₂ H₂ fp, PG (cxC X (own ++ fre.map (·.2)) scope cl C s₂ H₂ fp) tg g) (ht : ∀ cl C s₂ H₂ fp, PTs (cxC X (own ++ fre.map (·.2)) scope cl C s₂ H₂ fp) ifs tt) (he : ∀ cl C s₂ H₂ fp, PE (cxC X (own ++ fre.map (·.2)) scope cl C s₂ H₂ fp) elt te)
    (hs : ∀ x, foldedSetIterable iter X.env x = pure x := by intro _; rfl) : PE X (.ListComp elt [⟨tg, iter, ifs, 0⟩] scope pos) (tComp own.length fre wi g tt te) := by
  intro pins s σ H Q I h
  rw [eval_ListComp]
  refine wpAny_comprehension_free (use := none) rfl hs (closureFor_clos (I.clos_cells S)) S.kind S.locs (thn (hi pins s σ H _ I h) fun v s1 h1 => thn h1 fun itv s2 h2 => ?_)
  obtain ⟨it, fp, tn, J, H2, e, I2, T, st2, f2, turns⟩ := h2
  subst e
  refine comp_block (RR := fun acc C => compPost (model X.prog X.w) X.A X.xe none (EP X pins σ Q) acc C) hc S I2 T st2 f2 hg ht he turns ?_
  intro D C s' H' ys its m hD hC hDC Io nD nC oD nsC rv hlen fin
  refine ⟨m, nsC, fun h' hs' => ?_⟩
  have J1 : Inv X pins σ H' { s' with heap := h', toks := s'.toks } := Io.chg (ch := [C]) (fun b hb => by
    have e : b = C := by simpa using hb
    rw [e]; exact I2.fpOk hC nC) fun b o hb e => hs'.extBut _ _ (by simpa using hb) e
  have J2 := J1.track (o := .lst ys) (I2.fpOk hD nD) ⟨hlen, its, _, rv, hs'.extBut _ _ hDC oD⟩
  exact ⟨.ref D, _, J2, rfl, fin D nD⟩
end
end L2

namespace L2
open PySem PySem.Spec PyProof.Rows

/-! ### E. isinstance over the built-in kinds -/
/-- kind t is kind T, or below it -/
def isTy (t T : String) : Bool := t == T || (t == "bool" && T == "int")
def kinds : List String := ["NoneType", "bool", "int", "str", "list", "tuple", "dict"]
theorem kit_kinds (K : PySem.W.Frag) : ∀ t ∈ kinds, ∀ T ∈ ["bool", "int", "str", "list", "tuple", "dict"], PySem.W.kitOne K (.type t) (.type T) = some (isTy t T) := by
  intro t ht T hT
  simp only [kinds, List.mem_cons, List.not_mem_nil, or_false] at ht hT
  rcases ht with rfl | rfl | rfl | rfl | rfl | rfl | rfl <;> rcases hT with rfl | rfl | rfl | rfl | rfl | rfl <;> first | rfl | kernel_rfl
/-- the kind of a value -/
def Knd (K : PySem.W.Frag) (H : Hp) (x : V) (t : String) : Prop := TyOf K H x (.type t) ∧ t ∈ kinds
section
variable {X : Cx} {pins : List (Addr × Obj)} {σ : St} {H : Hp} {s : Shared} {A : Around} {E : Value → Shared → Prop} {Q : Value → Shared → Prop}
theorem isinst_tup {x : V} {u : Value} {t : String} {tp : Addr} {dd : Option Addr} {its : List Value} {n : Nat} {sl : Array (Option Value)} {b : Bool} (I : Inv X pins σ H s) (rx : RelV x u) (k : Knd X.K H x t)
    (htp : s.heap.get? tp = some ⟨.type "tuple", dd, .seq its.toArray n, sl⟩) (e : PySem.W.kitAny X.K (.type t) its = some b) (h : ∀ tk, Q (.bool b) { s with toks := tk }) :
    wpAny (model X.prog X.w) A (call (.builtin "isinstance") [u, .ref tp]) Q E s := by
  obtain ⟨ty, hk⟩ := k
  cases ty with
  | non => cases (show u = Value.none from rx); exact PySem.W.kia_tup PySem.W.kitx_none I.kIn True.intro htp e (fun z => nomatch z) h
  | bl y => cases (show u = Value.bool y from rx); exact PySem.W.kia_tup PySem.W.kitx_bool I.kIn True.intro htp e (fun z => nomatch z) h
  | int i => obtain ⟨t, q⟩ := (show ∃ t, u = Value.int i t from rx); cases q; exact PySem.W.kia_tup PySem.W.kitx_int I.kIn True.intro htp e (fun z => nomatch z) h
  | str y => obtain ⟨t, q⟩ := (show ∃ t, u = Value.str y t from rx); cases q; exact PySem.W.kia_tup PySem.W.kitx_str I.kIn True.intro htp e (fun z => nomatch z) h
  | flt y => exact absurd hk (by decide)
  | @lst a xs ea =>
    cases (show u = Value.ref a from rx)
    obtain ⟨_, _, n, _, h1⟩ := (show ObjOk X.prog X.w H s.heap a (.lst xs) from I.hok a _ ea)
    exact PySem.W.kia_tup PySem.W.kitx_list I.kIn ⟨_, h1, rfl⟩ htp e (fun z => nomatch z) h
  | @frz a ob xs ea =>
    cases (show u = Value.ref a from rx)
    obtain ⟨_, _, _, n, _, h1⟩ := (show ObjOk X.prog X.w H s.heap a (.frz ob (.lst xs)) from I.hok a _ ea)
    exact PySem.W.kia_tup PySem.W.kitx_list I.kIn ⟨_, h1, rfl⟩ htp e (fun z => nomatch z) h
  | @tup a xs ea =>
    cases (show u = Value.ref a from rx)
    obtain ⟨_, _, _, p⟩ := (show ObjOk X.prog X.w H s.heap a (.tup xs) from I.hok a _ ea)
    obtain ⟨o, h1, h2, _⟩ := p
    exact PySem.W.kia_tup PySem.W.kitx_tuple I.kIn ⟨o, h1, h2⟩ htp e (fun z => nomatch z) h
  | @dK a kvs ea =>
    cases (show u = Value.ref a from rx)
    obtain ⟨_, _, vs, _, p⟩ := (show ObjOk X.prog X.w H s.heap a (.dK kvs) from I.hok a _ ea)
    obtain ⟨o, es, ep, h1, h2, _⟩ := p
    exact PySem.W.kia_tup PySem.W.kitx_dict I.kIn ⟨o, h1, h2.1⟩ htp e (fun z => nomatch z) h
  | @dT a kvs ea =>
    cases (show u = Value.ref a from rx)
    obtain ⟨_, _, xs, _, o, es, ep, h1, h2, _⟩ := (show ObjOk X.prog X.w H s.heap a (.dT kvs) from I.hok a _ ea)
    exact PySem.W.kia_tup PySem.W.kitx_dict I.kIn ⟨o, h1, h2.1⟩ htp e (fun z => nomatch z) h
end
theorem kitAny_kinds (K : PySem.W.Frag) {t : String} (ht : t ∈ kinds) : ∀ (Ts : List String), (∀ T ∈ Ts, T ∈ ["bool", "int", "str", "list", "tuple", "dict"]) → PySem.W.kitAny K (.type t) (Ts.map Value.type) = some (Ts.any (isTy t))
  | [], _ => rfl
  | T :: r, h => by
    show (match PySem.W.kitOne K (.type t) (.type T) with
      | some true => some true
      | some false => PySem.W.kitAny K (.type t) (r.map Value.type)
      | none => none) = _
    rw [kit_kinds K t ht T (h T List.mem_cons_self), List.any_cons]
    cases isTy t T with
    | true => rfl
    | false => exact kitAny_kinds K ht r fun T' hT' => h T' (List.mem_cons_of_mem _ hT')
theorem vals_ty : ∀ {Ts : List String} {us : List Value}, Vals (Ts.map V.ty) us → us = Ts.map Value.type
  | [], _, .nil => rfl
  | T :: r, _, .cons h t => by
    have e := vals_ty (Ts := r) t
    cases (show _ = Value.type T from h)
    rw [e]; rfl
section
variable {X : Cx}
/-- isinstance(x, T) -/
def rIsi (K : PySem.W.Frag) : List V → Hp → VK → Prop := fun xs H Q => ∃ x T t, xs = [x, .ty T] ∧ Knd K H x t ∧ T ∈ ["bool", "int", "str", "list", "tuple", "dict"] ∧ Q (.bl (isTy t T)) H
theorem call_isi : CallR X (.builtin "isinstance") (rIsi X.K) := by
  intro pins s σ H xs us Q I r h
  obtain ⟨x, T, t, rfl, k, hT, q⟩ := h
  obtain ⟨u1, u2, rfl, r1, r2⟩ := vals2 r
  cases (show u2 = Value.type T from r2)
  exact isinst_ok I r1 k.1 (kit_kinds X.K t k.2 T hT) fun tk => ⟨.bl _, H, I.tok _, rfl, q⟩
/-- isinstance(x, (T, U)) -/
def rIsiT (K : PySem.W.Frag) : List V → Hp → VK → Prop := fun xs H Q => ∃ (x : V) (p : Addr) (Ts : List String) (t : String), xs = [x, .ref p] ∧ SqT K H p (Ts.map V.ty) ∧ Knd K H x t ∧ (∀ T ∈ Ts, T ∈ ["bool", "int", "str", "list", "tuple", "dict"]) ∧ Q (.bl (Ts.any (isTy t))) H
theorem call_isiT : CallR X (.builtin "isinstance") (rIsiT X.K) := by
  intro pins s σ H xs us Q I r h
  obtain ⟨x, p, Ts, t, rfl, hp, k, hT, q⟩ := h
  obtain ⟨u1, u2, rfl, r1, r2⟩ := vals2 r
  cases (show u2 = Value.ref p from r2)
  obtain ⟨its, rv, ⟨o, ho, hc, n, hd⟩, _⟩ := I.tuple hp
  have e := vals_ty rv
  subst e
  obtain ⟨c, d, dt, sl⟩ := o
  cases (show c = _ from hc)
  cases (show dt = _ from hd)
  exact isinst_tup I r1 k ho (kitAny_kinds X.K k.2 Ts hT) fun tk => ⟨.bl _, H, I.tok _, rfl, q⟩

/-! ### all(list of bools) -/
def rAll (K : PySem.W.Frag) : List V → Hp → VK → Prop := fun xs H Q => ∃ (p : Addr) (bs : List Bool), xs = [.ref p] ∧ SqL K H p (bs.map V.bl) ∧ Q (.bl (bs.all id)) H
theorem vals_bl : ∀ {bs : List Bool} {us : List Value}, Vals (bs.map V.bl) us → us = bs.map Value.bool
  | [], _, .nil => rfl
  | T :: r, _, .cons h t => by
    have e := vals_bl (bs := r) t
    cases (show _ = Value.bool T from h)
    rw [e]; rfl
theorem range_all (bs : List Bool) : (List.range bs.length).all (fun i => bs.getD i true) = bs.all id := by
  induction bs with
  | nil => rfl
  | cons b r ih =>
    rw [List.length_cons, List.range_succ_eq_map, List.all_cons, List.all_map, List.all_cons]
    show (b && (List.range r.length).all _) = _
    rw [← ih]; rfl
theorem call_allL (hc : X.calm = true) : CallR X (.builtin "all") (rAll X.K) := by
  intro pins s σ H xs us Q I r h
  obtain ⟨p, bs, rfl, hp, q⟩ := h
  obtain ⟨u1, rfl, r1⟩ := vals1 r
  cases (show u1 = Value.ref p from r1)
  obtain ⟨its, rv, pl, hz⟩ := I.list hp
  have e := vals_bl rv
  subst e
  have hlt : p < s.heap.objs.size := by obtain ⟨_, e, _⟩ := pl.isList; exact Heap.lt_size e
  refine call_all_walk (wpAny_pyIter_list pl.isList ?_)
  refine ⟨s.heap.objs.size, _, _, _, _, _, fun i => bs.getD i true, rfl, Walks.list (A := X.A.in1) (show X.A.in1.handled = none from I.ok.hd hc) _ p (Nat.ne_of_lt hlt) (bs.map Value.bool).toArray, ⟨⟨_, Heap.get?_push_size _ rfl, rfl, rfl⟩, pl.isList.push _⟩, ?_, fun h' tk hk => ?_⟩
  · intro i v A' Q' E' hv hq
    have hv' : (bs.map Value.bool)[i]? = some v := by simpa using hv
    rw [List.getElem?_map] at hv'
    cases e : bs[i]? with
    | none => rw [e] at hv'; cases hv'
    | some b =>
      rw [e] at hv'
      cases hv'
      refine wpAny_truthy_bool ?_
      have : bs.getD i true = b := by rw [List.getD_eq_getElem?_getD, e]; rfl
      replace hq : Q' (bs.getD i true) A' := hq
      rw [this] at hq
      exact hq
  · have e : (List.range (bs.map Value.bool).toArray.size).all (fun i => bs.getD i true) = bs.all id := by
      rw [List.size_toArray, List.length_map]
      exact range_all bs
    rw [e]
    refine ⟨.bl _, H, I.kept (t' := tk) fun b o e => hk b o (fun z => ?_) (Heap.get?_push_of_some _ e), rfl, q⟩
    have z' : b = s.heap.objs.size := by simpa using z
    exact absurd (Heap.lt_size e) (by rw [z']; exact Nat.lt_irrefl _)
end
end L2

namespace L2
open PySem PySem.Spec PyProof.Rows

/-! ### F. defs of the text by their names; a cut between two statements -/
/-- the def called x, with its promise -/
def Cal (P : Program) (w : World) (K : PySem.W.Frag) (mg : Str → Option Value) (base : Heap) (x : Str) (k : Nat) (ps : List Str) (sp : Sp) : Prop :=
  ∃ (f : Addr) (fd : FuncData), FnOk P w K mg base CX0 k f fd ps sp ∧ mg x = some (.ref f) ∧ PySem.W.keepIn K (.ref f) = true ∧ Binds K fd ps []
theorem Cal.mono {P : Program} {w : World} {K : PySem.W.Frag} {mg : Str → Option Value} {base : Heap} {x : Str} {j k : Nat} {ps : List Str} {sp : Sp} (c : Cal P w K mg base x j ps sp) (h : j ≤ k) : Cal P w K mg base x k ps sp := by
  obtain ⟨f, fd, F, a, b, d⟩ := c
  exact ⟨f, fd, F.mono h, a, b, d⟩
section
variable {X : Cx} {k : Nat} {ps : List Str} {sp : Sp} {x : Str} {p pos : Pos} {e : Expr} {es : List Expr} {t : TA} {st : Stmt} {rest : List Stmt} {t1 u1 : TS}
theorem pe_callC (c : Cal X.prog X.w X.K X.mg X.base x k ps sp) (hr : Room k X.A) (hg : Gl X x) (ha : PA X (e :: es) t) (hdb : (x == ("__debug__" : Str)) = false := by decide) (he : starEach (e :: es) X.env = (false, eval e X.env) :: starEach es X.env := by rfl) (hpl : (backTo pos (starEach es X.env)).any (·.1) = false := by rfl) :
    PE X (.Call (.Name x p) (e :: es) [] pos) (tCall sp [] E0 t) := by
  obtain ⟨f, fd, F, hm, hk, hb⟩ := c
  exact pe_call F hr hg hm hk hb .nil pass0 ha hdb he hpl
def tCut (t u : TS) : TS := fun D σ H => ∃ mid : St → Hp → Prop, t { D with nx := mid } σ H ∧ ∀ σ' H', mid σ' H' → u D σ' H'
theorem pss_cut (h1 : PS X st t1) (h2 : PSs X rest u1) : PSs X (st :: rest) (tCut t1 u1) := by
  intro pins s σ H D I h
  obtain ⟨mid, h, hm⟩ := h
  refine wpAny_execs_cons (thn (h1 pins s σ H { D with nx := mid } I h) fun f s1 q => ?_)
  cases f with
  | next =>
    obtain ⟨σ', H', I', q⟩ := q
    exact h2 pins s1 σ' H' D I' (hm _ _ q)
  | ret v => exact q
  | brk => exact q
  | cont => exact q
end

/-! ### G. data as it lies in the heap -/
inductive Dt where
  | int (i : Int) | bl (b : Bool) | str (x : Str) | non | lst (xs : List Dt) | tup (xs : List Dt)
mutual
inductive Rep (H : Hp) : V → Dt → Prop where
  | int (i : Int) : Rep H (.int i) (.int i)
  | bl (b : Bool) : Rep H (.bl b) (.bl b)
  | str (x : Str) : Rep H (.str x) (.str x)
  | non : Rep H .non .non
  | lst {a : Addr} {vs : List V} {ds : List Dt} : H a = some (.lst vs) → Reps H vs ds → Rep H (.ref a) (.lst ds)
  | tup {a : Addr} {vs : List V} {ds : List Dt} : H a = some (.tup vs) → Reps H vs ds → Rep H (.ref a) (.tup ds)
inductive Reps (H : Hp) : List V → List Dt → Prop where
  | nil : Reps H [] []
  | cons {v : V} {d : Dt} {vs : List V} {ds : List Dt} : Rep H v d → Reps H vs ds → Reps H (v :: vs) (d :: ds)
end
theorem Reps.length {H : Hp} : ∀ {vs : List V} {ds : List Dt}, Reps H vs ds → vs.length = ds.length
  | _, _, .nil => rfl
  | _, _, .cons _ t => by rw [List.length_cons, List.length_cons, Reps.length t]
theorem Reps.get {H : Hp} : ∀ {vs : List V} {ds : List Dt} {i : Nat} {v : V}, Reps H vs ds → vs[i]? = some v → ∃ d, ds[i]? = some d ∧ Rep H v d
  | _, _, _, _, .nil, e => by simp at e
  | _, _, 0, _, .cons r _, e => by simp at e; subst e; exact ⟨_, rfl, r⟩
  | _, _, i + 1, v, .cons _ t, e => by
    obtain ⟨d, h1, h2⟩ := Reps.get (i := i) (v := v) t (by simpa using e)
    exact ⟨d, by simpa using h1, h2⟩
theorem Rep.mono {H H' : Hp} (s : Same H H') {v : V} {d : Dt} (h : Rep H v d) : Rep H' v d :=
  Rep.rec (motive_1 := fun v d _ => Rep H' v d) (motive_2 := fun vs ds _ => Reps H' vs ds) (fun i => .int i) (fun b => .bl b) (fun x => .str x) .non (fun e _ ih => .lst (s _ _ e) ih) (fun e _ ih => .tup (s _ _ e) ih) .nil (fun _ _ ih1 ih2 => .cons ih1 ih2) h
theorem Reps.mono {H H' : Hp} (s : Same H H') : ∀ {vs : List V} {ds : List Dt}, Reps H vs ds → Reps H' vs ds
  | _, _, .nil => .nil
  | _, _, .cons r t => .cons (Rep.mono s r) (Reps.mono s t)
mutual
def Dt.depth : Dt → Nat
  | .lst xs => depths xs + 1
  | .tup xs => depths xs + 1
  | _ => 0
def depths : List Dt → Nat
  | [] => 0
  | d :: r => max d.depth (depths r)
end
mutual
def Dt.wide : Dt → Nat
  | .lst xs => max xs.length (wides xs)
  | .tup xs => max xs.length (wides xs)
  | _ => 0
def wides : List Dt → Nat
  | [] => 0
  | d :: r => max d.wide (wides r)
end
theorem wide_le : ∀ {ds : List Dt} {i : Nat} {d : Dt}, ds[i]? = some d → d.wide ≤ wides ds
  | [], _, _, e => by simp at e
  | x :: r, 0, d, e => by simp at e; subst e; exact Nat.le_max_left _ _
  | x :: r, i + 1, d, e => Nat.le_trans (wide_le (ds := r) (i := i) (by simpa using e)) (Nat.le_max_right _ _)
theorem depth_le : ∀ {ds : List Dt} {i : Nat} {d : Dt}, ds[i]? = some d → d.depth ≤ depths ds
  | [], _, _, e => by simp at e
  | x :: r, 0, d, e => by simp at e; subst e; exact Nat.le_max_left _ _
  | x :: r, i + 1, d, e => Nat.le_trans (depth_le (ds := r) (i := i) (by simpa using e)) (Nat.le_max_right _ _)
end L2

namespace L2
open PySem PySem.Spec PyProof.Rows
/-! ### H. the built-in names that the text does not bind -/
theorem bb_len : bootBuiltins "len" = some (.builtin "len") := by decide +kernel
theorem bb_abs : bootBuiltins "abs" = some (.builtin "abs") := by decide +kernel
theorem bb_all : bootBuiltins "all" = some (.builtin "all") := by decide +kernel
theorem bb_isinstance : bootBuiltins "isinstance" = some (.builtin "isinstance") := by decide +kernel
theorem bb_sorted : bootBuiltins "sorted" = some (.builtin "sorted") := by decide +kernel
theorem bb_list : bootBuiltins "list" = some (.type "list") := by decide +kernel
theorem bb_tuple : bootBuiltins "tuple" = some (.type "tuple") := by decide +kernel
theorem bb_bool : bootBuiltins "bool" = some (.type "bool") := by decide +kernel
theorem bb_int : bootBuiltins "int" = some (.type "int") := by decide +kernel
theorem bb_str : bootBuiltins "str" = some (.type "str") := by decide +kernel
theorem bb_set : bootBuiltins "set" = some (.type "set") := by decide +kernel
structure Blt (mg : Str → Option Value) : Prop where
  z_len : mg "len" = none
  z_abs : mg "abs" = none
  z_all : mg "all" = none
  z_isinstance : mg "isinstance" = none
  z_zip : mg "zip" = none
  z_list : mg "list" = none
  z_tuple : mg "tuple" = none
  z_bool : mg "bool" = none
  z_int : mg "int" = none
  z_str : mg "str" = none
  z_range : mg "range" = none
  z_sorted : mg "sorted" = none
  z_set : mg "set" = none

/-! ### heaps -/
theorem same_upd {H : Hp} {p : Addr} {o : HO} (h : H p = none) : Same H (upd H p o) := fun b u e => by rw [upd_ne (ne_of_none e h)]; exact e
/-- all but d is as it was -/
def But (d : Addr) (H H' : Hp) : Prop := ∀ b o, b ≠ d → H b = some o → H' b = some o
theorem But.refl {d : Addr} {H : Hp} : But d H H := fun _ _ _ e => e
theorem But.trans {d : Addr} {H H1 H2 : Hp} (a : But d H H1) (b : But d H1 H2) : But d H H2 := fun c o n e => b c o n (a c o n e)
theorem Same.but {d : Addr} {H H' : Hp} (a : Same H H') : But d H H' := fun c o _ e => a c o e
theorem but_upd {d : Addr} {H : Hp} {o : HO} : But d H (upd H d o) := fun b u n e => by rw [upd_ne n]; exact e

/-! ### the draws -/
/-- the drawing list at d: the script's cells, the place, the rest, the seed -/
def DrawAt (H : Hp) (d : Addr) : Prop := ∃ (c : Addr) (ns : List Int) (a : Nat) (r e : Int), H d = some (.lst [.ref c, .int a, .int r, .int e]) ∧ H c = some (.lst (ns.map V.int)) ∧ 0 ≤ r ∧ 0 ≤ e
theorem DrawAt.same {H H' : Hp} {d : Addr} (s : Same H H') (h : DrawAt H d) : DrawAt H' d := by
  obtain ⟨c, ns, a, r, e, h1, h2, h3, h4⟩ := h
  exact ⟨c, ns, a, r, e, s _ _ h1, s _ _ h2, h3, h4⟩
theorem draw_ne {H : Hp} {c d : Addr} {ns : List Int} {a : Nat} {r e : Int} (h1 : H d = some (.lst [.ref c, .int a, .int r, .int e])) (h2 : H c = some (.lst (ns.map V.int))) : c ≠ d := by
  intro z
  subst z
  rw [h1] at h2
  have q := Option.some.inj h2
  injection q with q
  cases ns with
  | nil => cases q
  | cons n r => injection q with q _; cases q
theorem DrawAt.ne_tup {H : Hp} {d p : Addr} {xs : List V} (h : DrawAt H d) (e : H p = some (.tup xs)) : p ≠ d := by
  obtain ⟨c, ns, a, r, e', h1, _⟩ := h
  exact ne_of e h1 (by intro z; cases z)
/-- behind a store into the drawing list -/
theorem DrawAt.put {H : Hp} {c d : Addr} {ns : List Int} {a : Nat} {r e : Int} {o : HO} (h1 : H d = some o) (h2 : H c = some (.lst (ns.map V.int))) (hn : c ≠ d) (hr : 0 ≤ r) (he : 0 ≤ e) : DrawAt (upd H d (.lst [.ref c, .int a, .int r, .int e])) d :=
  ⟨c, ns, a, r, e, upd_same, by rw [upd_ne hn]; exact h2, hr, he⟩
end L2

namespace L2
open PySem PySem.Spec PyProof.Rows
/-! ### S. steps of a reading, one a rule -/
section
variable {σ : St} {H : Hp} {Q : VK} {R : Bool → Hp → Prop} {D : Ends} {K : PySem.W.Frag}
theorem i_var {i : Nat} {v : V} (h : σ[i]? = some (some v)) (q : Q v H) : tVar i σ H Q := ⟨v, h, q⟩
theorem i_tC {v : V} (q : Q v H) : tC v σ H Q := q
theorem i_op {r : R2} {ta tb : TE} (q : ta σ H fun x H1 => tb σ H1 fun y H2 => r x y H2 Q) : tOp r ta tb σ H Q := q
theorem i_un {r : V → Hp → VK → Prop} {ta : TE} (q : ta σ H fun x H1 => r x H1 Q) : tUn r ta σ H Q := q
theorem i_rI0 {g : Int → Int → V} {i j : Int} (q : Q (g i j) H) : rI0 g (.int i) (.int j) H Q := ⟨i, j, rfl, rfl, q⟩
theorem i_rI {C : Int → Int → Prop} {g : Int → Int → V} {i j : Int} (c : C i j) (q : Q (g i j) H) : rI C g (.int i) (.int j) H Q := ⟨i, j, rfl, rfl, c, q⟩
theorem i_rU {g : Int → V} {i : Int} (q : Q (g i) H) : rU g (.int i) H Q := ⟨i, rfl, q⟩
theorem i_rEq {x y : V} (s : scal x y = true) (q : Q (.bl (decide (x = y))) H) : rEq x y H Q := ⟨s, q⟩
theorem i_rNe {x y : V} (s : scal x y = true) (q : Q (.bl (!decide (x = y))) H) : rNe x y H Q := ⟨s, q⟩
theorem i_test {t : TE} (q : t σ H fun x H' => ∃ k, x = .bl k ∧ R k H') : tTest t σ H R := q
theorem i_tB {t : TE} (q : t σ H fun x H' => ∃ k, x = .bl k ∧ R k H') : tB t σ H R := q
theorem i_bl {k : Bool} {P : Bool → Prop} (q : P k) : ∃ k', V.bl k = .bl k' ∧ P k' := ⟨k, rfl, q⟩
theorem i_and {t u : TT} (q : t σ H fun c H1 => if c = true then u σ H1 R else R false H1) : tAnd t u σ H R := q
theorem i_or {t u : TT} (q : t σ H fun c H1 => if c = true then R true H1 else u σ H1 R) : tOr t u σ H R := q
theorem i_not {t : TT} (q : t σ H fun c H1 => R (!c) H1) : tNot t σ H R := q
theorem i_andV {ta tb : TE} (q : ta σ H fun x H1 => ∃ c, x = .bl c ∧ if c = true then tb σ H1 Q else Q (.bl false) H1) : tAndV ta tb σ H Q := q
theorem i_orV {ta tb : TE} (q : ta σ H fun x H1 => ∃ c, x = .bl c ∧ if c = true then Q (.bl true) H1 else tb σ H1 Q) : tOrV ta tb σ H Q := q
theorem i_notV {ta : TE} (q : ta σ H fun x H1 => ∃ c, x = .bl c ∧ Q (.bl (!c)) H1) : tNotV ta σ H Q := q
theorem i_isN {ta : TE} (q : ta σ H fun x H1 => Q (.bl (decide (x = .non))) H1) : tIsN ta σ H Q := q
theorem i_notN {ta : TE} (q : ta σ H fun x H1 => Q (.bl (!decide (x = .non))) H1) : tNotN ta σ H Q := q
theorem i_ifE {t : TT} {ta tb : TE} (q : t σ H fun c H1 => if c = true then ta σ H1 Q else tb σ H1 Q) : tIf t ta tb σ H Q := q
theorem i_seq {t u : TS} (q : t { D with nx := u D } σ H) : tSeq t u D σ H := q
theorem i_asg {te : TE} {g : TG} (q : te σ H fun x H1 => g x σ H1 D.nx) : tAsg te g D σ H := q
theorem i_name {i : Nat} {v : V} {N : St → Hp → Prop} (q : N (σ.set i (some v)) H) : gName i v σ H N := q
theorem i_ret {te : TE} (q : te σ H D.rt) : tRet te D σ H := q
theorem i_if {c : TT} {t u : TS} (q : c σ H fun b H1 => if b = true then t D σ H1 else u D σ H1) : tIfS c t u D σ H := q
theorem i_next (q : D.nx σ H) : tNext D σ H := q
theorem i_drop {te : TE} (q : te σ H fun _ H1 => D.nx σ H1) : tDrop te D σ H := q
theorem i_cons {ta : TE} {tr : TA} {N : List V → Hp → Prop} (q : ta σ H fun x H1 => tr σ H1 fun xs H2 => N (x :: xs) H2) : tCons ta tr σ H N := q
theorem i_nil {N : List V → Hp → Prop} (q : N [] H) : tNil σ H N := q
theorem i_cb {r : List V → Hp → VK → Prop} {t : TA} (q : t σ H fun vs H1 => r vs H1 Q) : tCB r t σ H Q := q
theorem i_call {sp : Sp} {E : XK} {t : TA} (q : t σ H fun vs H1 => sp (vs ++ []) H1 Q E) : tCall sp [] E t σ H Q := q
theorem i_tup {t : TA} (q : t σ H fun xs H1 => xs.length ≤ sizeLine ∧ ∀ p, H1 p = none → Q (.ref p) (upd H1 p (.tup xs))) : tTup t σ H Q := q
theorem i_lst {t : TA} (q : t σ H fun xs H1 => xs.length ≤ sizeLine ∧ ∀ p, H1 p = none → Q (.ref p) (upd H1 p (.lst xs))) : tLst t σ H Q := q
theorem i_ixL {p : Addr} {xs : List V} {i : Int} {v : V} (h : SqL K H p xs) (e : atI xs i = some v) (q : Q v H) : rIxL K (.ref p) (.int i) H Q := ⟨p, xs, i, v, rfl, rfl, h, e, q⟩
theorem i_ixT {p : Addr} {xs : List V} {i : Int} {v : V} (h : SqT K H p xs) (e : atI xs i = some v) (q : Q v H) : rIxT K (.ref p) (.int i) H Q := ⟨p, xs, i, v, rfl, rfl, h, e, q⟩
theorem i_gsub {to ti : TE} {t : TSet} {v : V} {N : St → Hp → Prop} (q : to σ H fun o H1 => ti σ H1 fun i H2 => t o i v H2 fun H3 => N σ H3) : gSub to ti t v σ H N := q
theorem i_setL {p : Addr} {xs : List V} {k : Int} {j : Nat} {v : V} {N : Hp → Prop} (h : H p = some (.lst xs)) (e : ixN xs.length k = some j) (q : N (upd H p (.lst (xs.set j v)))) : rSetL (.ref p) (.int k) v H N := ⟨p, xs, k, j, rfl, rfl, h, e, q⟩
theorem i_gtup {n : Nat} {t : TGs} {a : Addr} {xs : List V} {N : St → Hp → Prop} (h : SqT K H a xs) (l : xs.length = n) (q : t xs σ H N) : gTup K n t (.ref a) σ H N := ⟨a, xs, rfl, h, l, q⟩
theorem i_gcons {t : TG} {u : TGs} {v : V} {r : List V} {N : St → Hp → Prop} (q : t v σ H fun σ' H' => u r σ' H' N) : gCons t u (v :: r) σ H N := ⟨v, r, rfl, q⟩
theorem i_gnil {N : St → Hp → Prop} (q : N σ H) : gNil [] σ H N := ⟨rfl, q⟩
theorem i_yes (q : R true H) : tYes σ H R := q
theorem i_slice {r : V → Option Int → Option Int → Hp → VK → Prop} {te : TE} {tl th : TO} (q : te σ H fun x H1 => tl σ H1 fun l H2 => th σ H2 fun u H3 => r x l u H3 Q) : tSl r te tl th σ H Q := q
theorem i_nopart {N : Option Int → Hp → Prop} (q : N none H) : tNoPart σ H N := q
theorem i_part {t : TE} {N : Option Int → Hp → Prop} (q : t σ H fun x H1 => ∃ i, x = .int i ∧ N (some i) H1) : tPart t σ H N := q
theorem i_int {i : Int} {P : Int → Prop} (q : P i) : ∃ j, V.int i = .int j ∧ P j := ⟨i, rfl, q⟩
theorem i_slL {a : Addr} {xs : List V} {lo hi : Option Int} (h : SqL K H a xs) (q : ∀ p, H p = none → Q (.ref p) (upd H p (.lst (cutV xs lo hi)))) : rSlL K (.ref a) lo hi H Q := ⟨a, xs, rfl, h, q⟩
theorem i_comp {n : Nat} {fre : List (Nat × Str)} {wi : TI} {g : TG} {tt : TT} {te : TE} (q : wi σ H fun J H1 => CompT J g tt te (fun ys H' => ∀ D, H' D = none → Q (.ref D) (upd H' D (.lst ys))) (startC n fre σ) H1) : tComp n fre wi g tt te σ H Q := q
theorem i_zip {ta : TA} {N : It → Hp → Prop} (q : ta σ H fun vs H1 => ∃ a b, vs = [.ref a, .ref b] ∧
  ((∃ xs ys, SqL K H1 a xs ∧ SqL K H1 b ys ∧ N (Itz (fun H xs => SqL K H a xs) (fun H ys => SqL K H b ys)) H1) ∨
   (∃ xs ys, SqT K H1 a xs ∧ SqT K H1 b ys ∧ N (Itz (fun H xs => SqT K H a xs) (fun H ys => SqT K H b ys)) H1))) : iZip K ta σ H N := q
theorem i_itL {tl : TE} {N : It → Hp → Prop} (q : tl σ H fun x H1 => ∃ a, x = .ref a ∧ (∃ xs, SqL K H1 a xs) ∧ N (Itl K a) H1) : iList K tl σ H N := q
theorem i_itT {tl : TE} {N : It → Hp → Prop} (q : tl σ H fun x H1 => ∃ a, x = .ref a ∧ (∃ xs, SqT K H1 a xs) ∧ N (Itt K a) H1) : iTup K tl σ H N := q
theorem i_rng1 {ta : TA} {N : It → Hp → Prop} (q : ta σ H fun vs H1 => ∃ j : Int, vs = [.int j] ∧ -(2 ^ 62) ≤ j ∧ j < 2 ^ 62 ∧ N (Itr 0 j.toNat) H1) : iRng1 ta σ H N := q
/-! named readings of calls -/
def rLen (K : PySem.W.Frag) : List V → Hp → VK → Prop := fun xs H Q => ∃ p ys, xs = [.ref p] ∧ (SqL K H p ys ∨ SqT K H p ys) ∧ Q (.int ys.length) H
def rAbs : List V → Hp → VK → Prop := fun xs H Q => ∃ i, xs = [.int i] ∧ Q (.int (if i < 0 then -i else i)) H
def rListOf (K : PySem.W.Frag) : List V → Hp → VK → Prop := fun xs H Q => ∃ p ys, xs = [.ref p] ∧ (SqL K H p ys ∨ SqT K H p ys) ∧ ∀ l, H l = none → Q (.ref l) (upd H l (.lst ys))
theorem i_len {p : Addr} {ys : List V} (h : SqL K H p ys) (q : Q (.int ys.length) H) : rLen K [.ref p] H Q := ⟨p, ys, rfl, .inl h, q⟩
theorem i_lenT {p : Addr} {ys : List V} (h : SqT K H p ys) (q : Q (.int ys.length) H) : rLen K [.ref p] H Q := ⟨p, ys, rfl, .inr h, q⟩
theorem i_abs {i : Int} (q : Q (.int (if i < 0 then -i else i)) H) : rAbs [.int i] H Q := ⟨i, rfl, q⟩
theorem i_list {p : Addr} {ys : List V} (h : SqL K H p ys) (q : ∀ l, H l = none → Q (.ref l) (upd H l (.lst ys))) : rListOf K [.ref p] H Q := ⟨p, ys, rfl, .inl h, q⟩
theorem i_isi {x : V} {T t : String} (k : Knd K H x t) (hT : T ∈ ["bool", "int", "str", "list", "tuple", "dict"]) (q : Q (.bl (isTy t T)) H) : rIsi K [x, .ty T] H Q := ⟨x, T, t, rfl, k, hT, q⟩
end
section
variable {X : Cx}
theorem call_absR : CallR X (.builtin "abs") rAbs := call_abs
end
/-! the rules that read sequences, the written part named -/
section
variable {X : Cx} {K : PySem.W.Frag}
theorem ixL (h : X.K = K) : IxR X (rIxL K) := by subst h; exact ix_list
theorem ixT (h : X.K = K) : IxR X (rIxT K) := by subst h; exact ix_tup
theorem slL (h : X.K = K) : SlR X (rSlL K) := by subst h; exact sl_list
theorem cLen (h : X.K = K) : CallR X (.builtin "len") (rLen K) := by subst h; exact call_len_seq
theorem cList (h : X.K = K) : CallR X (.type "list") (rListOf K) := by subst h; exact call_list_of
theorem cIsi (h : X.K = K) : CallR X (.builtin "isinstance") (rIsi K) := by subst h; exact call_isi
theorem cAll (h : X.K = K) (hc : X.calm = true) : CallR X (.builtin "all") (rAll K) := by subst h; exact call_allL hc
theorem oIn (h : X.K = K) : OpR X (compareOp .In) (rIn K false) := by subst h; exact op_in_seq
theorem piL {tg l : Expr} {tl : TE} (h : X.K = K) (hl : PE X l tl) : PI X tg l (iList K tl) := by subst h; exact pi_list hl
theorem piZ {es : List Expr} {kk : Nat} {tpos : Pos} {a b : Expr} {ta : TA} {p pos : Pos} (h : X.K = K) (hg : Gl X "zip") (hm : X.mg "zip" = none) (ha : PA X [a, b] ta) (hs : starEach [a, b] X.env = [(false, eval a X.env), (false, eval b X.env)] := by rfl) (hs2 : starEach [b] X.env = [(false, eval b X.env)] := by rfl) :
    PI X (.Tuple es kk tpos) (.Call (.Name "zip" p) [a, b] [] pos) (iZip K ta) := by subst h; exact pi_zip hg hm ha hs hs2
theorem pgT {es : List Expr} {k : Nat} {t : TGs} {n : Nat} {pos : Pos} (h : X.K = K) (hc : X.calm = true) (hh : PGs X es t)
    (hn : (assignEach es X.env).length = n := by rfl) (hst : (assignEach es X.env).findIdx? (·.1) = none := by rfl) : PG X (.Tuple es k pos) (gTup K n t) := by subst h; exact pg_tup hc hh hn hst
end
theorem cdivB {i j : Int} (h : 0 < j) (h2 : j.natAbs < 2 ^ 500) : CDivB i j := ⟨h, Nat.lt_trans (log2_lt_of h2 (by decide)) (by decide)⟩
end L2

namespace L2
open PySem
/-! ### T. sets of ints: the table -/
def Rise (xs : Array Nat) : Prop := xs.toList.Pairwise (· < ·)
theorem Rise.lt {xs : Array Nat} (h : Rise xs) (d : Nat) : ∀ a b, a < b → b < xs.size → xs.getD a d < xs.getD b d := fun a b hab hb => by
  have := (List.pairwise_iff_getElem.mp h) a b (by simpa using Nat.lt_trans hab hb) (by simpa using hb) hab
  simpa [Array.getD, hb, Nat.lt_trans hab hb] using this
theorem below_go {xs : Array Nat} {j : Nat} (hs : ∀ a b, a < b → b < xs.size → xs.getD a j < xs.getD b j) : ∀ (fuel lo hi : Nat), hi - lo ≤ fuel → lo ≤ hi → hi ≤ xs.size → (∀ i, i < lo → xs.getD i j < j) → (∀ i, hi ≤ i → i < xs.size → j ≤ xs.getD i j) →
    SetTable.below.go xs j fuel lo hi ≤ xs.size ∧ (∀ i, i < SetTable.below.go xs j fuel lo hi → xs.getD i j < j) ∧ (∀ i, SetTable.below.go xs j fuel lo hi ≤ i → i < xs.size → j ≤ xs.getD i j)
  | 0, lo, hi, hf, hl, hh, h1, h2 => by
    unfold SetTable.below.go
    exact ⟨by omega, h1, fun i a b => h2 i (by omega) b⟩
  | fuel + 1, lo, hi, hf, hl, hh, h1, h2 => by
    unfold SetTable.below.go
    by_cases hlt : lo < hi
    · rw [if_pos hlt]
      dsimp only
      by_cases hm : xs.getD ((lo + hi) / 2) j < j
      · rw [if_pos hm]
        refine below_go hs fuel _ _ (by omega) (by omega) hh (fun i hi' => ?_) h2
        by_cases e : i = (lo + hi) / 2
        · rw [e]; exact hm
        · exact Nat.lt_trans (hs i ((lo + hi) / 2) (by omega) (by omega)) hm
      · rw [if_neg hm]
        refine below_go hs fuel _ _ (by omega) (by omega) (by omega) h1 (fun i hi' hsz => ?_)
        by_cases e : i = (lo + hi) / 2
        · rw [e]; omega
        · have := hs ((lo + hi) / 2) i (by omega) hsz
          omega
    · rw [if_neg hlt]
      exact ⟨by omega, h1, fun i a b => h2 i (by omega) b⟩
theorem below_spec {xs : Array Nat} (h : Rise xs) (j : Nat) : SetTable.below xs j ≤ xs.size ∧ (∀ i, i < SetTable.below xs j → xs.getD i j < j) ∧ (∀ i, SetTable.below xs j ≤ i → i < xs.size → j ≤ xs.getD i j) := by
  unfold SetTable.below
  exact below_go (h.lt j) xs.size 0 xs.size (by omega) (Nat.zero_le _) (Nat.le_refl _) (fun i hi => absurd hi (Nat.not_lt_zero _)) (fun i a b => absurd b (by omega))
/-- the place of the first that is not below j -/
theorem below_of {xs : Array Nat} (h : Rise xs) {j k : Nat} (hk : k ≤ xs.size) (h1 : ∀ i, i < k → xs.getD i j < j) (h2 : ∀ i, k ≤ i → i < xs.size → j ≤ xs.getD i j) : SetTable.below xs j = k := by
  obtain ⟨b0, b1, b2⟩ := below_spec h j
  rcases Nat.lt_trichotomy (SetTable.below xs j) k with z | z | z
  · have := b2 _ (Nat.le_refl _) (by omega)
    have := h1 _ z
    omega
  · exact z
  · have := h2 k (Nat.le_refl _) (by omega)
    have := b1 _ z
    omega
theorem below_zero {xs : Array Nat} (h : Rise xs) : SetTable.below xs 0 = 0 := below_of h (Nat.zero_le _) (fun i hi => absurd hi (Nat.not_lt_zero _)) fun _ _ _ => Nat.zero_le _
theorem below_next {xs : Array Nat} (h : Rise xs) {i j : Nat} (e : xs[i]? = some j) : SetTable.below xs (j + 1) = i + 1 := by
  obtain ⟨hi, ej⟩ := Array.getElem?_eq_some_iff.mp e
  have g : ∀ d, xs.getD i d = j := fun d => by simp [Array.getD, hi, ej]
  refine below_of h (by omega) (fun k hk => ?_) fun k hk hs => ?_
  · rcases Nat.lt_or_ge k i with z | z
    · have := h.lt (j + 1) k i z hi
      rw [g] at this
      omega
    · have z' : k = i := by omega
      rw [z', g]; omega
  · have := h.lt (j + 1) i k (by omega) hs
    rw [g] at this
    omega
theorem put_rise {t : SetTable} {j : Nat} (h : Rise t.place) (hn : t.place[SetTable.below t.place j]? ≠ some j) : Rise (t.put j).1.place := by
  obtain ⟨b0, b1, b2⟩ := below_spec h j
  show Rise (SetTable.insertAt t.place (SetTable.below t.place j) j)
  generalize SetTable.below t.place j = p at *
  unfold Rise
  rw [SetTable.toList_insertAt]
  have hp : t.place.toList.Pairwise (· < ·) := h
  have hp' := hp
  rw [← List.take_append_drop p t.place.toList, List.pairwise_append] at hp'
  obtain ⟨q1, q2, q3⟩ := hp'
  have lo : ∀ a ∈ t.place.toList.take p, a < j := fun a ha => by
    obtain ⟨i, hi, e⟩ := List.getElem_of_mem ha
    rw [List.length_take] at hi
    rw [List.getElem_take] at e
    have := b1 i (by omega)
    have hs : i < t.place.size := by simp at hi; omega
    simp [Array.getD, hs] at this
    rw [← e]
    simpa using this
  have hi' : ∀ a ∈ t.place.toList.drop p, j < a := fun a ha => by
    obtain ⟨i, hi, e⟩ := List.getElem_of_mem ha
    rw [List.length_drop] at hi
    rw [List.getElem_drop] at e
    have hs : p + i < t.place.size := by simp at hi; omega
    have c := b2 (p + i) (by omega) hs
    simp [Array.getD, hs] at c
    have e' : t.place[p + i] = a := by simpa using e
    rw [e'] at c
    rcases Nat.lt_or_ge j a with z | z
    · exact z
    · have z' : a = j := by omega
      subst z'
      exfalso
      have hp0 : p < t.place.size := by omega
      have c0 := b2 p (Nat.le_refl _) hp0
      simp [Array.getD, hp0] at c0
      rcases Nat.eq_zero_or_pos i with i0 | i0
      · subst i0
        exact hn (by rw [Array.getElem?_eq_getElem hp0]; exact congrArg some (by simpa using e'))
      · have := h.lt 0 p (p + i) (by omega) hs
        simp [Array.getD, hs, hp0] at this
        rw [e'] at this
        omega
  rw [List.pairwise_append]
  refine ⟨q1, List.pairwise_cons.mpr ⟨hi', q2⟩, fun a ha b hb => ?_⟩
  rcases List.mem_cons.mp hb with rfl | hb
  · exact lo a ha
  · exact q3 a ha b hb
theorem probe_go {t : SetTable} {h : Int} {j : Nat} {dm : Option Nat} : ∀ (fuel : Nat) (p : SetTable.Probe), (∀ d, p.dummy = some d → t.slot d = .dummy) → SetTable.probe.go t (fun _ => h + 1) h fuel p = some (.empty j dm) →
    t.slot j = .empty ∧ ∀ d, dm = some d → t.slot d = .dummy
  | 0, p, _, e => by unfold SetTable.probe.go at e; cases e
  | fuel + 1, p, hp, e => by
    unfold SetTable.probe.go at e
    have adv : ∀ q : SetTable.Probe, (t.advance q).dummy = q.dummy := fun q => by unfold SetTable.advance; split <;> rfl
    split at e
    · rename_i hs
      have e' := Option.some.inj e
      injection e' with e1 e2
      subst e1; subst e2
      exact ⟨hs, hp⟩
    · rename_i hs
      refine probe_go fuel _ (fun d hd => ?_) e
      rw [adv] at hd
      have hd' : some p.j = some d := hd
      cases hd'
      exact hs
    · rename_i i hs
      split at e
      · cases e
      · refine probe_go fuel _ (fun d hd => ?_) e
        rw [adv] at hd
        exact hp d hd
theorem slot_live {t : SetTable} {j : Nat} (h : t.slot j = .empty ∨ t.slot j = .dummy) : t.place[SetTable.below t.place j]? ≠ some j := fun e => by
  unfold SetTable.slot at h
  dsimp only at h
  rw [e] at h
  simp at h
theorem freeSlot_live {t : SetTable} {h : Int} {j : Nat} {d : Bool} (e : t.freeSlot h = some (j, d)) : t.place[SetTable.below t.place j]? ≠ some j := by
  unfold SetTable.freeSlot at e
  split at e
  · rename_i j' dm hp
    have q := probe_go (10 * SetTable.turns t.mask) _ (fun d hd => by cases hd) hp
    have e' := Option.some.inj e
    injection e' with e1 _
    subst e1
    cases dm with
    | none => exact slot_live (.inl q.1)
    | some d => exact slot_live (.inr (q.2 d rfl))
  · cases e
theorem rise_range (n : Nat) : Rise (Array.range n) := by
  unfold Rise
  rw [Array.toList_range]
  exact List.pairwise_lt_range
theorem standIn_rise (t : SetTable) (n : Nat) : Rise (t.standIn n).place := rise_range n
theorem layNew_rise {t : SetTable} {es : Array (Int × Value)} {h : Int} {x : Value} (r : Rise t.place) : Rise (layNew t es h x).2.1.place ∧ (layNew t es h x).2.1.led = t.led := by
  unfold layNew
  split
  · rename_i slot wd e
    dsimp only
    unfold SetTable.orStandIn
    split
    · exact ⟨put_rise r (freeSlot_live e), rfl⟩
    · exact ⟨standIn_rise _ _, rfl⟩
  · exact ⟨standIn_rise _ _, rfl⟩
theorem laid_rise {mask finger moves : Nat} {led plain : Bool} {hs : Array Int} {t : SetTable} {o : Array Nat} (e : SetTable.laid mask finger moves led plain hs = some (t, o)) : Rise t.place ∧ t.led = led := by
  unfold SetTable.laid at e
  cases q : SetTable.layClean mask hs with
  | none => rw [q] at e; cases e
  | some owner =>
    rw [q] at e
    have e' := Option.some.inj e
    injection e' with e1 _
    subst e1
    refine ⟨?_, rfl⟩
    unfold Rise
    dsimp only
    rw [List.pairwise_map]
    refine List.Pairwise.filterMap _ (fun a a' hlt b hb b' hb' => ?_) (List.pairwise_lt_range (n := mask + 1))
    cases q1 : owner.getD a none with
    | none => rw [q1] at hb; cases hb
    | some v =>
      rw [q1] at hb
      cases q2 : owner.getD a' none with
      | none => rw [q2] at hb'; cases hb'
      | some v' =>
        rw [q2] at hb'
        cases hb
        cases hb'
        exact hlt
theorem relayAll_rise {t : SetTable} {es : Array (Int × Value)} {n : Nat} : Rise (relayAll t es n).2.1.place ∧ (relayAll t es n).2.1.led = t.led := by
  unfold relayAll
  split
  · rename_i t' order e
    dsimp only
    split
    · exact laid_rise e
    · exact ⟨standIn_rise _ _, rfl⟩
  · exact ⟨standIn_rise _ _, rfl⟩
end L2

namespace L2
open PySem PySem.Spec PyProof.Rows
/-! ### sets of ints: what stands in the heap -/
def bt (w : World) : Bool := w.params.followText "set-order"
def keyOf (e : Int × Value) : Int := match e.2 with
  | .int k _ => k
  | _ => 0
def EntOk (e : Int × Value) : Prop := ∃ k tok, e = (hashInt k, Value.int k tok)
/-- the set at a holds the ints ks, in the table's order -/
def SetG (w : World) (h : Heap) (a : Addr) (ks : List Int) : Prop := ∃ (o : Obj) (es : Array (Int × Value)) (ep : Nat) (t : SetTable), h.get? a = some o ∧ o.ExactSet ∧ o.data = .set es ep t ∧
  es.toList.map keyOf = ks ∧ (∀ e ∈ es.toList, EntOk e) ∧ ks.Nodup ∧ ks.length < scanBound ∧ t.fits es.size = true ∧ Rise t.place ∧ (t.led = true ∨ bt w = true)
theorem SetG.at {w : World} {h h' : Heap} {a : Addr} {ks : List Int} (g : SetG w h a ks) (k : ∀ o, h.get? a = some o → h'.get? a = some o) : SetG w h' a ks := by
  obtain ⟨o, es, ep, t, e, r⟩ := g
  exact ⟨o, es, ep, t, k o e, r⟩
theorem SetG.lt {w : World} {h : Heap} {a : Addr} {ks : List Int} (g : SetG w h a ks) : a < h.objs.size := by
  obtain ⟨o, es, ep, t, e, r⟩ := g
  exact Heap.lt_size e
section
variable {prog : Program} {w : World} {A : Around} {E : Value → Shared → Prop} {s : Shared}
theorem ents_elems {l : List (Int × Value)} (h : ∀ e ∈ l, EntOk e) : ElemsOf (intKind prog w) l := fun e he => by
  obtain ⟨k, tok, rfl⟩ := h e he
  exact ⟨⟨k, intKind_is _ _ _ _, rfl⟩, rfl⟩
theorem is_key {e : Int × Value} (h : EntOk e) (k : Int) : (intKind prog w).is k e.2 = decide (keyOf e = k) := by
  obtain ⟨k', tok, rfl⟩ := h
  show Value.isInt k (.int k' tok) = _
  by_cases z : k' = k
  · subst z; simp [Value.isInt, keyOf]
  · rw [decide_eq_false (by exact z)]
    simp [Value.isInt, z]
theorem find_none {l : List (Int × Value)} (h : ∀ e ∈ l, EntOk e) {k : Int} : l.findIdx? (fun e => (intKind prog w).is k e.2) = none ↔ k ∉ l.map keyOf := by
  rw [List.findIdx?_eq_none_iff]
  constructor
  · intro q hm
    obtain ⟨e, he, ek⟩ := List.mem_map.mp hm
    have := q e he
    rw [is_key (h e he), decide_eq_true ek] at this
    cases this
  · intro q e he
    rw [is_key (h e he)]
    exact decide_eq_false fun ek => q (List.mem_map.mpr ⟨e, he, ek⟩)
theorem storeG {h : Heap} {a : Addr} {o : Obj} {es : Array (Int × Value)} {ep : Nat} {t : SetTable} (ho : h.get? a = some o) (hex : o.ExactSet) (hd : o.data = .set es ep t)
    {es' : Array (Int × Value)} {t' : SetTable} (hel : ∀ e ∈ es'.toList, EntOk e) (hnd : (es'.toList.map keyOf).Nodup) (hb : es'.size < scanBound) (hf : t'.fits es'.size = true) (hr : Rise t'.place) (hl : t'.led = true ∨ bt w = true) :
    (h.update a (Obj.putSet es' t')).get? a = some { o with data := .set es' (ep + 1) t' } ∧ SetG w (h.update a (Obj.putSet es' t')) a (es'.toList.map keyOf) := by
  have hg : (h.update a (Obj.putSet es' t')).get? a = some { o with data := .set es' (ep + 1) t' } := by
    have := Heap.get?_update_self (Obj.putSet es' t') ho (by rw [putSet_of es' t' hd]; rfl)
    rw [putSet_of es' t' hd] at this; exact this
  exact ⟨hg, _, es', ep + 1, t', hg, hex, rfl, rfl, hel, hnd, by simpa using hb, hf, hr, hl⟩
theorem addTailG {g : Bool → Sem Unit} (hg : ∀ (b : Bool) (s₁ : Shared) (Q' : Unit → Shared → Prop), Q' () s₁ → wpAny (model prog w) A (g b) Q' E s₁)
    {a : Addr} {o : Obj} {es : Array (Int × Value)} {ep : Nat} {t : SetTable} (ho : s.heap.get? a = some o) (hex : o.ExactSet) (hd : o.data = .set es ep t)
    {es1 : Array (Int × Value)} {t2 : SetTable} (hel1 : ∀ e ∈ es1.toList, EntOk e) (hnd : (es1.toList.map keyOf).Nodup) (hb1 : es1.size < scanBound) (hf2 : t2.fits es1.size = true) (hr : Rise t2.place) (hl : t2.led = true ∨ bt w = true)
    {wasDummy : Bool} {R : Option Bool → Shared → Prop}
    (h : ∀ h' ks, Heap.SameBut a s.heap h' → SetG w h' a ks → ks.Perm (es1.toList.map keyOf) → R (some true) { s with heap := h' }) :
    wpAny (model prog w) A (do
        storeSet a es1 t2
        if (!wasDummy && t2.tooFull) = true then do
            g (relayAll t2 es1 (SetTable.grown es1.size)).2.2
            storeSet a (relayAll t2 es1 (SetTable.grown es1.size)).1 (relayAll t2 es1 (SetTable.grown es1.size)).2.1
            pure (some true)
          else pure (some true)) R E s := by
  refine wpAny_bind (wpAny_storeSet_of ho hd ?_ (fits_of_scanBound hb1))
  obtain ⟨ho1, hS1⟩ := storeG (w := w) ho hex hd hel1 hnd hb1 hf2 hr hl
  have hsb1 := Heap.SameBut.update s.heap a (Obj.putSet es1 t2)
  split
  · have hp := relayAll_perm t2 es1 (SetTable.grown es1.size)
    have hfr := relayAll_fits t2 es1 (SetTable.grown es1.size)
    obtain ⟨rr, rl⟩ := relayAll_rise (t := t2) (es := es1) (n := SetTable.grown es1.size)
    generalize relayAll t2 es1 (SetTable.grown es1.size) = Rl at hp hfr rr rl ⊢
    obtain ⟨es2, t3, gave2⟩ := Rl
    dsimp only at hp hfr rr rl ⊢
    have pm : (es2.toList.map keyOf).Perm (es1.toList.map keyOf) := hp.map _
    have hsz : es2.size = es1.size := by rw [← Array.length_toList, hp.length_eq, Array.length_toList]
    have hb2 : es2.size < scanBound := by rw [hsz]; exact hb1
    refine wpAny_bind (hg _ _ _ ?_)
    refine wpAny_bind (wpAny_storeSet_of ho1 rfl ?_ (fits_of_scanBound hb2))
    obtain ⟨_, hS2⟩ := storeG (w := w) ho1 hex rfl (fun e he => hel1 e (hp.mem_iff.mp he)) (pm.nodup_iff.mpr hnd) hb2 hfr rr (by rw [rl]; exact hl)
    exact wpAny_pure (h _ _ (hsb1.trans (Heap.SameBut.update _ a _)) hS2 pm)
  · exact wpAny_pure (h _ _ hsb1 hS1 (List.Perm.refl _))
theorem setAddG {a : Addr} {ks : List Int} {k : Int} {tok : Tok} {Q : Bool → Shared → Prop} (hS : SetG w s.heap a ks) (hroom : ks.length + 1 < scanBound)
    (h : ∀ h' ks', Heap.SameBut a s.heap h' → SetG w h' a ks' → ks'.Perm (if k ∈ ks then ks else k :: ks) → Q (decide (k ∉ ks)) { s with heap := h' }) :
    wpAny (model prog w) A (setAddHashed a (.int k tok) (hashInt k)) Q E s := by
  obtain ⟨o, es, ep, t, ho, hex, hd, rfl, hel, hnd, hb, hf, hr, hl⟩ := hS
  have hbs : es.size < scanBound := by simpa using hb
  have hel' : ElemsOf (intKind prog w) es.toList := ents_elems hel
  unfold setAddHashed setAddHashedIn
  refine wpAny_holding (wpAny_bind (wpAny_setState_of ho hd hf ?_))
  dsimp only
  rw [byScan_of (knd := intKind prog w) rfl hbs hel']
  simp only [↓reduceIte]
  unfold setAddByScan
  refine wpAny_bind (wpAny_bind (wpAny_rule (wpAny_bind (wpAny_setScan_of (knd := intKind prog w) (k := k) (intKind_is _ _ _ _) ho hd hf hel' ?_))))
  cases hq : List.findIdx? (fun e => (intKind prog w).is k e.2) es.toList with
  | some j =>
    have hin : k ∈ es.toList.map keyOf := by
      rcases Classical.em (k ∈ es.toList.map keyOf) with z | z
      · exact z
      · rw [(find_none (prog := prog) (w := w) hel).mpr z] at hq; cases hq
    refine wpAny_pure (wpAny_pure ?_)
    have e : s = { s with heap := s.heap } := by cases s; rfl
    have q := h s.heap _ (Heap.SameBut.refl a s.heap) ⟨o, es, ep, t, ho, hex, hd, rfl, hel, hnd, hb, hf, hr, hl⟩ (by rw [if_pos hin])
    rw [decide_eq_false (fun z => z hin)] at q
    rw [e]; exact q
  | none =>
    have hin : k ∉ es.toList.map keyOf := (find_none (prog := prog) (w := w) hel).mp hq
    have hperm := layNew_perm t es (hashInt k) (.int k tok)
    have hfits := layNew_fits t es (hashInt k) (.int k tok)
    obtain ⟨rr, rl⟩ := layNew_rise (es := es) (h := hashInt k) (x := .int k tok) hr
    have hgw : ∀ (b : Bool) {s₁ : Shared} {Q' : Unit → Shared → Prop}, Q' () s₁ → wpAny (model prog w) A (match b with | true => rule "set.scan.the-table-gave-way" | false => pure ()) Q' E s₁ :=
      fun b s₁ Q' hq => by cases b <;> first | exact wpAny_pure hq | exact wpAny_rule hq
    dsimp only
    generalize hL : layNew t es (hashInt k) (.int k tok) = L at hperm hfits rr rl
    obtain ⟨es1, t1, wasDummy, gave⟩ := L
    dsimp only at hperm hfits rr rl ⊢
    rw [Array.toList_push] at hperm
    have hel1 : ∀ e ∈ es1.toList, EntOk e := fun e he => by
      rcases List.mem_append.mp (hperm.mem_iff.mp he) with z | z
      · exact hel e z
      · rw [List.mem_singleton] at z; exact ⟨k, tok, z⟩
    have pm : (es1.toList.map keyOf).Perm (k :: es.toList.map keyOf) := by
      refine (hperm.map _).trans ?_
      rw [List.map_append]
      exact List.perm_append_comm
    have hnd1 : (es1.toList.map keyOf).Nodup := pm.nodup_iff.mpr (List.nodup_cons.mpr ⟨hin, hnd⟩)
    have hsz1 : es1.size = es.size + 1 := by rw [← Array.length_toList, hperm.length_eq, List.length_append, Array.length_toList]; rfl
    have hb1 : es1.size < scanBound := by rw [hsz1]; simpa using hroom
    have hend : ∀ h' ks', Heap.SameBut a s.heap h' → SetG w h' a ks' → ks'.Perm (es1.toList.map keyOf) → Q true { s with heap := h' } := fun h' ks' sb g p => by
      have q := h h' ks' sb g (by rw [if_neg hin]; exact p.trans pm)
      rw [decide_eq_true hin] at q
      exact q
    refine wpAny_bind (hgw _ ?_)
    have hl1 : t1.led = true ∨ bt w = true := by rw [rl]; exact hl
    split
    · refine wpAny_bind ?_
      rw [hashByValue_scannable 8 (show Value.scannable (.int k tok) = true from rfl)]
      refine wpAny_pure ?_
      refine addTailG ?_ ho hex hd hel1 hnd1 hb1 ?_ ?_ ?_ ?_
      · intro b s₁ Q' hq; cases b <;> first | exact wpAny_pure hq | exact wpAny_rule hq
      · split
        · exact hfits
        · exact SetTable.fits_plain_off hfits
      · split
        · exact rr
        · exact rr
      · split
        · exact hl1
        · exact hl1
      · intro h' ks' hsb g p; exact wpAny_pure (hend h' ks' hsb g p)
    · refine wpAny_bind (wpAny_pure ?_)
      simp only [↓reduceIte]
      refine addTailG ?_ ho hex hd hel1 hnd1 hb1 hfits rr hl1 ?_
      · intro b s₁ Q' hq; cases b <;> first | exact wpAny_pure hq | exact wpAny_rule hq
      · intro h' ks' hsb g p; exact wpAny_pure (hend h' ks' hsb g p)
end
end L2

namespace L2
open PySem PySem.Spec PyProof.Rows
/-! ### set(list of ints) -/
section
variable {prog : Program} {w : World} {A : Around} {E : Value → Shared → Prop} {s : Shared}
theorem update_loopG {R : Result → Shared → Prop} {I S l : Addr} {items : Array Value} {ns : List Int} (hh : A.in1.handled = none) (hi : IntsAre items.toList ns) (hb : items.size + 1 < scanBound) (n1 : S ≠ I) (n2 : S ≠ l) (n3 : l ≠ I) :
    ∀ (k i : Nat) (s : Shared) (ks : List Int), items.size - i = k → i ≤ items.size → s.heap.IsListIter I l i → s.heap.IsList l items → SetG w s.heap S ks → ks.length ≤ i → (∀ x, x ∈ ks ↔ x ∈ ns.take i) →
      (∀ h' tk ks', (∀ b o, b ≠ S → b ≠ I → s.heap.get? b = some o → h'.get? b = some o) → SetG w h' S ks' → (∀ x, x ∈ ks' ↔ x ∈ ns) → R (.ok (.ret .none)) { s with heap := h', toks := tk }) →
      codeAny (model prog w) A (.builtin "set.update.loop" ⟨[.ref S, .ref I], []⟩) R s := by
  have hlen : items.size = ns.length := by have := IntsAre.length hi; simpa using this
  intro k
  induction k with
  | zero =>
    intro i s ks hk hle hit hl hS hlk hm hR
    have hin : i = items.size := by omega
    subst hin
    refine codeAny_builtin PyProof.Rows.F.entry_set_update_loop ?_
    rw [Around.under_plainId PyProof.Rows.F.plain_set_update_loop _]
    show wpAny _ A.in1 (pyNext (.ref I) >>= _) _ _ s
    refine wpAny_bind (wpAny_pyNext_list_end hh hit hl (by simp) fun h' eb => ?_)
    show wpAny _ A.in1 (ret Value.none) _ _ _
    refine wpAny_pure (hR h' s.toks ks (fun b o _ b2 e => eb b o b2 e) (hS.at fun o e => eb _ _ n1 e) fun x => ?_)
    rw [hm x, hlen, List.take_length]
  | succ k ih =>
    intro i s ks hk hle hit hl hS hlk hm hR
    have hlt : i < items.size := by omega
    obtain ⟨t, hv⟩ := IntsAre.int_at hi i items[i] (by simp [hlt])
    have hgd : ns.getD i 0 = ns[i]'(by omega) := by simp [List.getD_eq_getElem?_getD, show i < ns.length by omega]
    refine codeAny_builtin PyProof.Rows.F.entry_set_update_loop ?_
    rw [Around.under_plainId PyProof.Rows.F.plain_set_update_loop _]
    show wpAny _ A.in1 (pyNext (.ref I) >>= _) _ _ s
    refine wpAny_bind (wpAny_pyNext_list_item hit hl (x := items[i]) (by simp [hlt]) fun h1 hit1 sb1 => ?_)
    have hS1 : SetG w h1 S ks := hS.at fun o e => sb1.extBut _ _ n1 e
    show wpAny _ A.in1 (holding [items[i]] (setAdd S items[i]) >>= _) _ _ _
    rw [hv]
    refine wpAny_bind (wpAny_holding ?_)
    unfold setAdd
    refine wpAny_holding ?_
    refine wpAny_bind ((intKind prog w).pyHash (k := ns.getD i 0) (intKind_is _ _ _ _) ?_)
    refine setAddG (s := { s with heap := h1, toks := s.toks + 1 }) hS1 (by omega) fun h2 ks2 sb2 hS2 p2 => ?_
    have hm2 : ∀ x, x ∈ ks2 ↔ x ∈ ns.take (i + 1) := fun x => by
      rw [p2.mem_iff, List.take_add_one, List.mem_append, ← hm x, show ns[i]? = some (ns.getD i 0) by rw [hgd]; exact List.getElem?_eq_getElem _]
      split
      · rename_i hin
        simp only [Option.toList_some, List.mem_singleton]
        exact ⟨.inl, fun z => z.elim id fun e => e ▸ hin⟩
      · simp only [List.mem_cons, Option.toList_some, List.mem_singleton, List.not_mem_nil, or_false]
        exact Or.comm
    have hl2 : ks2.length ≤ i + 1 := by
      rw [p2.length_eq]
      split
      · omega
      · rw [List.length_cons]; omega
    refine wpAny_pure ⟨plainId_quiet PyProof.Rows.F.plain_set_update_loop _, ih (i + 1) _ ks2 (by omega) hlt ?_ ?_ hS2 hl2 hm2 fun h' tk ks' kp hS' hm' => ?_⟩
    · exact hit1.extBut sb2.extBut (Ne.symm n1)
    · exact (hl.extBut sb1.extBut n3).extBut sb2.extBut (Ne.symm n2)
    · exact hR h' tk ks' (fun b o b1 b2 e => kp b o b1 b2 (sb2.extBut _ _ b1 (sb1.extBut _ _ b2 e))) hS' hm'
theorem set_new_G (a : Value) {Q₁ : Value → Shared → Prop}
    (h : Q₁ (.ref s.heap.objs.size) { s with heap := s.heap.push { cls := .type "set", dict := none, data := .set #[] 0 (.fresh 0 0 (!bt w)) } }) :
    codeAny (model prog w) A (.call (.builtin "set.__new__") ⟨[.type "set", a], []⟩) (wants Q₁ E) s := by
  refine codeAny_of_tree ?_
  show wpAny _ A.in1 (do checkBuiltinCall "set.__new__" ⟨[.type "set", a], []⟩; again (.builtin "set.__new__" ⟨[.type "set", a], []⟩)) _ _ s
  refine wpAny_bind (wpAny_of_eq (PySem.F.newCall_set_1 a) (wpAny_pure ⟨plainId_quiet PySem.F.plain_set_new _, codeAny_builtin PySem.F.entry_set_new ?_⟩))
  rw [Around.under_plainId PySem.F.plain_set_new _]
  unfold Builtin.«set.__new__» Builtin.Frozenset.newClass
  have hsub := sub_set_self
  obtain ⟨hp, g, d, tk, os⟩ := s
  dsimp only
  wp_walk
  refine wpAny_askSetting (wpAny_pure ?_)
  dsimp only
  simp only [newObj]
  refine wpAny_bind (wpAny_alloc (wpAny_pure ?_))
  exact wpAny_pure h
set_option maxHeartbeats 8000000 in
theorem set_listG {l : Addr} {items : Array Value} {ns : List Int} {Q : Value → Shared → Prop} (hh : A.handled = none) (hl : s.heap.IsList l items) (hi : IntsAre items.toList ns) (hb : items.size + 1 < scanBound)
    (h : ∀ (h' : Heap) (tk : Nat) (ks : List Int), SetG w h' s.heap.objs.size ks → (∀ x, x ∈ ks ↔ x ∈ ns) → (∀ b o, b < s.heap.objs.size → s.heap.get? b = some o → h'.get? b = some o) → Q (.ref s.heap.objs.size) { s with heap := h', toks := tk }) :
    wpAny (model prog w) A (call (.type "set") [.ref l]) Q E s := by
  obtain ⟨c, tl, hmro⟩ := PySem.F.called_set.mro
  have hmade := PySem.F.called_set.made
  have hsub := PySem.F.called_set.sub
  refine wpAny_call (codeAny_of_tree ?_)
  show wpAny _ _ (callAny (.type "set") _) _ _ _
  refine wpAny_pure ⟨Code.quiet_builtin _ (by decide +kernel), codeAny_builtin PySem.F.entry_type_call ?_⟩
  rw [Around.under_plain (weight_type_call_type "set" [.ref l] []) rfl]
  have h1 := PySem.F.called_set.notType
  have h2 := PySem.F.called_set.canCreate
  have hct := PySem.F.typeCall_set_1 (.ref l)
  repeat (any_goals (first | assumption | wp_step))
  refine codeAny_mono (set_new_G (w := w) (.ref l) (E := E) (Q₁ := fun obj s₁ => obj = .ref s.heap.objs.size ∧ s₁ = { s with heap := s.heap.push { cls := .type "set", dict := none, data := .set #[] 0 (.fresh 0 0 (!bt w)) } }) ⟨rfl, rfl⟩) fun r s₁ hr => ?_
  cases r with
  | error e => exact hr
  | ok fl =>
    cases fl with
    | ret obj =>
      obtain ⟨rfl, rfl⟩ := hr
      generalize hled : (!bt w) = led
      have hS : (s.heap.push { cls := .type "set", dict := none, data := .set #[] 0 (.fresh 0 0 led) }).get? s.heap.objs.size = some { cls := .type "set", dict := none, data := .set #[] 0 (.fresh 0 0 led) } := Heap.get?_push_size _ rfl
      have hT : Shared.TypeIs { s with heap := s.heap.push { cls := .type "set", dict := none, data := .set #[] 0 (.fresh 0 0 led) } } (.ref s.heap.objs.size) "set" := ⟨_, hS, rfl⟩
      have hli := PySem.F.called_set.init.lookup
      have hbi := PySem.F.called_set.init.bind (.ref s.heap.objs.size)
      repeat (any_goals (first | assumption | wp_step))
      refine codeAny_mono (codeAny_call_builtin (R := wants (fun r s₂ => r = .none ∧ ∃ h' tk ks, s₂ = { s with heap := h', toks := tk } ∧ SetG w h' s.heap.objs.size ks ∧ (∀ x, x ∈ ks ↔ x ∈ ns) ∧
          (∀ b o, b < s.heap.objs.size → s.heap.get? b = some o → h'.get? b = some o)) E) PySem.F.called_set.init.plain PySem.F.entry_set_init (check_set_init_1 hT ?_)) fun r₂ s₂ hr₂ => ?_
      · obtain ⟨ol, hol, hcl, nl, hdl⟩ := hl
        obtain ⟨ocls, odict, odata, oslots⟩ := ol
        simp only at hcl hdl
        subst hcl; subst hdl
        have hol' : (s.heap.push { cls := .type "set", dict := none, data := .set #[] 0 (.fresh 0 0 led) }).get? l = some { cls := .type "list", dict := odict, data := .seq items nl, slots := oslots } := Heap.get?_push_of_some _ hol
        have hsls := PySem.F.sub_list_set
        have hslf := PySem.F.sub_list_frozenset
        have hne : (Value.type "list" == Value.type "dict") = false := by decide
        have hl1 : (s.heap.push { cls := .type "set", dict := none, data := .set #[] 0 (.fresh 0 0 led) }).IsList l items := ⟨_, hol', rfl, nl, rfl⟩
        unfold Builtin.«set.__init__» noKeywords Builtin.Frozenset.updateFrom
        generalize hPI : pyIter = PI
        wp_walk
        subst hPI
        refine wpAny_pyIter_list hl1 ?_
        refine wpAny_bind (wpAny_runValue ?_)
        have hlS : l < s.heap.objs.size := Heap.lt_size hol
        have hh3 : A.in1.in1.in1.handled = none := by simp [hh]
        have hSz : (s.heap.push { cls := .type "set", dict := none, data := .set #[] 0 (.fresh 0 0 led) }).objs.size = s.heap.objs.size + 1 := Heap.size_push ..
        have e1 : s.heap.objs.size ≠ (s.heap.push { cls := .type "set", dict := none, data := .set #[] 0 (.fresh 0 0 led) }).objs.size := by rw [hSz]; exact Nat.ne_of_lt (Nat.lt_succ_self _)
        have e2 : l ≠ (s.heap.push { cls := .type "set", dict := none, data := .set #[] 0 (.fresh 0 0 led) }).objs.size := by rw [hSz]; exact Nat.ne_of_lt (Nat.lt_succ_of_lt hlS)
        refine update_loopG (w := w) hh3 hi hb e1 (Nat.ne_of_gt hlS) e2 (items.size - 0) 0 _ [] (by omega) (Nat.zero_le _)
          ⟨_, Heap.get?_push_size _ rfl, rfl, rfl⟩ (hl1.push _) ⟨_, #[], 0, _, Heap.get?_push_of_some _ hS, ⟨rfl, rfl, rfl⟩, rfl, rfl, fun e he => by simp at he, List.nodup_nil, by decide, by rfl, List.Pairwise.nil, ?_⟩ (Nat.le_refl _) (fun x => by simp) ?_
        · show led = true ∨ bt w = true
          rw [← hled]
          cases bt w <;> simp
        · intro h' tk ks' kp hS' hm'
          show wpAny _ _ _ _ _ _
          refine wpAny_pure ?_
          show wpAny _ _ (ret Value.none) _ _ _
          refine wpAny_pure ⟨rfl, h', tk, ks', rfl, hS', hm', fun b o hb e => ?_⟩
          exact kp b o (Nat.ne_of_lt hb) (by rw [hSz]; exact Nat.ne_of_lt (Nat.lt_succ_of_lt hb)) (Heap.get?_push_of_some _ (Heap.get?_push_of_some _ e))
      · cases r₂ with
        | error e => exact hr₂
        | ok fl₂ =>
          cases fl₂ with
          | ret r =>
            obtain ⟨rfl, h', tk, ks, rfl, hS', hm', hk'⟩ := hr₂
            repeat (any_goals (first | assumption | wp_step))
            exact h _ _ _ hS' hm' hk'
          | _ => exact hr₂.elim
    | _ => exact hr.elim
end
end L2

namespace L2
open PySem PySem.Spec PyProof.Rows
namespace FF
theorem slot_si_next : Slot "set_iterator" "__next__" "set_iterator.__next__" :=
  .of (owner := "set_iterator") (n := "__next__") (by rw [typeLookup_type, builtinLookup_eq_fast]; kernel_rfl) (by decide +kernel) (by decide +kernel) (by decide +kernel)
    (by first | exact .inl (by decide +kernel) | exact .inr (by decide +kernel)) (by rw [isSubtype_type]; kernel_rfl)
theorem slot_si_iter : Slot "set_iterator" "__iter__" "set_iterator.__iter__" :=
  .of (owner := "set_iterator") (n := "__iter__") (by rw [typeLookup_type, builtinLookup_eq_fast]; kernel_rfl) (by decide +kernel) (by decide +kernel) (by decide +kernel)
    (by first | exact .inl (by decide +kernel) | exact .inr (by decide +kernel)) (by rw [isSubtype_type]; kernel_rfl)
theorem entry_si_next : entryFor table "set_iterator.__next__" = some Builtin.«set_iterator.__next__» := entryFor_of_tree (by kernel_rfl)
theorem owner_si : Manifest.owners.lookup (String.ofList ['r', 'o', 't', 'a', 'r', 'e', 't', 'i', '_', 't', 'e', 's'].reverse) = some Manifest.sig_set_iterator := by kernel_rfl
theorem args_si_next (a : Value) : argsOk "set_iterator.__next__" ⟨[a], []⟩ := by
  unfold argsOk; rw [signature?_of (id := "set_iterator.__next__") (n := ['_', '_', 't', 'x', 'e', 'n', '_', '_']) (o := ['r', 'o', 't', 'a', 'r', 'e', 't', 'i', '_', 't', 'e', 's']) (by kernel_rfl) owner_si]; kernel_rfl
theorem entry_si_iter : entryFor table "set_iterator.__iter__" = some Builtin.«dict_keyiterator.__iter__» :=
  entryFor_alias (id' := "dict_keyiterator.__iter__") (by kernel_rfl) (by first | rfl | decide +kernel) (by decide +kernel) (by kernel_rfl)
theorem args_si_iter (a : Value) : argsOk "set_iterator.__iter__" ⟨[a], []⟩ := by
  unfold argsOk; rw [signature?_of (id := "set_iterator.__iter__") (n := ['_', '_', 'r', 'e', 't', 'i', '_', '_']) (o := ['r', 'o', 't', 'a', 'r', 'e', 't', 'i', '_', 't', 'e', 's']) (by kernel_rfl) owner_si]; kernel_rfl
theorem entry_set_iter : entryFor table "set.__iter__" = some Builtin.«frozenset.__iter__» :=
  entryFor_alias (id' := "frozenset.__iter__") (by kernel_rfl) rfl (by decide +kernel) (by kernel_rfl)
end FF
abbrev siObj (first : Value) (i : Nat) (S : Addr) (n ep : Nat) : Obj := { cls := .type "set_iterator", dict := none, data := .fields #[first, rawInt i, .ref S, rawInt n, rawInt ep], slots := #[] }
section
variable {prog : Program} {w : World} {A : Around} {E : Value → Shared → Prop} {s : Shared}
theorem wpAny_choose {n : Nat} {Q : Nat → Shared → Prop} (hn : n ≠ 0) (h : ∀ i d, i < n → Q i { s with drawn := d }) : wpAny (model prog w) A (choose .order n) Q E s := fun Γ p hΓ => by
  unfold choose
  rw [Sem.wp_choose]
  refine ⟨hn, ?_⟩
  rw [Sem.wp_pure]
  exact h _ _ (Nat.mod_lt _ (Nat.pos_of_ne_zero hn))
theorem cons_erase {α : Type} : ∀ (l : List α) (i : Nat) (h : i < l.length), (l[i] :: l.eraseIdx i).Perm l
  | x :: r, 0, _ => List.Perm.refl _
  | x :: r, i + 1, h => (List.Perm.swap _ _ _).trans (List.Perm.cons _ (cons_erase r i (by simpa using h)))
theorem draw_order {α : Type} : ∀ (n : Nat) (xs : List α) (s : Shared) (Q : List α → Shared → Prop), xs.length = n → (∀ ys d, ys.Perm xs → Q ys { s with drawn := d }) → wpAny (model prog w) A (drawOrder n xs) Q E s
  | 0, xs, s, Q, hl, h => by
    have e : xs = [] := List.length_eq_zero_iff.mp hl
    subst e
    unfold drawOrder
    exact wpAny_pure (h [] s.drawn (List.Perm.refl _))
  | n + 1, [], s, Q, hl, h => by simp at hl
  | n + 1, x :: r, s, Q, hl, h => by
    unfold drawOrder
    refine wpAny_bind (wpAny_choose (by simp) fun i d hi => ?_)
    rw [List.getElem?_eq_getElem hi]
    dsimp only
    refine wpAny_bind (draw_order n _ _ _ (by rw [List.length_eraseIdx_of_lt hi, hl]; rfl) fun ys d' p => wpAny_pure ?_)
    have := h ((x :: r)[i] :: ys) d' ((List.Perm.cons _ p).trans (cons_erase _ i hi))
    exact this
end
end L2

namespace L2
open PySem PySem.Spec PyProof.Rows
theorem pick_go {α : Type} (next : Nat → Nat) : ∀ (fuel k : Nat) (left : List α) (out : Array α), left.length = fuel → (pickOrder.go next fuel k left out).toList.Perm (out.toList ++ left)
  | 0, k, left, out, h => by
    have e : left = [] := List.length_eq_zero_iff.mp h
    subst e
    unfold pickOrder.go
    rw [List.append_nil]
  | fuel + 1, k, left, out, h => by
    unfold pickOrder.go
    have hi : next k % left.length < left.length := Nat.mod_lt _ (by omega)
    rw [List.getElem?_eq_getElem hi]
    dsimp only
    refine (pick_go next fuel (k + 1) _ _ (by rw [List.length_eraseIdx_of_lt hi, h]; rfl)).trans ?_
    rw [Array.toList_push, List.append_assoc]
    exact List.Perm.append_left _ (cons_erase _ _ hi)
theorem pick_perm {α : Type} (next : Nat → Nat) (xs : Array α) : (pickOrder next xs).toList.Perm xs.toList := by
  have := pick_go next xs.size 0 xs.toList #[] (by simp)
  simpa [pickOrder] using this
section
variable {prog : Program} {w : World} {A : Around} {E : Value → Shared → Prop} {s : Shared} {I S : Addr} {first : Value} {i n ep : Nat} {o : Obj} {es : Array (Int × Value)} {t : SetTable}
/-- the body of __next__, ahead of the choice of roads -/
theorem si_open {Q : Fin → Shared → Prop} {slot : Nat} (hI : s.heap.get? I = some (siObj (rawInt slot) i S n ep)) (hS : s.heap.get? S = some o) (hd : o.data = .set es ep t) (hf : t.fits es.size = true) (hn : es.size = n)
    (h : wpAny (model prog w) A (setNext S slot i ep) (fun r s' => wpAny (model prog w) A (match r with
      | some (x, next) => do
        setField (.ref I) 0 (rawInt next)
        setField (.ref I) 1 (rawInt ((i : Int) + 1))
        ret x
      | none => do
        setField (.ref I) 2 .none
        raiseNew (← newExc (.type "StopIteration") [])) Q E s') E s) :
    wpAny (model prog w) A (Builtin.«set_iterator.__next__» ⟨[.ref I], []⟩) Q E s := by
  show wpAny _ _ (fieldsOf (.ref I) >>= _) _ _ _
  refine wpAny_bind (wpAny_fieldsOf hI rfl ?_)
  show wpAny _ _ (setEntries S >>= _) _ _ _
  unfold setEntries
  refine wpAny_bind (wpAny_bind (wpAny_setState_of hS hd hf (wpAny_pure ?_)))
  have e : ((es.size : Int) != (n : Int)) = false := by rw [hn]; simp
  show wpAny _ _ (if ((es.size : Int) != (n : Int)) = true then _ else _) _ _ _
  rw [e, if_neg Bool.false_ne_true]
  refine wpAny_bind (wpAny_mono h (fun r s' hr => ?_) fun _ _ z => z)
  cases r with
  | none => exact hr
  | some p => obtain ⟨x, next⟩ := p; exact hr
end
end L2

namespace L2
open PySem PySem.Spec PyProof.Rows
section
variable {prog : Program} {w : World} {A : Around} {E : Value → Shared → Prop} {s : Shared} {I S : Addr} {first : Value} {i n ep : Nat} {o : Obj} {es : Array (Int × Value)} {t : SetTable}
theorem setsByText_ {Q : Bool → Shared → Prop} (h : Q (bt w) s) : wpAny (model prog w) A setsByText Q E s := by
  unfold setsByText
  exact wpAny_bind (wpAny_askSetting (wpAny_pure h))
/-- by the table's places -/
theorem next_places {slot : Nat} {Q : Option (Value × Nat) → Shared → Prop} (hS : s.heap.get? S = some o) (hd : o.data = .set es ep t) (hf : t.fits es.size = true) (hb : bt w = false) (hdr : (!t.plain && decide (es.size > 1)) = false) (hl : t.led = true)
    (h : Q (match es[SetTable.below t.place slot]?, t.place[SetTable.below t.place slot]? with
      | some (_, x), some j => some (x, j + 1)
      | _, _ => none) s) : wpAny (model prog w) A (setNext S slot i ep) Q E s := by
  unfold setNext
  refine wpAny_bind (wpAny_setState_of hS hd hf ?_)
  dsimp only
  refine wpAny_bind (setsByText_ ?_)
  rw [hb, if_neg Bool.false_ne_true]
  show wpAny _ _ (if (!t.plain && decide (es.size > 1)) = true then _ else _) _ _ _
  rw [hdr, if_neg Bool.false_ne_true]
  refine wpAny_bind ?_
  show wpAny _ _ (if (!t.led && !es.isEmpty) = true then _ else _) _ _ _
  rw [hl]
  exact wpAny_pure (wpAny_pure h)
/-- by the text -/
theorem next_text {slot : Nat} {Q : Option (Value × Nat) → Shared → Prop} (hS : s.heap.get? S = some o) (hd : o.data = .set es ep t) (hf : t.fits es.size = true) (hb : bt w = true)
    (h : Q (((pickOrder (w.params.setOrder S ep) es)[i]?).map fun e => (e.2, slot)) s) : wpAny (model prog w) A (setNext S slot i ep) Q E s := by
  unfold setNext
  refine wpAny_bind (wpAny_setState_of hS hd hf ?_)
  dsimp only
  refine wpAny_bind (setsByText_ ?_)
  rw [hb, if_pos rfl]
  have e : (ep != ep) = false := by simp
  rw [e, if_neg Bool.false_ne_true]
  unfold setWalk
  refine wpAny_bind (wpAny_bind (wpAny_setState_of hS hd hf ?_))
  dsimp only
  refine wpAny_bind (setsByText_ ?_)
  rw [hb, if_pos rfl]
  exact wpAny_bind (wpAny_askSetting (wpAny_pure (wpAny_pure h)))
/-- StopIteration -/
theorem si_stop {Q : Fin → Shared → Prop} (hh : A.handled = none) (hE : ∀ h' e, (∀ b o, s.heap.get? b = some o → h'.get? b = some o) → (∃ o, h'.get? e = some o ∧ o.cls = .type "StopIteration") → E (.ref e) { s with heap := h' }) :
    wpAny (model prog w) A (do raiseNew (← newExc (.type "StopIteration") [])) Q E s := by
  refine wpAny_bind ?_
  simp only [newExc, newTuple]
  refine wpAny_bind (wpAny_newObj_type ?_ (by size_fits))
  refine wpAny_bind (m := firstArgMember _ _) (wpAny_of_eq (a := Value.none) (by first | rfl | (simp only [firstArgMember]; rfl)) ?_)
  refine wpAny_newObj_type ?_ (by size_fits)
  simp only [raiseNew]
  refine wpAny_bind (wpAny_handled ?_)
  rw [hh]
  refine wpAny_bind (wpAny_pure (wpAny_throw ?_))
  exact hE _ _ (fun b o e => Heap.get?_push_of_some _ (Heap.get?_push_of_some _ e)) ⟨_, Heap.get?_push_size _ rfl, rfl⟩
theorem pyNext_si {Q : Option Value → Shared → Prop} (hI : s.heap.get? I = some (siObj first i S n ep))
    (h : wpAny (model prog w) A.in1 (Builtin.«set_iterator.__next__» ⟨[.ref I], []⟩) (fun fin s' => ∃ v, fin = .done (.ret v) ∧ Q (some v) s') (fun e s' => (∃ a o, e = .ref a ∧ s'.heap.get? a = some o ∧ o.cls = .type "StopIteration") ∧ Q none s') s) :
    wpAny (model prog w) A (pyNext (.ref I)) Q E s := by
  have hT : s.TypeIs (.ref I) "set_iterator" := ⟨_, hI, rfl⟩
  unfold pyNext
  refine wpAny_bind (wpAny_attempt (wpAny_callSpecial?_slot (name := Str.ofString "__next__") hT FF.slot_si_next
    (wpAny_call_entry FF.slot_si_next hT FF.entry_si_next (wpAny_mono h (fun fin s' ⟨v, e, q⟩ => ⟨v, e, wpAny_pure q⟩) fun e s' ⟨⟨a, o, e1, ho, hc⟩, q⟩ => ?_) (FF.args_si_next _))))
  subst e1
  refine wpAny_bind (wpAny_isInstance (T := "StopIteration") (b := true) ⟨o, ho, hc⟩ isSubtype_stop ?_)
  exact wpAny_pure q
end
end L2

namespace L2
open PySem PySem.Spec PyProof.Rows
section
variable {prog : Program} {w : World} {A : Around} {I S : Addr} {ep : Nat} {o : Obj} {es : Array (Int × Value)} {t : SetTable}
/-- what a walk by slots needs: at turn i from slot it yields e and goes on at the next slot -/
theorem walk_slots (hh : A.handled = none) (hIS : S ≠ I) (hd : o.data = .set es ep t) (hf : t.fits es.size = true) (vs : List Value) (hv : vs.length = es.size) (G : Nat → Nat → Prop)
    (hgo : ∀ (A' : Around) (i slot : Nat) (s : Shared) (Q : Option (Value × Nat) → Shared → Prop) (E : Value → Shared → Prop) (v : Value), G i slot → s.heap.get? S = some o → vs[i]? = some v → (∀ slot', G (i + 1) slot' → Q (some (v, slot')) s) → wpAny (model prog w) A' (setNext S slot i ep) Q E s)
    (hend : ∀ (A' : Around) (slot : Nat) (s : Shared) (Q : Option (Value × Nat) → Shared → Prop) (E : Value → Shared → Prop), G es.size slot → s.heap.get? S = some o → Q none s → wpAny (model prog w) A' (setNext S slot es.size ep) Q E s) :
    Walks prog w A I [I, S] [I] es.size (fun i v => vs[i]? = some v) (fun i h => h.get? S = some o ∧ ∃ slot : Nat, G i slot ∧ h.get? I = some (siObj (rawInt slot) i S es.size ep)) where
  sub := fun b hb => by simp at hb; simp [hb]
  frame := fun i h h' st k => by
    obtain ⟨h1, slot, g, h2⟩ := st
    exact ⟨k S (by simp) o h1, slot, g, k I (by simp) _ h2⟩
  item := fun i s Q E hi st hQ => by
    obtain ⟨h1, slot, g, h2⟩ := st
    have hiv : i < vs.length := by omega
    refine pyNext_si h2 (si_open h2 h1 hd hf rfl (hgo _ i slot s _ _ vs[i] g h1 (List.getElem?_eq_getElem hiv) fun slot' g' => ?_))
    refine wpAny_bind (wpAny_setField_rec h2 (by simp) fun h3 h3I sb3 => ?_)
    refine wpAny_bind (wpAny_setField_rec h3I (by simp) fun h4 h4I sb4 => ?_)
    refine wpAny_pure ⟨_, rfl, ?_⟩
    refine hQ _ h4 s.toks (List.getElem?_eq_getElem hiv) ⟨sb4.extBut _ _ hIS (sb3.extBut _ _ hIS h1), slot', g', ?_⟩ fun b o' hb e => ?_
    · rw [h4I]; rfl
    · have hb' : b ≠ I := by simpa using hb
      exact sb4.extBut _ _ hb' (sb3.extBut _ _ hb' e)
  done := fun s Q E st hQ => by
    obtain ⟨h1, slot, g, h2⟩ := st
    refine pyNext_si h2 (si_open h2 h1 hd hf rfl (hend _ slot s _ _ g h1 ?_))
    refine wpAny_bind (wpAny_setField_rec h2 (by simp) fun h3 h3I sb3 => ?_)
    refine si_stop (show A.in1.handled = none from hh) fun h4 e k4 he => ⟨?_, hQ h4 s.toks fun b o' hb q => k4 _ _ (sb3.extBut _ _ (by simpa using hb) q)⟩
    obtain ⟨oe, q1, q2⟩ := he
    exact ⟨e, oe, rfl, q1, q2⟩
  self := fun i s Q E st hQ => by
    obtain ⟨h1, slot, g, h2⟩ := st
    have hT : s.TypeIs (.ref I) "set_iterator" := ⟨_, h2, rfl⟩
    refine wpAny_pyIter_slot hT FF.slot_si_iter (wpAny_call_entry FF.slot_si_iter hT FF.entry_si_iter ?_ (FF.args_si_iter _))
    show wpAny _ _ (ret (.ref I)) _ _ s
    exact wpAny_pure ⟨_, rfl, "set_iterator", _, hT, FF.slot_si_next.lookup, hQ⟩
end
end L2

namespace L2
open PySem PySem.Spec PyProof.Rows
abbrev ptObj (ps : List Nat) : Obj := { cls := .type "tuple", data := .seq (ps.map fun (p : Nat) => rawInt p).toArray }
section
variable {prog : Program} {w : World} {A : Around} {I S TT : Addr} {ep : Nat} {o : Obj} {es : Array (Int × Value)} {t : SetTable}
theorem walk_drawn (hh : A.handled = none) (n1 : S ≠ I) (n2 : TT ≠ I) (hd : o.data = .set es ep t) (hf : t.fits es.size = true) (ps : List Nat) (hps : ps.Perm (List.range es.size)) (vs : List Value)
    (hvi : ∀ (i p : Nat), ps[i]? = some p → ∃ e, es[p]? = some e ∧ vs[i]? = some e.2) :
    Walks prog w A I [I, S, TT] [I] es.size (fun i v => vs[i]? = some v) (fun i h => h.get? S = some o ∧ h.get? TT = some (ptObj ps) ∧ h.get? I = some (siObj (.ref TT) i S es.size ep)) where
  sub := fun b hb => by simp at hb; simp [hb]
  frame := fun i h h' st k => by
    obtain ⟨h1, h0, h2⟩ := st
    exact ⟨k S (by simp) o h1, k TT (by simp) _ h0, k I (by simp) _ h2⟩
  item := fun i s Q E hi st hQ => by
    obtain ⟨h1, h0, h2⟩ := st
    have hpl : ps.length = es.size := by rw [hps.length_eq, List.length_range]
    have hip : i < ps.length := by omega
    obtain ⟨e, he, hve⟩ := hvi i ps[i] (List.getElem?_eq_getElem hip)
    refine pyNext_si h2 ?_
    show wpAny _ _ (fieldsOf (.ref I) >>= _) _ _ _
    refine wpAny_bind (wpAny_fieldsOf h2 rfl ?_)
    show wpAny _ _ (setEntries S >>= _) _ _ _
    unfold setEntries
    refine wpAny_bind (wpAny_bind (wpAny_setState_of h1 hd hf (wpAny_pure ?_)))
    have e0 : ((es.size : Int) != (es.size : Int)) = false := by simp
    show wpAny _ _ (if ((es.size : Int) != (es.size : Int)) = true then _ else _) _ _ _
    rw [e0, if_neg Bool.false_ne_true]
    show wpAny _ _ (seqItems? (.ref TT) >>= _) _ _ _
    refine wpAny_bind (wpAny_seqItems h0 rfl ?_)
    have e1 : (ps.map fun (p : Nat) => rawInt p).toArray[((i : Int)).toNat]? = some (rawInt ps[i]) := by simp [hip]
    dsimp only
    rw [e1]
    show wpAny _ _ (setNextDrawn S ps[i] ep >>= _) _ _ _
    unfold setNextDrawn
    refine wpAny_bind (wpAny_bind (wpAny_setState_of h1 hd hf ?_))
    dsimp only
    have e2 : (ep != ep) = false := by simp
    rw [e2, if_neg Bool.false_ne_true, he]
    refine wpAny_pure ?_
    refine wpAny_bind (wpAny_setField_rec h2 (by simp) fun h3 h3I sb3 => ?_)
    refine wpAny_pure ⟨_, rfl, ?_⟩
    refine hQ _ h3 s.toks hve ⟨sb3.extBut _ _ n1 h1, sb3.extBut _ _ n2 h0, ?_⟩ fun b o' hb q => sb3.extBut _ _ (by simpa using hb) q
    rw [h3I]; rfl
  done := fun s Q E st hQ => by
    obtain ⟨h1, h0, h2⟩ := st
    have hpl : ps.length = es.size := by rw [hps.length_eq, List.length_range]
    refine pyNext_si h2 ?_
    show wpAny _ _ (fieldsOf (.ref I) >>= _) _ _ _
    refine wpAny_bind (wpAny_fieldsOf h2 rfl ?_)
    show wpAny _ _ (setEntries S >>= _) _ _ _
    unfold setEntries
    refine wpAny_bind (wpAny_bind (wpAny_setState_of h1 hd hf (wpAny_pure ?_)))
    have e0 : ((es.size : Int) != (es.size : Int)) = false := by simp
    show wpAny _ _ (if ((es.size : Int) != (es.size : Int)) = true then _ else _) _ _ _
    rw [e0, if_neg Bool.false_ne_true]
    show wpAny _ _ (seqItems? (.ref TT) >>= _) _ _ _
    refine wpAny_bind (wpAny_seqItems h0 rfl ?_)
    have e1 : (ps.map fun (p : Nat) => rawInt p).toArray[((es.size : Int)).toNat]? = none := by simp [hpl]
    dsimp only
    rw [e1]
    refine wpAny_bind (wpAny_setField_rec h2 (by simp) fun h3 h3I sb3 => ?_)
    refine wpAny_bind (wpAny_setField_rec h3I (by simp) fun h4 h4I sb4 => ?_)
    refine si_stop (show A.in1.handled = none from hh) fun h5 e k5 he => ⟨?_, hQ h5 s.toks fun b o' hb q => k5 _ _ (sb4.extBut _ _ (by simpa using hb) (sb3.extBut _ _ (by simpa using hb) q))⟩
    obtain ⟨oe, q1, q2⟩ := he
    exact ⟨e, oe, rfl, q1, q2⟩
  self := fun i s Q E st hQ => by
    obtain ⟨h1, h0, h2⟩ := st
    have hT : s.TypeIs (.ref I) "set_iterator" := ⟨_, h2, rfl⟩
    refine wpAny_pyIter_slot hT FF.slot_si_iter (wpAny_call_entry FF.slot_si_iter hT FF.entry_si_iter ?_ (FF.args_si_iter _))
    show wpAny _ _ (ret (.ref I)) _ _ s
    exact wpAny_pure ⟨_, rfl, "set_iterator", _, hT, FF.slot_si_next.lookup, hQ⟩
end
/-! ### iter(set) -/
theorem ints_of_ents : ∀ {l : List (Int × Value)}, (∀ e ∈ l, EntOk e) → IntsAre (l.map (·.2)) (l.map keyOf)
  | [], _ => .nil
  | e :: r, h => by
    obtain ⟨k, tok, rfl⟩ := h e List.mem_cons_self
    exact .cons k tok (ints_of_ents fun x hx => h x (List.mem_cons_of_mem _ hx))
theorem range_ents (es : Array (Int × Value)) (d : Int × Value) : (List.range es.size).map (fun p => es.getD p d) = es.toList := by
  apply List.ext_getElem
  · simp
  · intro i h1 h2
    have hi : i < es.size := by simpa using h1
    simp [Array.getD, hi]
theorem fits_place {t : SetTable} {n : Nat} (h : t.fits n = true) : t.place.size = n := by
  simp only [SetTable.fits, Bool.and_eq_true, beq_iff_eq] at h
  exact h.1
section
variable {prog : Program} {w : World} {A : Around} {E : Value → Shared → Prop} {s : Shared} {S : Addr} {ks : List Int}
/-- the iterator of a set: it walks the ints in some order -/
theorem iter_setG {Q : Value → Shared → Prop} (hS : SetG w s.heap S ks)
    (h : ∀ (I : Addr) (fp wr : List Addr) (St : Nat → Heap → Prop) (vs : List Value) (ns : List Int) (h' : Heap) (d' : Drawn), (∀ A' : Around, A'.handled = none → Walks prog w A' I fp wr ks.length (fun i v => vs[i]? = some v) St) → St 0 h' →
      (∀ b ∈ fp, b < h'.objs.size) → I ∈ fp → (∀ b ∈ wr, s.heap.objs.size ≤ b) → (∀ b ∈ fp, b = S ∨ s.heap.objs.size ≤ b) → IntsAre vs ns → ns.Perm ks → (∀ b o, s.heap.get? b = some o → h'.get? b = some o) → Q (.ref I) { s with heap := h', drawn := d' }) :
    wpAny (model prog w) A (pyIter (.ref S)) Q E s := by
  obtain ⟨o, es, ep, t, ho, hex, hd, rfl, hel, hnd, hb, hf, hr, hl⟩ := hS
  have hT : s.TypeIs (.ref S) "set" := ⟨o, ho, hex.1⟩
  have hSlt : S < s.heap.objs.size := Heap.lt_size ho
  have hkl : (es.toList.map keyOf).length = es.size := by simp
  refine wpAny_pyIter_slot hT PySem.F.slot_set_iter (wpAny_call_entry PySem.F.slot_set_iter hT FF.entry_set_iter ?_ (PySem.F.args_set_iter_1 _))
  show wpAny _ _ (Builtin.Frozenset.sizeOf S >>= _) _ _ _
  unfold Builtin.Frozenset.sizeOf setEntries
  refine wpAny_bind (wpAny_bind (wpAny_bind (wpAny_setState_of ho hd hf (wpAny_pure (wpAny_pure ?_)))))
  unfold setDrawn
  refine wpAny_bind (wpAny_bind (wpAny_setState_of ho hd hf ?_))
  dsimp only
  refine wpAny_bind (setsByText_ (wpAny_pure ?_))
  show wpAny _ _ (if (!bt w && (!t.plain && decide (es.size > 1))) = true then _ else _) _ _ _
  have old : ∀ (x : Obj) b u, s.heap.get? b = some u → (s.heap.push x).get? b = some u := fun x b u e => Heap.get?_push_of_some _ e
  by_cases hdr : (!bt w && (!t.plain && decide (es.size > 1))) = true
  · rw [if_pos hdr]
    refine wpAny_bind (draw_order es.size (List.range es.size) _ _ (by simp) fun ps d pps => ?_)
    refine wpAny_bind (wpAny_newTuple ?_ (by rw [List.length_map, pps.length_eq, List.length_range]; exact fits_of_scanBound (by simpa using hb)))
    unfold setEpoch
    refine wpAny_bind (wpAny_bind (wpAny_setState_of (s := { s with heap := s.heap.push (ptObj ps), drawn := d }) (old _ _ _ ho) hd hf (wpAny_pure ?_)))
    show wpAny _ _ (do ret (← newFields "set_iterator" [.ref s.heap.objs.size, rawInt 0, .ref S, rawInt es.size, rawInt ep])) _ _ { s with heap := s.heap.push (ptObj ps), drawn := d }
    refine wpAny_bind (wpAny_newObj_type (wpAny_pure ⟨_, rfl, "set_iterator", _, ⟨_, Heap.get?_push_size _ rfl, rfl⟩, FF.slot_si_next.lookup, ?_⟩))
    have hz : (s.heap.push (ptObj ps)).objs.size = s.heap.objs.size + 1 := Heap.size_push ..
    have n1 : S ≠ (s.heap.push (ptObj ps)).objs.size := by rw [hz]; exact Nat.ne_of_lt (Nat.lt_succ_of_lt hSlt)
    have n2 : s.heap.objs.size ≠ (s.heap.push (ptObj ps)).objs.size := by rw [hz]; exact Nat.ne_of_lt (Nat.lt_succ_self _)
    have pe : (ps.map fun p => es.getD p (0, .none)).Perm es.toList := by
      have := pps.map fun p => es.getD p (0, Value.none)
      rw [range_ents] at this
      exact this
    have plt : ∀ p ∈ ps, p < es.size := fun p hp => by simpa using pps.mem_iff.mp hp
    have ke : (es.toList.map keyOf).length = es.size := hkl
    rw [ke] at h
    refine h (s.heap.push (ptObj ps)).objs.size [(s.heap.push (ptObj ps)).objs.size, S, s.heap.objs.size] [(s.heap.push (ptObj ps)).objs.size] _ ((ps.map fun p => es.getD p (0, .none)).map (·.2)) ((ps.map fun p => es.getD p (0, .none)).map keyOf) _ d
      (fun A' hh' => walk_drawn hh' n1 n2 hd hf ps pps _ fun i p hp => ?_) ⟨Heap.get?_push_of_some _ (old _ _ _ ho), Heap.get?_push_of_some _ (Heap.get?_push_size _ rfl), Heap.get?_push_size _ rfl⟩ (fun b hb => ?_) (by simp) (fun b hb => ?_) (by simp [hz])
      (ints_of_ents fun e he => hel e (pe.mem_iff.mp he)) (pe.map _) (fun b u e => Heap.get?_push_of_some _ (Heap.get?_push_of_some _ e))
    · have hlt := plt p (List.mem_of_getElem? hp)
      refine ⟨es[p], Array.getElem?_eq_getElem hlt, ?_⟩
      rw [List.map_map, List.getElem?_map, hp]
      simp [Array.getD, hlt]
    · rw [Heap.size_push, hz]
      simp only [List.mem_cons, List.not_mem_nil, or_false] at hb
      rcases hb with rfl | rfl | rfl
      · rw [hz]; exact Nat.lt_succ_self _
      · exact Nat.lt_succ_of_lt (Nat.lt_succ_of_lt hSlt)
      · exact Nat.lt_succ_of_lt (Nat.lt_succ_self _)
    · have e : b = (s.heap.push (ptObj ps)).objs.size := by simpa using hb
      rw [e, hz]; exact Nat.le_succ _
  · rw [if_neg hdr]
    refine wpAny_bind (wpAny_pure ?_)
    unfold setEpoch
    refine wpAny_bind (wpAny_bind (wpAny_setState_of ho hd hf (wpAny_pure ?_)))
    show wpAny _ _ (do ret (← newFields "set_iterator" [rawInt 0, rawInt 0, .ref S, rawInt es.size, rawInt ep])) _ _ s
    refine wpAny_bind (wpAny_newObj_type (wpAny_pure ⟨_, rfl, "set_iterator", _, ⟨_, Heap.get?_push_size _ rfl, rfl⟩, FF.slot_si_next.lookup, ?_⟩))
    have hne : S ≠ s.heap.objs.size := Nat.ne_of_lt hSlt
    have flt : ∀ (x : Obj), ∀ b ∈ [s.heap.objs.size, S], b < (s.heap.push x).objs.size := fun x b hb => by
      rw [Heap.size_push]
      simp only [List.mem_cons, List.not_mem_nil, or_false] at hb
      rcases hb with rfl | rfl
      · exact Nat.lt_succ_self _
      · exact Nat.lt_succ_of_lt hSlt
    by_cases hbt : bt w = true
    · have pp := pick_perm (w.params.setOrder S ep) es
      have hps : (pickOrder (w.params.setOrder S ep) es).size = es.size := by rw [← Array.length_toList, pp.length_eq, Array.length_toList]
      have ke : (es.toList.map keyOf).length = es.size := hkl
      rw [ke] at h
      refine h s.heap.objs.size [s.heap.objs.size, S] [s.heap.objs.size] _ ((pickOrder (w.params.setOrder S ep) es).toList.map (·.2)) ((pickOrder (w.params.setOrder S ep) es).toList.map keyOf) _ s.drawn
        (fun A' hh' => walk_slots hh' hne hd hf ((pickOrder (w.params.setOrder S ep) es).toList.map (·.2)) (by simp [hps]) (fun _ _ => True) (fun A'' i slot s' Q' E' v _ hS' hv hq => next_text hS' hd hf hbt ?_) fun A'' slot s' Q' E' _ hS' hq => next_text hS' hd hf hbt ?_)
        ⟨old _ _ _ ho, 0, trivial, Heap.get?_push_size _ rfl⟩ (flt _) (by simp) (by simp) (by simp) (ints_of_ents fun e he => hel e (pp.mem_iff.mp he)) (pp.map _) (old _)
      · rw [List.getElem?_map, Array.getElem?_toList] at hv
        cases q : (pickOrder (w.params.setOrder S ep) es)[i]? with
        | none => rw [q] at hv; cases hv
        | some e =>
          rw [q] at hv
          cases hv
          exact hq slot trivial
      · rw [Array.getElem?_eq_none (by omega)]
        exact hq
    · have hbf : bt w = false := by cases q : bt w <;> simp_all
      have hled : t.led = true := hl.resolve_right hbt
      have hdr' : (!t.plain && decide (es.size > 1)) = false := by
        rw [hbf] at hdr
        simpa using hdr
      have hpl := fits_place hf
      have ke : (es.toList.map keyOf).length = es.size := hkl
      rw [ke] at h
      refine h s.heap.objs.size [s.heap.objs.size, S] [s.heap.objs.size] _ (es.toList.map (·.2)) (es.toList.map keyOf) _ s.drawn
        (fun A' hh' => walk_slots hh' hne hd hf (es.toList.map (·.2)) (by simp) (fun i slot => SetTable.below t.place slot = i) (fun A'' i slot s' Q' E' v hg hS' hv hq => next_places hS' hd hf hbf hdr' hled ?_) fun A'' slot s' Q' E' hg hS' hq => next_places hS' hd hf hbf hdr' hled ?_)
        ⟨old _ _ _ ho, 0, below_zero hr, Heap.get?_push_size _ rfl⟩ (flt _) (by simp) (by simp) (by simp) (ints_of_ents hel) (List.Perm.refl _) (old _)
      · rw [hg]
        rw [List.getElem?_map, Array.getElem?_toList] at hv
        cases q : es[i]? with
        | none => rw [q] at hv; cases hv
        | some e =>
          rw [q] at hv
          cases hv
          have hi : i < t.place.size := by rw [hpl]; exact (Array.getElem?_eq_some_iff.mp q).1
          rw [Array.getElem?_eq_getElem hi]
          exact hq _ (below_next hr (Array.getElem?_eq_getElem hi))
      · rw [hg, Array.getElem?_eq_none (Nat.le_refl _)]
        exact hq
end
end L2

namespace L2
open PySem PySem.Spec PyProof.Rows
namespace FF
theorem look_set_len : typeLookup (.type "set") "__len__" = pure (some (.builtin "set.__len__")) := by rw [typeLookup_type, builtinLookup_eq_fast]; kernel_rfl
end FF
section
variable {prog : Program} {w : World} {A : Around} {E : Value → Shared → Prop} {s : Shared} {S : Addr} {ks : List Int}
theorem hint_set {Q : Bool → Shared → Prop} (hT : s.TypeIs (.ref S) "set") (h : Q false s) : wpAny (model prog w) A (Builtin.List.listLengthHint (.ref S)) Q E s := by
  unfold Builtin.List.listLengthHint
  refine wpAny_bind (wpAny_specialOf hT FF.look_set_len ?_)
  (generalize hid : ("set.__len__" : String) = id0; (fail_if_success (clear hid id0)); wp_delta; rw [show splitId id0 = some ("set", "__len__") from by subst hid; decide +kernel]; subst hid)
  refine wpAny_bind (wpAny_isInstance (b := true) hT sub_set_self ?_)
  simp only [Bool.not_true, Bool.false_eq_true, if_false]
  refine wpAny_bind (wpAny_typeOf hT ?_)
  exact wpAny_pure h
theorem collect_setG {Q : List Value → Shared → Prop} (hh : A.handled = none) (hS : SetG w s.heap S ks)
    (h : ∀ (vs : List Value) (ns : List Int) (h' : Heap) (d' : Drawn) (tk : Nat), IntsAre vs ns → ns.Perm ks → (∀ b o, s.heap.get? b = some o → h'.get? b = some o) → s.heap.objs.size < h'.objs.size → Q vs { s with heap := h', drawn := d', toks := tk }) :
    wpAny (model prog w) A (collect (.ref S)) Q E s := by
  have hSlt := hS.lt
  have hkb : ks.length ≤ sizeLine := by obtain ⟨_, _, _, _, _, _, _, _, _, _, hb, _⟩ := hS; exact fits_of_scanBound hb
  unfold collect
  refine wpAny_bind (wpAny_runValue (codeAny_builtin PySem.F.entry_proto_collect ?_))
  rw [Around.under_plainId PySem.F.plain_proto_collect _]
  show wpAny _ A.in1 (newList [] >>= fun l => again (.builtin "list.__iadd__" ⟨[l, .ref S], []⟩)) _ _ s
  refine wpAny_bind (wpAny_newObj_type ?_)
  refine wpAny_pure ⟨plainId_quiet PySem.F.plain_list_iadd _, codeAny_builtin PySem.F.entry_list_iadd ?_⟩
  rw [Around.under_plainId PySem.F.plain_list_iadd _]
  generalize hh1 : s.heap.push { cls := .type "list", data := .seq ([] : List Value).toArray } = h1
  have z1 : h1.objs.size = s.heap.objs.size + 1 := by rw [← hh1]; exact Heap.size_push ..
  have old1 : ∀ b o, s.heap.get? b = some o → h1.get? b = some o := fun b o e => by rw [← hh1]; exact Heap.get?_push_of_some _ e
  have hL1 : h1.get? s.heap.objs.size = some { cls := .type "list", data := .seq #[] } := by rw [← hh1]; exact Heap.get?_push_size _ rfl
  have hS1 : SetG w h1 S ks := hS.at fun o e => old1 _ _ e
  have hT1 : Shared.TypeIs { s with heap := h1 } (.ref S) "set" := by obtain ⟨o, _, _, _, e, x, _⟩ := hS1; exact ⟨o, e, x.1⟩
  have hne : (s.heap.objs.size == S) = false := by simpa using (Nat.ne_of_gt hSlt)
  have h0 : Builtin.List.listSameRef (.ref s.heap.objs.size) (.ref S) = false := hne
  show wpAny _ A.in1 (Builtin.List.listExtendWith (.ref s.heap.objs.size) (.ref S) (.ref s.heap.objs.size)) _ _ _
  unfold Builtin.List.listExtendWith
  refine wpAny_bind (wpAny_typeOf hT1 ?_)
  rw [if_neg (by rw [h0]; decide)]
  refine wpAny_bind (iter_setG hS1 fun I fp wr St vs ns h2 d2 W st2 ft2 hI hw2 hf2 hi2 hp2 old2 => ?_)
  have hS2 : SetG w h2 S ks := hS1.at fun o e => old2 _ _ e
  have hT2 : Shared.TypeIs { s with heap := h2, drawn := d2 } (.ref S) "set" := by obtain ⟨o, _, _, _, e, x, _⟩ := hS2; exact ⟨o, e, x.1⟩
  have hL2 := old2 _ _ hL1
  refine wpAny_bind (wpAny_holding (hint_set hT2 ?_))
  rw [if_pos (by rfl)]
  refine wpAny_bind (wpAny_rule ?_)
  unfold Builtin.List.listTouch
  refine wpAny_bind (wpAny_bind (listUpdate_at hL2 rfl ?_))
  have hL3 := get?_update_seq hL2 (fun xs : Array Value => xs.push .none)
  refine listUpdate_at hL3 rfl ?_
  have hL4 := get?_update_seq hL3 (fun xs : Array Value => xs.pop)
  have hLf : s.heap.objs.size ∉ fp := fun hm => by
    rcases hf2 _ hm with z | z
    · exact absurd hSlt (by rw [← z]; exact Nat.lt_irrefl _)
    · rw [show Shared.heap { s with heap := h1 } = h1 from rfl, z1] at z
      exact absurd z (Nat.not_succ_le_self _)
  have W' := (W A.in1 (show A.in1.handled = none from hh)).toS
  have up : ∀ b ∈ fp, ∀ o, h2.get? b = some o → ((h2.update s.heap.objs.size (Obj.mapSeq fun xs : Array Value => xs.push .none)).update s.heap.objs.size (Obj.mapSeq fun xs : Array Value => xs.pop)).get? b = some o := fun b hb o e => by
    have hb' : s.heap.objs.size ≠ b := fun z => hLf (by rw [z]; exact hb)
    rw [Heap.get?_update_other _ _ hb', Heap.get?_update_other _ _ hb']
    exact e
  have st4 := (W A.in1 (show A.in1.handled = none from hh)).frame 0 _ _ st2 up
  refine wpAny_pure ⟨plainId_quiet PySem.F.plain_extend_loop _, codeAny_extend_loopS W' hkb s.heap.objs.size hLf _ ks.length 0 _ _ _ rfl (Nat.zero_le _) st4 hL4 (ItemsOf.nil _) fun s' acc' c' hm hS' hacc => ?_⟩
  show wpAny _ A (load s.heap.objs.size >>= _) _ _ s'
  refine wpAny_bind (wpAny_load hS' (wpAny_pure ?_))
  obtain ⟨h5, g5, d5, t5, o5⟩ := s'
  obtain rfl : g5 = s.gens := hm.gens
  obtain rfl : d5 = d2 := hm.drawn
  obtain rfl : o5 = s.os := hm.os
  have ev : acc'.toList = vs := by
    have hvl : vs.length = ks.length := by rw [IntsAre.length hi2, hp2.length_eq]
    apply List.ext_getElem?
    intro i
    rw [Array.getElem?_toList]
    cases q : acc'[i]? with
    | some v => exact (hacc.2 i v q).symm
    | none =>
      have : acc'.size ≤ i := by simpa using q
      rw [List.getElem?_eq_none (by have := hacc.1; omega)]
  show Q acc'.toList _
  rw [ev]
  refine h vs ns h5 d5 t5 hi2 hp2 (fun b o e => ?_) (Heap.lt_size hS')
  have hbL : b ≠ s.heap.objs.size := Nat.ne_of_lt (Heap.lt_size e)
  refine hm.heap b o (fun z => ?_) ?_
  · rcases List.mem_cons.mp z with z | z
    · exact hbL z
    · have := hw2 b z
      rw [show Shared.heap { s with heap := h1 } = h1 from rfl, z1] at this
      exact absurd (Heap.lt_size e) (Nat.not_lt.mpr (Nat.le_of_succ_le this))
  · show ((h2.update _ _).update _ _).get? b = some o
    rw [Heap.get?_update_other _ _ (Ne.symm hbL), Heap.get?_update_other _ _ (Ne.symm hbL)]
    exact old2 _ _ (old1 _ _ e)
end
end L2

namespace L2
open PySem PySem.Spec PyProof.Rows
section
variable {prog : Program} {w : World} {A : Around} {E : Value → Shared → Prop} {s : Shared} {S : Addr} {ks : List Int}
theorem sortedG {Q : Value → Shared → Prop} (hh : A.handled = none) (hS : SetG w s.heap S ks) (h64 : ks.length < 64)
    (h : ∀ (L : Addr) (n : Nat) (out : Array Value) (ns : List Int) (h' : Heap) (d' : Drawn) (tk : Nat), IntsAre out.toList ns → ns.Perm ks → ns.Pairwise (· ≤ ·) → h'.get? L = some (seqObj "list" out n) → s.heap.objs.size ≤ L →
      (∀ b o, s.heap.get? b = some o → h'.get? b = some o) → Q (.ref L) { s with heap := h', drawn := d', toks := tk }) :
    wpAny (model prog w) A (call (.builtin "sorted") [.ref S]) Q E s := by
  refine Calls.call_function_entry kind_sorted plain_sorted entry_sorted (args_sorted1 _) ?_
  unfold Builtin.«sorted»
  refine wpAny_bind (m := checkCount "sorted" 1 1 _) (wpAny_pure ?_)
  refine wpAny_bind (collect_setG hh hS fun vs ns h2 d2 t2 hi hp old hlt => ?_)
  have hvl : vs.length < 64 := by rw [IntsAre.length hi, hp.length_eq]; exact h64
  refine wpAny_bind (wpAny_newList ?_ (by rw [sizeLine_eq]; omega))
  have hoL : (h2.push (seqObj "list" vs.toArray 0)).get? h2.objs.size = some (seqObj "list" vs.toArray 0) := Heap.get?_push_size _ rfl
  show wpAny _ _ _ _ _ { s with heap := h2.push (seqObj "list" vs.toArray 0), drawn := d2, toks := t2 }
  refine wpAny_bind (wpAny_holding (wpAny_call_entry slot_list_sort ⟨_, hoL, rfl⟩ entry_list_sort (list_sort_tree hoL hi hvl fun out ns' a1 a2 a3 => ⟨_, rfl, ?_⟩) (args_list_sort _)))
  have hz : s.heap.objs.size ≤ h2.objs.size := Nat.le_of_lt hlt
  have keep : ∀ b o, s.heap.get? b = some o → (sortedHeap (h2.push (seqObj "list" vs.toArray 0)) h2.objs.size vs out).get? b = some o := fun b o e => by
    have e2 := old b o e
    have hb : b < h2.objs.size := Heap.lt_size e2
    unfold sortedHeap
    rw [Heap.get?_update_other _ _ (Nat.ne_of_gt hb)]
    refine Heap.get?_push_of_some _ (Heap.get?_push_of_some _ ?_)
    rw [Heap.get?_update_other _ _ (Nat.ne_of_gt hb)]
    exact Heap.get?_push_of_some _ e2
  have ho1 := get?_update_seq hoL (fun _ => (#[] : Array Value))
  have ho3 := get?_update_seq (Heap.get?_push_of_some (seqObj "list" #[] 0) (Heap.get?_push_of_some (seqObj "tuple" vs.toArray 0) ho1)) (fun _ => out)
  exact wpAny_pure ⟨_, rfl, h h2.objs.size _ out ns' _ d2 t2 a1 (a2.trans hp) a3 ho3 hz keep⟩
end
end L2

namespace L2
open PySem PySem.Spec PyProof.Rows
section
variable {prog : Program} {w : World} {A : Around} {E : Value → Shared → Prop} {s : Shared}
end
end L2

namespace L2
open PySem PySem.Spec PyProof.Rows
section
variable {prog : Program} {w : World} {A : Around} {E : Value → Shared → Prop} {s : Shared}
end
end L2

namespace L2
open PySem PySem.Spec PyProof.Rows
namespace FF
end FF
section
variable {prog : Program} {w : World} {A : Around} {E : Value → Shared → Prop} {s : Shared}
theorem SetG.type {h : Heap} {a : Addr} {ks : List Int} (g : SetG w h a ks) {s' : Shared} (e : s'.heap = h) : s'.TypeIs (.ref a) "set" := by
  obtain ⟨o, _, _, _, ho, x, _⟩ := g
  exact ⟨o, by rw [e]; exact ho, x.1⟩
end
end L2

namespace L2
open PySem PySem.Spec PyProof.Rows
section
variable {prog : Program} {w : World} {A : Around} {E : Value → Shared → Prop} {s : Shared}
end
end L2

namespace L2
open PySem PySem.Spec PyProof.Rows
/-! ### a table that is laid anew has room -/
def lg (mask i : Nat) : Nat := (i * 5 + 1) % (mask + 1)
def lit (mask : Nat) : Nat → Nat → Nat
  | 0, i => i
  | t + 1, i => lit mask t (lg mask i)
end L2

namespace L2
open PySem PySem.Spec PyProof.Rows
def SetT (w : World) (h : Heap) (a : Addr) (ks : List Int) (o : Obj) (es : Array (Int × Value)) (ep : Nat) (t : SetTable) : Prop := h.get? a = some o ∧ o.ExactSet ∧ o.data = .set es ep t ∧
  es.toList.map keyOf = ks ∧ (∀ e ∈ es.toList, EntOk e) ∧ ks.Nodup ∧ ks.length < scanBound ∧ t.fits es.size = true ∧ Rise t.place ∧ (t.led = true ∨ bt w = true)
theorem SetT.g {w : World} {h : Heap} {a : Addr} {ks : List Int} {o : Obj} {es : Array (Int × Value)} {ep : Nat} {t : SetTable} (x : SetT w h a ks o es ep t) : SetG w h a ks := ⟨o, es, ep, t, x⟩
section
variable {prog : Program} {w : World} {A : Around} {E : Value → Shared → Prop} {s : Shared}
end
end L2

namespace L2
open PySem PySem.Spec PyProof.Rows
section
variable {prog : Program} {w : World} {A : Around} {E : Value → Shared → Prop} {s : Shared}
end
end L2

namespace L2
open PySem PySem.Spec PyProof.Rows
/-! ### sets of ints, tracked -/
def setO (w : World) (a : Addr) (ks : List Int) : HO := HO.ext fun h => SetG w h a ks
theorem setO_new {P : Program} {w : World} {H : Hp} {h : Heap} {a : Addr} {ks : List Int} (g : SetG w h a ks) : ObjOk P w H h a (setO w a ks) := by
  refine ⟨g, ?_, fun h1 h2 g1 k => g1.at k⟩
  obtain ⟨o, _, _, _, e, _⟩ := g
  exact ⟨o, e⟩
theorem setO_get {P : Program} {w : World} {H : Hp} {h : Heap} {a : Addr} {ks : List Int} (x : HOk P w H h) (e : H a = some (setO w a ks)) : SetG w h a ks := (x a _ e).1
theorem SetG.nodup {w : World} {h : Heap} {a : Addr} {ks : List Int} (g : SetG w h a ks) : ks.Nodup := by
  obtain ⟨_, _, _, _, _, _, _, _, _, n, _⟩ := g
  exact n
theorem ints_of_vals : ∀ {ns : List Int} {us : List Value}, Vals (ns.map V.int) us → IntsAre us ns
  | [], _, .nil => .nil
  | n :: r, _, .cons h t => by
    obtain ⟨tk, rfl⟩ := (show ∃ t, _ = Value.int n t from h)
    exact .cons n tk (ints_of_vals t)
theorem vals_of_ints : ∀ {ns : List Int} {us : List Value}, IntsAre us ns → Vals (ns.map V.int) us
  | _, _, .nil => .nil
  | _, _, .cons n t h => .cons ⟨t, rfl⟩ (vals_of_ints h)
section
variable {X : Cx} {pins : List (Addr × Obj)} {σ : St} {H : Hp} {s : Shared} {h' : Heap} {a : Addr} {o : HO}
theorem Inv.laidD {t' : Nat} {d' : Drawn} (I : Inv X pins σ H s) (k : ∀ b u, s.heap.get? b = some u → h'.get? b = some u) (hp : s.heap.objs.size ≤ a)
    (new : ObjOk X.prog X.w (upd H a o) h' a o) : Inv X pins σ (upd H a o) { s with heap := h', drawn := d', toks := t' } := by
  have hn : H a = none := I.hok.fresh hp
  refine I.step (g' := s.gens) (d' := d') (ch := []) (fun b hb => by simp at hb) (fun b u _ _ _ e _ => k b u e) (fun b u _ _ _ e _ => ⟨u.slots, k b u e⟩)
    (fun b u _ e n => by rw [upd_ne (Nat.ne_of_lt (Nat.lt_of_lt_of_le (Heap.lt_size e) hp))]; exact n)
    (fun b u _ e => ⟨u, k b u e⟩) (fun b xs e => by rw [upd_ne (ne_of_none e hn)]; exact e) (fun b u v e => by rw [upd_ne (ne_of_none e hn)]; exact e) (fun b ps e => ⟨#[], by rw [upd_ne (ne_of_none e hn), e]; simp⟩) (fun m hm => ?_) (I.hok.laid k hp new) I.bare
  obtain ⟨u, es, ep, ho, r⟩ := hm
  exact ⟨u, es, ep, k _ u ho, r⟩
end
section
variable {X : Cx}
def rSortedS (w : World) : List V → Hp → VK → Prop := fun xs H Q => ∃ (a : Addr) (ks : List Int), xs = [.ref a] ∧ H a = some (setO w a ks) ∧ ks.length < 64 ∧ ∀ (l : Addr) (ns : List Int), H l = none → ns.Perm ks → ns.Pairwise (· ≤ ·) → Q (.ref l) (upd H l (.lst (ns.map V.int)))
theorem call_sortedS (hc : X.calm = true) : CallR X (.builtin "sorted") (rSortedS X.w) := by
  intro pins s σ H xs us Q I r h
  obtain ⟨a, ks, rfl, ha, hl, q⟩ := h
  obtain ⟨u, rfl, rx⟩ := vals1 r
  cases rx
  refine sortedG (I.ok.hd hc) (setO_get I.hok ha) hl fun L n out ns h' d' tk hi hp hs hL hz old => ?_
  refine ⟨.ref L, _, I.laidD (d' := d') old hz (o := .lst (ns.map V.int)) ⟨?_, out.toList, n, vals_of_ints hi, by simpa using hL⟩, rfl, q _ ns (I.hok.fresh hz) hp hs⟩
  rw [List.length_map, hp.length_eq, sizeLine_eq]; omega
end
/-! the rules with the written part and the world named -/
section
variable {X : Cx} {K : PySem.W.Frag} {w : World}
theorem cSortedS (hw : X.w = w) (hc : X.calm = true) : CallR X (.builtin "sorted") (rSortedS w) := by subst hw; exact call_sortedS hc
end
section
variable {σ : St} {H : Hp} {Q : VK} {K : PySem.W.Frag} {w : World}
theorem i_sortedS {a : Addr} {ks : List Int} (h : H a = some (setO w a ks)) (l : ks.length < 64) (q : ∀ (l : Addr) (ns : List Int), H l = none → ns.Perm ks → ns.Pairwise (· ≤ ·) → Q (.ref l) (upd H l (.lst (ns.map V.int)))) : rSortedS w [.ref a] H Q := ⟨a, ks, rfl, h, l, q⟩
end
end L2

namespace L2
open PySem PySem.Spec PyProof.Rows
/-! ### data that are alike compare as equal -/
section
variable {X : Cx} {pins : List (Addr × Obj)} {σ : St} {H : Hp} {s : Shared}
theorem lstAt (I : Inv X pins σ H s) {a : Addr} {vs : List V} (e : H a = some (.lst vs)) : ∃ its : List Value, Vals vs its ∧ s.heap.IsList a its.toArray := by
  obtain ⟨_, its, n, r, h⟩ := (show ObjOk X.prog X.w H s.heap a (.lst vs) from I.hok a _ e)
  exact ⟨its, r, ⟨_, h, rfl, n, rfl⟩⟩
end
section
variable {X : Cx}
end
end L2

namespace L2
open PySem PySem.Spec PyProof.Rows
/-! ### U. loops with a count, append, list + list, in; rising lists -/
section
variable {σ : St} {H : Hp} {Q : VK} {K : PySem.W.Frag} {D : Ends}
def ForT (J : It) (g : TG) (tb : TS) (D : Ends) (σ : St) (H1 : Hp) : Prop := ∃ W : Nat → Nat → St → Hp → Prop, (∃ m, W 0 m σ H1) ∧ ∀ i m σ H, W i m σ H →
  (J.stop i H ∧ D.nx σ H) ∨ (J.go i H ∧ ∃ N : St → Hp → Prop, (∀ σ' H', N σ' H' → ∃ m', m' < m ∧ W (i + 1) m' σ' H') ∧ ∀ x H', J.yld i H x H' → g x σ H' fun σ2 H2 => tb { D with nx := N, ct := N, bk := D.nx } σ2 H2)
theorem i_for {wi : TI} {g : TG} {tb : TS} (q : wi σ H fun J H1 => ForT J g tb D σ H1) : tFor wi g tb D σ H := q
theorem forW {J : It} {g : TG} {tb : TS} (W : Nat → St → Hp → Prop) (n : Nat) (w0 : W 0 σ H) (fin : ∀ σ' H', W n σ' H' → J.stop n H' ∧ D.nx σ' H')
    (step : ∀ i σ' H', i < n → W i σ' H' → J.go i H' ∧ ∀ x H2, J.yld i H' x H2 → g x σ' H2 fun σ3 H3 => tb { D with nx := W (i + 1), ct := W (i + 1), bk := D.nx } σ3 H3) : ForT J g tb D σ H := by
  refine ⟨fun i m σ' H' => i ≤ n ∧ m = n - i ∧ W i σ' H', ⟨n, Nat.zero_le _, rfl, w0⟩, ?_⟩
  rintro i m σ' H' ⟨hi, rfl, hw⟩
  rcases Nat.lt_or_ge i n with hlt | hge
  · right
    obtain ⟨g1, g2⟩ := step i σ' H' hlt hw
    exact ⟨g1, W (i + 1), fun σ2 H2 w2 => ⟨n - (i + 1), by omega, by omega, rfl, w2⟩, g2⟩
  · left
    obtain rfl : i = n := by omega
    exact fin _ _ hw
theorem compW {J : It} {g : TG} {tt : TT} {te : TE} {Fin : List V → Hp → Prop} (W : Nat → List V → St → Hp → Prop) (n : Nat) (w0 : W 0 [] σ H) (fin : ∀ ys σ' H', W n ys σ' H' → J.stop n H' ∧ Fin ys H')
    (step : ∀ i ys σ' H', i < n → W i ys σ' H' → J.go i H' ∧ ys.length < sizeLine ∧ ∀ x H2, J.yld i H' x H2 → g x σ' H2 fun σ3 H3 => tt σ3 H3 fun b H4 => if b = true then te σ3 H4 fun y H5 => ∃ m', m' < n - i ∧ (i + 1 ≤ n ∧ m' = n - (i + 1) ∧ W (i + 1) (ys ++ [y]) σ3 H5) else ∃ m', m' < n - i ∧ (i + 1 ≤ n ∧ m' = n - (i + 1) ∧ W (i + 1) ys σ3 H4)) : CompT J g tt te Fin σ H := by
  refine ⟨fun i m ys σ' H' => i ≤ n ∧ m = n - i ∧ W i ys σ' H', ⟨n, Nat.zero_le _, rfl, w0⟩, ?_⟩
  rintro i m ys σ' H' ⟨hi, rfl, hw⟩
  rcases Nat.lt_or_ge i n with hlt | hge
  · right
    exact step i ys σ' H' hlt hw
  · left
    obtain rfl : i = n := by omega
    exact fin _ _ _ hw
theorem nxt {n i : Nat} {A : Prop} (h : i < n) (a : A) : ∃ m', m' < n - i ∧ (i + 1 ≤ n ∧ m' = n - (i + 1) ∧ A) := ⟨n - (i + 1), by omega, h, rfl, a⟩
theorem i_bm {T : String} {r : V → List V → Hp → VK → Prop} {to : TE} {t : TA} (q : to σ H fun x H1 => tyV K T x H1 ∧ t σ H1 fun xs H2 => r x xs H2 Q) : tBM K T r to t σ H Q := q
theorem i_app {l : Addr} {xs : List V} {y : V} (h : H l = some (.lst xs)) (z : xs.length < sizeLine) (q : Q .non (upd H l (.lst (xs ++ [y])))) : rAppend (.ref l) [y] H Q := ⟨l, xs, y, rfl, rfl, h, z, q⟩
theorem i_cat {a b : Addr} {xs zs : List V} (h1 : H a = some (.lst xs)) (h2 : H b = some (.lst zs)) (l : xs.length + zs.length ≤ sizeLine) (q : ∀ p, H p = none → Q (.ref p) (upd H p (.lst (xs ++ zs)))) : rCat (.ref a) (.ref b) H Q := ⟨a, b, xs, zs, rfl, rfl, h1, h2, l, q⟩
theorem inV_int (z : Int) : ∀ ns : List Int, inV (.int z) (ns.map V.int) = decide (z ∈ ns)
  | [] => by simp [inV]
  | n :: r => by
    have ih := inV_int z r
    unfold inV at ih ⊢
    rw [List.map_cons, List.any_cons, ih]
    show ((n == z) || decide (z ∈ r)) = _
    by_cases e : n = z
    · subst e; simp
    · have e' : ¬ z = n := fun q => e q.symm
      simp [e, e']
theorem flat_ints (ns : List Int) : (ns.map V.int).all flatV = true := by simp [flatV]
theorem i_inI {p : Addr} {ns : List Int} {z : Int} (h : SqL K H p (ns.map V.int)) (q : Q (.bl (decide (z ∈ ns))) H) : rIn K false (.int z) (.ref p) H Q := by
  refine ⟨p, _, rfl, .inl h, rfl, flat_ints ns, ?_⟩
  rw [inV_int]
  exact q
end
section
variable {X : Cx} {K : PySem.W.Frag} {o e : Expr} {es : List Expr} {to : TE} {t : TA} {apos cpos : Pos}
theorem mApp (h : X.K = K) (ho : PE X o to) (ha : PA X (e :: es) t)
    (hbase : attributeBase o "append" X.env (eval o X.env) = eval o X.env := by rfl)
    (hfew : ((backTo cpos (starEach (e :: es) X.env)).all (fun x => !x.1) && (backToKw cpos (keywordEach [] X.env)).all (fun x => x.1.isSome)
      && decide ((e :: es).length + ([] : List Keyword).length + (if ([] : List Keyword).isEmpty then 0 else 1) < 30)) = true := by rfl)
    (hline : (apos.endLine == cpos.line) = true := by rfl) (hs : starEach (e :: es) X.env = (false, eval e X.env) :: starEach es X.env := by rfl) (hplain : (backTo cpos (starEach es X.env)).any (·.1) = false := by rfl) :
    PE X (.Call (.Attribute o "append" apos) (e :: es) [] cpos) (tBM K "list" rAppend to t) := by
  subst h
  exact pe_bm PySem.F.plainAttrs_list PySem.F.slot_list_append PySem.F.type_list_append mt_append ho ha hbase hfew hline hs hplain
end
/-! rising lists of ints -/
/-- strictly rising, and its members are just these -/
def Ris (rs : List Int) (P : Int → Prop) : Prop := rs.Pairwise (· < ·) ∧ ∀ x, x ∈ rs ↔ P x
theorem Ris.eq : ∀ {rs qs : List Int} {P : Int → Prop}, Ris rs P → Ris qs P → rs = qs
  | [], [], _, _, _ => rfl
  | [], q :: qs, P, h1, h2 => by
    have := (h1.2 q).mpr ((h2.2 q).mp List.mem_cons_self)
    cases this
  | r :: rs, [], P, h1, h2 => by
    have := (h2.2 r).mpr ((h1.2 r).mp List.mem_cons_self)
    cases this
  | r :: rs, q :: qs, P, h1, h2 => by
    obtain ⟨p1, m1⟩ := h1
    obtain ⟨p2, m2⟩ := h2
    rw [List.pairwise_cons] at p1 p2
    have a1 : r ∈ q :: qs := (m2 r).mpr ((m1 r).mp List.mem_cons_self)
    have a2 : q ∈ r :: rs := (m1 q).mpr ((m2 q).mp List.mem_cons_self)
    have e : r = q := by
      rcases List.mem_cons.mp a1 with z | z
      · exact z
      · rcases List.mem_cons.mp a2 with y | y
        · exact y.symm
        · have := p2.1 r z
          have := p1.1 q y
          omega
    subst e
    refine congrArg _ (Ris.eq (P := fun x => P x ∧ x ≠ r) ⟨p1.2, fun x => ?_⟩ ⟨p2.2, fun x => ?_⟩)
    · constructor
      · intro hx
        exact ⟨(m1 x).mp (List.mem_cons_of_mem _ hx), fun z => by have := p1.1 x hx; omega⟩
      · rintro ⟨hx, hn⟩
        rcases List.mem_cons.mp ((m1 x).mpr hx) with z | z
        · exact absurd z hn
        · exact z
    · constructor
      · intro hx
        exact ⟨(m2 x).mp (List.mem_cons_of_mem _ hx), fun z => by have := p2.1 x hx; omega⟩
      · rintro ⟨hx, hn⟩
        rcases List.mem_cons.mp ((m2 x).mpr hx) with z | z
        · exact absurd z hn
        · exact z
theorem nodup_le : ∀ {ks ns : List Int}, ks.Nodup → (∀ x ∈ ks, x ∈ ns) → ks.length ≤ ns.length
  | [], _, _, _ => Nat.zero_le _
  | k :: r, ns, h, m => by
    rw [List.nodup_cons] at h
    have hk := m k List.mem_cons_self
    have := nodup_le (ks := r) (ns := ns.erase k) h.2 fun x hx => (List.mem_erase_of_ne (fun z => h.1 (by rw [← z]; exact hx))).mpr (m x (List.mem_cons_of_mem _ hx))
    rw [List.length_erase_of_mem hk] at this
    have hp : 0 < ns.length := List.length_pos_of_mem hk
    rw [List.length_cons]
    omega
theorem Ris.nodup {rs : List Int} {P : Int → Prop} (h : Ris rs P) : rs.Nodup := h.1.imp (fun q z => by omega)
theorem Ris.len {rs ks : List Int} {P : Int → Prop} (h : Ris rs P) (n : ks.Nodup) (m : ∀ x, x ∈ ks ↔ P x) : ks.length = rs.length :=
  Nat.le_antisymm (nodup_le n fun x hx => (h.2 x).mpr ((m x).mp hx)) (nodup_le h.nodup fun x hx => (m x).mpr ((h.2 x).mp hx))
theorem ris_of {ns ks : List Int} {P : Int → Prop} (p : ns.Perm ks) (s : ns.Pairwise (· ≤ ·)) (n : ks.Nodup) (m : ∀ x, x ∈ ks ↔ P x) : Ris ns P := by
  refine ⟨?_, fun x => (p.mem_iff).trans (m x)⟩
  have nd : ns.Nodup := p.nodup_iff.mpr n
  exact (s.and nd).imp fun ⟨a, b⟩ => by omega
theorem Ris.filter {rs : List Int} {P : Int → Prop} {f : Int → Bool} (h : Ris rs P) : Ris (rs.filter f) (fun x => P x ∧ f x = true) :=
  ⟨h.1.filter f, fun x => by rw [List.mem_filter, h.2 x]⟩
theorem Ris.imp {rs : List Int} {P R : Int → Prop} (h : Ris rs P) (e : ∀ x, P x ↔ R x) : Ris rs R := ⟨h.1, fun x => (h.2 x).trans (e x)⟩
end L2

namespace L2
open PySem PySem.Spec PyProof.Rows
/-! ### V. ranges as lists, lists turned about, pop at a place, min, max, == of lists of ints -/
def rangeI (lo : Int) (n : Nat) : List Int := (List.range n).map fun (k : Nat) => lo + (k : Int)
theorem rangeI_length (lo : Int) (n : Nat) : (rangeI lo n).length = n := by simp [rangeI]
theorem vals_of_get : ∀ {xs : List V} {us : List Value}, xs.length = us.length → (∀ (k : Nat) x u, xs[k]? = some x → us[k]? = some u → RelV x u) → Vals xs us
  | [], [], _, _ => .nil
  | [], _ :: _, e, _ => by cases e
  | _ :: _, [], e, _ => by cases e
  | x :: r, u :: z, e, h => .cons (h 0 x u rfl rfl) (vals_of_get (by simpa using e) fun k a b e1 e2 => h (k + 1) a b (by simpa using e1) (by simpa using e2))
section
variable {X : Cx} {K : PySem.W.Frag}
def rRng2 : List V → Hp → VK → Prop := fun xs H Q => ∃ (i j : Int), xs = [.int i, .int j] ∧ ∀ l, H l = none → Q (.ref l) (upd H l (.rng i j))
theorem cRng2 : CallR X (.type "range") rRng2 := by
  intro pins s σ H xs us Q I r h
  obtain ⟨i, j, rfl, q⟩ := h
  obtain ⟨u, w', rfl, ⟨t, rfl⟩, ⟨t', rfl⟩⟩ := vals2 r
  refine call_range_2 ?_
  exact ⟨.ref s.heap.objs.size, _, I.laid (t' := s.toks + 1) (o := .rng i j) (fun b ob q => Heap.get?_push_of_some _ q) (Nat.le_refl _) ⟨_, _, _, Heap.get?_push_size _ rfl⟩, rfl, q _ (I.hok.fresh (Nat.le_refl _))⟩
def rListRng : List V → Hp → VK → Prop := fun xs H Q => ∃ (p : Addr) (i j : Int), xs = [.ref p] ∧ H p = some (.rng i j) ∧ -(2 ^ 62) ≤ i ∧ j < 2 ^ 62 ∧ i ≤ 2 ^ 61 ∧ -(2 ^ 61) ≤ j ∧ (j - i).toNat ≤ 1000 ∧ ∀ l, H l = none → Q (.ref l) (upd H l (.lst ((rangeI i (j - i).toNat).map V.int)))
theorem cListRng (hc : X.calm = true) : CallR X (.type "list") rListRng := by
  intro pins s σ H xs us Q I r h
  obtain ⟨p, i, j, rfl, hp, h1, h2, h3, h4, hn, q⟩ := h
  obtain ⟨u, rfl, rx⟩ := vals1 r
  cases rx
  obtain ⟨t, u', v, hg⟩ := I.hok p _ hp
  have hs : Builtin.Range.rangeSize i j 1 = (((j - i).toNat : Nat) : Int) := by rw [rangeSize_one]; split <;> omega
  refine call_list_range (n := (j - i).toNat) (I.ok.hd hc) hg (small_one h1 (by omega) (by omega) h2) hs (by omega) fun h' tk acc c old hL items => ?_
  refine ⟨.ref s.heap.objs.size, _, I.laid (t' := tk) (o := .lst ((rangeI i (j - i).toNat).map V.int)) old (Nat.le_refl _) ⟨?_, acc.toList, c, ?_, by simpa using hL⟩, rfl, q _ (I.hok.fresh (Nat.le_refl _))⟩
  · rw [List.length_map, rangeI_length]
    exact Nat.le_trans hn (by decide)
  · refine vals_of_get (by rw [List.length_map, rangeI_length]; exact items.1.symm) fun k x v e1 e2 => ?_
    obtain ⟨t2, rfl⟩ := items.2 k v (by simpa using e2)
    have hk : k < (j - i).toNat := by
      rcases Nat.lt_or_ge k (j - i).toNat with q | q
      · exact q
      · rw [List.getElem?_eq_none (by rw [List.length_map, rangeI_length]; exact q)] at e1; cases e1
    have e3 : ((rangeI i (j - i).toNat).map V.int)[k]? = some (.int (i + (k : Int))) := by simp [rangeI, List.getElem?_range hk]
    rw [e3] at e1
    cases e1
    exact ⟨t2, by rw [Int.mul_one]⟩
def rMax2 : List V → Hp → VK → Prop := fun xs H Q => ∃ i j, xs = [.int i, .int j] ∧ Q (.int (if j > i then j else i)) H
def rMin2 : List V → Hp → VK → Prop := fun xs H Q => ∃ i j, xs = [.int i, .int j] ∧ Q (.int (if j < i then j else i)) H
def rInt1 : List V → Hp → VK → Prop := fun xs H Q => (∃ i, xs = [.int i] ∧ Q (.int i) H) ∨ ∃ k, xs = [.bl k] ∧ Q (.int (if k then 1 else 0)) H
theorem cMax2 (hc : X.calm = true) : CallR X (.builtin "max") rMax2 := call_max2 hc
theorem cMin2 (hc : X.calm = true) : CallR X (.builtin "min") rMin2 := call_min2 hc
theorem cInt1 : CallR X (.type "int") rInt1 := call_int1
/-! a list turned about -/
def tRev (K : PySem.W.Frag) (te : TE) (ts : TO) : TE := fun σ H Q => te σ H fun x H1 => ts σ H1 fun st H2 => ∃ a xs, x = .ref a ∧ st = some (-1) ∧ SqL K H2 a xs ∧ ∀ p, H2 p = none → Q (.ref p) (upd H2 p (.lst xs.reverse))
end
section
variable {X : Cx} {K : PySem.W.Frag} {o e : Expr} {es : List Expr} {to : TE} {t : TA} {apos cpos : Pos}
end
section
variable {σ : St} {H : Hp} {Q : VK} {K : PySem.W.Frag}
theorem i_rng2 {i j : Int} (q : ∀ l, H l = none → Q (.ref l) (upd H l (.rng i j))) : rRng2 [.int i, .int j] H Q := ⟨i, j, rfl, q⟩
theorem i_listRng {p : Addr} {i j : Int} (h : H p = some (.rng i j)) (h1 : -(2 ^ 61) ≤ i) (h2 : i ≤ 2 ^ 61) (h3 : -(2 ^ 61) ≤ j) (h4 : j ≤ 2 ^ 61) (hn : (j - i).toNat ≤ 1000) (q : ∀ l, H l = none → Q (.ref l) (upd H l (.lst ((rangeI i (j - i).toNat).map V.int)))) : rListRng [.ref p] H Q :=
  ⟨p, i, j, rfl, h, by omega, by omega, h2, h3, hn, q⟩
theorem i_max2 {i j : Int} (q : Q (.int (if j > i then j else i)) H) : rMax2 [.int i, .int j] H Q := ⟨i, j, rfl, q⟩
theorem i_min2 {i j : Int} (q : Q (.int (if j < i then j else i)) H) : rMin2 [.int i, .int j] H Q := ⟨i, j, rfl, q⟩
theorem i_intB {k : Bool} (q : Q (.int (if k then 1 else 0)) H) : rInt1 [.bl k] H Q := .inr ⟨k, rfl, q⟩
theorem i_rev {te : TE} {ts : TO} (q : te σ H fun x H1 => ts σ H1 fun st H2 => ∃ a xs, x = .ref a ∧ st = some (-1) ∧ SqL K H2 a xs ∧ ∀ p, H2 p = none → Q (.ref p) (upd H2 p (.lst xs.reverse))) : tRev K te ts σ H Q := q
end

/-! == and != of lists of ints; of lists of unlike lengths -/
section
variable {X : Cx}
end
end L2

namespace L2
open PySem PySem.Spec PyProof.Rows
/-! ### W. more built-in names; filters; sizes of sets -/
theorem bb_min : bootBuiltins "min" = some (.builtin "min") := by decide +kernel
theorem bb_max : bootBuiltins "max" = some (.builtin "max") := by decide +kernel
theorem bb_range : bootBuiltins "range" = some (.type "range") := by decide +kernel
theorem bb_sum : bootBuiltins "sum" = some (.builtin "sum") := by decide +kernel
structure BltM (mg : Str → Option Value) : Prop extends Blt mg where
  z_min : mg "min" = none
  z_max : mg "max" = none
  z_sum : mg "sum" = none
  z_enumerate : mg "enumerate" = none
section
variable {K : PySem.W.Frag}
end
theorem i_rngB {σ : St} {H : Hp} {ta : TA} {N : It → Hp → Prop} (q : ta σ H fun vs H1 => ∃ i j : Int, vs = [.int i, .int j] ∧ (-(2 ^ 62) ≤ i ∧ i < 2 ^ 62 ∧ -(2 ^ 62) ≤ j ∧ j < 2 ^ 62) ∧ N (Itr i (j - i).toNat) H1) : iRng2 ta σ H N := q
end L2

namespace L2
open PySem PySem.Spec PyProof.Rows
/-! ### X. texts -/
def tx (cs : List Nat) : Str := ⟨cs.toArray⟩
def chV (c : Nat) : V := .str ⟨#[c]⟩
/-- the signs of a text, one by one -/
def Its (x : Str) : It := ⟨fun i _ => i < x.cps.size, fun i H v H' => H' = H ∧ ∃ c, x.cps[i]? = some c ∧ v = chV c, fun i _ => x.cps.size ≤ i⟩
def iStr (tl : TE) : TI := fun σ H R => tl σ H fun x H1 => ∃ z, x = .str z ∧ z.cps.all (· < 128) = true ∧ R (Its z) H1
section
variable {X : Cx}
def rInStr : R2 := fun x y H Q => ∃ i j, x = .str i ∧ y = .str j ∧ Q (.bl (!(Builtin.Str.occurrences j i 0 j.length 1).isEmpty)) H
/-- where a text first stands in another, or -1 -/
def findI (x y : Str) : Int := match Builtin.Str.occurrences x y 0 x.length 1 with | i :: _ => (i : Int) | [] => -1
def rFind : V → List V → Hp → VK → Prop := fun x vs H Q => ∃ z y, x = .str z ∧ vs = [.str y] ∧ Q (.int (findI z y)) H
end
section
variable {X : Cx} {K : PySem.W.Frag} {o e : Expr} {es : List Expr} {to : TE} {t : TA} {apos cpos : Pos}
end
section
variable {σ : St} {H : Hp} {Q : VK}
theorem i_itS {tl : TE} {N : It → Hp → Prop} (q : tl σ H fun x H1 => ∃ z, x = .str z ∧ z.cps.all (· < 128) = true ∧ N (Its z) H1) : iStr tl σ H N := q
theorem i_inStr {i j : Str} (q : Q (.bl (!(Builtin.Str.occurrences j i 0 j.length 1).isEmpty)) H) : rInStr (.str i) (.str j) H Q := ⟨i, j, rfl, rfl, q⟩
theorem i_find {z y : Str} (q : Q (.int (findI z y)) H) : rFind (.str z) [.str y] H Q := ⟨z, y, rfl, rfl, q⟩
end
end L2

namespace L2
open PySem PySem.Spec PyProof.Rows
/-! ### Y. set(tuple of ints), enumerate -/
theorem sub_tuple_set0 : isSubtype (.type "tuple") (.type "set") = pure false := by rw [isSubtype_type]; kernel_rfl
theorem sub_tuple_frozenset0 : isSubtype (.type "tuple") (.type "frozenset") = pure false := by rw [isSubtype_type]; kernel_rfl
section
variable {prog : Program} {w : World} {A : Around} {E : Value → Shared → Prop} {s : Shared}
theorem update_loopGT {R : Result → Shared → Prop} {I S l : Addr} {items : Array Value} {ns : List Int} (hh : A.in1.handled = none) (hi : IntsAre items.toList ns) (hb : items.size + 1 < scanBound) (n1 : S ≠ I) (n2 : S ≠ l) (n3 : l ≠ I) :
    ∀ (k i : Nat) (s : Shared) (ks : List Int), items.size - i = k → i ≤ items.size → s.heap.IsTupleIter I l i → s.heap.IsTuple l items → SetG w s.heap S ks → ks.length ≤ i → (∀ x, x ∈ ks ↔ x ∈ ns.take i) →
      (∀ h' tk ks', (∀ b o, b ≠ S → b ≠ I → s.heap.get? b = some o → h'.get? b = some o) → SetG w h' S ks' → (∀ x, x ∈ ks' ↔ x ∈ ns) → R (.ok (.ret .none)) { s with heap := h', toks := tk }) →
      codeAny (model prog w) A (.builtin "set.update.loop" ⟨[.ref S, .ref I], []⟩) R s := by
  have hlen : items.size = ns.length := by have := IntsAre.length hi; simpa using this
  intro k
  induction k with
  | zero =>
    intro i s ks hk hle hit hl hS hlk hm hR
    have hin : i = items.size := by omega
    subst hin
    refine codeAny_builtin PyProof.Rows.F.entry_set_update_loop ?_
    rw [Around.under_plainId PyProof.Rows.F.plain_set_update_loop _]
    show wpAny _ A.in1 (pyNext (.ref I) >>= _) _ _ s
    refine wpAny_bind (wpAny_pyNext_tuple_end hh hit hl (by simp) fun h' eb => ?_)
    show wpAny _ A.in1 (ret Value.none) _ _ _
    refine wpAny_pure (hR h' s.toks ks (fun b o _ b2 e => eb b o b2 e) (hS.at fun o e => eb _ _ n1 e) fun x => ?_)
    rw [hm x, hlen, List.take_length]
  | succ k ih =>
    intro i s ks hk hle hit hl hS hlk hm hR
    have hlt : i < items.size := by omega
    obtain ⟨t, hv⟩ := IntsAre.int_at hi i items[i] (by simp [hlt])
    have hgd : ns.getD i 0 = ns[i]'(by omega) := by simp [List.getD_eq_getElem?_getD, show i < ns.length by omega]
    refine codeAny_builtin PyProof.Rows.F.entry_set_update_loop ?_
    rw [Around.under_plainId PyProof.Rows.F.plain_set_update_loop _]
    show wpAny _ A.in1 (pyNext (.ref I) >>= _) _ _ s
    refine wpAny_bind (wpAny_pyNext_tuple_item hit hl (x := items[i]) (by simp [hlt]) fun h1 hit1 sb1 => ?_)
    have hS1 : SetG w h1 S ks := hS.at fun o e => sb1.extBut _ _ n1 e
    show wpAny _ A.in1 (holding [items[i]] (setAdd S items[i]) >>= _) _ _ _
    rw [hv]
    refine wpAny_bind (wpAny_holding ?_)
    unfold setAdd
    refine wpAny_holding ?_
    refine wpAny_bind ((intKind prog w).pyHash (k := ns.getD i 0) (intKind_is _ _ _ _) ?_)
    refine setAddG (s := { s with heap := h1, toks := s.toks + 1 }) hS1 (by omega) fun h2 ks2 sb2 hS2 p2 => ?_
    have hm2 : ∀ x, x ∈ ks2 ↔ x ∈ ns.take (i + 1) := fun x => by
      rw [p2.mem_iff, List.take_add_one, List.mem_append, ← hm x, show ns[i]? = some (ns.getD i 0) by rw [hgd]; exact List.getElem?_eq_getElem _]
      split
      · rename_i hin
        simp only [Option.toList_some, List.mem_singleton]
        exact ⟨.inl, fun z => z.elim id fun e => e ▸ hin⟩
      · simp only [List.mem_cons, Option.toList_some, List.mem_singleton, List.not_mem_nil, or_false]
        exact Or.comm
    have hl2 : ks2.length ≤ i + 1 := by
      rw [p2.length_eq]
      split
      · omega
      · rw [List.length_cons]; omega
    refine wpAny_pure ⟨plainId_quiet PyProof.Rows.F.plain_set_update_loop _, ih (i + 1) _ ks2 (by omega) hlt ?_ ?_ hS2 hl2 hm2 fun h' tk ks' kp hS' hm' => ?_⟩
    · (obtain ⟨o, ho, r⟩ := hit1; exact ⟨o, sb2.extBut _ _ (Ne.symm n1) ho, r⟩)
    · (obtain ⟨o, ho, r⟩ := hl; exact ⟨o, sb2.extBut _ _ (Ne.symm n2) (sb1.extBut _ _ n3 ho), r⟩)
    · exact hR h' tk ks' (fun b o b1 b2 e => kp b o b1 b2 (sb2.extBut _ _ b1 (sb1.extBut _ _ b2 e))) hS' hm'
set_option maxHeartbeats 8000000 in
theorem set_tupleG {l : Addr} {items : Array Value} {ns : List Int} {Q : Value → Shared → Prop} (hh : A.handled = none) (hl : s.heap.IsTuple l items) (hi : IntsAre items.toList ns) (hb : items.size + 1 < scanBound)
    (h : ∀ (h' : Heap) (tk : Nat) (ks : List Int), SetG w h' s.heap.objs.size ks → (∀ x, x ∈ ks ↔ x ∈ ns) → (∀ b o, b < s.heap.objs.size → s.heap.get? b = some o → h'.get? b = some o) → Q (.ref s.heap.objs.size) { s with heap := h', toks := tk }) :
    wpAny (model prog w) A (call (.type "set") [.ref l]) Q E s := by
  obtain ⟨c, tl, hmro⟩ := PySem.F.called_set.mro
  have hmade := PySem.F.called_set.made
  have hsub := PySem.F.called_set.sub
  refine wpAny_call (codeAny_of_tree ?_)
  show wpAny _ _ (callAny (.type "set") _) _ _ _
  refine wpAny_pure ⟨Code.quiet_builtin _ (by decide +kernel), codeAny_builtin PySem.F.entry_type_call ?_⟩
  rw [Around.under_plain (weight_type_call_type "set" [.ref l] []) rfl]
  have h1 := PySem.F.called_set.notType
  have h2 := PySem.F.called_set.canCreate
  have hct := PySem.F.typeCall_set_1 (.ref l)
  repeat (any_goals (first | assumption | wp_step))
  refine codeAny_mono (set_new_G (w := w) (.ref l) (E := E) (Q₁ := fun obj s₁ => obj = .ref s.heap.objs.size ∧ s₁ = { s with heap := s.heap.push { cls := .type "set", dict := none, data := .set #[] 0 (.fresh 0 0 (!bt w)) } }) ⟨rfl, rfl⟩) fun r s₁ hr => ?_
  cases r with
  | error e => exact hr
  | ok fl =>
    cases fl with
    | ret obj =>
      obtain ⟨rfl, rfl⟩ := hr
      generalize hled : (!bt w) = led
      have hS : (s.heap.push { cls := .type "set", dict := none, data := .set #[] 0 (.fresh 0 0 led) }).get? s.heap.objs.size = some { cls := .type "set", dict := none, data := .set #[] 0 (.fresh 0 0 led) } := Heap.get?_push_size _ rfl
      have hT : Shared.TypeIs { s with heap := s.heap.push { cls := .type "set", dict := none, data := .set #[] 0 (.fresh 0 0 led) } } (.ref s.heap.objs.size) "set" := ⟨_, hS, rfl⟩
      have hli := PySem.F.called_set.init.lookup
      have hbi := PySem.F.called_set.init.bind (.ref s.heap.objs.size)
      repeat (any_goals (first | assumption | wp_step))
      refine codeAny_mono (codeAny_call_builtin (R := wants (fun r s₂ => r = .none ∧ ∃ h' tk ks, s₂ = { s with heap := h', toks := tk } ∧ SetG w h' s.heap.objs.size ks ∧ (∀ x, x ∈ ks ↔ x ∈ ns) ∧
          (∀ b o, b < s.heap.objs.size → s.heap.get? b = some o → h'.get? b = some o)) E) PySem.F.called_set.init.plain PySem.F.entry_set_init (check_set_init_1 hT ?_)) fun r₂ s₂ hr₂ => ?_
      · obtain ⟨ol, hol, hcl, nl, hdl⟩ := hl
        obtain ⟨ocls, odict, odata, oslots⟩ := ol
        simp only at hcl hdl
        subst hcl; subst hdl
        have hol' : (s.heap.push { cls := .type "set", dict := none, data := .set #[] 0 (.fresh 0 0 led) }).get? l = some { cls := .type "tuple", dict := odict, data := .seq items nl, slots := oslots } := Heap.get?_push_of_some _ hol
        have hsls := sub_tuple_set0
        have hslf := sub_tuple_frozenset0
        have hne : (Value.type "tuple" == Value.type "dict") = false := by decide
        have hl1 : (s.heap.push { cls := .type "set", dict := none, data := .set #[] 0 (.fresh 0 0 led) }).IsTuple l items := ⟨_, hol', rfl, nl, rfl⟩
        unfold Builtin.«set.__init__» noKeywords Builtin.Frozenset.updateFrom
        generalize hPI : pyIter = PI
        wp_walk
        subst hPI
        refine wpAny_pyIter_tuple hl1 ?_
        refine wpAny_bind (wpAny_runValue ?_)
        have hlS : l < s.heap.objs.size := Heap.lt_size hol
        have hh3 : A.in1.in1.in1.handled = none := by simp [hh]
        have hSz : (s.heap.push { cls := .type "set", dict := none, data := .set #[] 0 (.fresh 0 0 led) }).objs.size = s.heap.objs.size + 1 := Heap.size_push ..
        have e1 : s.heap.objs.size ≠ (s.heap.push { cls := .type "set", dict := none, data := .set #[] 0 (.fresh 0 0 led) }).objs.size := by rw [hSz]; exact Nat.ne_of_lt (Nat.lt_succ_self _)
        have e2 : l ≠ (s.heap.push { cls := .type "set", dict := none, data := .set #[] 0 (.fresh 0 0 led) }).objs.size := by rw [hSz]; exact Nat.ne_of_lt (Nat.lt_succ_of_lt hlS)
        refine update_loopGT (w := w) hh3 hi hb e1 (Nat.ne_of_gt hlS) e2 (items.size - 0) 0 _ [] (by omega) (Nat.zero_le _)
          ⟨_, Heap.get?_push_size _ rfl, rfl, rfl⟩ (hl1.push _) ⟨_, #[], 0, _, Heap.get?_push_of_some _ hS, ⟨rfl, rfl, rfl⟩, rfl, rfl, fun e he => by simp at he, List.nodup_nil, by decide, by rfl, List.Pairwise.nil, ?_⟩ (Nat.le_refl _) (fun x => by simp) ?_
        · show led = true ∨ bt w = true
          rw [← hled]
          cases bt w <;> simp
        · intro h' tk ks' kp hS' hm'
          show wpAny _ _ _ _ _ _
          refine wpAny_pure ?_
          show wpAny _ _ (ret Value.none) _ _ _
          refine wpAny_pure ⟨rfl, h', tk, ks', rfl, hS', hm', fun b o hb e => ?_⟩
          exact kp b o (Nat.ne_of_lt hb) (by rw [hSz]; exact Nat.ne_of_lt (Nat.lt_succ_of_lt hb)) (Heap.get?_push_of_some _ (Heap.get?_push_of_some _ e))
      · cases r₂ with
        | error e => exact hr₂
        | ok fl₂ =>
          cases fl₂ with
          | ret r =>
            obtain ⟨rfl, h', tk, ks, rfl, hS', hm', hk'⟩ := hr₂
            repeat (any_goals (first | assumption | wp_step))
            exact h _ _ _ hS' hm' hk'
          | _ => exact hr₂.elim
    | _ => exact hr.elim
end

end L2

namespace L2
open PySem PySem.Spec PyProof.Rows
section
variable {X : Cx} {K : PySem.W.Frag}
/-- a list or a tuple -/
def SqX (K : PySem.W.Frag) (H : Hp) (p : Addr) (xs : List V) : Prop := SqL K H p xs ∨ SqT K H p xs
theorem seqT_same {H H' : Hp} {a : Addr} {xs : List V} (e : Same H H') (h : SqT K H a xs) : SqT K H' a xs := by
  rcases h with (h | ⟨o, h⟩) | h
  · exact .inl (.inl (e _ _ h))
  · exact .inl (.inr ⟨o, e _ _ h⟩)
  · exact .inr h
theorem SqX.same {H H' : Hp} {p : Addr} {xs : List V} (s : Same H H') (h : SqX K H p xs) : SqX K H' p xs := h.elim (fun h => .inl (s.seq h)) fun h => .inr (seqT_same s h)
def rSetX (K : PySem.W.Frag) (w : World) : List V → Hp → VK → Prop := fun xs H Q => ∃ (p : Addr) (ns : List Int), xs = [.ref p] ∧ SqX K H p (ns.map V.int) ∧ ns.length + 1 < 4096 ∧ ∀ (l : Addr) (ks : List Int), H l = none → ks.Nodup → (∀ x, x ∈ ks ↔ x ∈ ns) → Q (.ref l) (upd H l (setO w l ks))
theorem call_setX (hc : X.calm = true) : CallR X (.type "set") (rSetX X.K X.w) := by
  intro pins s σ H xs us Q I r h
  obtain ⟨p, ns, rfl, hq, hl, q⟩ := h
  obtain ⟨u, rfl, rx⟩ := vals1 r
  cases rx
  rcases hq with hq | hq
  · obtain ⟨its, r', pl, hz⟩ := I.list hq
    have hi := ints_of_vals r'
    have hlen := IntsAre.length hi
    refine set_listG (I.ok.hd hc) pl.isList (by simpa using hi) (by simp only [List.size_toArray]; show _ < 4096; omega) fun h' tk ks g m old => ?_
    exact ⟨.ref s.heap.objs.size, _, I.laidD (d' := s.drawn) (fun b o e => old b o (Heap.lt_size e) e) (Nat.le_refl _) (setO_new g), rfl, q _ ks (I.hok.fresh (Nat.le_refl _)) g.nodup m⟩
  · obtain ⟨its, r', pl, hz⟩ := I.tuple hq
    have hi := ints_of_vals r'
    have hlen := IntsAre.length hi
    refine set_tupleG (I.ok.hd hc) (show s.heap.IsTuple p its.toArray from pl) (by simpa using hi) (by simp only [List.size_toArray]; show _ < 4096; omega) fun h' tk ks g m old => ?_
    exact ⟨.ref s.heap.objs.size, _, I.laidD (d' := s.drawn) (fun b o e => old b o (Heap.lt_size e) e) (Nat.le_refl _) (setO_new g), rfl, q _ ks (I.hok.fresh (Nat.le_refl _)) g.nodup m⟩
theorem cSetX {w : World} (h : X.K = K) (hw : X.w = w) (hc : X.calm = true) : CallR X (.type "set") (rSetX K w) := by subst h; subst hw; exact call_setX hc
end
section
variable {σ : St} {H : Hp} {Q : VK} {K : PySem.W.Frag} {w : World}
theorem i_setX {p : Addr} {ns : List Int} (h : SqX K H p (ns.map V.int)) (l : ns.length + 1 < 4096) (q : ∀ (l : Addr) (ks : List Int), H l = none → ks.Nodup → (∀ x, x ∈ ks ↔ x ∈ ns) → Q (.ref l) (upd H l (setO w l ks))) : rSetX K w [.ref p] H Q := ⟨p, ns, rfl, h, l, q⟩
end
/-! enumerate of a list -/
def Ite (K : PySem.W.Frag) (l : Addr) : It :=
  ⟨fun i H => ∃ xs u, SqL K H l xs ∧ xs[i]? = some u,
   fun i H x H' => ∃ T u, x = .ref T ∧ H T = none ∧ H' = upd H T (.tup [.int i, u]) ∧ ∀ xs, SqL K H l xs → xs[i]? = some u,
   fun i H => ∃ xs, SqL K H l xs ∧ xs.length ≤ i⟩
section
variable {X : Cx} {K : PySem.W.Frag} {es : List Expr} {kk : Nat} {tpos : Pos}
def iEnum (K : PySem.W.Frag) (ta : TA) : TI := fun σ H R => ta σ H fun vs H1 => ∃ a, vs = [.ref a] ∧ (∃ xs, SqL K H1 a xs) ∧ R (Ite K a) H1
theorem i_itE {σ : St} {H : Hp} {ta : TA} {N : It → Hp → Prop} (q : ta σ H fun vs H1 => ∃ a, vs = [.ref a] ∧ (∃ xs, SqL K H1 a xs) ∧ N (Ite K a) H1) : iEnum K ta σ H N := q
end
end L2

namespace L2
open PySem PySem.Spec PyProof.Rows
/-! ### sorted(list), slices of tuples, chains of comparisons -/
section
variable {X : Cx} {K : PySem.W.Frag}
def rSortedL (K : PySem.W.Frag) : List V → Hp → VK → Prop := fun xs H Q => ∃ (p : Addr) (ns : List Int), xs = [.ref p] ∧ SqL K H p (ns.map V.int) ∧ ns.length < 64 ∧ ∀ (l : Addr) (rs : List Int), H l = none → rs.Perm ns → rs.Pairwise (· ≤ ·) → Q (.ref l) (upd H l (.lst (rs.map V.int)))
theorem cSortedL (h : X.K = K) : CallR X (.builtin "sorted") (rSortedL K) := by
  subst h
  intro pins s σ H xs us Q I r h
  obtain ⟨p, ns, rfl, hq, hl, q⟩ := h
  obtain ⟨u, rfl, rx⟩ := vals1 r
  cases rx
  obtain ⟨its, r', pl, hz⟩ := I.list hq
  have hi := ints_of_vals r'
  have hlen := IntsAre.length hi
  refine PyProof.Rows.sorted_ints pl.isList hi (by omega) fun out rs a1 a2 a3 => ?_
  obtain ⟨e, he⟩ := PyProof.Rows.sortedAll_at s.heap its out
  refine ⟨.ref (s.heap.objs.size + 1), _, I.laidD (d' := s.drawn) (t' := s.toks) (o := .lst (rs.map V.int)) (fun b o k => PyProof.Rows.sortedAll_old k) (Nat.le_succ _) ⟨?_, out.toList, e, vals_of_ints a1, by simpa using he⟩, rfl, q _ rs (I.hok.fresh (Nat.le_succ _)) a2 a3⟩
  rw [List.length_map, a2.length_eq, sizeLine_eq]; omega
theorem slT (h : X.K = K) : SlR X (rSlT K) := by subst h; exact sl_tup
end
section
variable {σ : St} {H : Hp} {Q : VK} {K : PySem.W.Frag}
theorem i_sortedL {p : Addr} {ns : List Int} (h : SqL K H p (ns.map V.int)) (l : ns.length < 64) (q : ∀ (l : Addr) (rs : List Int), H l = none → rs.Perm ns → rs.Pairwise (· ≤ ·) → Q (.ref l) (upd H l (.lst (rs.map V.int)))) : rSortedL K [.ref p] H Q := ⟨p, ns, rfl, h, l, q⟩
theorem i_chain {r r' : R2} {ta tb tc : TE} (q : ta σ H fun x H1 => tb σ H1 fun y H2 => r x y H2 fun z H3 => ∃ k, z = .bl k ∧ (if k = true then tc σ H3 fun w' H4 => r' y w' H4 Q else Q (.bl false) H3)) : tChain r r' ta tb tc σ H Q := q
end
/-! rising numbers -/
end L2

namespace L2
open PySem PySem.Spec PyProof.Rows
/-! ### Z. list comprehensions with two clauses: the loops -/
section
variable {elt t0 i0 t1 i1 : Expr} {f0 f1 : List Expr} {scope : Scope} {pos : Pos}
/-- [elt for t0 in i0 if f0 for t1 in i1 if f1] -/
abbrev two (elt t0 i0 : Expr) (f0 : List Expr) (t1 i1 : Expr) (f1 : List Expr) (scope : Scope) (pos : Pos) : Expr := .ListComp elt [⟨t0, i0, f0, 0⟩, ⟨t1, i1, f1, 0⟩] scope pos
end
end L2

namespace L2
open PySem PySem.Spec PyProof.Rows
section
variable {prog : Program} {w : World} {A : Around} {R : Result → Shared → Prop} {s : Shared} {elt t0 i0 t1 i1 : Expr} {f0 f1 : List Expr} {scope : Scope} {pos : Pos} {it acc : Value} {env : Env}
end
end L2

namespace L2
open PySem PySem.Spec PyProof.Rows
/-- what is wanted of the second clause's turns -/
def InT (J1 : It) (g1 : TG) (tt1 : TT) (te : TE) (Fin : List V → St → Hp → Prop) (ys0 : List V) (σ0 : St) (H0 : Hp) : Prop :=
  ∃ W : Nat → Nat → List V → St → Hp → Prop, (∃ m, W 0 m ys0 σ0 H0) ∧ ∀ i m ys σ' H', W i m ys σ' H' → (J1.stop i H' ∧ Fin ys σ' H') ∨
    (J1.go i H' ∧ ys.length < sizeLine ∧ ∀ x H2, J1.yld i H' x H2 → g1 x σ' H2 fun σ3 H3 => tt1 σ3 H3 fun b H4 => if b = true then te σ3 H4 fun y H5 => ∃ m', m' < m ∧ W (i + 1) m' (ys ++ [y]) σ3 H5 else ∃ m', m' < m ∧ W (i + 1) m' ys σ3 H4)
/-- .. of both -/
def CompT2 (J : It) (g : TG) (tt : TT) (wi1 : TI) (g1 : TG) (tt1 : TT) (te : TE) (Fin : List V → Hp → Prop) (σ₀ : St) (H1 : Hp) : Prop :=
  ∃ W : Nat → Nat → List V → St → Hp → Prop, (∃ m, W 0 m [] σ₀ H1) ∧ ∀ i m ys σ' H', W i m ys σ' H' → (J.stop i H' ∧ Fin ys H') ∨
    (J.go i H' ∧ ∀ x H2, J.yld i H' x H2 → g x σ' H2 fun σ3 H3 => tt σ3 H3 fun b H4 => if b = true then wi1 σ3 H4 fun J1 H5 => InT J1 g1 tt1 te (fun ys' σ5 H6 => ∃ m', m' < m ∧ W (i + 1) m' ys' σ5 H6) ys σ3 H5 else ∃ m', m' < m ∧ W (i + 1) m' ys σ3 H4)
section
variable {prog : Program} {w : World} {A : Around} {R : Result → Shared → Prop} {s : Shared} {elt t0 i0 t1 i1 : Expr} {f0 f1 : List Expr} {scope : Scope} {pos : Pos} {it acc : Value} {env : Env}
end
section
variable {X : Cx} {pins : List (Addr × Obj)} {σ : St} {scope : Scope} {own : List Str} {fre : List (Nat × Str)} {elt tg iter t1 i1 : Expr} {ifs f1 : List Expr} {pos : Pos} {wi wi1 : TI} {g g1 : TG} {tt tt1 : TT} {te : TE}
end
end L2

namespace L2
open PySem PySem.Spec PyProof.Rows
def tComp2 (n : Nat) (fre : List (Nat × Str)) (wi : TI) (g : TG) (tt : TT) (wi1 : TI) (g1 : TG) (tt1 : TT) (te : TE) : TE := fun σ H Q => wi σ H fun J H1 => CompT2 J g tt wi1 g1 tt1 te (fun ys H' => ∀ D, H' D = none → Q (.ref D) (upd H' D (.lst ys))) (startC n fre σ) H1
section
variable {X : Cx} {pins : List (Addr × Obj)} {σ : St} {scope : Scope} {own : List Str} {fre : List (Nat × Str)} {elt tg iter t1 i1 : Expr} {ifs f1 : List Expr} {pos : Pos} {wi wi1 : TI} {g g1 : TG} {tt tt1 : TT} {te : TE}
end
theorem i_comp2 {σ : St} {H : Hp} {Q : VK} {n : Nat} {fre : List (Nat × Str)} {wi : TI} {g : TG} {tt : TT} {wi1 : TI} {g1 : TG} {tt1 : TT} {te : TE} (q : wi σ H fun J H1 => CompT2 J g tt wi1 g1 tt1 te (fun ys H' => ∀ D, H' D = none → Q (.ref D) (upd H' D (.lst ys))) (startC n fre σ) H1) : tComp2 n fre wi g tt wi1 g1 tt1 te σ H Q := q
end L2

namespace L2
open PySem PySem.Spec PyProof.Rows
/-! ### two clauses by counts; statements that are never reached -/
section
variable {σ : St} {H : Hp}
end
/-- a statement that is never reached -/
def tDead : TS := fun _ _ _ => False
theorem ps_dead {X : Cx} {st : Stmt} : PS X st tDead := fun _ _ _ _ _ _ h => h.elim
end L2

namespace L2
open PySem PySem.Spec PyProof.Rows
/-! ### M. list comprehensions with any number of clauses -/
/-- the last clause's turns -/
def LastT (g : TG) (tt : TT) (te : TE) (J : It) (Fin : List V → St → Hp → Prop) (ys0 : List V) (σ0 : St) (H0 : Hp) : Prop :=
  ∃ W : Nat → Nat → List V → St → Hp → Prop, (∃ m, W 0 m ys0 σ0 H0) ∧ ∀ i m ys σ' H', W i m ys σ' H' → (J.stop i H' ∧ Fin ys σ' H') ∨
    (J.go i H' ∧ ys.length < sizeLine ∧ ∀ x H2, J.yld i H' x H2 → g x σ' H2 fun σ3 H3 => tt σ3 H3 fun b H4 => if b = true then te σ3 H4 fun y H5 => ∃ m', m' < m ∧ W (i + 1) m' (ys ++ [y]) σ3 H5 else ∃ m', m' < m ∧ W (i + 1) m' ys σ3 H4)
/-- another clause's turns: inner is what the next clause wants -/
def MidT (g : TG) (tt : TT) (wi : TI) (inner : It → (List V → St → Hp → Prop) → List V → St → Hp → Prop) (J : It) (Fin : List V → St → Hp → Prop) (ys0 : List V) (σ0 : St) (H0 : Hp) : Prop :=
  ∃ W : Nat → Nat → List V → St → Hp → Prop, (∃ m, W 0 m ys0 σ0 H0) ∧ ∀ i m ys σ' H', W i m ys σ' H' → (J.stop i H' ∧ Fin ys σ' H') ∨
    (J.go i H' ∧ ∀ x H2, J.yld i H' x H2 → g x σ' H2 fun σ3 H3 => tt σ3 H3 fun b H4 => if b = true then wi σ3 H4 fun J1 H5 => inner J1 (fun ys' σ5 H6 => ∃ m', m' < m ∧ W (i + 1) m' ys' σ5 H6) ys σ3 H5 else ∃ m', m' < m ∧ W (i + 1) m' ys σ3 H4)
structure CalmX (X : Cx) : Prop where
  xe : X.xe = fun _ _ => False
  pn : X.pn = []
  calm : X.calm = true
section
variable {X : Cx} {D : Addr} {elt tg i0 t1 i1 : Expr} {gens : List Comprehension} {scope : Scope} {pos : Pos} {fs : List Expr} {k : Nat} {g : TG} {tt : TT} {te : TE} {wi : TI} {inner : It → (List V → St → Hp → Prop) → List V → St → Hp → Prop}
end
end L2

namespace L2
open PySem PySem.Spec PyProof.Rows
section
variable {X : Cx} {pins : List (Addr × Obj)} {σ : St} {scope : Scope} {own : List Str} {fre : List (Nat × Str)} {elt tg : Expr} {gens : List Comprehension} {pos : Pos} {body : It → (List V → St → Hp → Prop) → List V → St → Hp → Prop}
end
abbrev three (elt t0 i0 : Expr) (f0 : List Expr) (t1 i1 : Expr) (f1 : List Expr) (t2 i2 : Expr) (f2 : List Expr) (scope : Scope) (pos : Pos) : Expr := .ListComp elt [⟨t0, i0, f0, 0⟩, ⟨t1, i1, f1, 0⟩, ⟨t2, i2, f2, 0⟩] scope pos
section
variable {prog : Program} {w : World} {A : Around} {R : Result → Shared → Prop} {s : Shared} {elt t0 i0 t1 i1 t2 i2 : Expr} {f0 f1 f2 : List Expr} {scope : Scope} {pos : Pos} {it acc : Value} {env : Env}
end
def tComp3 (n : Nat) (fre : List (Nat × Str)) (wi : TI) (g : TG) (tt : TT) (wi1 : TI) (g1 : TG) (tt1 : TT) (wi2 : TI) (g2 : TG) (tt2 : TT) (te : TE) : TE := fun σ H Q => wi σ H fun J H1 => MidT g tt wi1 (MidT g1 tt1 wi2 (LastT g2 tt2 te)) J (fun ys _ H' => ∀ D, H' D = none → Q (.ref D) (upd H' D (.lst ys))) [] (startC n fre σ) H1
section
variable {X : Cx} {pins : List (Addr × Obj)} {σ : St} {scope : Scope} {own : List Str} {fre : List (Nat × Str)} {elt tg iter t1 i1 t2 i2 : Expr} {ifs f1 f2 : List Expr} {pos : Pos} {wi wi1 wi2 : TI} {g g1 g2 : TG} {tt tt1 tt2 : TT} {te : TE}
end
theorem i_comp3 {σ : St} {H : Hp} {Q : VK} {n : Nat} {fre : List (Nat × Str)} {wi : TI} {g : TG} {tt : TT} {wi1 : TI} {g1 : TG} {tt1 : TT} {wi2 : TI} {g2 : TG} {tt2 : TT} {te : TE} (q : wi σ H fun J H1 => MidT g tt wi1 (MidT g1 tt1 wi2 (LastT g2 tt2 te)) J (fun ys _ H' => ∀ D, H' D = none → Q (.ref D) (upd H' D (.lst ys))) [] (startC n fre σ) H1) : tComp3 n fre wi g tt wi1 g1 tt1 wi2 g2 tt2 te σ H Q := q
/-! by counts -/
section
variable {σ : St} {H : Hp} {J : It} {g : TG} {tt : TT} {te : TE} {wi : TI} {inner : It → (List V → St → Hp → Prop) → List V → St → Hp → Prop} {Fin : List V → St → Hp → Prop} {ys0 : List V}
end
end L2

namespace L2
open PySem PySem.Spec PyProof.Rows
/-! ### N. sum; a list taken apart; clear -/
section
variable {X : Cx} {K : PySem.W.Frag}
end
section
variable {prog : Program} {w : World} {A : Around} {E : Value → Shared → Prop} {s : Shared}
end
section
variable {X : Cx} {K : PySem.W.Frag} {pos : Pos}
end
section
variable {σ : St} {H : Hp} {Q : VK} {K : PySem.W.Frag}
theorem i_bm0 {T : String} {r : V → List V → Hp → VK → Prop} {to : TE} (q : to σ H fun x H1 => tyV K T x H1 ∧ r x [] H1 Q) : tBM0 K T r to σ H Q := q
end
end L2

namespace L2
open PySem PySem.Spec PyProof.Rows
/-! ### tuples of numbers: in a list, lists of them compared; list.index -/
def TsAt (H : Hp) (ts : List Addr) (yss : List (List Int)) : Prop := ts.length = yss.length ∧ ∀ (i : Nat) t ys, ts[i]? = some t → yss[i]? = some ys → H t = some (.tup (ys.map V.int))
theorem TsAt.same {H H' : Hp} {ts : List Addr} {yss : List (List Int)} (s : Same H H') (h : TsAt H ts yss) : TsAt H' ts yss := ⟨h.1, fun i t p e1 e2 => s _ _ (h.2 i t p e1 e2)⟩
section
variable {X : Cx} {pins : List (Addr × Obj)} {σ : St} {H : Hp} {s : Shared} {K : PySem.W.Frag}
open Classical in
end
section
variable {H : Hp} {Q : VK}
end
end L2

namespace L2
open PySem PySem.Spec PyProof.Rows
/-! ### zip of a list and a tuple -/
section
variable {X : Cx} {K : PySem.W.Frag} {es : List Expr} {kk : Nat} {tpos : Pos}
end
end L2

namespace L2
open PySem PySem.Spec PyProof.Rows
/-! ### any(list of bools) -/
section
variable {X : Cx} {K : PySem.W.Frag} {o e : Expr} {es : List Expr} {to : TE} {t : TA} {apos cpos : Pos}
end
end L2

namespace L2
open PySem PySem.Spec PyProof.Rows
/-! ### J. min of three, insert, == of tuples of ints, name op= e -/
section
variable {X : Cx} {K : PySem.W.Frag}
def min3 (a b c : Int) : Int := if b < a then (if c < b then c else b) else (if c < a then c else a)
def rMin3 : List V → Hp → VK → Prop := fun xs H Q => ∃ i j k, xs = [.int i, .int j, .int k] ∧ Q (.int (min3 i j k)) H
end
section
variable {σ : St} {H : Hp} {Q : VK} {K : PySem.W.Frag} {D : Ends}
theorem i_min3 {i j k : Int} (q : Q (.int (min3 i j k)) H) : rMin3 [.int i, .int j, .int k] H Q := ⟨i, j, k, rfl, q⟩
theorem i_aug {i : Nat} {te : TE} {ti : TIp} {x : V} (h : σ[i]? = some (some x)) (q : te σ H fun y H1 => ti x y H1 fun z H2 => D.nx (σ.set i (some z)) H2) : tAug i te ti D σ H := ⟨x, h, q⟩
theorem i_ip {f : Int → Int → Int} {i j : Int} (q : Q (.int (f i j)) H) : ipI f (.int i) (.int j) H Q := ⟨i, j, rfl, rfl, q⟩
theorem i_par {i j : Nat} {ta : TA} (q : ta σ H fun vs H1 => ∃ v w, vs = [v, w] ∧ D.nx ((σ.set i (some v)).set j (some w)) H1) : tPar i j ta D σ H := q
theorem i_two {a b : V} {R : V → V → Prop} (q : R a b) : ∃ v w, [a, b] = [v, w] ∧ R v w := ⟨a, b, rfl, q⟩
end
end L2

namespace L2
open PySem PySem.Spec PyProof.Rows
section
variable {κ : Type} [DecidableEq κ]
def valV (kvs : List (κ × V)) (k : κ) : Option V := (kvs.find? fun kv => decide (kv.1 = k)).map (·.2)
def putK (kvs : List (κ × V)) (k : κ) (v : V) : List (κ × V) :=
  if (kvs.any fun kv => decide (kv.1 = k)) = true then kvs.map (fun kv => if kv.1 = k then (kv.1, v) else kv) else kvs ++ [(k, v)]
def dropK (kvs : List (κ × V)) (k : κ) : List (κ × V) := kvs.filter fun kv => decide (kv.1 ≠ k)

theorem valV_pos {p : κ × V} {r : List (κ × V)} {k : κ} (e : p.1 = k) : valV (p :: r) k = some p.2 := by simp [valV, List.find?_cons, e]
theorem valV_neg {p : κ × V} {r : List (κ × V)} {k : κ} (e : ¬ p.1 = k) : valV (p :: r) k = valV r k := by simp [valV, List.find?_cons, e]
theorem valV_any (k : κ) : ∀ kvs : List (κ × V), (kvs.any fun kv => decide (kv.1 = k)) = (valV kvs k).isSome
  | [] => rfl
  | p :: r => by
    rw [List.any_cons]
    by_cases e : p.1 = k
    · simp only [valV_pos e, decide_eq_true e, Bool.true_or, Option.isSome_some]
    · rw [valV_neg e, decide_eq_false e, Bool.false_or]; exact valV_any k r
theorem valV_snoc (k j : κ) (y : V) : ∀ kvs : List (κ × V), valV kvs k = none → valV (kvs ++ [(k, y)]) j = if j = k then some y else valV kvs j
  | [], _ => by
    by_cases e : k = j
    · rw [if_pos e.symm]; exact valV_pos (p := (k, y)) e
    · rw [if_neg (fun z => e z.symm)]; exact valV_neg (p := (k, y)) e
  | p :: r, hn => by
    rw [List.cons_append]
    have hk : ¬ p.1 = k := fun z => by rw [valV_pos z] at hn; cases hn
    rw [valV_neg hk] at hn
    have ih := valV_snoc k j y r hn
    by_cases e : p.1 = j
    · rw [valV_pos e, valV_pos e, if_neg (fun z => hk (e.trans z))]
    · rw [valV_neg e, valV_neg e, ih]
theorem length_putK (kvs : List (κ × V)) (k : κ) (v : V) : (putK kvs k v).length ≤ kvs.length + 1 := by
  unfold putK
  split
  · rw [List.length_map]; omega
  · rw [List.length_append, List.length_cons, List.length_nil]; omega
theorem putK_new {kvs : List (κ × V)} {k : κ} (v : V) (h : valV kvs k = none) : putK kvs k v = kvs ++ [(k, v)] := by
  unfold putK
  rw [valV_any, h]
  exact if_neg (by decide)

theorem RelO.isSome_eq {o : Option V} {u : Option Value} (r : RelO o u) : o.isSome = u.isSome := by
  cases o with
  | none => cases u with
    | none => rfl
    | some _ => exact (show False from r).elim
  | some _ => cases u with
    | none => exact (show False from r).elim
    | some _ => rfl
theorem RelO.getD {o : Option V} {u : Option Value} {d : V} {d' : Value} (r : RelO o u) (rd : RelV d d') : RelV (o.getD d) (u.getD d') := by
  cases o with
  | none => cases u with
    | none => exact rd
    | some _ => exact (show False from r).elim
  | some _ => cases u with
    | none => exact (show False from r).elim
    | some _ => exact r

theorem KV.val {kvs : List (κ × V)} {vs : List (κ × Value)} (r : KV kvs vs) (k : κ) : RelO (valV kvs k) (valueAt vs k) := by
  unfold KV at r
  induction r with
  | nil => exact True.intro
  | @cons p q ps qs h t ih =>
    obtain ⟨h1, h2⟩ := h
    by_cases e : p.1 = k
    · have e' : q.1 = k := h1.symm.trans e
      have b : valueAt (q :: qs) k = some q.2 := by simp [valueAt, List.find?_cons, e']
      rw [valV_pos e, b]; exact h2
    · have e' : ¬ q.1 = k := fun z => e (h1.trans z)
      have b : valueAt (q :: qs) k = valueAt qs k := by simp [valueAt, List.find?_cons, e']
      rw [valV_neg e, b]; exact ih
theorem KV.any {kvs : List (κ × V)} {vs : List (κ × Value)} (r : KV kvs vs) (k : κ) : (kvs.any fun kv => decide (kv.1 = k)) = vs.any fun kv => decide (kv.1 = k) := by
  unfold KV at r
  induction r with
  | nil => rfl
  | cons h t ih => rw [List.any_cons, List.any_cons, ih, h.1]
theorem KV.repl {kvs : List (κ × V)} {vs : List (κ × Value)} (r : KV kvs vs) (k : κ) {y : V} {u : Value} (ry : RelV y u) :
    KV (kvs.map fun kv => if kv.1 = k then (kv.1, y) else kv) (vs.map fun kv => if kv.1 = k then (kv.1, u) else kv) := by
  unfold KV at r ⊢
  induction r with
  | nil => exact .nil
  | @cons p q ps qs h t ih =>
    rw [List.map_cons, List.map_cons]
    refine .cons ?_ ih
    obtain ⟨h1, h2⟩ := h
    by_cases e : p.1 = k
    · rw [if_pos e, if_pos (h1.symm.trans e)]; exact ⟨h1, ry⟩
    · rw [if_neg e, if_neg (fun z => e (h1.trans z))]; exact ⟨h1, h2⟩
theorem KV.put {kvs : List (κ × V)} {vs : List (κ × Value)} (r : KV kvs vs) (k : κ) {y : V} {u : Value} (ry : RelV y u) : KV (putK kvs k y) (stored vs k u) := by
  unfold putK stored
  rw [r.any k]
  by_cases e : (vs.any fun kv => decide (kv.1 = k)) = true
  · rw [if_pos e, if_pos e]; exact r.repl k ry
  · rw [if_neg e, if_neg e]; exact Paired.snoc r ⟨rfl, ry⟩
theorem KV.drop {kvs : List (κ × V)} {vs : List (κ × Value)} (r : KV kvs vs) (k : κ) : KV (dropK kvs k) (without vs k) := by
  unfold KV at r ⊢
  unfold dropK without
  induction r with
  | nil => exact .nil
  | @cons p q ps qs h t ih =>
    obtain ⟨h1, h2⟩ := h
    rw [List.filter_cons, List.filter_cons]
    by_cases e : p.1 = k
    · have a : ¬ decide (p.1 ≠ k) = true := by simp [e]
      have b : ¬ decide (q.1 ≠ k) = true := by simp [h1.symm.trans e]
      rw [if_neg a, if_neg b]; exact ih
    · have e' : ¬ q.1 = k := fun z => e (h1.trans z)
      have a : decide (p.1 ≠ k) = true := by simp [e]
      have b : decide (q.1 ≠ k) = true := by simp [e']
      rw [if_pos a, if_pos b]; exact .cons ⟨h1, h2⟩ ih
theorem KV.keys {kvs : List (κ × V)} {vs : List (κ × Value)} (r : KV kvs vs) : kvs.map (·.1) = vs.map (·.1) := by
  unfold KV at r
  induction r with
  | nil => rfl
  | cons h t ih => rw [List.map_cons, List.map_cons, ih, h.1]
theorem KV.length {kvs : List (κ × V)} {vs : List (κ × Value)} (r : KV kvs vs) : kvs.length = vs.length := Paired.length r
end


theorem kV_is {P : Program} {w : World} {k : Key} {u : Value} (r : RelV (kV k) u) : (mixKind P w).is k u = true := by
  cases k with
  | inl i => obtain ⟨t, e⟩ := (show ∃ t, u = Value.int i t from r); subst e; exact mixKind_int P w i t
  | inr x => obtain ⟨t, e⟩ := (show ∃ t, u = Value.str x t from r); subst e; exact mixKind_str P w x t
theorem items_are {P : Program} {w : World} : ∀ {ks : List Key} {us : List Value}, Vals (ks.map kV) us → ItemsAre (mixKind P w) ks us
  | [], _, r => by rw [List.map_nil] at r; cases r; exact .nil
  | k :: ks, _, r => by
    rw [List.map_cons] at r
    cases r with
    | cons h t => exact .cons (kV_is h) (items_are t)

abbrev KT (H : Hp) : List (List Key × V) → List (List Key × Addr × Value) → Prop := Paired fun p q => p.1 = q.1 ∧ H q.2.1 = some (.tup (p.1.map kV)) ∧ RelV p.2 q.2.2
theorem KT.val {H : Hp} {kvs : List (List Key × V)} {xs : List (List Key × Addr × Value)} (r : KT H kvs xs) (k : List Key) : RelO (valV kvs k) ((atKey xs k).map (·.2)) := by
  induction r with
  | nil => exact True.intro
  | @cons p q ps qs h t ih =>
    obtain ⟨h1, _, h2⟩ := h
    by_cases e : p.1 = k
    · have e' : q.1 = k := h1.symm.trans e
      have b : atKey (q :: qs) k = some q.2 := by simp [atKey, List.find?_cons, e']
      rw [valV_pos e, b]; exact h2
    · have e' : ¬ q.1 = k := fun z => e (h1.trans z)
      have b : atKey (q :: qs) k = atKey qs k := by simp [atKey, List.find?_cons, e']
      rw [valV_neg e, b]; exact ih
theorem KT.repl {H : Hp} {kvs : List (List Key × V)} {xs : List (List Key × Addr × Value)} (r : KT H kvs xs) (k : List Key) {y : V} {u : Value} (ry : RelV y u) :
    KT H (kvs.map fun kv => if kv.1 = k then (kv.1, y) else kv) (xs.map (putAt k u)) := by
  induction r with
  | nil => exact .nil
  | @cons p q ps qs h t ih =>
    rw [List.map_cons, List.map_cons]
    refine .cons ?_ ih
    obtain ⟨h1, h2, h3⟩ := h
    unfold putAt
    by_cases e : p.1 = k
    · rw [if_pos e, if_pos (h1.symm.trans e)]; exact ⟨h1, h2, ry⟩
    · rw [if_neg e, if_neg (fun z => e (h1.trans z))]; exact ⟨h1, h2, h3⟩
theorem KT.put {H : Hp} {kvs : List (List Key × V)} {xs : List (List Key × Addr × Value)} (r : KT H kvs xs) (k : List Key) {b : Addr} {y : V} {u : Value} (hb : H b = some (.tup (k.map kV))) (ry : RelV y u) :
    KT H (putK kvs k y) (storedH xs k b u) := by
  have e : (kvs.any fun kv => decide (kv.1 = k)) = (atKey xs k).isSome := by
    rw [valV_any, (r.val k).isSome_eq, Option.isSome_map]
  unfold putK storedH
  rw [e]
  by_cases q : (atKey xs k).isSome = true
  · rw [if_pos q, if_pos q]; exact r.repl k ry
  · rw [if_neg q, if_neg q]; exact Paired.snoc r ⟨rfl, hb, ry⟩
theorem KT.keeps {H H' : Hp} {kvs : List (List Key × V)} {xs : List (List Key × Addr × Value)} (r : KT H kvs xs) (ht : ∀ b ys, H b = some (.tup ys) → H' b = some (.tup ys)) : KT H' kvs xs :=
  Paired.mapP r fun _ _ z => ⟨z.1, ht _ _ z.2.1, z.2.2⟩

section
variable {P : Program} {w : World} {H : Hp} {h : Heap} {a : Addr}
theorem rd_of {u : HO} (ok : HOk P w H h) (e : Rd H a u) : ObjOk P w H h a u := e.ok ok
theorem dk_rd {kvs : List (Key × V)} (ok : HOk P w H h) (e : Rd H a (.dK kvs)) : kvs.length ≤ sizeLine ∧ (a == sysModules) = false ∧ ∃ vs, KV kvs vs ∧ h.DictOf (mixKind P w) a vs :=
  show ObjOk P w H h a (.dK kvs) from rd_of ok e
theorem dk_of {kvs : List (Key × V)} (ok : HOk P w H h) (e : H a = some (.dK kvs)) : kvs.length ≤ sizeLine ∧ (a == sysModules) = false ∧ ∃ vs, KV kvs vs ∧ h.DictOf (mixKind P w) a vs := dk_rd ok (.inl e)
theorem key_of {ks : List Key} (ok : HOk P w H h) (e : H a = some (.tup (ks.map kV))) : (tupleKind (mixKind P w)).is h ks a := by
  obtain ⟨_, its, r, o, h1, h2, n, h3⟩ := (show ObjOk P w H h a (.tup (ks.map kV)) from ok a _ e)
  exact ⟨o, its.toArray, n, h1, h2, h3, by simpa using items_are r⟩
theorem dt_rd {kvs : List (List Key × V)} (ok : HOk P w H h) (e : Rd H a (.dT kvs)) : kvs.length ≤ sizeLine ∧ (a == sysModules) = false ∧
    ∃ xs, KT H kvs xs ∧ h.DictOfH (tupleKind (mixKind P w)) a xs := by
  obtain ⟨z, y, xs, r, o, es, ep, h1, h2, h3, h4, h5⟩ := (show ObjOk P w H h a (.dT kvs) from rd_of ok e)
  refine ⟨z, y, xs, r, o, es, ep, h1, h2, h3, h4, fun x hx => ?_, h5⟩
  have all : ∀ {l : List (List Key × V)} {m : List (List Key × Addr × Value)}, KT H l m → ∀ x ∈ m, (tupleKind (mixKind P w)).is h x.1 x.2.1 := by
    intro l m q
    induction q with
    | nil => intro x hx; exact nomatch hx
    | @cons p q ps qs hq t ih =>
      intro x hx
      rcases List.mem_cons.mp hx with e | hx
      · subst e
        exact key_of ok (by rw [← hq.1]; exact hq.2.1)
      · exact ih x hx
  exact all r x hx
theorem dt_of {kvs : List (List Key × V)} (ok : HOk P w H h) (e : H a = some (.dT kvs)) : kvs.length ≤ sizeLine ∧ (a == sysModules) = false ∧
    ∃ xs, KT H kvs xs ∧ h.DictOfH (tupleKind (mixKind P w)) a xs := dt_rd ok (.inl e)
end

def DGet (H : Hp) (a : Addr) (y : V) (r : Option V) : Prop :=
  (∃ kvs k, Rd H a (.dK kvs) ∧ y = kV k ∧ r = valV kvs k) ∨ ∃ kvs k b, Rd H a (.dT kvs) ∧ y = .ref b ∧ H b = some (.tup (k.map kV)) ∧ r = valV kvs k
def DPut (H : Hp) (a : Addr) (y v : V) (H' : Hp) : Prop :=
  (∃ kvs k, H a = some (.dK kvs) ∧ y = kV k ∧ kvs.length < sizeLine ∧ H' = upd H a (.dK (putK kvs k v))) ∨
  ∃ kvs k b, H a = some (.dT kvs) ∧ y = .ref b ∧ H b = some (.tup (k.map kV)) ∧ kvs.length < sizeLine ∧ H' = upd H a (.dT (putK kvs k v))
theorem DGet.k {H : Hp} {a : Addr} {kvs : List (Key × V)} {k : Key} (e : H a = some (.dK kvs)) : DGet H a (kV k) (valV kvs k) := .inl ⟨kvs, k, .inl e, rfl, rfl⟩
theorem DGet.t {H : Hp} {a b : Addr} {kvs : List (List Key × V)} {k : List Key} (e : H a = some (.dT kvs)) (eb : H b = some (.tup (k.map kV))) : DGet H a (.ref b) (valV kvs k) := .inr ⟨kvs, k, b, .inl e, rfl, eb, rfl⟩
theorem DPut.k {H : Hp} {a : Addr} {kvs : List (Key × V)} {k : Key} {v : V} (e : H a = some (.dK kvs)) (hl : kvs.length < sizeLine) : DPut H a (kV k) v (upd H a (.dK (putK kvs k v))) := .inl ⟨kvs, k, e, rfl, hl, rfl⟩
theorem DPut.t {H : Hp} {a b : Addr} {kvs : List (List Key × V)} {k : List Key} {v : V} (e : H a = some (.dT kvs)) (eb : H b = some (.tup (k.map kV))) (hl : kvs.length < sizeLine) :
    DPut H a (.ref b) v (upd H a (.dT (putK kvs k v))) := .inr ⟨kvs, k, b, e, rfl, eb, hl, rfl⟩


section
variable {X : Cx} {pins : List (Addr × Obj)} {σ : St} {H : Hp} {s : Shared} {a : Addr} {y v : V} {u r : Value} {o : Option V} {A : Around} {E : Value → Shared → Prop}

theorem Inv.big (I : Inv X pins σ H s) : sysModules < s.heap.objs.size := by
  have h : mainGlobals < s.heap.objs.size := (I.mod.glob.keeps I.bk).lt
  exact Nat.lt_trans (by decide) h

theorem d_getItem {Q : Value → Shared → Prop} (hu : A.units + 1 < cLine) (I : Inv X pins σ H s) (g : DGet H a y (some v)) (ry : RelV y u) (h : ∀ w' s', Inv X pins σ H s' → RelV v w' → Q w' s') :
    wpAny (model X.prog X.w) A (getItem (.ref a) u) Q E s := by
  rcases g with ⟨kvs, k, e, ey, l⟩ | ⟨kvs, k, b, e, ey, eb, l⟩
  · subst ey
    obtain ⟨z, hd, vs, rel, dd⟩ := dk_rd I.hok e
    obtain ⟨w', hw, rw'⟩ := RelO.some_of (v := v) (o := valueAt vs k) (by rw [l]; exact rel.val k)
    exact wpAny_getItem_of (kV_is ry) dd.mapOf hw (h w' _ (I.tok _) rw')
  · subst ey
    cases (show u = Value.ref b from ry)
    obtain ⟨z, hd, xs, rel, dd⟩ := dt_rd I.hok e
    obtain ⟨w', hw, rw'⟩ := RelO.some_of (v := v) (o := (atKey xs k).map (·.2)) (by rw [l]; exact rel.val k)
    obtain ⟨p, hp, hp2⟩ := Option.map_eq_some_iff.mp hw
    refine wpAny_getItem_heap (tupleKind_room_in1 hu) (key_of I.hok eb) dd hp ?_
    rw [hp2]
    exact h w' _ (I.tok _) rw'
theorem d_notIn {Q : Value → Shared → Prop} (hu : A.units + 1 < cLine) (I : Inv X pins σ H s) (g : DGet H a y o) (ry : RelV y u) (h : ∀ s', Inv X pins σ H s' → Q (.bool (!o.isSome)) s') :
    wpAny (model X.prog X.w) A (compareOp .NotIn u (.ref a)) Q E s := by
  rcases g with ⟨kvs, k, e, ey, l⟩ | ⟨kvs, k, b, e, ey, eb, l⟩
  · subst ey
    obtain ⟨z, hd, vs, rel, dd⟩ := dk_rd I.hok e
    refine wpAny_notIn_of (kV_is ry) hd dd.mapOf ?_
    rw [← (rel.val k).isSome_eq, ← l]
    exact h _ (I.tok _)
  · subst ey
    cases (show u = Value.ref b from ry)
    obtain ⟨z, hd, xs, rel, dd⟩ := dt_rd I.hok e
    refine wpAny_notIn_heap (tupleKind_room_in1 hu) (key_of I.hok eb) hd dd ?_
    have q := (rel.val k).isSome_eq
    rw [Option.isSome_map] at q
    rw [← q, ← l]
    exact h _ (I.tok _)
theorem d_write {h' : Heap} {t' : Nat} {ob : HO} (I : Inv X pins σ H s) (mu : Mut (H a)) (hs : Heap.SameBut a s.heap h') (he : ∃ q, h'.get? a = some q) (new : ObjOk X.prog X.w (upd H a ob) h' a ob) :
    Inv X pins σ (upd H a ob) { s with heap := h', toks := t' } :=
  I.write (x := a) (e := a) mu (.inl rfl) (fun b q hb z => (hs.2 b hb).trans z) he new
theorem dk_new {P : Program} {w : World} {H' : Hp} {h' : Heap} {kvs : List (Key × V)} {vs : List (Key × Value)} (z : kvs.length ≤ sizeLine) (hd : (a == sysModules) = false) (rel : KV kvs vs) (dd : h'.DictOf (mixKind P w) a vs) :
    ObjOk P w H' h' a (.dK kvs) := ⟨z, hd, vs, rel, dd⟩
theorem d_setItem {H' : Hp} {Q : Unit → Shared → Prop} (hu : A.units + 1 < cLine) (I : Inv X pins σ H s) (g : DPut H a y v H') (ry : RelV y u) (rv : RelV v r) (h : ∀ s', Inv X pins σ H' s' → Q () s') :
    wpAny (model X.prog X.w) A (setItem (.ref a) u r) Q E s := by
  rcases g with ⟨kvs, k, e, ey, l, eH⟩ | ⟨kvs, k, b, e, ey, eb, l, eH⟩
  · subst ey eH
    obtain ⟨z, hd, vs, rel, dd⟩ := dk_of I.hok e
    have hz : vs.length ≤ sizeLine := by rw [← rel.length]; exact z
    have hl : (putK kvs k v).length ≤ sizeLine := by have := length_putK kvs k v; omega
    refine wpAny_setItem_pairs (hsz := hz) (kV_is ry) dd fun h' dd' hs => h _ ?_
    have he : ∃ q, h'.get? a = some q := let ⟨q, _, _, hq, _⟩ := dd'; ⟨q, hq⟩
    exact d_write I (by rw [e]; exact True.intro) hs he (dk_new hl hd (rel.put k rv) dd')
  · subst ey eH
    cases (show u = Value.ref b from ry)
    obtain ⟨z, hd, xs, rel, dd⟩ := dt_of I.hok e
    have hz : xs.length ≤ sizeLine := by rw [← Paired.length rel]; exact z
    have hl : (putK kvs k v).length ≤ sizeLine := by have := length_putK kvs k v; omega
    refine wpAny_setItem_heap (hsz := hz) (tupleKind_room_in1 hu) (key_of I.hok eb) dd fun h' dd' hs => h _ ?_
    obtain ⟨q, es, ep, hq, h2, h3, h4, _, h5⟩ := dd'
    refine d_write I (by rw [e]; exact True.intro) hs ⟨q, hq⟩ ⟨hl, hd, _, (rel.put k eb rv).keeps fun c ys ec => ?_, q, es, ep, hq, h2, h3, h4, h5⟩
    rw [upd_ne (ne_of ec e (fun z => nomatch z))]
    exact ec
end

section
variable {X : Cx} {pins : List (Addr × Obj)} {σ : St} {H : Hp} {s : Shared} {a : Addr} {kvs : List (Key × V)} {k : Key} {u : Value} {A : Around} {E : Value → Shared → Prop}
theorem d_len {Q : Value → Shared → Prop} (I : Inv X pins σ H s) (e : Rd H a (.dK kvs)) (h : ∀ t s', Inv X pins σ H s' → Q (.int kvs.length t) s') : wpAny (model X.prog X.w) A (call (.builtin "len") [.ref a]) Q E s := by
  obtain ⟨z, hd, vs, rel, dd⟩ := dk_rd I.hok e
  refine call_len_dict hd dd (by rw [← rel.length]; rw [sizeLine_eq] at z; omega) ?_
  rw [← rel.length]
  exact h _ _ (I.tok _)
end


def NoSl (i : Expr) : Prop := ∀ ov iv, subscripted i false ov iv = operate [ov, iv] (getItem ov iv)
theorem subD_of {prog : Program} {w : World} {A : Around} {E : Value → Shared → Prop} {s : Shared} {env : Env} {value slice : Expr} {pos : Pos} {T id : String} {Q : Value → Shared → Prop}
    (hl : typeLookup (.type T) "__getitem__" = pure (some (.builtin id))) (hs : NoSl slice)
    (h : wpAny (model prog w) A (eval value env) (fun o s₁ => wpAny (model prog w) A (eval slice env) (fun i s₂ => s₂.TypeIs o T ∧ wpAny (model prog w) A (getItem o i) Q E s₂) E s₁) E s) :
    wpAny (model prog w) A (eval (.Subscript value slice pos) env) Q E s := by
  refine Subscript_ (wpAny_mono h (fun o s₁ h₁ => wpAny_mono h₁ (fun i s₂ h₂ => ?_) fun _ _ x => x) fun _ _ x => x)
  obtain ⟨hT, h₂⟩ := h₂
  unfold subscriptTail
  refine wpAny_bind ?_
  rw [getitemInPython_of_ne hT.not_modules]
  refine wpAny_bind (wpAny_specialOf hT hl ?_)
  have fin : wpAny (model prog w) A (subscripted slice false o i) (fun r s₃ => wpAny (model prog w) A (letTemporaryGo value o r >>= fun _ => pure r) Q E s₃) E s₂ := by
    rw [hs o i]
    exact wpAny_operating (wpAny_mono h₂ (fun r s₃ h₃ => wpAny_bind (wpAny_letTemporaryGo (wpAny_pure h₃))) fun _ _ x => x)
  first
    | exact wpAny_pure (wpAny_bind fin)
    | exact wpAny_bind (wpAny_pure (wpAny_bind fin))
    | exact wpAny_bind fin

theorem dict_typeIs {X : Cx} {pins : List (Addr × Obj)} {σ : St} {H : Hp} {s : Shared} {a : Addr} {y : V} {o : Option V} (I : Inv X pins σ H s) (g : DGet H a y o) : s.TypeIs (.ref a) "dict" := by
  rcases g with ⟨kvs, k, e, _, _⟩ | ⟨kvs, k, b, e, _, _, _⟩
  · obtain ⟨_, _, vs, _, dd⟩ := dk_rd I.hok e
    exact dd.typeIs
  · obtain ⟨_, _, xs, _, dd⟩ := dt_rd I.hok e
    exact dd.typeIs
def tDGet (td ty : TE) : TE := fun σ H Q => td σ H fun x H1 => ty σ H1 fun y H2 => ∃ a v, x = .ref a ∧ DGet H2 a y (some v) ∧ Q v H2
def tDIn (ty td : TE) : TE := fun σ H Q => ty σ H fun y H1 => td σ H1 fun x H2 => ∃ a o, x = .ref a ∧ DGet H2 a y o ∧ Q (.bl o.isSome) H2
def tDNotIn (ty td : TE) : TE := fun σ H Q => ty σ H fun y H1 => td σ H1 fun x H2 => ∃ a o, x = .ref a ∧ DGet H2 a y o ∧ Q (.bl (!o.isSome)) H2
def sDPut (td ty tv : TE) : TS := fun D σ H => tv σ H fun v H1 => td σ H1 fun x H2 => ty σ H2 fun y H3 => ∃ a H4, x = .ref a ∧ DPut H3 a y v H4 ∧ D.nx σ H4
section
variable {X : Cx} {o i e value : Expr} {pos pos' tpos : Pos} {td ty tv : TE}
theorem pe_dget (hu : X.A.units + 1 < cLine) (ho : PE X o td) (hi : PE X i ty) (hs : NoSl i) : PE X (.Subscript o i pos) (tDGet td ty) := by
  intro pins s σ H Q I h
  refine subD_of PySem.F.slot_dict_getitem.lookup hs (thn (ho pins s σ H _ I h) fun u s1 ⟨x, H1, I1, rx, q1⟩ => thn (hi pins s1 σ H1 _ I1 q1) fun iv s2 ⟨y, H2, I2, ry, a, v, ex, g, q2⟩ => ?_)
  subst ex
  obtain rfl : u = Value.ref a := rx
  exact ⟨dict_typeIs I2 g, d_getItem hu I2 g ry fun w' s3 I3 rw' => ⟨v, H2, I3, rw', q2⟩⟩
theorem pc_dnotin (hu : X.A.units + 1 < cLine) (hi : PE X i ty) (ho : PE X o td) : PC X .NotIn i o (tDNotIn ty td) := by
  intro pins s σ H Q I h
  refine thn (hi pins s σ H _ I h) fun iv s1 ⟨y, H1, I1, ry, q1⟩ => thn (ho pins s1 σ H1 _ I1 q1) fun u s2 ⟨x, H2, I2, rx, a, ov, ex, g, q2⟩ => ?_
  subst ex
  obtain rfl : u = Value.ref a := rx
  exact d_notIn hu I2 g ry fun s3 I3 => ⟨.bl (!ov.isSome), H2, I3, rfl, q2⟩
theorem ps_dput (hu : X.A.units + 1 < cLine) (ho : PE X o td) (hi : PE X i ty) (hv : PE X value tv) (hs : swapsWith value (some (.Subscript o i pos')) pos.line X.env = pure false) :
    PS X (.Assign [.Subscript o i pos'] value pos) (sDPut td ty tv) := by
  intro pins s σ H D I h
  refine wpAny_Assign_Subscript (thn (hv pins s σ H _ I h) fun r s1 ⟨v, H1, I1, rv, q1⟩ => thn (ho pins s1 σ H1 _ I1 q1) fun u s2 ⟨x, H2, I2, rx, q2⟩ => thn (hi pins s2 σ H2 _ I2 q2) fun iv s3 ⟨y, H3, I3, ry, a, H4, ex, g, q3⟩ => ?_) hs
  subst ex
  obtain rfl : u = Value.ref a := rx
  exact d_setItem hu I3 g ry rv fun s4 I4 => ⟨σ, H4, I4, q3⟩
end


theorem dk_empty {P : Program} {w : World} {H : Hp} (h : Heap) (hb : sysModules < h.objs.size) : ObjOk P w H (h.push { cls := .type "dict", data := .dict #[] }) h.objs.size (.dK []) :=
  ⟨Nat.zero_le _, beq_eq_false_iff_ne.mpr (Ne.symm (Nat.ne_of_lt hb)), [], .nil, Heap.DictOf.new h⟩
def tDNewK : TE := fun _ H Q => ∀ p, H p = none → Q (.ref p) (upd H p (.dK []))
section
variable {X : Cx} {pos : Pos}
theorem pe_dnewK : PE X (.Dict [] [] pos) tDNewK := fun pins s σ H Q I h =>
  wpAny_Dict_empty ⟨.ref s.heap.objs.size, _, I.laid (a := s.heap.objs.size) (o := .dK []) (t' := s.toks) (fun _ _ q => Heap.get?_push_of_some _ q) (Nat.le_refl _) (dk_empty s.heap I.big), rfl, h _ (I.hok.fresh (Nat.le_refl _))⟩
end

def tPairs : List (TE × TE) → St → Hp → (List (V × V) → Hp → Prop) → Prop
  | [], _, H, Q => Q [] H
  | (tk, tv) :: r, σ, H, Q => tk σ H fun x H1 => tv σ H1 fun y H2 => tPairs r σ H2 fun ps H3 => Q ((x, y) :: ps) H3
abbrev VV : List (V × V) → List (Value × Value) → Prop := Paired fun p q => RelV p.1 q.1 ∧ RelV p.2 q.2
def PPs (X : Cx) (pos : Pos) (keys : List (Option Expr)) (values : List Expr) (trs : List (TE × TE)) : Prop :=
  ∀ (pins : List (Addr × Obj)) (s : Shared) (σ : St) (H : Hp) (Q : List (V × V) → Hp → Prop), Inv X pins σ H s → tPairs trs σ H Q →
    wpAny (model X.prog X.w) X.A (evalPairs (pairTrees keys values X.env pos)) (fun vs s' => ∃ ps H', Inv X pins σ H' s' ∧ VV ps vs ∧ Q ps H') X.xe s
theorem pps_nil {X : Cx} {pos : Pos} : PPs X pos [] [] [] := fun pins s σ H Q I h => pairTrees_nil_walk ⟨[], H, I, .nil, h⟩
theorem pps_cons {X : Cx} {pos : Pos} {k v : Expr} {ks : List (Option Expr)} {vs : List Expr} {tk tv : TE} {trs : List (TE × TE)} (hk : PE X k tk) (hv : PE X v tv) (hr : PPs X pos ks vs trs) :
    PPs X pos (some k :: ks) (v :: vs) ((tk, tv) :: trs) := fun pins s σ H Q I h =>
  pairTrees_cons_walk (thn (hk pins s σ H _ I h) fun u s1 ⟨x, H1, I1, rx, q1⟩ => thn (hv pins s1 σ H1 _ I1 q1) fun w2 s2 ⟨y, H2, I2, ry, q2⟩ =>
    thn (hr pins s2 σ H2 _ I2 q2) fun ws s3 ⟨ps, H3, I3, rel, q3⟩ => ⟨(x, y) :: ps, H3, I3, .cons ⟨rx, ry⟩ rel, q3⟩)

def mergeK (kvs more : List (Key × V)) : List (Key × V) := more.foldl (fun acc kv => putK acc kv.1 kv.2) kvs
theorem KV.merge : ∀ {more : List (Key × V)} {rs : List (Key × Value)} {kvs : List (Key × V)} {vs : List (Key × Value)}, KV more rs → KV kvs vs → KV (mergeK kvs more) (merged vs rs) := by
  intro more rs kvs vs r
  unfold KV at r
  induction r generalizing kvs vs with
  | nil => intro q; exact q
  | @cons p q ps qs h t ih =>
    intro r0
    have e : KV (putK kvs p.1 p.2) (stored vs q.1 q.2) := by
      have := r0.put p.1 h.2
      rw [← h.1]; exact this
    exact ih e
theorem length_mergeK : ∀ (more kvs : List (Key × V)), (mergeK kvs more).length ≤ kvs.length + more.length
  | [], kvs => by show kvs.length ≤ kvs.length + 0; omega
  | p :: r, kvs => by
    have h1 := length_mergeK r (putK kvs p.1 p.2)
    have h2 := length_putK kvs p.1 p.2
    show (mergeK (putK kvs p.1 p.2) r).length ≤ _
    rw [List.length_cons]; omega
theorem carries_of {P : Program} {w : World} : ∀ {kvs : List (Key × V)} {ws : List (Value × Value)}, VV (kvs.map fun kv => (kV kv.1, kv.2)) ws → ∃ rs, Carries (mixKind P w) ws rs ∧ KV kvs rs
  | [], _, r => by rw [List.map_nil] at r; cases r; exact ⟨[], True.intro, .nil⟩
  | p :: kvs, _, r => by
    rw [List.map_cons] at r
    cases r with
    | @cons a b as bs h t =>
      obtain ⟨rs, c, q⟩ := carries_of (P := P) (w := w) t
      obtain ⟨b1, b2⟩ := b
      exact ⟨(p.1, b2) :: rs, ⟨kV_is h.1, rfl, c⟩, .cons ⟨rfl, h.2⟩ q⟩
def tDisp (trs : List (TE × TE)) : TE := fun σ H Q => ∀ p, H p = none → tPairs trs σ (upd H p (.dK [])) fun ps H2 => H2 p = some (.dK []) ∧ ∃ kvs : List (Key × V), ps = kvs.map (fun kv => (kV kv.1, kv.2)) ∧ kvs.length ≤ 15 ∧ Q (.ref p) (upd H2 p (.dK (mergeK [] kvs)))
theorem pe_disp {X : Cx} {pos : Pos} {keys : List (Option Expr)} {values : List Expr} {trs : List (TE × TE)} (h : PPs X pos keys values trs) (hall : keys.all (·.isSome) = true) (hl : keys.length = values.length) (h0 : keys ≠ [])
    (h15 : keys.length ≤ 15) : PE X (.Dict keys values pos) (tDisp trs) := by
  intro pins s σ H Q I q
  have hn := I.hok.fresh (Nat.le_refl s.heap.objs.size)
  have I1 := I.laid (a := s.heap.objs.size) (o := .dK []) (h' := s.heap.push { cls := .type "dict", data := .dict #[] }) (t' := s.toks) (fun _ _ q => Heap.get?_push_of_some _ q) (Nat.le_refl _) (dk_empty s.heap I.big)
  refine wpAny_Dict_walk (knd := mixKind X.prog X.w) hall hl h0 h15 (thn (h pins _ σ _ _ I1 (q _ hn)) fun ws s2 ⟨ps, H2, I2, rel, e, kvs, ep, lk, q2⟩ => ?_)
  subst ep
  obtain ⟨rs, c, rk⟩ := carries_of (P := X.prog) (w := X.w) rel
  obtain ⟨z, hd, vs0, r0, dd⟩ := dk_of I2.hok e
  cases r0
  refine ⟨rs, c, dd, fun h' dd' hs => ⟨.ref s.heap.objs.size, _, ?_, rfl, q2⟩⟩
  have hz : (mergeK [] kvs).length ≤ sizeLine := by
    have h1 := length_mergeK kvs []
    rw [List.length_nil] at h1
    rw [sizeLine_eq]; omega
  have he : ∃ q, h'.get? s.heap.objs.size = some q := let ⟨q, _, _, hq, _⟩ := dd'; ⟨q, hq⟩
  exact d_write I2 (by rw [e]; exact True.intro) hs he (dk_new hz hd (rk.merge .nil) dd')


structure M1 (X : Cx) (o : Expr) (m : Str) (apos : Pos) (e : Expr) (cpos : Pos) : Prop where
  base : attributeBase o m X.env (eval o X.env) = eval o X.env
  few : ((backTo cpos (starEach [e] X.env)).all (fun x => !x.1) && (backToKw cpos (keywordEach [] X.env)).all (fun x => x.1.isSome)
    && decide (([e] : List Expr).length + ([] : List Keyword).length + (if ([] : List Keyword).isEmpty then 0 else 1) < 30)) = true
  line : (apos.endLine == cpos.line) = true
  trees : backTo cpos (starEach [e] X.env) = [(false, eval e X.env)]
structure M2 (X : Cx) (o : Expr) (m : Str) (apos : Pos) (e f : Expr) (cpos : Pos) : Prop where
  base : attributeBase o m X.env (eval o X.env) = eval o X.env
  few : ((backTo cpos (starEach [e, f] X.env)).all (fun x => !x.1) && (backToKw cpos (keywordEach [] X.env)).all (fun x => x.1.isSome)
    && decide (([e, f] : List Expr).length + ([] : List Keyword).length + (if ([] : List Keyword).isEmpty then 0 else 1) < 30)) = true
  line : (apos.endLine == cpos.line) = true
  trees : backTo cpos (starEach [e, f] X.env) = [(false, eval e X.env), (false, eval f X.env)]

def IsD (H : Hp) (a : Addr) : Prop := (∃ kvs, Rd H a (.dK kvs)) ∨ ∃ kvs, Rd H a (.dT kvs)
theorem isD_at {X : Cx} {pins : List (Addr × Obj)} {σ : St} {H : Hp} {s : Shared} {a : Addr} (I : Inv X pins σ H s) (d : IsD H a) :
    s.TypeIs (.ref a) "dict" ∧ (∀ b, Value.ref a = .ref b → ∃ ob, s.heap.get? b = some ob ∧ ob.dict = none) ∧ (a == sysModules) = false := by
  rcases d with ⟨kvs, e⟩ | ⟨kvs, e⟩
  · obtain ⟨_, hd, vs, _, dd⟩ := dk_rd I.hok e
    refine ⟨dd.typeIs, fun b q => ?_, hd⟩
    cases q
    obtain ⟨ob, _, _, h1, h2, _⟩ := dd
    exact ⟨ob, h1, h2.2.1⟩
  · obtain ⟨_, hd, xs, _, dd⟩ := dt_rd I.hok e
    refine ⟨dd.typeIs, fun b q => ?_, hd⟩
    cases q
    obtain ⟨ob, _, _, h1, h2, _⟩ := dd
    exact ⟨ob, h1, h2.2.1⟩

section
variable {X : Cx} {pins : List (Addr × Obj)} {σ : St} {H : Hp} {s : Shared} {a : Addr} {y d : V} {u r : Value} {o : Option V} {A : Around} {E : Value → Shared → Prop}
theorem d_get2 {Q : Value → Shared → Prop} (hu : A.units + 1 < cLine) (I : Inv X pins σ H s) (g : DGet H a y o) (ry : RelV y u) (rd : RelV d r) (h : ∀ w' s', Inv X pins σ H s' → RelV (o.getD d) w' → Q w' s') :
    wpAny (model X.prog X.w) A (call (.builtin "dict.get") [.ref a, u, r]) Q E s := by
  rcases g with ⟨kvs, k, e, ey, l⟩ | ⟨kvs, k, b, e, ey, eb, l⟩
  · subst ey
    obtain ⟨z, hd, vs, rel, dd⟩ := dk_rd I.hok e
    refine call_meetsIn PySem.F.slot_dict_get dd.typeIs PySem.F.entry_dict_get (PySem.F.args_dict_get_3 _ _ _) (meets_dict_get_default (mixKind X.prog X.w) a (kV_is ry) hd r) ⟨_, dd.mapOf, h _ _ (I.tok _) ?_⟩
    rw [l]
    exact (rel.val k).getD rd
  · subst ey
    cases (show u = Value.ref b from ry)
    obtain ⟨z, hd, xs, rel, dd⟩ := dt_rd I.hok e
    refine call_meetsIn PySem.F.slot_dict_get dd.typeIs PySem.F.entry_dict_get (PySem.F.args_dict_get_3 _ _ _) (meetsH_dict_get_default (tupleKind (mixKind X.prog X.w)) a b hd r) ⟨tupleKind_room_in1 hu, k, xs, key_of I.hok eb, dd, h _ _ (I.tok _) ?_⟩
    rw [l]
    exact (rel.val k).getD rd
end

def tDGet1 (td ty : TE) : TE := fun σ H Q => td σ H fun x H1 => ∃ a, x = .ref a ∧ IsD H1 a ∧ ty σ H1 fun y H2 => ∃ o, DGet H2 a y o ∧ Q (o.getD .non) H2
def tDGet2 (td ty tx : TE) : TE := fun σ H Q => td σ H fun x H1 => ∃ a, x = .ref a ∧ IsD H1 a ∧ ty σ H1 fun y H2 => tx σ H2 fun z H3 => ∃ o, DGet H3 a y o ∧ Q (o.getD z) H3
section
variable {X : Cx} {o e f : Expr} {apos cpos : Pos} {td ty tx : TE}
theorem pe_dget2 (hu : X.A.units + 1 < cLine) (ho : PE X o td) (he : PE X e ty) (hf : PE X f tx) (m : M2 X o "get" apos e f cpos) : PE X (.Call (.Attribute o "get" apos) [e, f] [] cpos) (tDGet2 td ty tx) := by
  intro pins s σ H Q I h
  refine wpAny_Call_method m.base m.few m.line PySem.F.plainAttrs_dict PySem.F.slot_dict_get PySem.F.type_dict_get (thn (ho pins s σ H _ I h) fun u s1 ⟨x, H1, I1, rx, a, ex, d, q1⟩ => ?_)
  subst ex
  obtain rfl : u = Value.ref a := rx
  obtain ⟨t1, t2, _⟩ := isD_at I1 d
  refine ⟨t1, t2, ?_⟩
  rw [m.trees]
  refine Calls.callWith_builtin rfl (Calls.evalArgs_plain (Calls.spliced_cons (thn (he pins s1 σ H1 _ I1 q1) fun iv s2 ⟨y, H2, I2, ry, q2⟩ =>
    Calls.spliced_cons (thn (hf pins s2 σ H2 _ I2 q2) fun fv s3 ⟨z, H3, I3, rz, ov, g, q3⟩ => Calls.spliced_nil ?_))))
  exact d_get2 hu I3 g ry rz fun w' s4 I4 rw' => ⟨_, H3, I4, rw', q3⟩
end

section
variable {X : Cx} {pins : List (Addr × Obj)} {σ : St} {H : Hp} {s : Shared} {a : Addr} {kvs : List (Key × V)} {A : Around} {E : Value → Shared → Prop}
end


section
variable {X : Cx} {pins : List (Addr × Obj)} {σ : St} {H : Hp} {s : Shared} {a : Addr} {y : V} {u : Value} {A : Around} {E : Value → Shared → Prop}
end
end L2

namespace Att
open PySem PySem.W PySem.Calls PyProof.Rows

section
variable {prog : Program} {w : World} {A : Around} {E : Value → Shared → Prop} {s : Shared} {K : Frag}

end
end Att

namespace L2
open PySem PySem.Spec PyProof.Rows

end L2

namespace L2
open PySem PySem.Spec PyProof.Rows

end L2

namespace L2
open PySem PySem.Spec PyProof.Rows

section
variable {P : Program} {w : World} {K : PySem.W.Frag} {mg : Str → Option Value} {base : Heap}
end
section
variable {X : Cx}
end

section
variable {κ : Type} [DecidableEq κ]
end
end L2


namespace L2
open PySem PySem.Spec PyProof.Rows
/-! ### dicts whose keys are tuples: {k: v}; steps -/
theorem hu1 {A : Around} (h : A.units + 64 < cLine) : A.units + 1 < cLine := by omega
section
variable {σ : St} {H : Hp} {Q : VK} {D : Ends}
theorem i_dget {td ty : TE} (q : td σ H fun x H1 => ty σ H1 fun y H2 => ∃ a v, x = .ref a ∧ DGet H2 a y (some v) ∧ Q v H2) : tDGet td ty σ H Q := q
theorem i_din {td ty : TE} (q : ty σ H fun y H1 => td σ H1 fun x H2 => ∃ a o, x = .ref a ∧ DGet H2 a y o ∧ Q (.bl o.isSome) H2) : tDIn ty td σ H Q := q
theorem i_dnotin {td ty : TE} (q : ty σ H fun y H1 => td σ H1 fun x H2 => ∃ a o, x = .ref a ∧ DGet H2 a y o ∧ Q (.bl (!o.isSome)) H2) : tDNotIn ty td σ H Q := q
theorem i_dput {td ty tv : TE} (q : tv σ H fun v H1 => td σ H1 fun x H2 => ty σ H2 fun y H3 => ∃ a H4, x = .ref a ∧ DPut H3 a y v H4 ∧ D.nx σ H4) : sDPut td ty tv D σ H := q
theorem i_dget1 {td ty : TE} (q : td σ H fun x H1 => ∃ a, x = .ref a ∧ IsD H1 a ∧ ty σ H1 fun y H2 => ∃ o, DGet H2 a y o ∧ Q (o.getD .non) H2) : tDGet1 td ty σ H Q := q
end
end L2

namespace L2
open PySem PySem.Spec PyProof.Rows
/-! ### a table of the top (words to defs), calls by a local name, the empty tuple -/
def TabK (K : PySem.W.Frag) (a : Addr) (D : List (Str × Addr)) : Prop := KTD.tabLook (fun (f : Addr) (v : Value) => v == Value.ref f) (fun b => K.lookup b) a D = true
abbrev TabH (h : Heap) (a : Addr) (D : List (Str × Addr)) : Prop := KTD.TabOf (fun (f : Addr) (v : Value) => v = Value.ref f) h a D
section
variable {X : Cx} {pins : List (Addr × Obj)} {σ : St} {H : Hp} {s : Shared} {a : Addr} {D : List (Str × Addr)} {k : Str} {tk : Tok} {A : Around} {E : Value → Shared → Prop}
theorem tabH_of (I : Inv X pins σ H s) (t : TabK X.K a D) : TabH s.heap a D :=
  KTD.tab_of_look (fun _ _ e => by simpa using e) (fun b o e => I.kIn b o e) t
theorem tabH_ty (T : TabH s.heap a D) : s.TypeIs (.ref a) "dict" := by
  obtain ⟨_, o, _, _, ho, hc, _⟩ := T
  exact ⟨o, ho, hc.1⟩
theorem tab_get {Q : Option Value → Shared → Prop} (T : TabH s.heap a D) (q : Q ((KTD.datumAt k D).map Value.ref) { s with toks := s.toks + 1 }) : wpAny (model X.prog X.w) A (dictGet a (.str k tk)) Q E s := by
  obtain ⟨_, o, es, ep, ho, hc, hd, hr⟩ := T
  unfold dictGet
  try with_reducible refine wpAny_holding ?_
  refine wpAny_bind (wpAny_pyHash_str (wpAny_bind (KTD.kt_dictFind_strs (s := { s with toks := s.toks + 1 }) ho hd (by obtain ⟨l⟩ := es; simpa using hr.exact) ?_)))
  have z : findBy (fun k v => v.isStr k) es k = (KTD.datumAt k D).map Value.ref := by
    have z1 : findBy (fun k v => v.isStr k) es k = (es.toList.find? fun e => e.key.isStr k).map (·.val) := by obtain ⟨l⟩ := es; simp [findBy]
    rw [z1]
    cases hat : KTD.datumAt k D with
    | none => rw [hr.find_none hat]; rfl
    | some f => obtain ⟨v, hv, hf⟩ := hr.find_some hat; rw [hv, hf]; rfl
  rw [← z, findBy_of_findIdx?] at q
  cases hi : es.findIdx? fun e => e.key.isStr k with
  | some i => rw [hi] at q; exact wpAny_bind (wpAny_dictEntries (s := { s with toks := s.toks + 1 }) ho hd (wpAny_pure q))
  | none => rw [hi] at q; exact wpAny_pure q
theorem tab_item {Q : Value → Shared → Prop} {f : Addr} (T : TabH s.heap a D) (e : KTD.datumAt k D = some f) (q : Q (.ref f) { s with toks := s.toks + 1 }) : wpAny (model X.prog X.w) A (getItem (.ref a) (.str k tk)) Q E s := by
  have ty := tabH_ty T
  unfold getItem
  try with_reducible refine wpAny_holding ?_
  refine wpAny_bind (wpAny_sequenceKey ty (by decide) ?_)
  refine wpAny_bind (wpAny_callSpecial?_slot (name := Str.ofString "__getitem__") ty slot_dict_getitem (wpAny_call_entry slot_dict_getitem ty entry_dict_getitem ?_ (args_dict_getitem _ _)))
  show wpAny _ _ (dictGet a (.str k tk) >>= _) _ _ s
  refine wpAny_bind (tab_get (X := X) T ?_)
  rw [e]
  exact wpAny_pure ⟨_, rfl, wpAny_pure q⟩
theorem tab_has {Q : Bool → Shared → Prop} (T : TabH s.heap a D) (q : Q (KTD.datumAt k D).isSome { s with toks := s.toks + 1 }) : wpAny (model X.prog X.w) A (contains (.ref a) (.str k tk)) Q E s := by
  have ty := tabH_ty T
  unfold contains
  try with_reducible refine wpAny_holding ?_
  refine wpAny_bind (wpAny_specialOf ty slot_dict_contains.lookup ?_)
  show wpAny _ _ (if (some (Value.builtin "dict.__contains__") == some Value.none) = true then _ else _) _ E s
  rw [if_neg (by rw [beq_builtin_none]; exact Bool.false_ne_true)]
  refine wpAny_bind (wpAny_callSpecialUnlessNone?_slot (name := Str.ofString "__contains__") ty slot_dict_contains (wpAny_call_entry slot_dict_contains ty entry_dict_contains ?_ (args_dict_contains _ _)))
  show wpAny _ _ (dictGet a (.str k tk) >>= _) _ _ s
  refine wpAny_bind (tab_get (X := X) T ?_)
  cases e : KTD.datumAt k D with
  | some f =>
    rw [e] at q
    show wpAny _ _ (ret (.bool true)) _ _ _
    exact wpAny_pure ⟨_, rfl, wpAny_truthy_bool q⟩
  | none =>
    rw [e] at q
    show wpAny _ _ (Builtin.Dict.pendingKey? a (.str k tk) >>= _) _ _ _
    exact wpAny_bind (wpAny_pendingKey_other T.1 (wpAny_pure ⟨_, rfl, wpAny_truthy_bool q⟩))
end
def tTab (K : PySem.W.Frag) (td ty : TE) : TE := fun σ H Q => td σ H fun x H1 => ty σ H1 fun y H2 => ∃ (a : Addr) (D : List (Str × Addr)) (k : Str) (f : Addr), x = .ref a ∧ TabK K a D ∧ y = .str k ∧ KTD.datumAt k D = some f ∧ Q (.ref f) H2
def tTabNot (K : PySem.W.Frag) (ty td : TE) : TE := fun σ H Q => ty σ H fun y H1 => td σ H1 fun x H2 => ∃ (a : Addr) (D : List (Str × Addr)) (k : Str), x = .ref a ∧ TabK K a D ∧ y = .str k ∧ Q (.bl (!(KTD.datumAt k D).isSome)) H2
def Cal1 (P : Program) (w : World) (K : PySem.W.Frag) (mg : Str → Option Value) (base : Heap) (f : Addr) (k : Nat) (ps : List Str) (sp : Sp) : Prop :=
  ∃ fd : FuncData, FnOk P w K mg base CX0 k f fd ps sp ∧ PySem.W.keepIn K (.ref f) = true ∧ Binds K fd ps []
def tCallL (P : Program) (w : World) (K : PySem.W.Frag) (mg : Str → Option Value) (base : Heap) (k : Nat) (tf : TE) (t : TA) : TE := fun σ H Q => tf σ H fun x H1 => ∃ (f : Addr) (ps : List Str) (sp : Sp), x = .ref f ∧ Cal1 P w K mg base f k ps sp ∧ t σ H1 fun vs H2 => sp (vs ++ []) H2 Q E0
section
variable {X : Cx} {K : PySem.W.Frag} {o i e : Expr} {es : List Expr} {pos p : Pos} {td ty tf : TE} {t : TA} {x : Str} {k : Nat}
theorem pe_tab (h : X.K = K) (ho : PE X o td) (hi : PE X i ty) (hs : NoSl i) : PE X (.Subscript o i pos) (tTab K td ty) := by
  subst h
  intro pins s σ H Q I q
  refine subD_of PySem.F.slot_dict_getitem.lookup hs (thn (ho pins s σ H _ I q) fun u s1 ⟨x, H1, I1, rx, q1⟩ => thn (hi pins s1 σ H1 _ I1 q1) fun iv s2 ⟨y, H2, I2, ry, a, D, k, f, ex, t, ey, ek, q2⟩ => ?_)
  subst ex ey
  obtain rfl : u = Value.ref a := rx
  obtain ⟨tk, rfl⟩ := (show ∃ tk, iv = Value.str k tk from ry)
  have T := tabH_of I2 t
  exact ⟨tabH_ty T, tab_item T ek ⟨.ref f, H2, I2.tok _, rfl, q2⟩⟩
theorem pc_tabnot (h : X.K = K) (hi : PE X i ty) (ho : PE X o td) : PC X .NotIn i o (tTabNot K ty td) := by
  subst h
  intro pins s σ H Q I q
  refine thn (hi pins s σ H _ I q) fun iv s1 ⟨y, H1, I1, ry, q1⟩ => thn (ho pins s1 σ H1 _ I1 q1) fun u s2 ⟨x, H2, I2, rx, a, D, k, ex, t, ey, q2⟩ => ?_
  subst ex ey
  obtain rfl : u = Value.ref a := rx
  obtain ⟨tk, rfl⟩ := (show ∃ tk, iv = Value.str k tk from ry)
  have T := tabH_of I2 t
  show wpAny _ _ (do return Value.bool (!(← contains (.ref a) (.str k tk)))) _ _ _
  exact wpAny_bind (tab_has T (wpAny_pure ⟨.bl _, H2, I2.tok _, rfl, q2⟩))
theorem pe_callL {P : Program} {w : World} {mg : Str → Option Value} {base : Heap} (h : X.prog = P ∧ X.w = w ∧ X.K = K ∧ X.mg = mg ∧ X.base = base) (hr : Room k X.A) (hf : PE X (.Name x p) tf) (ha : PA X (e :: es) t)
    (he : starEach (e :: es) X.env = (false, eval e X.env) :: starEach es X.env := by rfl) (hpl : (backTo pos (starEach es X.env)).any (·.1) = false := by rfl) :
    PE X (.Call (.Name x p) (e :: es) [] pos) (tCallL P w K mg base k tf t) := by
  obtain ⟨rfl, rfl, rfl, rfl, rfl⟩ := h
  intro pins s σ H Q I q
  refine wpAny_Call_Name_kw (thn (hf pins s σ H _ I q) fun u s1 ⟨y, H1, I1, ry, f, ps, sp, ey, ⟨fd, F, hk, hb⟩, q1⟩ => ?_)
  subst ey
  obtain rfl : u = Value.ref f := ry
  refine PySem.W.callWith_K (h₀ := X.base) I1.ok.mod.kin hk (thn (ha pos pins s1 σ H1 _ I1 q1) fun us s2 ⟨vs, H2, I2, r, q2⟩ => ⟨I2.kIn, ?_⟩) he hpl
  exact run_fn F hr hb .nil pass0 I2 r q2
end
section
variable {X : Cx} {K : PySem.W.Frag}
/-- a list against one without things -/
def rNoL (neg : Bool) : R2 := fun x y H Q => ∃ (p q : Addr) (xs : List V), x = .ref p ∧ y = .ref q ∧ H p = some (.lst xs) ∧ H q = some (.lst []) ∧ Q (.bl (if neg then !xs.isEmpty else xs.isEmpty)) H
theorem op_eqNoL (hu : X.A.units + 64 < cLine) : OpR X (compareOp .Eq) (rNoL false) := by
  intro pins s σ H x y v u Q I rx ry h
  obtain ⟨p, q, xs, rfl, rfl, h1, h2, k⟩ := h
  cases (show v = Value.ref p from rx)
  cases (show u = Value.ref q from ry)
  obtain ⟨us, r1, l1⟩ := lstAt I h1
  obtain ⟨zs, r2, l2⟩ := lstAt I h2
  have e1 := r1.length
  have e2 := r2.length
  cases xs with
  | nil =>
    refine SeqAt.RcAt.lists (A := X.A) (s := s) (e := fun _ => true) l1 l2 (by simp [← e1, ← e2]) (by omega) (fun j _ z2 => absurd z2 (by rw [List.size_toArray, ← r2.length]; exact Nat.not_lt_zero _)) X.prog X.w _ _ ?_
    rw [List.size_toArray, ← e1]
    exact ⟨.bl true, H, I, rfl, k⟩
  | cons x r =>
    refine SeqAt.RcAt.lists_lengths l1 l2 (by simp [← e1, ← e2]) (by omega) X.prog X.w _ _ ?_
    exact ⟨.bl false, H, I, rfl, k⟩
end
section
variable {σ : St} {H : Hp} {Q : VK} {K : PySem.W.Frag}
theorem i_tab {td ty : TE} (q : td σ H fun x H1 => ty σ H1 fun y H2 => ∃ (a : Addr) (D : List (Str × Addr)) (k : Str) (f : Addr), x = .ref a ∧ TabK K a D ∧ y = .str k ∧ KTD.datumAt k D = some f ∧ Q (.ref f) H2) : tTab K td ty σ H Q := q
theorem i_tabnot {td ty : TE} (q : ty σ H fun y H1 => td σ H1 fun x H2 => ∃ (a : Addr) (D : List (Str × Addr)) (k : Str), x = .ref a ∧ TabK K a D ∧ y = .str k ∧ Q (.bl (!(KTD.datumAt k D).isSome)) H2) : tTabNot K ty td σ H Q := q
theorem i_callL {P : Program} {w : World} {mg : Str → Option Value} {base : Heap} {k : Nat} {tf : TE} {t : TA} (q : tf σ H fun x H1 => ∃ (f : Addr) (ps : List Str) (sp : Sp), x = .ref f ∧ Cal1 P w K mg base f k ps sp ∧ t σ H1 fun vs H2 => sp (vs ++ []) H2 Q E0) : tCallL P w K mg base k tf t σ H Q := q
theorem i_noL {neg : Bool} {p q : Addr} {xs : List V} (h1 : H p = some (.lst xs)) (h2 : H q = some (.lst [])) (k : Q (.bl (if neg then !xs.isEmpty else xs.isEmpty)) H) : rNoL neg (.ref p) (.ref q) H Q := ⟨p, q, xs, rfl, rfl, h1, h2, k⟩
theorem i_slT {a : Addr} {xs : List V} {lo hi : Option Int} (h : SqT K H a xs) (n : ¬ (HT.sIx xs.length 0 lo = 0 ∧ HT.sIx xs.length xs.length hi = xs.length)) (q : ∀ p, H p = none → Q (.ref p) (upd H p (.tup (cutV xs lo hi)))) : rSlT K (.ref a) lo hi H Q := ⟨a, xs, rfl, h, n, q⟩
theorem i_dget2 {td ty tx : TE} (q : td σ H fun x H1 => ∃ a, x = .ref a ∧ IsD H1 a ∧ ty σ H1 fun y H2 => tx σ H2 fun z H3 => ∃ o, DGet H3 a y o ∧ Q (o.getD z) H3) : tDGet2 td ty tx σ H Q := q
theorem i_disp {trs : List (TE × TE)} (q : ∀ p, H p = none → tPairs trs σ (upd H p (.dK [])) fun ps H2 => H2 p = some (.dK []) ∧ ∃ kvs : List (Key × V), ps = kvs.map (fun kv => (kV kv.1, kv.2)) ∧ kvs.length ≤ 15 ∧ Q (.ref p) (upd H2 p (.dK (mergeK [] kvs)))) : tDisp trs σ H Q := q
end
/-! ### the kinds of data -/
def Dt.kd : Dt → String
  | .int _ => "int" | .bl _ => "bool" | .str _ => "str" | .non => "NoneType" | .lst _ => "list" | .tup _ => "tuple"
end L2

namespace L2
open PySem PySem.Spec PyProof.Rows
/-! ### Ob. instances: methods and making, by bundles -/
def CalM (P : Program) (w : World) (K : PySem.W.Frag) (mg : Str → Option Value) (base : Heap) (C : Addr) (m : Str) (k : Nat) (ps : List Str) (sp : Sp) : Prop :=
  Cls K C ∧ ∃ (f : Addr) (fd : FuncData), FnOk P w K mg base CX0 k f fd ps sp ∧ Meth K C m f ∧ Binds K fd ps []
def CalN (P : Program) (w : World) (K : PySem.W.Frag) (mg : Str → Option Value) (base : Heap) (x : Str) (C : Addr) (k : Nat) (ps : List Str) (sp : Sp) : Prop :=
  mg x = some (.ref C) ∧ ∃ (f : Addr) (fd : FuncData), FnOk P w K mg base CX0 k f fd ps sp ∧ Mk K C f ∧ Binds K fd ps []
section
variable {X : Cx} {k : Nat} {C : Addr} {ps : List Str} {sp : Sp} {x m : Str} {p pos apos : Pos} {e o : Expr} {es : List Expr} {ta : TE} {t : TA}
theorem pe_methC {pl : Sem Bool} (c : CalM X.prog X.w X.K X.mg X.base C m k ps sp) (hr : Room k X.A) (he : PE X o ta) (ha : PA X (e :: es) t)
    (hst : starEach (e :: es) X.env = (false, eval e X.env) :: starEach es X.env := by rfl) (hpl : (backTo pos (starEach es X.env)).any (·.1) = false := by rfl)
    (ht : eval (.Call (.Attribute o m apos) (e :: es) [] pos) X.env = (do
      let ov ← eval o X.env
      standAt apos.atName
      let (f, first) ← holding [ov] (getMethod ov m pl)
      callWith pos f first (backTo pos (starEach (e :: es) X.env)) (backToKw pos (keywordEach [] X.env))) := by rfl) :
    PE X (.Call (.Attribute o m apos) (e :: es) [] pos) (tMeth C m sp [] E0 ta t) := by
  obtain ⟨c, f, fd, F, hm, hb⟩ := c
  exact pe_meth he c hm F hr hb .nil pass0 ha hst hpl ht
theorem pe_methC0 {pl : Sem Bool} (c : CalM X.prog X.w X.K X.mg X.base C m k ps sp) (hr : Room k X.A) (he : PE X o ta)
    (ht : eval (.Call (.Attribute o m apos) [] [] pos) X.env = (do
      let ov ← eval o X.env
      standAt apos.atName
      let (f, first) ← holding [ov] (getMethod ov m pl)
      callWith pos f first (backTo pos (starEach [] X.env)) (backToKw pos (keywordEach [] X.env))) := by rfl) :
    PE X (.Call (.Attribute o m apos) [] [] pos) (tMeth C m sp [] E0 ta tNil) := by
  obtain ⟨c, f, fd, F, hm, hb⟩ := c
  exact pe_meth0 he c hm F hr hb .nil pass0 ht
theorem pe_makeC (c : CalN X.prog X.w X.K X.mg X.base x C k ps sp) (hr : Room (k + 1) X.A) (hg : Gl X x) (ha : PA X (e :: es) t) (hdb : (x == ("__debug__" : Str)) = false := by decide) (he : starEach (e :: es) X.env = (false, eval e X.env) :: starEach es X.env := by rfl) (hpl : (backTo pos (starEach es X.env)).any (·.1) = false := by rfl) :
    PE X (.Call (.Name x p) (e :: es) [] pos) (tMake C sp [] E0 t) := by
  obtain ⟨hm, f, fd, F, M, hb⟩ := c
  exact pe_make M F hr hg hm hb .nil pass0 ha hdb he hpl
theorem pe_makeC0 (c : CalN X.prog X.w X.K X.mg X.base x C k ps sp) (hr : Room (k + 1) X.A) (hg : Gl X x) (hdb : (x == ("__debug__" : Str)) = false := by decide) :
    PE X (.Call (.Name x p) [] [] pos) (tMake C sp [] E0 tNil) := by
  obtain ⟨hm, f, fd, F, M, hb⟩ := c
  exact pe_make0 M F hr hg hm hb .nil pass0 hdb
/-- an expression that is never come to -/
theorem pe_dead : PE X e (fun _ _ _ => False) := fun _ _ _ _ _ _ h => h.elim
end
/-! steps -/
section
variable {σ : St} {H : Hp} {Q : VK} {D : Ends} {K : PySem.W.Frag} {f : Str} {ta tv : TE}
theorem i_fld (q : ta σ H fun x H1 => ∃ a C dx fs v, x = .ref a ∧ H1 a = some (.ins C dx fs) ∧ Cls K C ∧ NoAttr K C f ∧ fs.lookup f = some v ∧ Q v H1) : tFld K ta f σ H Q := q
theorem i_fldx {a C dx : Addr} {fs : List (Str × V)} {v : V} {R : V → Prop} (e : H a = some (.ins C dx fs)) (l : fs.lookup f = some v) (c : Cls K C) (n : NoAttr K C f) (q : R v) :
    ∃ a' C dx fs v, V.ref a = .ref a' ∧ H a' = some (.ins C dx fs) ∧ Cls K C ∧ NoAttr K C f ∧ fs.lookup f = some v ∧ R v := ⟨a, C, dx, fs, v, rfl, e, c, n, l, q⟩
theorem i_sfld (q : tv σ H fun y H1 => ta σ H1 fun x H2 => ∃ a C dx fs, x = .ref a ∧ H2 a = some (.ins C dx fs) ∧ Cls K C ∧ NoAttr K C f ∧ fs.length < 1000 ∧ D.nx σ (upd H2 a (.ins C dx (putF f y fs)))) : sFld K ta tv f D σ H := q
theorem i_sfldx {a C dx : Addr} {fs : List (Str × V)} {y : V} {N : St → Hp → Prop} (e : H a = some (.ins C dx fs)) (l : fs.length < 1000) (c : Cls K C) (n : NoAttr K C f) (q : N σ (upd H a (.ins C dx (putF f y fs)))) :
    ∃ a' C dx fs, V.ref a = .ref a' ∧ H a' = some (.ins C dx fs) ∧ Cls K C ∧ NoAttr K C f ∧ fs.length < 1000 ∧ N σ (upd H a' (.ins C dx (putF f y fs))) := ⟨a, C, dx, fs, rfl, e, c, n, l, q⟩
theorem i_meth {C : Addr} {m : Str} {sp : Sp} {E : XK} {t : TA} (q : ta σ H fun x H1 => ∃ a dx fs, x = .ref a ∧ H1 a = some (.ins C dx fs) ∧ fs.lookup m = none ∧ t σ H1 fun vs H2 => sp (x :: (vs ++ [])) H2 Q E) : tMeth C m sp [] E ta t σ H Q := q
theorem i_methx {a C dx : Addr} {fs : List (Str × V)} {m : Str} {R : Prop} (e : H a = some (.ins C dx fs)) (l : fs.lookup m = none) (q : R) :
    ∃ a' dx fs, V.ref a = .ref a' ∧ H a' = some (.ins C dx fs) ∧ fs.lookup m = none ∧ R := ⟨a, dx, fs, rfl, e, l, q⟩
theorem i_make {C : Addr} {sp : Sp} {E : XK} {t : TA} (q : t σ H fun vs H1 => ∀ x dx, H1 x = none → H1 dx = none → dx ≠ x → sp (.ref x :: (vs ++ [])) (upd (upd H1 dx (.own x)) x (.ins C dx [])) (fun v H2 => v = .non ∧ Q (.ref x) H2) E) : tMake C sp [] E t σ H Q := q
theorem i_dnew (q : ∀ p, H p = none → Q (.ref p) (upd H p (.dK []))) : tDNewK σ H Q := q
end
/-! ### a dict is held while a loop walks it -/
section
variable {X : Cx} {pins : List (Addr × Obj)} {σ : St} {H : Hp} {s : Shared} {d : Addr} {kvs : List (Key × V)} {o : Obj}
theorem Inv.freeze (I : Inv X pins σ H s) (e : H d = some (.dK kvs)) (g : s.heap.get? d = some o) : Inv X pins σ (upd H d (.frz o (.dK kvs))) s := by
  have nd : ∀ {b : Addr} {u : HO}, H b = some u → u ≠ .dK kvs → b ≠ d := fun h n z => by subst z; rw [e] at h; exact n (Option.some.inj h).symm
  refine I.un (h' := s.heap) (t' := s.toks) ⟨fun b o q _ _ _ => q, fun b o q _ _ _ => ⟨o.slots, q⟩, fun b o q n _ => ?_, fun b o q _ => ⟨o, q⟩, fun b xs q => ?_, fun b o u q => ?_, fun b ps q => ⟨#[], ?_⟩⟩ fun b u q => ?_
  · rw [upd_ne (fun z => by subst z; rw [e] at n; cases n)]; exact n
  · rw [upd_ne (nd q nofun)]; exact q
  · rw [upd_ne (nd q nofun)]; exact q
  · rw [upd_ne (nd q nofun), q]; simp
  · by_cases hb : b = d
    · subst hb
      rw [upd_same] at q
      cases q
      exact ⟨g, I.hok b _ e⟩
    · rw [upd_ne hb] at q
      exact (I.hok b u q).stay (fun c v _ z => z) (fun c z => by rw [upd_ne (nd z nofun)]; exact z) fun c xs z => by rw [upd_ne (nd z nofun)]; exact z
theorem Inv.thaw (I : Inv X pins σ H s) (e : H d = some (.frz o (.dK kvs))) (hz : ∀ o u, X.H₀ d ≠ some (.frz o u)) : Inv X pins σ (upd H d (.dK kvs)) s := by
  have nn : ∀ {b : Addr}, H b = none → upd H d (.dK kvs) b = none := fun {b} n => by rw [upd_ne (fun z => by subst z; rw [e] at n; cases n)]; exact n
  have nd : ∀ {b : Addr} {u : HO}, H b = some u → u ≠ .frz o (.dK kvs) → b ≠ d := fun h n z => by subst z; rw [e] at h; exact n (Option.some.inj h).symm
  refine ⟨I.ok, I.os, I.bare, ⟨I.base.keep, I.base.slot, fun b o q n x => nn (I.base.free b o q n x), I.base.there, fun b xs q => ?_, fun b o u q => ?_, fun b ps q => ?_⟩, I.loc, I.cell, nn I.free, fun x c q => nn (I.freeC x c q), fun p hp => ?_, fun b u q => ?_, I.len⟩
  · have z := I.base.tups b xs q
    rw [upd_ne (nd z nofun)]; exact z
  · have z := I.base.frzs b o u q
    rw [upd_ne (fun y => by subst y; exact hz _ _ q)]; exact z
  · obtain ⟨more, z⟩ := I.base.tbls b ps q
    exact ⟨more, by rw [upd_ne (nd z nofun)]; exact z⟩
  · obtain ⟨a1, a2, a3⟩ := I.pin p hp
    exact ⟨a1, nn a2, a3⟩
  · by_cases hb : b = d
    · subst hb
      rw [upd_same] at q
      cases q
      exact (I.hok b _ e).2
    · rw [upd_ne hb] at q
      exact (I.hok b u q).stay (fun c v _ z => z) (fun c z => by rw [upd_ne (nd z nofun)]; exact z) fun c xs z => by rw [upd_ne (nd z nofun)]; exact z
def tHold (t : TE) : TE := fun σ H Q => ∃ (d : Addr) (kvs : List (Key × V)), H d = some (.dK kvs) ∧ ∀ o, t σ (upd H d (.frz o (.dK kvs))) fun v H1 => H1 d = some (.frz o (.dK kvs)) ∧ Q v (upd H1 d (.dK kvs))
theorem pe_hold {e : Expr} {t : TE} (h : PE X e t) : PE X e (tHold t) := by
  intro pins s σ H Q I q
  obtain ⟨d, kvs, ed, q⟩ := q
  obtain ⟨_, _, vs, _, o, es, ep, g, _⟩ := I.hok d _ ed
  have hz : ∀ o u, X.H₀ d ≠ some (.frz o u) := fun o u z => by have := I.base.frzs d o u z; rw [ed] at this; cases this
  refine thn (h pins s σ _ _ (I.freeze ed g) (q o)) fun u s1 ⟨v, H1, I1, r, e1, q1⟩ => ?_
  exact ⟨v, _, I1.thaw e1 hz, r, q1⟩
def Itd (d : Addr) (o : Obj) (kvs : List (Key × V)) : It :=
  ⟨fun i H => H d = some (.frz o (.dK kvs)) ∧ i < kvs.length, fun i H x H' => H' = H ∧ ∃ k v, kvs[i]? = some (k, v) ∧ x = kV k, fun i H => H d = some (.frz o (.dK kvs)) ∧ kvs.length ≤ i⟩
def epOf (o : Obj) : Nat := match o.data with | .dict _ ep => ep | _ => 0
theorem kV_of {P : Program} {w : World} {k : Key} {u : Value} (h : (mixKind P w).is k u = true) : RelV (kV k) u := by
  rw [mixKind_is] at h
  cases k with
  | inl i => cases u with | int j t => (have e : j = i := by simpa [keyIs, Value.isInt] using h); subst e; exact ⟨_, rfl⟩ | _ => cases h
  | inr x => cases u with | str j t => (have e : j = x := by simpa [keyIs, Value.isStrOf] using h); subst e; exact ⟨_, rfl⟩ | _ => cases h
theorem frz_at (I : Inv X pins σ H s) (e : H d = some (.frz o (.dK kvs))) : (d == sysModules) = false ∧ ∃ vs, KV kvs vs ∧ s.heap.DictAt (mixKind X.prog X.w) d vs (epOf o) := by
  obtain ⟨g, _, hd, vs, r, o', es, ep, g', q⟩ := I.hok d _ e
  rw [g] at g'
  cases g'
  refine ⟨hd, vs, r, o, es, g, ?_⟩
  have : epOf o = ep := by unfold epOf; rw [q.2.1]
  rw [this]
  exact q
theorem turn_dict {P : Program} {w : World} {K : PySem.W.Frag} {tg : Expr} (d it : Addr) (o : Obj) (kvs : List (Key × V)) : Turn P w K tg (Itd d o kvs) [it] it (fun i h => h.IsKeyIter it d i kvs.length (epOf o)) where
  mem := by simp
  obj := fun i h st b hb => by
    have e : b = it := by simpa using hb
    subst e
    obtain ⟨o, e, c, d⟩ := st
    exact ⟨o, e, fun v z => by rw [d] at z; cases z⟩
  keep := fun i h h' st k => st.at fun o e => k it (by simp) o e
  item := by
    intro X hP hw hK hc i pins s σ H E I hf st hg
    subst hP hw hK
    obtain ⟨e, hi⟩ := hg
    obtain ⟨_, vs, r, dd⟩ := frz_at I e
    have hl := r.length
    rw [hl] at st
    obtain ⟨f0, f1, f2, f3, f4, f5⟩ := hf it (by simp)
    have hx : vs[i]? = some (vs[i]'(by omega)) := List.getElem?_eq_getElem _
    have hk := r.keys
    refine wpAny_pyNext_dict_item (k := (vs[i]'(by omega)).1) (v := (vs[i]'(by omega)).2) st dd hx fun key h' hkey st' sb => ?_
    have I1 : Inv X pins σ H { s with heap := h' } := I.turned (t' := s.toks) (fun b o hb e => (sb.2 b hb).trans e) f0 f1 f3 f4 f5
    obtain ⟨o', e', c, dt⟩ := id st'
    refine ⟨key, rfl, go_of (s := { s with heap := h' }) e' c dt (by decide) ⟨kV (vs[i]'(by omega)).1, H, I1, kV_of hkey, ⟨rfl, kvs[i].1, kvs[i].2, List.getElem?_eq_getElem _, ?_⟩, by rw [hl]; exact st', fun b hb => (hf b hb).1⟩⟩
    have a1 : (kvs.map (·.1))[i]? = some kvs[i].1 := by rw [List.getElem?_map, List.getElem?_eq_getElem hi]; rfl
    have a2 : (vs.map (·.1))[i]? = some (vs[i]'(by omega)).1 := by rw [List.getElem?_map, hx]; rfl
    rw [hk, a2] at a1
    rw [Option.some.inj a1]
  done := by
    intro X hP hw hK hc i pins s σ H E I hf st hg
    subst hP hw hK
    obtain ⟨e, hi⟩ := hg
    obtain ⟨_, vs, r, dd⟩ := frz_at I e
    have hl := r.length
    rw [hl] at st hi
    obtain ⟨f0, f1, f2, f3, f4, f5⟩ := hf it (by simp)
    exact wpAny_pyNext_dict_end (I.ok.hd hc) st dd (List.getElem?_eq_none hi) fun h' eb => ⟨rfl, I.turned (t' := s.toks) (fun b o hb e => eb b o hb e) f0 f1 f3 f4 f5⟩
  self := fun _ _ _ _ _ st h => wpAny_pyIter_keyiter st h
def iDict (tl : TE) : TI := fun σ H N => tl σ H fun x H1 => ∃ d o kvs, x = .ref d ∧ H1 d = some (.frz o (.dK kvs)) ∧ N (Itd d o kvs) H1
theorem piD {K : PySem.W.Frag} {tg l : Expr} {tl : TE} (_h : X.K = K) (hl : PE X l tl) : PI X tg l (iDict tl) := by
  intro pins s σ H R I h
  refine thn (hl pins s σ H _ I h) fun v s1 ⟨x, H1, I1, r1, q1⟩ => ?_
  obtain ⟨d, o, kvs, e, hq, q⟩ := q1
  subst e
  cases r1
  obtain ⟨hd, vs, r, dd⟩ := frz_at I1 hq
  refine wpAny_pyIter_dict hd dd ?_
  refine ⟨s1.heap.objs.size, [s1.heap.objs.size], _, _, H1, rfl, I1.kept (t' := s1.toks) fun b o e => Heap.get?_push_of_some _ e, turn_dict d _ o kvs, ⟨_, Heap.get?_push_size _ rfl, rfl, by rw [r.length]; rfl⟩, fun b hb => ?_, q⟩
  have e : b = s1.heap.objs.size := by simpa using hb
  subst e
  exact I1.fpOk (Nat.le_refl _) (I1.hok.fresh (Nat.le_refl _))
theorem i_hold {t : TE} {Q : VK} (e : H d = some (.dK kvs)) (q : ∀ o, t σ (upd H d (.frz o (.dK kvs))) fun v H1 => H1 d = some (.frz o (.dK kvs)) ∧ Q v (upd H1 d (.dK kvs))) : tHold t σ H Q := ⟨d, kvs, e, q⟩
theorem i_itD {tl : TE} {N : It → Hp → Prop} (q : tl σ H fun x H1 => ∃ d o kvs, x = .ref d ∧ H1 d = some (.frz o (.dK kvs)) ∧ N (Itd d o kvs) H1) : iDict tl σ H N := q
end
end L2

namespace L2
open PySem PySem.Spec PyProof.Rows
/-! ### Oc. setdefault, sorted(dict), sum(values), places compared -/
section
variable {X : Cx} {pins : List (Addr × Obj)} {σ : St} {H : Hp} {s : Shared} {a : Addr} {kvs : List (Key × V)} {k : Key} {u r : Value} {A : Around} {E : Value → Shared → Prop}
theorem d_setdef {z : V} {Q : Value → Shared → Prop} (I : Inv X pins σ H s) (e : H a = some (.dK kvs)) (ry : RelV (kV k) u) (rz : RelV z r) (l : valV kvs k = none) (hl : kvs.length < sizeLine) (h : ∀ s', Inv X pins σ (upd H a (.dK (putK kvs k z))) s' → Q r s') :
    wpAny (model X.prog X.w) A (call (.builtin "dict.setdefault") [.ref a, u, r]) Q E s := by
  obtain ⟨z1, hd, vs, rel, dd⟩ := dk_of I.hok e
  have hv : valueAt vs k = none := by
    have := rel.val k
    rw [l] at this
    cases q : valueAt vs k with
    | none => rfl
    | some _ => rw [q] at this; exact this.elim
  refine call_meetsIn PySem.F.slot_dict_setdefault dd.typeIs PySem.F.entry_dict_setdefault (PySem.F.args_dict_setdefault_3 _ _ _) (kt_meets_setdefault (mixKind X.prog X.w) a (kV_is ry) hd r) ⟨vs, dd, by rw [← rel.length]; exact z1, (fun v q => by rw [hv] at q; cases q), fun _ h' d' sb => h _ ?_⟩
  have he : ∃ q, h'.get? a = some q := let ⟨o, _, _, g, _⟩ := d'; ⟨o, g⟩
  exact d_write (ob := .dK (putK kvs k z)) I (by rw [e]; exact True.intro) sb he (dk_new (by have := length_putK kvs k z; omega) hd (rel.put k rz) d')
def tDSetD (td ty tx : TE) : TE := fun σ H Q => td σ H fun x H1 => ∃ a, x = .ref a ∧ IsD H1 a ∧ ty σ H1 fun y H2 => tx σ H2 fun z H3 => ∃ kvs k, H3 a = some (.dK kvs) ∧ y = kV k ∧ valV kvs k = none ∧ kvs.length < sizeLine ∧ Q z (upd H3 a (.dK (putK kvs k z)))
theorem pe_dsetd {o e f : Expr} {apos cpos : Pos} {td ty tx : TE} (ho : PE X o td) (he : PE X e ty) (hf : PE X f tx) (m : M2 X o "setdefault" apos e f cpos) : PE X (.Call (.Attribute o "setdefault" apos) [e, f] [] cpos) (tDSetD td ty tx) := by
  intro pins s σ H Q I h
  refine wpAny_Call_method m.base m.few m.line PySem.F.plainAttrs_dict PySem.F.slot_dict_setdefault PySem.F.type_dict_setdefault (thn (ho pins s σ H _ I h) fun u s1 ⟨x, H1, I1, rx, a, ex, d, q1⟩ => ?_)
  subst ex
  obtain rfl : u = Value.ref a := rx
  obtain ⟨t1, t2, _⟩ := isD_at I1 d
  refine ⟨t1, t2, ?_⟩
  rw [m.trees]
  refine Calls.callWith_builtin rfl (Calls.evalArgs_plain (Calls.spliced_cons (thn (he pins s1 σ H1 _ I1 q1) fun iv s2 ⟨y, H2, I2, ry, q2⟩ =>
    Calls.spliced_cons (thn (hf pins s2 σ H2 _ I2 q2) fun fv s3 ⟨z, H3, I3, rz, kvs, k, e3, ey, l, hl, q3⟩ => Calls.spliced_nil ?_))))
  subst ey
  exact d_setdef I3 e3 ry rz l hl fun s4 I4 => ⟨_, _, I4, rz, q3⟩
theorem i_dsetd {td ty tx : TE} {Q : VK} (q : td σ H fun x H1 => ∃ a, x = .ref a ∧ IsD H1 a ∧ ty σ H1 fun y H2 => tx σ H2 fun z H3 => ∃ kvs k, H3 a = some (.dK kvs) ∧ y = kV k ∧ valV kvs k = none ∧ kvs.length < sizeLine ∧ Q z (upd H3 a (.dK (putK kvs k z)))) : tDSetD td ty tx σ H Q := q
theorem isD_k (e : Rd H a (.dK kvs)) : IsD H a := .inl ⟨kvs, e⟩
/-- sorted(d): d's keys are ints -/
def rSortedD : List V → Hp → VK → Prop := fun xs H Q => ∃ (d : Addr) (kvs : List (Key × V)) (ns : List Int), xs = [.ref d] ∧ Rd H d (.dK kvs) ∧ kvs.map (·.1) = ns.map Sum.inl ∧ ns.length < 64 ∧
  ∀ (l : Addr) (rs : List Int), H l = none → rs.Perm ns → rs.Pairwise (· ≤ ·) → Q (.ref l) (upd H l (.lst (rs.map V.int)))
theorem ints_keys : ∀ {acc : List Value} {vs : List (Key × Value)} {ns : List Int}, acc.length = vs.length → (∀ (j : Nat) (v : Value), acc[j]? = some v → ∃ (k : Key) (x : Value), vs[j]? = some (k, x) ∧ RelV (kV k) v) → vs.map (·.1) = ns.map Sum.inl → IntsAre acc ns
  | [], [], ns, _, _, h => by cases ns with | nil => exact .nil | cons => cases h
  | [], _ :: _, _, hl, _, _ => by cases hl
  | _ :: _, [], _, hl, _, _ => by cases hl
  | v :: acc, p :: vs, ns, hl, hj, h => by
    cases ns with
    | nil => cases h
    | cons n ns =>
      have h1 : p.1 = Sum.inl n := (List.cons.inj h).1
      obtain ⟨k, x, e, rv⟩ := hj 0 v rfl
      have e : p = (k, x) := Option.some.inj e
      subst e
      have h1 : k = Sum.inl n := h1
      subst h1
      obtain ⟨t, rfl⟩ := (show ∃ t, v = Value.int n t from rv)
      exact .cons _ _ (ints_keys (by simpa using hl) (fun j v e => hj (j + 1) v (by simpa using e)) (List.cons.inj h).2)
theorem cSortedD (hc : X.calm = true) : CallR X (.builtin "sorted") rSortedD := by
  intro pins s σ H xs us Q I r h
  obtain ⟨d, kvs, ns, rfl, hq, hk, hn, q⟩ := h
  obtain ⟨u, rfl, rx⟩ := vals1 r
  cases rx
  obtain ⟨hz, lo, vs, rel, dd⟩ := dk_rd I.hok hq
  obtain ⟨ep, dd⟩ := dd.dictAt
  have hl : vs.length = ns.length := by rw [← rel.length]; have := congrArg List.length hk; simpa using this
  refine Calls.call_function_entry kind_sorted plain_sorted entry_sorted (args_sorted1 _) ?_
  unfold Builtin.«sorted»
  refine wpAny_bind (m := checkCount "sorted" 1 1 _) (wpAny_pure ?_)
  refine wpAny_bind (PySem.W.kdu_collect (PySem.W.kdl_dict (prog := X.prog) (w := X.w) (knd := mixKind X.prog X.w) (kvs := vs) (ep := ep) lo) (I.ok.hd hc) dd (by rw [sizeLine_eq]; omega) fun h2 t2 acc old hacc => ?_)
  have hi : IntsAre acc.toList ns := ints_keys (vs := vs) (by rw [Array.length_toList]; exact hacc.1) (fun j v e => by
    obtain ⟨k, x, e1, e2⟩ := hacc.2 j v (by rw [← Array.getElem?_toList]; exact e)
    exact ⟨k, x, e1, kV_of e2⟩) (by rw [← rel.keys]; exact hk)
  have hvl : acc.toList.length < 64 := by rw [IntsAre.length hi]; exact hn
  refine wpAny_bind (wpAny_newList ?_ (by rw [sizeLine_eq]; omega))
  generalize hvs : acc.toList = ws at *
  have hoL : (h2.push (seqObj "list" ws.toArray 0)).get? h2.objs.size = some (seqObj "list" ws.toArray 0) := Heap.get?_push_size _ rfl
  show wpAny _ _ _ _ _ { s with heap := h2.push (seqObj "list" ws.toArray 0), toks := t2 }
  refine wpAny_bind (wpAny_holding (wpAny_call_entry slot_list_sort ⟨_, hoL, rfl⟩ entry_list_sort (list_sort_tree hoL hi hvl fun out ns' a1 a2 a3 => ⟨_, rfl, ?_⟩) (args_list_sort _)))
  have I2 : Inv X pins σ H { s with heap := h2, toks := t2 } := I.kept (t' := t2) old
  have keep : ∀ b o, h2.get? b = some o → (sortedHeap (h2.push (seqObj "list" ws.toArray 0)) h2.objs.size ws out).get? b = some o := fun b o e => by
    have e2 := e
    have hb : b < h2.objs.size := Heap.lt_size e2
    unfold sortedHeap
    rw [Heap.get?_update_other _ _ (Nat.ne_of_gt hb)]
    refine Heap.get?_push_of_some _ (Heap.get?_push_of_some _ ?_)
    rw [Heap.get?_update_other _ _ (Nat.ne_of_gt hb)]
    exact Heap.get?_push_of_some _ e2
  have ho1 := get?_update_seq hoL (fun _ => (#[] : Array Value))
  have ho3 := get?_update_seq (Heap.get?_push_of_some (seqObj "list" #[] 0) (Heap.get?_push_of_some (seqObj "tuple" ws.toArray 0) ho1)) (fun _ => out)
  refine wpAny_pure ⟨_, rfl, ?_⟩
  refine ⟨.ref h2.objs.size, _, I2.laid (t' := t2) (o := .lst (ns'.map V.int)) keep (Nat.le_refl _) ⟨?_, out.toList, _, vals_of_ints a1, by rw [Array.toArray_toList]; exact ho3⟩, rfl, q _ ns' (I2.hok.fresh (Nat.le_refl _)) a2 a3⟩
  have e1 := IntsAre.length a1
  rw [List.length_map, a2.length_eq]
  rw [sizeLine_eq]; omega
theorem i_sortedD {d : Addr} {ns : List Int} {Q : VK} (h : Rd H d (.dK kvs)) (hk : kvs.map (·.1) = ns.map Sum.inl) (hn : ns.length < 64) (q : ∀ (l : Addr) (rs : List Int), H l = none → rs.Perm ns → rs.Pairwise (· ≤ ·) → Q (.ref l) (upd H l (.lst (rs.map V.int)))) : rSortedD [.ref d] H Q := ⟨d, kvs, ns, rfl, h, hk, hn, q⟩
/-! the view of a dict's values; its sum where the dict is empty -/
def vwO (p d : Addr) : HO := .ext fun h => h.IsValuesView p d
def rVals : V → List V → Hp → VK → Prop := fun x xs H Q => ∃ (d : Addr) (kvs : List (Key × V)), x = .ref d ∧ xs = [] ∧ H d = some (.dK kvs) ∧ ∀ p, H p = none → Q (.ref p) (upd H p (vwO p d))
theorem mt_values : MtR X "dict.values" rVals := by
  intro pins s σ H x xs v us Q I rx r h
  obtain ⟨d, kvs, rfl, rfl, e, q⟩ := h
  cases r
  cases (show v = Value.ref d from rx)
  obtain ⟨_, lo, vs, rel, dd⟩ := dk_of I.hok e
  refine call_meetsIn PySem.F.slot_dict_values dd.typeIs PySem.F.entry_dict_values (PySem.F.args_dict_values_1 _) (meets_dict_values (mixKind X.prog X.w) d lo) ⟨⟨vs, dd⟩, ?_⟩
  have g : (s.heap.push { cls := .type "dict_values", data := .fields #[.ref d] }).get? s.heap.objs.size = some { cls := .type "dict_values", data := .fields #[.ref d] } := Heap.get?_push_size _ rfl
  refine ⟨.ref s.heap.objs.size, _, I.laid (t' := s.toks) (o := vwO s.heap.objs.size d) (fun b u z => Heap.get?_push_of_some _ z) (Nat.le_refl _) ⟨⟨_, g, rfl, rfl⟩, ⟨_, g⟩, fun h1 h2 z k => ?_⟩, rfl, q _ (I.hok.fresh (Nat.le_refl _))⟩
  obtain ⟨o, z1, z2⟩ := z
  exact ⟨o, k o z1, z2⟩
theorem mVals {K : PySem.W.Frag} {o : Expr} {to : TE} {apos cpos : Pos} (h : X.K = K) (ho : PE X o to) (hbase : attributeBase o "values" X.env (eval o X.env) = eval o X.env := by rfl) (hline : (apos.endLine == cpos.line) = true := by rfl) :
    PE X (.Call (.Attribute o "values" apos) [] [] cpos) (tBM0 K "dict" rVals to) := by
  subst h
  exact pe_bm0 PySem.F.plainAttrs_dict PySem.F.slot_dict_values PySem.F.type_dict_values mt_values ho hbase hline
def rSumV : List V → Hp → VK → Prop := fun xs H Q => ∃ (p d : Addr), xs = [.ref p] ∧ H p = some (vwO p d) ∧ H d = some (.dK []) ∧ Q (.int 0) H
theorem cSumV (hc : X.calm = true) : CallR X (.builtin "sum") rSumV := by
  intro pins s σ H xs us Q I r h
  obtain ⟨p, d, rfl, ep, ed, q⟩ := h
  obtain ⟨u, rfl, rx⟩ := vals1 r
  cases rx
  obtain ⟨_, lo, vs, rel, dd⟩ := dk_of I.hok ed
  obtain ⟨e, dd⟩ := dd.dictAt
  have hv : s.heap.IsValuesView p d := (I.hok p _ ep).1
  cases rel
  have K := PySem.W.kdl_values (prog := X.prog) (w := X.w) (r := p) (d := d) (knd := mixKind X.prog X.w) (kvs := []) (ep := e)
  refine call_sum_walkAnyS ?_
  obtain ⟨oI, St, hit, W, st⟩ := K.iter X.A.in1 s (I.ok.hd hc) ⟨hv, dd⟩
  refine hit _ _ ⟨s.heap.objs.size, _, _, _, 0, _, _, fun _ => 0, rfl, W.toS, st, fun b hb => ?_, fun i v z => by obtain ⟨k, z⟩ := z; simp at z, fun s' t' hm => ?_⟩
  · show b < (s.heap.push oI).objs.size
    rw [size_push']
    rcases List.mem_cons.mp hb with e | hb
    · rw [e]; exact Nat.lt_succ_self _
    · rw [List.mem_singleton.mp hb]; exact Nat.lt_succ_of_lt dd.lt_size
  · have hk : ∀ b o, s.heap.get? b = some o → s'.heap.get? b = some o := fun b o e =>
      hm.heap b o (fun hI => absurd (Heap.lt_size e) (by rw [List.mem_singleton.mp hI]; exact Nat.lt_irrefl _)) (Heap.get?_push_of_some _ e)
    rw [Moved.eq_with hm]
    exact ⟨.int 0, H, I.kept (t' := s'.toks) hk, ⟨_, rfl⟩, q⟩
theorem i_vals {d : Addr} {Q : VK} (e : H d = some (.dK kvs)) (q : ∀ p, H p = none → Q (.ref p) (upd H p (vwO p d))) : rVals (.ref d) [] H Q := ⟨d, kvs, rfl, rfl, e, q⟩
theorem i_sumV {p d : Addr} {Q : VK} (e : H p = some (vwO p d)) (ed : H d = some (.dK [])) (q : Q (.int 0) H) : rSumV [.ref p] H Q := ⟨p, d, rfl, e, ed, q⟩
/-! places: None, or a tuple of one word -/
def plW : Bool → Str
  | true => "loose"
  | false => "lost"
def PlAt (K : PySem.W.Frag) (H : Hp) : V → Option Bool → Prop
  | .non, none => True
  | .ref p, some w => SqT K H p [.str (plW w)]
  | _, _ => False
def plD : Option Bool → PyData
  | none => .none
  | some w => .tuple [.str (plW w)]
theorem pl_reads {x : V} {o : Option Bool} {v : Value} (I : Inv X pins σ H s) (h : PlAt X.K H x o) (r : RelV x v) : ∃ as, Reads s.heap v (plD o) as := by
  cases x <;> cases o <;> first | exact h.elim | skip
  · cases (show v = Value.none from r); exact ⟨_, .none⟩
  · rename_i p w
    cases (show v = Value.ref p from r)
    obtain ⟨its, rv, ⟨ob, g, c, n, dt⟩, _⟩ := I.tuple h
    cases rv with
    | cons r1 t =>
      cases t
      obtain ⟨t, rfl⟩ := r1
      exact ⟨_, .tuple g c dt (.cons (.str _ _) .nil)⟩
theorem pl_shaped (o : Option Bool) : SeqAt.shaped (plD o) = true := by
  cases o with
  | none => decide +kernel
  | some w => cases w <;> decide +kernel
theorem pl_eqv (a b : Option Bool) : PyData.eqv (plD a) (plD b) = decide (a = b) := by
  cases a with
  | none => cases b with
    | none => decide +kernel
    | some v => cases v <;> decide +kernel
  | some w => cases b with
    | none => cases w <;> decide +kernel
    | some v => cases w <;> cases v <;> decide +kernel
def rPl (K : PySem.W.Frag) (neg : Bool) : R2 := fun x y H Q => ∃ a b, PlAt K H x a ∧ PlAt K H y b ∧ Q (.bl (neg ^^ decide (a = b))) H
theorem op_eqPl {K : PySem.W.Frag} (h : X.K = K) (hu : X.A.units + 64 < cLine) : OpR X (compareOp .Eq) (rPl K false) := by
  subst h
  intro pins s σ H x y v u Q I rx ry h
  obtain ⟨a, b, h1, h2, k⟩ := h
  obtain ⟨as, r1⟩ := pl_reads I h1 rx
  obtain ⟨bs, r2⟩ := pl_reads I h2 ry
  exact eq_dataH r1 r2 (pl_shaped a) (pl_shaped b) hu ⟨.bl _, H, I, rfl, by rw [pl_eqv]; simpa using k⟩
theorem op_nePl {K : PySem.W.Frag} (h : X.K = K) (hu : X.A.units + 64 < cLine) : OpR X (compareOp .NotEq) (rPl K true) := by
  subst h
  intro pins s σ H x y v u Q I rx ry h
  obtain ⟨a, b, h1, h2, k⟩ := h
  obtain ⟨as, r1⟩ := pl_reads I h1 rx
  obtain ⟨bs, r2⟩ := pl_reads I h2 ry
  exact ne_dataH r1 r2 (pl_shaped a) (pl_shaped b) hu ⟨.bl _, H, I, rfl, by rw [pl_eqv]; simpa using k⟩
theorem i_pl {K : PySem.W.Frag} {neg : Bool} {x y : V} {a b : Option Bool} {Q : VK} (h1 : PlAt K H x a) (h2 : PlAt K H y b) (k : Q (.bl (neg ^^ decide (a = b))) H) : rPl K neg x y H Q := ⟨a, b, h1, h2, k⟩
end
end L2

namespace L2
open PySem PySem.Spec PyProof.Rows
/-! ### Od. data with tuples of the module among it -/
theorem SqT.mono {K : PySem.W.Frag} {H H' : Hp} {a : Addr} {xs : List V} (s : Same H H') (h : SqT K H a xs) : SqT K H' a xs := by
  rcases h with (h | ⟨o, h⟩) | h
  · exact .inl (.inl (s _ _ h))
  · exact .inl (.inr ⟨o, s _ _ h⟩)
  · exact .inr h
mutual
inductive RepK (K : PySem.W.Frag) (H : Hp) : V → Dt → Prop where
  | int (i : Int) : RepK K H (.int i) (.int i)
  | bl (b : Bool) : RepK K H (.bl b) (.bl b)
  | str (x : Str) : RepK K H (.str x) (.str x)
  | non : RepK K H .non .non
  | lst {a : Addr} {vs : List V} {ds : List Dt} : H a = some (.lst vs) → RepsK K H vs ds → RepK K H (.ref a) (.lst ds)
  | tup {a : Addr} {vs : List V} {ds : List Dt} : SqT K H a vs → RepsK K H vs ds → RepK K H (.ref a) (.tup ds)
inductive RepsK (K : PySem.W.Frag) (H : Hp) : List V → List Dt → Prop where
  | nil : RepsK K H [] []
  | cons {v : V} {d : Dt} {vs : List V} {ds : List Dt} : RepK K H v d → RepsK K H vs ds → RepsK K H (v :: vs) (d :: ds)
end
theorem RepsK.length {K : PySem.W.Frag} {H : Hp} : ∀ {vs : List V} {ds : List Dt}, RepsK K H vs ds → vs.length = ds.length
  | _, _, .nil => rfl
  | _, _, .cons _ t => by rw [List.length_cons, List.length_cons, RepsK.length t]
theorem RepsK.get {K : PySem.W.Frag} {H : Hp} : ∀ {vs : List V} {ds : List Dt} {i : Nat} {v : V}, RepsK K H vs ds → vs[i]? = some v → ∃ d, ds[i]? = some d ∧ RepK K H v d
  | _, _, _, _, .nil, e => by simp at e
  | _, _, 0, _, .cons r _, e => by simp at e; subst e; exact ⟨_, rfl, r⟩
  | _, _, i + 1, v, .cons _ t, e => by
    obtain ⟨d, h1, h2⟩ := RepsK.get (i := i) (v := v) t (by simpa using e)
    exact ⟨d, by simpa using h1, h2⟩
theorem RepK.mono {K : PySem.W.Frag} {H H' : Hp} (s : Same H H') {v : V} {d : Dt} (h : RepK K H v d) : RepK K H' v d :=
  RepK.rec (motive_1 := fun v d _ => RepK K H' v d) (motive_2 := fun vs ds _ => RepsK K H' vs ds) (fun i => .int i) (fun b => .bl b) (fun x => .str x) .non (fun e _ ih => .lst (s _ _ e) ih) (fun e _ ih => .tup (e.mono s) ih) .nil (fun _ _ ih1 ih2 => .cons ih1 ih2) h
theorem RepsK.mono {K : PySem.W.Frag} {H H' : Hp} (s : Same H H') : ∀ {vs : List V} {ds : List Dt}, RepsK K H vs ds → RepsK K H' vs ds
  | _, _, .nil => .nil
  | _, _, .cons r t => .cons (RepK.mono s r) (RepsK.mono s t)
theorem RepsK.app {K : PySem.W.Frag} {H : Hp} : ∀ {vs ws : List V} {ds es : List Dt}, RepsK K H vs ds → RepsK K H ws es → RepsK K H (vs ++ ws) (ds ++ es)
  | _, _, _, _, .nil, h => h
  | _, _, _, _, .cons r t, h => .cons r (RepsK.app t h)
theorem RepsK.map {K : PySem.W.Frag} {H : Hp} {α : Type} {f : α → V} {g : α → Dt} : ∀ {l : List α}, (∀ x ∈ l, RepK K H (f x) (g x)) → RepsK K H (l.map f) (l.map g)
  | [], _ => .nil
  | x :: r, h => .cons (h x List.mem_cons_self) (RepsK.map fun y hy => h y (List.mem_cons_of_mem _ hy))
def KndK (K : PySem.W.Frag) (H : Hp) (x : V) (t : String) : Prop := Knd K H x t ∨ (t = "tuple" ∧ ∃ p xs, x = .ref p ∧ SqT K H p xs)
def rIsiK (K : PySem.W.Frag) : List V → Hp → VK → Prop := fun xs H Q => ∃ x T t, xs = [x, .ty T] ∧ KndK K H x t ∧ T ∈ ["bool", "int", "str", "list", "tuple", "dict"] ∧ Q (.bl (isTy t T)) H
theorem cIsiK {X : Cx} {K : PySem.W.Frag} (h : X.K = K) : CallR X (.builtin "isinstance") (rIsiK K) := by
  subst h
  intro pins s σ H xs us Q I r h
  obtain ⟨x, T, t, rfl, k, hT, q⟩ := h
  obtain ⟨u1, u2, rfl, r1, r2⟩ := vals2 r
  cases (show u2 = Value.type T from r2)
  rcases k with k | ⟨rfl, p, xs, rfl, k⟩
  · exact isinst_ok I r1 k.1 (kit_kinds X.K t k.2 T hT) fun tk => ⟨.bl _, H, I.tok _, rfl, q⟩
  · cases (show u1 = Value.ref p from r1)
    obtain ⟨its, rv, ⟨o, h1, h2, _⟩, _⟩ := I.tuple k
    exact PySem.W.kia_one PySem.W.kitx_tuple I.kIn ⟨o, h1, h2⟩ (kit_kinds X.K "tuple" (by decide) T hT) (fun z => nomatch z) fun tk => ⟨.bl _, H, I.tok _, rfl, q⟩
theorem i_isiK {K : PySem.W.Frag} {H : Hp} {Q : VK} {x : V} {T t : String} (k : KndK K H x t) (hT : T ∈ ["bool", "int", "str", "list", "tuple", "dict"]) (q : Q (.bl (isTy t T)) H) : rIsiK K [x, .ty T] H Q := ⟨x, T, t, rfl, k, hT, q⟩
def rIsiTK (K : PySem.W.Frag) : List V → Hp → VK → Prop := fun xs H Q => ∃ (x : V) (p : Addr) (Ts : List String) (t : String), xs = [x, .ref p] ∧ SqT K H p (Ts.map V.ty) ∧ KndK K H x t ∧ (∀ T ∈ Ts, T ∈ ["bool", "int", "str", "list", "tuple", "dict"]) ∧ Q (.bl (Ts.any (isTy t))) H
theorem cIsiTK {X : Cx} {K : PySem.W.Frag} (h : X.K = K) : CallR X (.builtin "isinstance") (rIsiTK K) := by
  subst h
  intro pins s σ H xs us Q I r h
  obtain ⟨x, p, Ts, t, rfl, hp, k, hT, q⟩ := h
  rcases k with k | ⟨rfl, p', xs', rfl, k⟩
  · exact call_isiT pins s σ H _ us Q I r ⟨x, p, Ts, t, rfl, hp, k, hT, q⟩
  · obtain ⟨u1, u2, rfl, r1, r2⟩ := vals2 r
    cases (show u1 = Value.ref p' from r1)
    cases (show u2 = Value.ref p from r2)
    obtain ⟨its, rv, ⟨o, ho, hc, n, hd⟩, _⟩ := I.tuple hp
    obtain ⟨_, _, ⟨o', h1, h2, _⟩, _⟩ := I.tuple k
    have e := vals_ty rv
    subst e
    obtain ⟨c, d, dt, sl⟩ := o
    cases (show c = _ from hc)
    cases (show dt = _ from hd)
    exact PySem.W.kia_tup PySem.W.kitx_tuple I.kIn ⟨o', h1, h2⟩ ho (kitAny_kinds X.K (by decide) Ts hT) (fun z => nomatch z) fun tk => ⟨.bl _, H, I.tok _, rfl, q⟩
def spSameK (K : PySem.W.Frag) (n : Nat) : Sp := fun vs H Q _ => ∃ f u dd, vs = [f, u] ∧ RepK K H f dd ∧ RepK K H u dd ∧ dd.depth ≤ n ∧ dd.wide ≤ 1000 ∧ ∀ H', Same H H' → Q (.bl true) H'
section
variable {X : Cx} {K : PySem.W.Frag} {o e value : Expr} {f : Str} {pos pos' : Pos} {ta tv : TE}
theorem pe_fldK (h : X.K = K) (he : PE X e ta) (hb : attributeBase e f X.env (eval e X.env) = eval e X.env := by rfl) : PE X (.Attribute e f pos) (tFld K ta f) := by subst h; exact pe_fld he hb
theorem ps_fldK (h : X.K = K) (ha : PE X o ta) (hv : PE X value tv) (hs : swapsWith value (some (.Attribute o f pos')) pos.line X.env = pure false) : PS X (.Assign [.Attribute o f pos'] value pos) (sFld K ta tv f) := by subst h; exact ps_fld ha hv hs
def rLenD : List V → Hp → VK → Prop := fun xs H Q => ∃ a kvs, xs = [V.ref a] ∧ Rd H a (.dK kvs) ∧ Q (.int kvs.length) H
theorem cLenD : CallR X (.builtin "len") rLenD := by
  intro pins s σ H xs us Q I r h
  obtain ⟨a, kvs, rfl, e, q⟩ := h
  obtain ⟨u, rfl, rx⟩ := vals1 r
  cases (show u = Value.ref a from rx)
  exact d_len I e fun t s' I' => ⟨.int kvs.length, H, I', ⟨_, rfl⟩, q⟩
theorem i_lenD {H : Hp} {Q : VK} {a : Addr} {kvs : List (Key × V)} (e : Rd H a (.dK kvs)) (q : Q (.int kvs.length) H) : rLenD [.ref a] H Q := ⟨a, kvs, rfl, e, q⟩
end
end L2

namespace K11
open PySem L2
def top (i : Nat) : Stmt := PySem.Challenge.pw_argosy_k11_timbers_felled_and_places.main.body.getD i (.Pass ⟨0, 0, 0, 0⟩)
/-! ### the yard's attributes -/
def yF (most day : Int) (dl dc de db : Addr) : List (Str × V) := [("most", .int most), ("day", .int day), ("lines", .ref dl), ("chains", .ref dc), ("ends", .ref de), ("debts", .ref db)]
def dF (dn dt : Addr) : List (Str × V) := [("shares", .int 1), ("by_name", .ref dn), ("by_timber", .ref dt), ("coins", .int 0), ("settled", .int 0)]
section
variable {most day d2 : Int} {dl dc de db dn dt : Addr}
theorem yf_most : (yF most day dl dc de db).lookup ("most" : Str) = some (.int most) := by kernel_rfl
theorem yf_day : (yF most day dl dc de db).lookup ("day" : Str) = some (.int day) := by kernel_rfl
theorem yf_lines : (yF most day dl dc de db).lookup ("lines" : Str) = some (.ref dl) := by kernel_rfl
theorem yf_chains : (yF most day dl dc de db).lookup ("chains" : Str) = some (.ref dc) := by kernel_rfl
theorem yf_ends : (yF most day dl dc de db).lookup ("ends" : Str) = some (.ref de) := by kernel_rfl
theorem yf_debts : (yF most day dl dc de db).lookup ("debts" : Str) = some (.ref db) := by kernel_rfl
theorem df_shares : (dF dn dt).lookup ("shares" : Str) = some (.int 1) := by kernel_rfl
theorem df_by_name : (dF dn dt).lookup ("by_name" : Str) = some (.ref dn) := by kernel_rfl
theorem df_by_timber : (dF dn dt).lookup ("by_timber" : Str) = some (.ref dt) := by kernel_rfl
theorem df_coins : (dF dn dt).lookup ("coins" : Str) = some (.int 0) := by kernel_rfl
theorem df_settled : (dF dn dt).lookup ("settled" : Str) = some (.int 0) := by kernel_rfl
theorem yf_put : putF "day" (.int d2) (yF most day dl dc de db) = yF most d2 dl dc de db := by kernel_rfl
theorem yf_made : putF "debts" (.ref db) (putF "ends" (.ref de) (putF "chains" (.ref dc) (putF "lines" (.ref dl) (putF "day" (.int day) (putF "most" (.int most) []))))) = yF most day dl dc de db := by kernel_rfl
theorem df_made : putF "settled" (.int 0) (putF "coins" (.int 0) (putF "by_timber" (.ref dt) (putF "by_name" (.ref dn) (putF "shares" (.int 1) [])))) = dF dn dt := by kernel_rfl
end
/-- what the classes have of their own -/
structure ClsY (K : PySem.W.Frag) (C : Addr) : Prop where
  c : Cls K C
  n1 : NoAttr K C "most"
  n2 : NoAttr K C "day"
  n3 : NoAttr K C "lines"
  n4 : NoAttr K C "chains"
  n5 : NoAttr K C "ends"
  n6 : NoAttr K C "debts"
structure ClsD (K : PySem.W.Frag) (C : Addr) : Prop where
  c : Cls K C
  n1 : NoAttr K C "shares"
  n2 : NoAttr K C "by_name"
  n3 : NoAttr K C "by_timber"
  n4 : NoAttr K C "coins"
  n5 : NoAttr K C "settled"
/-- a tuple of one word in the module -/
def wdLook (K : PySem.W.Frag) (a : Addr) (x : Str) : Bool := match K.lookup a with
  | some o => (match o.cls with | .type "tuple" => true | _ => false) && match o.data with
    | .seq its _ => (match its.toList with | [.str y _] => decide (y = x) | _ => false) | _ => false
  | none => false
theorem wd_of {K : PySem.W.Frag} {a : Addr} {x : Str} (h : wdLook K a x = true) (H : Hp) : SqT K H a [.str x] := by
  unfold wdLook at h
  split at h
  · rename_i o e
    rw [Bool.and_eq_true] at h
    obtain ⟨h1, h2⟩ := h
    split at h2
    · rename_i its n ed
      split at h2
      · rename_i y t el
        obtain rfl := of_decide_eq_true h2
        refine .inr ⟨o, its, n, e, ?_, ed, ?_, ?_⟩
        · split at h1
          · assumption
          · cases h1
        · have : its.size = 1 := by rw [← Array.length_toList, el]; rfl
          rw [this, sizeLine_eq]; decide
        · rw [el]; exact .cons ⟨t, rfl⟩ .nil
      · cases h2
    · cases h2
  · cases h
/-! ### the yard as it lies -/
structure YA where
  (y dx dl dc de db ddx dn dt : Addr)
def lnK (f : Nat → Addr) (n : Nat) : List (Key × V) := (List.range n).map fun i : Nat => (.inl ((i : Int) + 1), .ref (f i))
def LnAt (aL : Addr) (H : Hp) (f : Nat → Addr) (ds : Nat → Int) (n : Nat) : Prop := ∀ i, i < n → ∃ p, H (f i) = some (.lst [.ref p]) ∧ H p = some (.tup [.int (ds i), .ref aL])
structure YardR (CY CD aL : Addr) (H : Hp) (a : YA) (f : Nat → Addr) (most day : Int) (n : Nat) (ds : Nat → Int) : Prop where
  y : H a.y = some (.ins CY a.dx (yF most day a.dl a.dc a.de a.db))
  l : Rd H a.dl (.dK (lnK f n))
  c : H a.dc = some (.dK [])
  e : H a.de = some (.dK [])
  b : H a.db = some (.ins CD a.ddx (dF a.dn a.dt))
  nm : H a.dn = some (.dK [])
  tm : H a.dt = some (.dK [])
  ln : LnAt aL H f ds n
  n60 : n ≤ 60
structure YardAt (CY CD aL : Addr) (H : Hp) (a : YA) (f : Nat → Addr) (most day : Int) (n : Nat) (ds : Nat → Int) : Prop extends YardR CY CD aL H a f most day n ds where
  w : H a.dl = some (.dK (lnK f n))
  d1 : a.dc ≠ a.dl
  d2 : a.de ≠ a.dl
  d3 : a.dn ≠ a.dl
  d4 : a.dt ≠ a.dl
def grow (ds : Nat → Int) (n : Nat) (d : Int) : Nat → Int := fun i => if i < n then ds i else d
section
variable {CY CD aL : Addr} {H H' : Hp} {a : YA} {f g : Nat → Addr} {most day d : Int} {n : Nat} {ds : Nat → Int}
theorem lnK_length : (lnK f n).length = n := by unfold lnK; rw [List.length_map, List.length_range]
theorem lnK_succ : lnK f (n + 1) = lnK f n ++ [(.inl ((n : Int) + 1), .ref (f n))] := by unfold lnK; rw [List.range_succ, List.map_append]; rfl
theorem lnK_get {i : Nat} (h : i < n) : (lnK f n)[i]? = some (.inl ((i : Int) + 1), .ref (f i)) := by unfold lnK; rw [List.getElem?_map, List.getElem?_range h]; rfl
theorem lnK_out {t : Int} (h : t < 1 ∨ (n : Int) < t) : valV (lnK f n) (.inl t) = none := by
  unfold valV lnK
  rw [Option.map_eq_none_iff, List.find?_eq_none]
  intro x hx
  obtain ⟨i, hi, rfl⟩ := List.mem_map.mp hx
  have := List.mem_range.mp hi
  rw [decide_eq_true_iff]
  intro z
  injection z with z
  omega
theorem lnK_in {i : Nat} (h : i < n) : valV (lnK f n) (.inl ((i : Int) + 1)) = some (.ref (f i)) := by
  induction n with
  | zero => omega
  | succ n ih =>
    rw [lnK_succ, valV_snoc _ _ _ _ (lnK_out (.inr (by omega)))]
    by_cases e : i = n
    · subst e; rw [if_pos rfl]
    · rw [if_neg (fun z => by injection z with z; omega)]; exact ih (by omega)
theorem lnK_ext (h : ∀ i, i < n → f i = g i) : lnK f n = lnK g n := by
  unfold lnK
  refine List.map_congr_left fun i hi => ?_
  rw [h i (List.mem_range.mp hi)]
theorem lnK_put (l : Addr) : putK (lnK f n) (.inl ((n : Int) + 1)) (.ref l) = lnK (fun i => if i = n then l else f i) (n + 1) := by
  rw [putK_new _ (lnK_out (.inr (by omega))), lnK_succ, lnK_ext (f := fun i => if i = n then l else f i) (g := f) (fun i hi => if_neg (by omega)), if_pos rfl]
theorem Rd.same {u : HO} {b : Addr} (s : Same H H') (r : Rd H b u) : Rd H' b u := by
  rcases r with r | ⟨o, r⟩
  · exact .inl (s _ _ r)
  · exact .inr ⟨o, s _ _ r⟩
theorem YardR.same (s : Same H H') (h : YardR CY CD aL H a f most day n ds) : YardR CY CD aL H' a f most day n ds :=
  ⟨s _ _ h.y, Rd.same s h.l, s _ _ h.c, s _ _ h.e, s _ _ h.b, s _ _ h.nm, s _ _ h.tm, fun i hi => let ⟨p, h1, h2⟩ := h.ln i hi; ⟨p, s _ _ h1, s _ _ h2⟩, h.n60⟩
theorem YardAt.same (s : Same H H') (h : YardAt CY CD aL H a f most day n ds) : YardAt CY CD aL H' a f most day n ds := ⟨h.toYardR.same s, s _ _ h.w, h.d1, h.d2, h.d3, h.d4⟩
end
end K11

namespace K11
open PySem L2
local macro_rules | `(tactic| walk_at "s") => `(tactic| first | (with_reducible refine i_seq ?_) | (with_reducible refine i_asg ?_) | (with_reducible refine i_ret ?_) | (with_reducible refine i_if ?_) | (with_reducible refine i_next ?_) | (with_reducible refine i_drop ?_) | ((with_reducible refine' i_var ?k1 ?_); (case k1 => exact rfl)) | (with_reducible refine i_tC ?_) | (with_reducible refine i_op ?_) | (with_reducible refine i_un ?_) | (with_reducible refine i_rI0 ?_) | (with_reducible refine i_rU ?_) | ((with_reducible refine' i_rEq ?k1 ?_); (case k1 => exact rfl)) | ((with_reducible refine' i_rNe ?k1 ?_); (case k1 => exact rfl)) | (with_reducible refine i_test ?_) | (with_reducible refine i_tB ?_) | (with_reducible refine i_bl ?_) | (with_reducible refine i_int ?_) | (with_reducible refine i_and ?_) | (with_reducible refine i_or ?_) | (with_reducible refine i_not ?_) | (with_reducible refine i_andV ?_) | (with_reducible refine i_orV ?_) | (with_reducible refine i_notV ?_) | (with_reducible refine i_isN ?_) | (with_reducible refine i_notN ?_) | (with_reducible refine i_ifE ?_) | (with_reducible refine i_name ?_) | (with_reducible refine i_cons ?_) | (with_reducible refine i_nil ?_) | (with_reducible refine i_cb ?_) | (with_reducible refine i_call ?_) | (with_reducible refine i_tup ?_) | (with_reducible refine i_lst ?_) | (with_reducible refine i_gsub ?_) | (with_reducible refine i_gcons ?_) | (with_reducible refine i_gnil ?_) | (with_reducible refine i_yes ?_) | (with_reducible refine i_slice ?_) | (with_reducible refine i_nopart ?_) | (with_reducible refine i_part ?_) | (with_reducible refine i_abs ?_) | ((with_reducible refine' i_ixL ?k1 ?k2 ?_); (case k1 => first | exact SqL.of (by assumption) | assumption | exact SqL.of upd_same); (case k2 => exact rfl)) | ((with_reducible refine' i_ixT ?k1 ?k2 ?_); (case k1 => first | exact SqT.of (by assumption) | assumption | exact SqT.of upd_same); (case k2 => exact rfl)) | ((with_reducible refine' i_setL ?k1 ?k2 ?_); (case k1 => first | assumption | exact upd_same); (case k2 => exact rfl)) | ((with_reducible refine' i_gtup ?k1 ?k2 ?_); (case k1 => first | exact SqT.of (by assumption) | assumption | exact SqT.of upd_same); (case k2 => exact rfl)) | ((with_reducible refine' i_len ?k1 ?_); (case k1 => first | exact SqL.of (by assumption) | assumption | exact SqL.of upd_same)) | ((with_reducible refine' i_lenT ?k1 ?_); (case k1 => first | exact SqT.of (by assumption) | assumption | exact SqT.of upd_same)) | ((with_reducible refine' i_list ?k1 ?_); (case k1 => first | exact SqL.of (by assumption) | assumption | exact SqL.of upd_same)) | ((with_reducible refine' i_slL ?k1 ?_); (case k1 => first | exact SqL.of (by assumption) | assumption | exact SqL.of upd_same)) | ((with_reducible refine' i_isi ?k1 ?k2 ?_); (case k1 => assumption); (case k2 => decide)) | ((with_reducible refine i_rI ?k1 ?_); (case k1 => first | (show (0 : Int) < _; decide) | (show CPow _ _; exact ⟨by decide, by decide, by decide⟩) | (show CDiv _ _; exact ⟨by decide, by decide⟩) | (show CMul _ _; exact .inr ⟨by decide, by decide⟩) | (show CMul _ _; exact .inl ⟨by decide, by decide⟩) | (show (0 : Int) < _; omega) | (show CDiv _ _; exact ⟨by omega, by omega⟩) | (show CMul _ _; exact .inr ⟨by omega, by omega⟩) | (show CMul _ _; exact .inl ⟨by omega, by omega⟩))) | (with_reducible refine i_comp ?_) | (with_reducible refine i_zip ?_) | (with_reducible refine i_itL ?_) | (with_reducible refine i_itT ?_) | (with_reducible refine i_rng1 ?_) | (with_reducible refine i_bm ?_) | (with_reducible refine i_for ?_) | (with_reducible refine i_min2 ?_) | (with_reducible refine i_max2 ?_) | (with_reducible refine i_rng2 ?_) | (with_reducible refine i_intB ?_) | (with_reducible refine i_rev ?_) | (with_reducible refine i_rngB ?_) | (with_reducible refine i_itS ?_) | (with_reducible refine i_inStr ?_) | (with_reducible refine i_find ?_) | (with_reducible refine i_itE ?_) | (with_reducible refine i_comp3 ?_) | (with_reducible refine i_bm0 ?_) | (with_reducible refine i_par ?_) | (with_reducible refine i_two ?_) | ((with_reducible refine' i_aug ?k1 ?_); (case k1 => exact rfl)) | (with_reducible refine i_ip ?_) | (with_reducible refine i_min3 ?_) | (with_reducible refine i_dget ?_) | (with_reducible refine i_din ?_) | (with_reducible refine i_dnotin ?_) | (with_reducible refine i_dput ?_) | (with_reducible refine i_dget1 ?_) | (with_reducible refine i_tab ?_) | (with_reducible refine i_tabnot ?_) | (with_reducible refine i_callL ?_) | (with_reducible refine i_dget2 ?_) | (with_reducible refine i_chain ?_) | (with_reducible refine i_comp2 ?_) | (with_reducible refine i_tabI ?_) | (with_reducible refine i_tabin ?_) | (with_reducible refine i_fld ?_) | ((with_reducible refine' i_fldx ?k1 ?k2 ?k3 ?k4 ?_); (case k1 => assumption); (case k2 => first | exact yf_most | exact yf_day | exact yf_lines | exact yf_chains | exact yf_ends | exact yf_debts | exact df_shares | exact df_by_name | exact df_by_timber | exact df_coins | exact df_settled); (case k3 => assumption); (case k4 => assumption)) | (with_reducible refine i_sfld ?_) | ((with_reducible refine' i_sfldx ?k1 ?k2 ?k3 ?k4 ?_); (case k1 => first | assumption | exact upd_same); (case k2 => first | decide | exact of_decide_eq_true (by kernel_rfl)); (case k3 => assumption); (case k4 => assumption)) | (with_reducible refine i_meth ?_) | ((with_reducible refine' i_methx ?k1 ?k2 ?_); (case k1 => assumption); (case k2 => kernel_rfl)) | (with_reducible refine i_make ?_) | (with_reducible refine i_dnew ?_) | (with_reducible refine i_itD ?_) | (with_reducible refine i_dsetd ?_) | ((with_reducible refine' i_isiK ?k1 ?k2 ?_); (case k1 => first | assumption | exact Or.inl (by assumption)); (case k2 => decide)) | ((with_reducible refine' i_lenD ?k1 ?_); (case k1 => first | assumption | exact Rd.of (by assumption))))
/-! ### what all laws share: begin, take, same -/
/-- the drawing list at d, the script's cells at c -/
def DrawC (H : Hp) (d c : Addr) : Prop := ∃ (ns : List Int) (a : Nat) (r e : Int), H d = some (.lst [.ref c, .int a, .int r, .int e]) ∧ H c = some (.lst (ns.map V.int)) ∧ 0 ≤ r ∧ 0 ≤ e
def spBeginC (K : PySem.W.Frag) : Sp := fun vs H Q _ => ∃ (a : Addr) (ns : List Int), vs = [.ref a] ∧ SqL K H a (ns.map V.int) ∧ ns.length ≤ 63 ∧ ∀ d c H', Same H H' → H d = none → H c = none → DrawC H' d c → Q (.ref d) H'
def spTakeC : Sp := fun vs H Q _ => ∃ (d c : Addr) (m : Int), vs = [.ref d, .int m] ∧ DrawC H d c ∧ 0 < m ∧ m.natAbs < 2 ^ 500 ∧ ∀ r H', 0 ≤ r → r < m → DrawC H' d c → But d H H' → Q (.int r) H'
theorem DrawC.same {H H' : Hp} {d c : Addr} (s : Same H H') (h : DrawC H d c) : DrawC H' d c := by
  obtain ⟨ns, a, r, e, h1, h2, h3, h4⟩ := h
  exact ⟨ns, a, r, e, s _ _ h1, s _ _ h2, h3, h4⟩
theorem DrawC.put {H : Hp} {d c b : Addr} {o : HO} (h : DrawC H d c) (n1 : b ≠ d) (n2 : b ≠ c) : DrawC (upd H b o) d c := by
  obtain ⟨ns, a, r, e, h1, h2, h3, h4⟩ := h
  exact ⟨ns, a, r, e, by rw [upd_ne (Ne.symm n1)]; exact h1, by rw [upd_ne (Ne.symm n2)]; exact h2, h3, h4⟩
theorem DrawC.is {H : Hp} {d c : Addr} (h : DrawC H d c) : (∃ o, H d = some o) ∧ ∃ o, H c = some o := by
  obtain ⟨ns, a, r, e, h1, h2, h3, h4⟩ := h
  exact ⟨⟨_, h1⟩, ⟨_, h2⟩⟩
theorem DrawC.ne_tup {H : Hp} {d c p : Addr} {xs : List V} (h : DrawC H d c) (e : H p = some (.tup xs)) : p ≠ d := by
  obtain ⟨ns, a, r, e', h1, _⟩ := h
  exact ne_of e h1 (by intro z; cases z)
section
variable {P : Program} {w : World} {K : PySem.W.Frag} {mg : Str → Option Value} {base : Heap}
abbrev sLawBegin : Stmt := top 66
theorem scLawBegin : FnScope ["_law_script"] ["_law_script"] (defScope sLawBegin) := ⟨rfl, rfl, rfl, by decide +kernel, rfl, by decide +kernel, by decide +kernel⟩
theorem ok_begin {f : Addr} {fd : FuncData} (F : Fun K "_law_begin" "_law_begin" sLawBegin f fd) (T : Blt mg) : FnOk P w K mg base CX0 1 f fd ["_law_script"] (spBeginC K) := by
  refine F.ok scLawBegin (fun vs H Q E h => ?_) (fun cdv A outer s H vs Q E hr h => ?_)
  · obtain ⟨a, ns, rfl, _⟩ := h
    rfl
  · obtain ⟨a, ns, rfl, hS, hl, k⟩ := h
    refine ⟨_, (pss_one (ps_ret (pe_lst (pa_cons (pe_callTy (cList (K := K) rfl) (by rfl) T.z_list bb_list (pa_cons (pe_slice (slL (K := K) rfl) (pv 0) po_none (po_some pe_int)) pa_nil)) (pa_cons pe_int (pa_cons pe_int (pa_cons pe_int pa_nil))))))), ?_⟩
    repeat walk_at "s"
    intro p hp
    have s1 := same_upd (o := .lst (cutV (ns.map V.int) none (some 63))) hp
    repeat walk_at "s"
    intro c hc
    have s2 := same_upd (o := .lst (cutV (ns.map V.int) none (some 63))) hc
    repeat walk_at "s"
    refine ⟨by show 4 ≤ sizeLine; decide, fun d hd => ?_⟩
    have s3 := same_upd (o := .lst [.ref c, .int 0, .int 0, .int 17]) hd
    have e : cutV (ns.map V.int) none (some 63) = (ns.take 63).map V.int := by
      unfold cutV
      rw [HT.sIx_none, List.drop_zero, List.length_map, List.map_take]
      have z : HT.sIx ns.length ns.length (some (63 : Int)) = min 63 ns.length := HT.sIx_nat ns.length ns.length 63
      rw [z, Nat.sub_zero]
      rcases Nat.le_total 63 ns.length with q | q
      · rw [Nat.min_eq_left q]
      · rw [Nat.min_eq_right q, List.take_of_length_le (by simp), List.take_of_length_le (by simpa using q)]
    refine k d c _ ((s1.trans s2).trans s3) ((s1.trans s2).free hd) (s1.free hc) ⟨ns.take 63, 0, 0, 17, upd_same, ?_, by decide, by decide⟩
    rw [← e]
    exact s3 _ _ upd_same
abbrev sLawTake : Stmt := top 67
theorem scLawTake : FnScope ["_law_draw", "_law_many", "_law_cell", "_law_got"] ["_law_draw", "_law_many"] (defScope sLawTake) := ⟨rfl, rfl, rfl, by decide +kernel, rfl, by decide +kernel, by decide +kernel⟩
theorem ok_take {f : Addr} {fd : FuncData} (F : Fun K "_law_take" "_law_take" sLawTake f fd) (T : Blt mg) : FnOk P w K mg base CX0 1 f fd ["_law_draw", "_law_many"] spTakeC := by
  refine F.ok scLawTake (fun vs H Q E h => ?_) (fun cdv A outer s H vs Q E hr h => ?_)
  · obtain ⟨d, c, m, rfl, _⟩ := h
    rfl
  · obtain ⟨d, c, m, rfl, ⟨ns, a, r, e, h1, h2, h3, h4⟩, hm, hm2, k⟩ := h
    have ncd := draw_ne h1 h2
    refine ⟨_, (pss_cut (ps_if ((pw_and (pt_cmpR op_lt (pe_ix (ixL (K := K) rfl) (pv 0) pe_int (fun _ _ => rfl)) (pv 1) (nomark _)) (pw_and1 (pt_cmpR op_lt (pe_ix (ixL (K := K) rfl) (pv 0) pe_int (fun _ _ => rfl)) (pe_callB (cLen (K := K) rfl) (by rfl) T.z_len bb_len (pa_cons (pe_ix (ixL (K := K) rfl) (pv 0) pe_int (fun _ _ => rfl)) pa_nil)) (nomark _))))).pt (pss_cons (ps_set (i := 2) scLawTake.nd rfl (Or.inl rfl) (pe_ix (ixL (K := K) rfl) (pe_ix (ixL (K := K) rfl) (pv 0) pe_int (fun _ _ => rfl)) (pe_ix (ixL (K := K) rfl) (pv 0) pe_int (fun _ _ => rfl)) (fun _ _ => rfl)))
      (pss_cons (ps_asg (pe_op op_add (pe_ix (ixL (K := K) rfl) (pv 0) pe_int (fun _ _ => rfl)) pe_int) (pg_sub (pv 0) pe_int set_list))
      (pss_cons (ps_asg pe_int (pg_sub (pv 0) pe_int set_list))
      (pss_one (ps_if (pt_cmpR op_ge (pe_callB call_absR (by rfl) T.z_abs bb_abs (pa_cons (pv 2) pa_nil)) (pe_op op_pow pe_int pe_int) (nomark _)) (pss_one (ps_asg (pe_callB call_absR (by rfl) T.z_abs bb_abs (pa_cons (pv 2) pa_nil)) (pg_sub (pv 0) pe_int set_list))) (pss_one (ps_asg (pe_op op_mod (pe_op op_add (pe_op op_add (pe_op op_mul (pe_ix (ixL (K := K) rfl) (pv 0) pe_int (fun _ _ => rfl)) pe_int) (pe_op op_mul (pe_op op_mod (pv 2) pe_int) pe_int)) pe_int) pe_int) (pg_sub (pv 0) pe_int set_list)))))))) pss_nil)
      (pss_cons (ps_if (pt_cmpR op_ge (pe_ix (ixL (K := K) rfl) (pv 0) pe_int (fun _ _ => rfl)) (pv 1) (nomark _)) (pss_cons (ps_set (i := 3) scLawTake.nd rfl (Or.inl rfl) (pe_op op_mod (pe_ix (ixL (K := K) rfl) (pv 0) pe_int (fun _ _ => rfl)) (pv 1)))
      (pss_cons (ps_asg (pe_op op_fdivB (pe_ix (ixL (K := K) rfl) (pv 0) pe_int (fun _ _ => rfl)) (pv 1)) (pg_sub (pv 0) pe_int set_list))
      (pss_one (ps_ret (pv 3))))) pss_nil)
      (pss_cons (ps_asg (pe_op op_mod (pe_op op_add (pe_op op_mul (pe_ix (ixL (K := K) rfl) (pv 0) pe_int (fun _ _ => rfl)) pe_int) pe_int) pe_int) (pg_sub (pv 0) pe_int set_list))
      (pss_one (ps_ret (pe_op op_mod (pe_op op_fdiv (pe_ix (ixL (K := K) rfl) (pv 0) pe_int (fun _ _ => rfl)) pe_int) (pv 1))))))), ?_⟩
    refine ⟨fun σ' H' => (∃ v, σ' = [some (.ref d), some (.int m), v, none]) ∧ DrawC H' d c ∧ But d H H', ?_, ?_⟩
    · repeat walk_at "s"
      refine ite2 (fun _ => ?_) (fun _ => ?_)
      · repeat walk_at "s"
        refine ite2 (fun hlt => ?_) (fun _ => ?_)
        · have hlt' : a < ns.length := by
            have z : (a : Int) < ((ns.map V.int).length : Int) := of_decide_eq_true hlt
            rw [List.length_map] at z
            omega
          have hc0 : atI (ns.map V.int) (a : Int) = some (.int (ns[a]'hlt')) := atI_nat (by rw [List.getElem?_map, List.getElem?_eq_getElem hlt']; rfl)
          generalize ns[a]'hlt' = cell at hc0
          repeat walk_at "s"
          refine i_ixL (SqL.of h2) hc0 ?_
          repeat walk_at "s"
          refine ite2 (fun _ => ?_) (fun _ => ?_)
          · repeat walk_at "s"
            refine ⟨⟨_, rfl⟩, ⟨ns, a + 1, _, e, upd_same, ?_, ?_, h4⟩, but_upd.trans (but_upd.trans but_upd)⟩
            · rw [upd_ne ncd, upd_ne ncd, upd_ne ncd]
              exact h2
            · split <;> omega
          · repeat walk_at "s"
            refine ⟨⟨_, rfl⟩, ⟨ns, a + 1, 0, _, upd_same, ?_, by decide, ?_⟩, but_upd.trans (but_upd.trans but_upd)⟩
            · rw [upd_ne ncd, upd_ne ncd, upd_ne ncd]
              exact h2
            · exact Int.emod_nonneg _ (by decide)
        · exact ⟨⟨_, rfl⟩, ⟨ns, a, r, e, h1, h2, h3, h4⟩, But.refl⟩
      · exact ⟨⟨_, rfl⟩, ⟨ns, a, r, e, h1, h2, h3, h4⟩, But.refl⟩
    · rintro σ' H' ⟨⟨v, rfl⟩, ⟨ns, a, r, e, h1, h2, h3, h4⟩, bt⟩
      have ncd := draw_ne h1 h2
      repeat walk_at "s"
      refine ite2 (fun _ => ?_) (fun _ => ?_)
      · repeat walk_at "s"
        refine i_rI (cdivB hm hm2) ?_
        repeat walk_at "s"
        refine k _ _ (Int.emod_nonneg _ (by omega)) (Int.emod_lt_of_pos _ hm) ⟨ns, a, _, e, upd_same, ?_, Int.ediv_nonneg h3 (by omega), h4⟩ (bt.trans but_upd)
        rw [upd_ne ncd]
        exact h2
      · repeat walk_at "s"
        refine k _ _ (Int.emod_nonneg _ (by omega)) (Int.emod_lt_of_pos _ hm) ⟨ns, a, r, _, upd_same, ?_, h3, Int.emod_nonneg _ (by decide)⟩ (bt.trans but_upd)
        rw [upd_ne ncd]
        exact h2
/-- same, by the depth of what is compared -/
def spS (K : PySem.W.Frag) : Nat → Sp
  | 0 => fun _ _ _ _ => False
  | n + 1 => spSameK K n
theorem same_turns {S1 S2 : Hp → List V → Prop} {n : Nat} {vs us : List V} {ds : List Dt} {H1 : Hp} {Fin : List V → Hp → Prop} {σ : St} (hS1 : ∀ H', Same H1 H' → S1 H' vs) (hS2 : ∀ H', Same H1 H' → S2 H' us)
    (r1 : RepsK K H1 vs ds) (r2 : RepsK K H1 us ds) (hd : depths ds + 1 ≤ n) (hw : wides ds ≤ 1000) (hl : ds.length ≤ 1000) (fin : ∀ H', Same H1 H' → Fin (List.replicate ds.length (.bl true)) H') :
    CompT (Itz S1 S2) (gTup K 2 (gCons (gName 0) (gCons (gName 1) gNil))) tYes (tCall (spS K n) [] E0 (tCons (tVar 0) (tCons (tVar 1) tNil))) Fin (startC 2 [] σ) H1 := by
  have l1 := r1.length
  have l2 := r2.length
  refine ⟨fun i m ys σ' H' => i ≤ ds.length ∧ m = ds.length - i ∧ ys = List.replicate i (.bl true) ∧ (∃ x y, σ' = [x, y]) ∧ Same H1 H', ⟨ds.length, Nat.zero_le _, rfl, rfl, ⟨none, none, rfl⟩, Same.refl _⟩, ?_⟩
  rintro i m ys σ' H' ⟨hi, rfl, rfl, ⟨x, y, rfl⟩, s1⟩
  rcases Nat.lt_or_ge i ds.length with hlt | hge
  · right
    have e1 : ∃ a, vs[i]? = some a := ⟨vs[i]'(by omega), List.getElem?_eq_getElem _⟩
    have e2 : ∃ a, us[i]? = some a := ⟨us[i]'(by omega), List.getElem?_eq_getElem _⟩
    obtain ⟨a, ea⟩ := e1
    obtain ⟨b, eb⟩ := e2
    obtain ⟨d1, g1, p1⟩ := r1.get ea
    obtain ⟨d2, g2, p2⟩ := r2.get eb
    rw [g1] at g2
    cases g2
    refine ⟨⟨vs, us, a, b, hS1 H' s1, hS2 H' s1, ea, eb⟩, small1000 (by rw [List.length_replicate]; omega), ?_⟩
    rintro z H2 ⟨T, u, v, rfl, hn, rfl, q⟩
    obtain ⟨q1, q2⟩ := q vs us (hS1 H' s1) (hS2 H' s1)
    rw [ea] at q1
    rw [eb] at q2
    cases q1
    cases q2
    have s2 := same_upd (o := .tup [a, b]) hn
    obtain ⟨n', rfl⟩ : ∃ n', n = n' + 1 := ⟨n - 1, by omega⟩
    refine i_gtup (SqT.of upd_same) rfl ?_
    repeat walk_at "s"
    refine iteT ?_
    repeat walk_at "s"
    have dd := depth_le g1
    have dw := wide_le g1
    refine ⟨a, b, d1, rfl, p1.mono (s1.trans s2), p2.mono (s1.trans s2), by omega, by omega, fun H3 s3 => ?_⟩
    refine ⟨ds.length - (i + 1), by omega, hlt, rfl, ?_, ⟨_, _, rfl⟩, (s1.trans s2).trans s3⟩
    rw [List.replicate_succ']
  · left
    obtain rfl : i = ds.length := by omega
    exact ⟨⟨vs, us, hS1 H' s1, hS2 H' s1, .inl (by omega)⟩, fin H' s1⟩
theorem all_yes (n : Nat) : (List.replicate n true).all id = true := by
  induction n with
  | zero => rfl
  | succ n ih => rw [List.replicate_succ, List.all_cons, ih]; rfl
abbrev sLawSame : Stmt := top 68
theorem scLawSame : FnScope ["_law_found", "_law_due_here"] ["_law_found", "_law_due_here"] (defScope sLawSame) := ⟨rfl, rfl, rfl, by decide +kernel, rfl, by decide +kernel, by decide +kernel⟩
theorem nd_404_61 : (["_law_one", "_law_other"] : List Str).Nodup := by decide +kernel
theorem S_404_61 : CompScope ["_law_found", "_law_due_here"] (defScope sLawSame) ({ kind := PySem.ScopeKind.function, names := [ (PySem.Str.ofString ".0", PySem.NameKind.local), (PySem.Str.ofString "_law_one", PySem.NameKind.local), (PySem.Str.ofString "_law_other", PySem.NameKind.local), (PySem.Str.ofString "_law_same", PySem.NameKind.globalImplicit)], isGenerator := false, isCoroutine := false, more := [] : PySem.Scope }) (["_law_one", "_law_other"] : List Str) ([] : List (Nat × Str)) := ⟨by decide +kernel, by decide +kernel, by decide +kernel, by decide +kernel, by decide +kernel⟩
theorem ok_same {f : Addr} {fd : FuncData} (F : Fun K "_law_same" "_law_same" sLawSame f fd) (T : Blt mg) (hm : mg "_law_same" = some (.ref f)) (b : Binds K fd ["_law_found", "_law_due_here"] []) : ∀ n, FnOk P w K mg base CX0 n f fd ["_law_found", "_law_due_here"] (spS K n)
  | 0 => ⟨fun _ _ _ _ h => h.elim, fun _ _ _ _ _ _ _ _ _ _ _ _ _ h => h.elim⟩
  | n + 1 => by
    have c_law_same : Cal P w K mg base "_law_same" n ["_law_found", "_law_due_here"] (spS K n) := ⟨f, fd, ok_same F T hm b n, hm, F.kp, b⟩
    refine F.ok scLawSame (fun vs H Q E h => ?_) (fun cdv A outer s H vs Q E hr h => ?_)
    · obtain ⟨f, u, dd, rfl, _⟩ := h
      rfl
    · obtain ⟨f1, u, dd, rfl, r1, r2, hd, hw, k⟩ := h
      refine ⟨_, (pss_cons (ps_if (pt_val (pe_callB (cIsiTK (K := K) rfl) (by rfl) T.z_isinstance bb_isinstance (pa_cons (pv 1) (pa_cons (pe_tup (pa_cons (pe_bltn (v := .ty "list") (by rfl) T.z_list bb_list rfl) (pa_cons (pe_bltn (v := .ty "tuple") (by rfl) T.z_tuple bb_tuple rfl) pa_nil))) pa_nil)))) (pss_cons (ps_if ((pw_or (pt_cmpR op_ne (pe_callB (cIsiK (K := K) rfl) (by rfl) T.z_isinstance bb_isinstance (pa_cons (pv 0) (pa_cons (pe_bltn (v := .ty "list") (by rfl) T.z_list bb_list rfl) pa_nil))) (pe_callB (cIsiK (K := K) rfl) (by rfl) T.z_isinstance bb_isinstance (pa_cons (pv 1) (pa_cons (pe_bltn (v := .ty "list") (by rfl) T.z_list bb_list rfl) pa_nil))) (nomark _)) (pw_or1 (pt_cmpR op_ne (pe_callB (cIsiK (K := K) rfl) (by rfl) T.z_isinstance bb_isinstance (pa_cons (pv 0) (pa_cons (pe_bltn (v := .ty "tuple") (by rfl) T.z_tuple bb_tuple rfl) pa_nil))) (pe_callB (cIsiK (K := K) rfl) (by rfl) T.z_isinstance bb_isinstance (pa_cons (pv 1) (pa_cons (pe_bltn (v := .ty "tuple") (by rfl) T.z_tuple bb_tuple rfl) pa_nil))) (nomark _))))).pt (pss_one (ps_ret pe_bl)) pss_nil)
      (pss_one (ps_ret (pe_and (pe_cmpR op_eq (pe_callB (cLen (K := K) rfl) (by rfl) T.z_len bb_len (pa_cons (pv 0) pa_nil)) (pe_callB (cLen (K := K) rfl) (by rfl) T.z_len bb_len (pa_cons (pv 1) pa_nil)) (nomark _)) (pe_one (pe_callB (cAll (K := K) rfl rfl) (by rfl) T.z_all bb_all (pa_cons (pe_lcomp rfl S_404_61 (piZ (K := K) rfl (by rfl) T.z_zip (pa_cons (pv 0) (pa_cons (pv 1) pa_nil))) (by intro _ _ _ _ _; exact (pgT (K := K) (n := 2) rfl rfl (pgs_cons (pg_name (i := 0) nd_404_61 rfl (Or.inl rfl)) (pgs_cons (pg_name (i := 1) nd_404_61 rfl (Or.inl rfl)) pgs_nil)))) (by intro _ _ _ _ _; exact pts_nil) (by intro _ _ _ _ _; exact (pe_callC c_law_same (hr.mono (by omega)) (by rfl) (pa_cons (pv 0) (pa_cons (pv 1) pa_nil))))) pa_nil))))))) pss_nil)
      (pss_cons (ps_if (pt_cmp (pc_isN (pv 1))) (pss_one (ps_ret (pe_cmp (pc_isN (pv 0))))) pss_nil)
      (pss_cons (ps_if ((pw_or (pt_cmpR op_ne (pe_callB (cIsi (K := K) rfl) (by rfl) T.z_isinstance bb_isinstance (pa_cons (pv 0) (pa_cons (pe_bltn (v := .ty "bool") (by rfl) T.z_bool bb_bool rfl) pa_nil))) (pe_callB (cIsi (K := K) rfl) (by rfl) T.z_isinstance bb_isinstance (pa_cons (pv 1) (pa_cons (pe_bltn (v := .ty "bool") (by rfl) T.z_bool bb_bool rfl) pa_nil))) (nomark _)) (pw_or1 (pt_cmpR op_ne (pe_callB (cIsi (K := K) rfl) (by rfl) T.z_isinstance bb_isinstance (pa_cons (pv 0) (pa_cons (pe_bltn (v := .ty "str") (by rfl) T.z_str bb_str rfl) pa_nil))) (pe_callB (cIsi (K := K) rfl) (by rfl) T.z_isinstance bb_isinstance (pa_cons (pv 1) (pa_cons (pe_bltn (v := .ty "str") (by rfl) T.z_str bb_str rfl) pa_nil))) (nomark _))))).pt (pss_one (ps_ret pe_bl)) pss_nil)
      (pss_one (ps_ret (pe_and (pe_cmpR op_eq (pe_callB (cIsi (K := K) rfl) (by rfl) T.z_isinstance bb_isinstance (pa_cons (pv 0) (pa_cons (pe_bltn (v := .ty "int") (by rfl) T.z_int bb_int rfl) pa_nil))) (pe_callB (cIsi (K := K) rfl) (by rfl) T.z_isinstance bb_isinstance (pa_cons (pv 1) (pa_cons (pe_bltn (v := .ty "int") (by rfl) T.z_int bb_int rfl) pa_nil))) (nomark _)) (pe_one (pe_cmpR op_eq (pv 0) (pv 1) (nomark _))))))))), ?_⟩
      repeat walk_at "s"
      refine ⟨by show 2 ≤ sizeLine; decide, fun p hp => ?_⟩
      have s1 := same_upd (o := .tup [.ty "list", .ty "tuple"]) hp
      generalize hH1 : upd H p (.tup [.ty "list", .ty "tuple"]) = H1 at s1
      have hT : SqT K H1 p (["list", "tuple"].map V.ty) := by rw [← hH1]; exact SqT.of upd_same
      repeat walk_at "s"
      replace r1 := r1.mono s1
      replace r2 := r2.mono s1
      cases r2 with
      | int i =>
        cases r1
        have kn : Knd K H1 (.int i) "int" := ⟨.int i, by decide⟩
        refine ⟨_, p, ["list", "tuple"], "int", rfl, hT, .inl kn, by decide, ?_⟩
        repeat walk_at "s"
        refine iteF ?_
        repeat walk_at "s"
        refine iteF ?_
        repeat walk_at "s"
        refine iteNS rfl ?_
        repeat walk_at "s"
        refine iteNS rfl ?_
        repeat walk_at "s"
        rw [decide_eq_true (show V.bl (isTy "int" "int") = V.bl (isTy "int" "int") from rfl)]
        refine iteT ?_
        repeat walk_at "s"
        rw [decide_eq_true rfl]
        exact k _ s1
      | bl i =>
        cases r1
        have kn : Knd K H1 (.bl i) "bool" := ⟨.bl i, by decide⟩
        refine ⟨_, p, ["list", "tuple"], "bool", rfl, hT, .inl kn, by decide, ?_⟩
        repeat walk_at "s"
        refine iteF ?_
        repeat walk_at "s"
        refine iteF ?_
        repeat walk_at "s"
        refine iteNS rfl ?_
        repeat walk_at "s"
        refine iteNS rfl ?_
        repeat walk_at "s"
        rw [decide_eq_true (show V.bl (isTy "bool" "int") = V.bl (isTy "bool" "int") from rfl)]
        refine iteT ?_
        repeat walk_at "s"
        rw [decide_eq_true rfl]
        exact k _ s1
      | str i =>
        cases r1
        have kn : Knd K H1 (.str i) "str" := ⟨.str i, by decide⟩
        refine ⟨_, p, ["list", "tuple"], "str", rfl, hT, .inl kn, by decide, ?_⟩
        repeat walk_at "s"
        refine iteF ?_
        repeat walk_at "s"
        refine iteF ?_
        repeat walk_at "s"
        refine iteNS rfl ?_
        repeat walk_at "s"
        refine iteNS rfl ?_
        repeat walk_at "s"
        rw [decide_eq_true (show V.bl (isTy "str" "int") = V.bl (isTy "str" "int") from rfl)]
        refine iteT ?_
        repeat walk_at "s"
        rw [decide_eq_true rfl]
        exact k _ s1
      | non =>
        cases r1
        have kn : Knd K H1 (.non) "NoneType" := ⟨.non, by decide⟩
        refine ⟨_, p, ["list", "tuple"], "NoneType", rfl, hT, .inl kn, by decide, ?_⟩
        repeat walk_at "s"
        refine iteF ?_
        repeat walk_at "s"
        rw [decide_eq_true (show V.non = V.non from rfl)]
        refine iteT ?_
        repeat walk_at "s"
        rw [decide_eq_true (show V.non = V.non from rfl)]
        exact k _ s1
      | lst e2 q2 =>
        cases r1 with
        | lst e1 q1 =>
          have kn1 : KndK K H1 _ "list" := .inl ⟨.lst e1, by decide⟩
          have kn2 : KndK K H1 _ "list" := .inl ⟨.lst e2, by decide⟩
          refine ⟨_, p, ["list", "tuple"], "list", rfl, hT, kn2, by decide, ?_⟩
          repeat walk_at "s"
          refine iteT ?_
          repeat walk_at "s"
          refine iteNS rfl ?_
          repeat walk_at "s"
          refine iteNS rfl ?_
          repeat walk_at "s"
          have el := congrArg (fun z : Nat => V.int (z : Int)) (q1.length.trans q2.length.symm)
          rw [decide_eq_true el]
          refine iteT ?_
          repeat walk_at "s"
          have hd' : depths _ + 1 ≤ n := hd
          have hw' : max _ (wides _) ≤ 1000 := hw
          refine ⟨_, _, rfl, .inl ⟨_, _, SqL.of e1, SqL.of e2, ?_⟩⟩
          refine same_turns (fun H' s' => SqL.of (s' _ _ e1)) (fun H' s' => SqL.of (s' _ _ e2)) q1 q2 hd' (Nat.le_trans (Nat.le_max_right _ _) hw') (Nat.le_trans (Nat.le_max_left _ _) hw') ?_
          intro H' s' D hD
          repeat walk_at "s"
          refine ⟨D, List.replicate _ true, rfl, SqL.of (by rw [List.map_replicate]; exact upd_same), ?_⟩
          rw [all_yes]
          exact k _ ((s1.trans s').trans (same_upd hD))
      | tup e2 q2 =>
        cases r1 with
        | tup e1 q1 =>
          have kn1 : KndK K H1 _ "tuple" := .inr ⟨rfl, _, _, rfl, e1⟩
          have kn2 : KndK K H1 _ "tuple" := .inr ⟨rfl, _, _, rfl, e2⟩
          refine ⟨_, p, ["list", "tuple"], "tuple", rfl, hT, kn2, by decide, ?_⟩
          repeat walk_at "s"
          refine iteT ?_
          repeat walk_at "s"
          refine iteNS rfl ?_
          repeat walk_at "s"
          refine iteNS rfl ?_
          repeat walk_at "s"
          have el := congrArg (fun z : Nat => V.int (z : Int)) (q1.length.trans q2.length.symm)
          rw [decide_eq_true el]
          refine iteT ?_
          repeat walk_at "s"
          have hd' : depths _ + 1 ≤ n := hd
          have hw' : max _ (wides _) ≤ 1000 := hw
          refine ⟨_, _, rfl, .inr ⟨_, _, e1, e2, ?_⟩⟩
          refine same_turns (fun H' s' => e1.mono s') (fun H' s' => e2.mono s') q1 q2 hd' (Nat.le_trans (Nat.le_max_right _ _) hw') (Nat.le_trans (Nat.le_max_left _ _) hw') ?_
          intro H' s' D hD
          repeat walk_at "s"
          refine ⟨D, List.replicate _ true, rfl, SqL.of (by rw [List.map_replicate]; exact upd_same), ?_⟩
          rw [all_yes]
          exact k _ ((s1.trans s').trans (same_upd hD))
end

def spIn (lo hi : Int) : Sp := fun vs H Q _ => ∃ x : Int, vs = [.int x] ∧ lo ≤ x ∧ x ≤ hi ∧ Q (.bl true) H
theorem in_chain {σ : St} {H : Hp} {Q : VK} {ta tb tc : TE} {lo hi x : Int} (a : lo ≤ x) (b : x ≤ hi) (h1 : ∀ Q', Q' (.int lo) H → ta σ H Q') (h2 : ∀ Q', Q' (.int x) H → tb σ H Q') (h3 : ∀ Q', Q' (.int hi) H → tc σ H Q') (q : Q (.bl true) H) :
    tChain (rI0 fun i j => .bl (decide (i ≤ j))) (rI0 fun i j => .bl (decide (i ≤ j))) ta tb tc σ H Q := by
  refine i_chain (h1 _ (h2 _ (i_rI0 (i_bl ?_))))
  rw [decide_eq_true a]
  exact iteT (h3 _ (i_rI0 (by rw [decide_eq_true b]; exact q)))
theorem iteY {b : Bool} {A B : Prop} (h : b = true) (q : A) : if b = true then A else B := by rw [if_pos h]; exact q
theorem iteZ {b : Bool} {A B : Prop} (h : b = false) (q : B) : if b = true then A else B := by rw [if_neg (by rw [h]; decide)]; exact q
section
variable {P : Program} {w : World} {K : PySem.W.Frag} {mg : Str → Option Value} {base : Heap}
def spSlip : Sp := fun vs H Q _ => ∃ (d c0 : Addr), vs = [.ref d] ∧ DrawC H d c0 ∧ ∀ (m : Int) H', 1 ≤ m → m ≤ 12 → DrawC H' d c0 → But d H H' → Q (.int m) H'
abbrev sLawSlip : Stmt := top 74
theorem scLawSlip : FnScope ["_law_draw"] ["_law_draw"] (defScope sLawSlip) := ⟨rfl, rfl, rfl, by decide +kernel, rfl, by decide +kernel, by decide +kernel⟩
theorem ok_slip {f : Addr} {fd : FuncData} (F : Fun K "_law_slip" "_law_slip" sLawSlip f fd) (T : BltM mg) (c_law_take : Cal P w K mg base "_law_take" 1 ["_law_draw", "_law_many"] spTakeC) : FnOk P w K mg base CX0 2 f fd ["_law_draw"] spSlip := by
  refine F.ok scLawSlip (fun vs H Q E h => ?_) (fun cdv A outer s H vs Q E hr h => ?_)
  · obtain ⟨d, c0, rfl, _⟩ := h
    rfl
  · obtain ⟨d, c0, rfl, hD, k⟩ := h
    refine ⟨_, (pss_one (ps_ret (pe_ix (ixT (K := K) rfl) (pe_tup (pa_cons (pe_op op_add pe_int (pe_callC c_law_take (hr.mono (by omega)) (by rfl) (pa_cons (pv 0) (pa_cons pe_int pa_nil)))) (pa_cons (pe_op op_add pe_int (pe_callC c_law_take (hr.mono (by omega)) (by rfl) (pa_cons (pv 0) (pa_cons pe_int pa_nil)))) (pa_cons pe_int pa_nil)))) (pe_callC c_law_take (hr.mono (by omega)) (by rfl) (pa_cons (pv 0) (pa_cons pe_int pa_nil))) (fun _ _ => rfl)))), ?_⟩
    repeat walk_at "s"
    refine ⟨d, c0, 12, rfl, hD, by decide, by decide, fun x H1 x0 x1 hD1 b1 => ?_⟩
    repeat walk_at "s"
    refine ⟨d, c0, 4, rfl, hD1, by decide, by decide, fun y H2 y0 y1 hD2 b2 => ?_⟩
    repeat walk_at "s"
    refine ⟨by show 3 ≤ sizeLine; decide, fun p hp => ?_⟩
    have s3 := same_upd (o := .tup [V.int (1 + x), V.int (3 + y), V.int 12]) hp
    have hp3 : upd H2 p (.tup [V.int (1 + x), V.int (3 + y), V.int 12]) p = some (.tup [V.int (1 + x), V.int (3 + y), V.int 12]) := upd_same
    generalize upd H2 p (.tup [V.int (1 + x), V.int (3 + y), V.int 12]) = H3 at s3 hp3 ⊢
    have hD3 := hD2.same s3
    repeat walk_at "s"
    refine ⟨d, c0, 3, rfl, hD3, by decide, by decide, fun r H4 r0 r1 hD4 b4 => ?_⟩
    have hp4 := b4 _ _ (hD3.ne_tup hp3) hp3
    have b04 := (b1.trans b2).trans ((s3.but (d := d)).trans b4)
    rcases (show r = 0 ∨ r = 1 ∨ r = 2 by omega) with rfl | rfl | rfl
    · exact i_ixT (SqT.of hp4) (v := .int (1 + x)) rfl (k _ _ (by omega) (by omega) hD4 b04)
    · exact i_ixT (SqT.of hp4) (v := .int (3 + y)) rfl (k _ _ (by omega) (by omega) hD4 b04)
    · exact i_ixT (SqT.of hp4) (v := .int 12) rfl (k _ _ (by omega) (by omega) hD4 b04)
def spRis (K : PySem.W.Frag) : Sp := fun vs H Q _ => ∃ (p : Addr) (ns : List Int), vs = [.ref p] ∧ SqX K H p (ns.map V.int) ∧ ns.length < 64 ∧ ∀ l H' (rs : List Int), Same H H' → H l = none → H' l = some (.lst (rs.map V.int)) → Ris rs (fun x => x ∈ ns) → Q (.ref l) H'
abbrev sRising : Stmt := top 11
theorem scRising : FnScope ["timbers"] ["timbers"] (defScope sRising) := ⟨rfl, rfl, rfl, by decide +kernel, rfl, by decide +kernel, by decide +kernel⟩
theorem ok_rising {f : Addr} {fd : FuncData} (F : Fun K "rising" "rising" sRising f fd) (T : BltM mg) : FnOk P w K mg base CX0 1 f fd ["timbers"] (spRis K) := by
  refine F.ok scRising (fun vs H Q E h => ?_) (fun cdv A outer s H vs Q E hr h => ?_)
  · obtain ⟨p, ns, rfl, _⟩ := h
    rfl
  · obtain ⟨p, ns, rfl, hS, hl, k⟩ := h
    refine ⟨_, (pss_one (ps_ret (pe_callB (cSortedS (w := w) rfl rfl) (by rfl) T.z_sorted bb_sorted (pa_cons (pe_callTy (cSetX (K := K) (w := w) rfl rfl rfl) (by rfl) T.z_set bb_set (pa_cons (pv 0) pa_nil)) pa_nil)))), ?_⟩
    repeat walk_at "s"
    refine i_setX hS (by omega) fun a ks ha nd mem => ?_
    repeat walk_at "s"
    refine i_sortedS upd_same (Nat.lt_of_le_of_lt (nodup_le nd fun x hx => (mem x).mp hx) hl) fun l rs hl pm so => ?_
    have s1 := same_upd (o := setO w a ks) ha
    exact k l _ rs (s1.trans (same_upd hl)) (s1.free hl) upd_same (ris_of pm so nd mem)
abbrev sIsSlip : Stmt := top 21
theorem scIsSlip : FnScope ["number"] ["number"] (defScope sIsSlip) := ⟨rfl, rfl, rfl, by decide +kernel, rfl, by decide +kernel, by decide +kernel⟩
theorem ok_is_slip {f : Addr} {fd : FuncData} (F : Fun K "is_slip" "is_slip" sIsSlip f fd) {tk : Tok} (hMS : mg "MOST_SLIP" = some (.int 12 tk)) : FnOk P w K mg base CX0 1 f fd ["number"] (spIn 1 12) := by
  refine F.ok scIsSlip (fun vs H Q E h => ?_) (fun cdv A outer s H vs Q E hr h => ?_)
  · obtain ⟨x, rfl, _⟩ := h
    rfl
  · obtain ⟨x, rfl, a, b, k⟩ := h
    refine ⟨_, (pss_one (ps_ret (pe_chain op_le op_le pe_int (pv 0) (pe_glob (v := .int 12) (by rfl) hMS ⟨_, rfl⟩)))), ?_⟩
    refine i_ret ?_
    exact in_chain a b (fun _ q => i_tC q) (fun _ q => i_var rfl q) (fun _ q => i_tC q) k
abbrev sIsDay : Stmt := top 19
theorem scIsDay : FnScope ["number"] ["number"] (defScope sIsDay) := ⟨rfl, rfl, rfl, by decide +kernel, rfl, by decide +kernel, by decide +kernel⟩
theorem ok_is_day {f : Addr} {fd : FuncData} (F : Fun K "is_day" "is_day" sIsDay f fd) {tk : Tok} (hLD : mg "LAST_DAY" = some (.int 400 tk)) : FnOk P w K mg base CX0 1 f fd ["number"] (spIn 1 400) := by
  refine F.ok scIsDay (fun vs H Q E h => ?_) (fun cdv A outer s H vs Q E hr h => ?_)
  · obtain ⟨x, rfl, _⟩ := h
    rfl
  · obtain ⟨x, rfl, a, b, k⟩ := h
    refine ⟨_, (pss_one (ps_ret (pe_chain op_le op_le pe_int (pv 0) (pe_glob (v := .int 400) (by rfl) hLD ⟨_, rfl⟩)))), ?_⟩
    refine i_ret ?_
    exact in_chain a b (fun _ q => i_tC q) (fun _ q => i_var rfl q) (fun _ q => i_tC q) k
def spNeed (lo hi : Int) : Sp := fun vs H Q _ => ∃ x : Int, vs = [.int x] ∧ lo ≤ x ∧ x ≤ hi ∧ Q .non H
abbrev sNeedSlip : Stmt := top 25
theorem scNeedSlip : FnScope ["number"] ["number"] (defScope sNeedSlip) := ⟨rfl, rfl, rfl, by decide +kernel, rfl, by decide +kernel, by decide +kernel⟩
theorem ok_need_slip {f : Addr} {fd : FuncData} (F : Fun K "need_slip" "need_slip" sNeedSlip f fd) (c_is_slip : Cal P w K mg base "is_slip" 1 ["number"] (spIn 1 12)) : FnOk P w K mg base CX0 2 f fd ["number"] (spNeed 1 12) := by
  refine F.ok scNeedSlip (fun vs H Q E h => ?_) (fun cdv A outer s H vs Q E hr h => ?_)
  · obtain ⟨x, rfl, _⟩ := h
    rfl
  · obtain ⟨x, rfl, a, b, k⟩ := h
    refine ⟨_, (pss_one (ps_if (pt_not (pt_val (pe_callC c_is_slip (hr.mono (by omega)) (by rfl) (pa_cons (pv 0) pa_nil)))) (pss_one ps_dead) pss_nil)), ?_⟩
    repeat walk_at "s"
    refine ⟨x, rfl, a, b, ?_⟩
    repeat walk_at "s"
    refine iteF ?_
    repeat walk_at "s"
    exact k
abbrev sNeedDay : Stmt := top 24
theorem scNeedDay : FnScope ["number"] ["number"] (defScope sNeedDay) := ⟨rfl, rfl, rfl, by decide +kernel, rfl, by decide +kernel, by decide +kernel⟩
theorem ok_need_day {f : Addr} {fd : FuncData} (F : Fun K "need_day" "need_day" sNeedDay f fd) (c_is_day : Cal P w K mg base "is_day" 1 ["number"] (spIn 1 400)) : FnOk P w K mg base CX0 2 f fd ["number"] (spNeed 1 400) := by
  refine F.ok scNeedDay (fun vs H Q E h => ?_) (fun cdv A outer s H vs Q E hr h => ?_)
  · obtain ⟨x, rfl, _⟩ := h
    rfl
  · obtain ⟨x, rfl, a, b, k⟩ := h
    refine ⟨_, (pss_one (ps_if (pt_not (pt_val (pe_callC c_is_day (hr.mono (by omega)) (by rfl) (pa_cons (pv 0) pa_nil)))) (pss_one ps_dead) pss_nil)), ?_⟩
    repeat walk_at "s"
    refine ⟨x, rfl, a, b, ?_⟩
    repeat walk_at "s"
    refine iteF ?_
    repeat walk_at "s"
    exact k
def spNum : Sp := fun vs H Q _ => ∃ x : Int, vs = [.int x] ∧ Q (.bl true) H
abbrev sIsNumber : Stmt := top 33
theorem scIsNumber : FnScope ["thing"] ["thing"] (defScope sIsNumber) := ⟨rfl, rfl, rfl, by decide +kernel, rfl, by decide +kernel, by decide +kernel⟩
theorem ok_is_number {f : Addr} {fd : FuncData} (F : Fun K "is_number" "is_number" sIsNumber f fd) (T : BltM mg) : FnOk P w K mg base CX0 1 f fd ["thing"] spNum := by
  refine F.ok scIsNumber (fun vs H Q E h => ?_) (fun cdv A outer s H vs Q E hr h => ?_)
  · obtain ⟨x, rfl, _⟩ := h
    rfl
  · obtain ⟨x, rfl, k⟩ := h
    refine ⟨_, (pss_one (ps_ret (pe_and (pe_callB (cIsi (K := K) rfl) (by rfl) T.z_isinstance bb_isinstance (pa_cons (pv 0) (pa_cons (pe_bltn (v := .ty "int") (by rfl) T.z_int bb_int rfl) pa_nil))) (pe_one (pe_not (pe_callB (cIsi (K := K) rfl) (by rfl) T.z_isinstance bb_isinstance (pa_cons (pv 0) (pa_cons (pe_bltn (v := .ty "bool") (by rfl) T.z_bool bb_bool rfl) pa_nil)))))))), ?_⟩
    have kn : Knd K H (.int x) "int" := ⟨.int x, by decide⟩
    repeat walk_at "s"
    refine iteT ?_
    repeat walk_at "s"
    exact k
def spFellS : Sp := fun vs H Q _ => ∃ (s x : Int) (p : Addr), vs = [.int s, .ref p] ∧ H p = some (.tup [.int x]) ∧ 1 ≤ x ∧ x ≤ 60 ∧ Q (.bl true) H
abbrev sFellIsSound : Stmt := top 39
theorem scFellIsSound : FnScope ["slip", "asked"] ["slip", "asked"] (defScope sFellIsSound) := ⟨rfl, rfl, rfl, by decide +kernel, rfl, by decide +kernel, by decide +kernel⟩
theorem ok_fell {f : Addr} {fd : FuncData} (F : Fun K "fell_is_sound" "fell_is_sound" sFellIsSound f fd) (T : BltM mg) {tk : Tok} (hMT : mg "MOST_TIMBERS" = some (.int 60 tk)) (c_is_number : Cal P w K mg base "is_number" 1 ["thing"] spNum) : FnOk P w K mg base CX0 2 f fd ["slip", "asked"] spFellS := by
  refine F.ok scFellIsSound (fun vs H Q E h => ?_) (fun cdv A outer s H vs Q E hr h => ?_)
  · obtain ⟨_, _, p, rfl, _⟩ := h
    rfl
  · obtain ⟨sl, x, p, rfl, hp, a, b, k⟩ := h
    refine ⟨_, (pss_one (ps_ret (pe_and (pe_cmpR op_eq (pe_callB (cLen (K := K) rfl) (by rfl) T.z_len bb_len (pa_cons (pv 1) pa_nil)) pe_int (nomark _)) (pe_and (pe_callC c_is_number (hr.mono (by omega)) (by rfl) (pa_cons (pe_ix (ixT (K := K) rfl) (pv 1) pe_int (fun _ _ => rfl)) pa_nil)) (pe_one (pe_chain op_le op_le pe_int (pe_ix (ixT (K := K) rfl) (pv 1) pe_int (fun _ _ => rfl)) (pe_glob (v := .int 60) (by rfl) hMT ⟨_, rfl⟩))))))), ?_⟩
    repeat walk_at "s"
    refine iteY (decide_eq_true rfl) ?_
    repeat walk_at "s"
    refine ⟨x, rfl, ?_⟩
    repeat walk_at "s"
    refine iteT ?_
    exact in_chain a b (fun _ q => i_tC q) (fun _ q => i_op (i_var rfl (i_tC (i_ixT (SqT.of hp) rfl q)))) (fun _ q => i_tC q) k
def tabS (f1 f2 f3 f4 f5 : Addr) : List (Str × Addr) := [("fell", f1), ("refit", f2), ("storm", f3), ("find", f3), ("lend", f4), ("pay", f4), ("clear", f5)]
theorem tabS_fell {f1 f2 f3 f4 f5 : Addr} : PyProof.Rows.KTD.datumAt ("fell" : Str) (tabS f1 f2 f3 f4 f5) = some f1 := by kernel_rfl
theorem cut1 (v : V) (us : List V) : cutV (v :: us) (some 1) none = us := by
  have e1 : HT.sIx (v :: us).length 0 (some (1 : Int)) = 1 := (HT.sIx_nat (v :: us).length 0 1).trans (Nat.min_eq_left (by rw [List.length_cons]; omega))
  have e2 : HT.sIx (v :: us).length (v :: us).length none = (v :: us).length := HT.sIx_none _ _
  unfold cutV
  rw [e1, e2]
  show List.take _ us = us
  exact List.take_of_length_le (by rw [List.length_cons]; omega)
theorem cut1_not (v : V) (us : List V) {hi : Option Int} : ¬ (HT.sIx (v :: us).length 0 (some (1 : Int)) = 0 ∧ HT.sIx (v :: us).length (v :: us).length hi = (v :: us).length) := by
  have e1 : HT.sIx (v :: us).length 0 (some (1 : Int)) = 1 := (HT.sIx_nat (v :: us).length 0 1).trans (Nat.min_eq_left (by rw [List.length_cons]; omega))
  rw [e1]
  exact fun z => by cases z.1
/-- a fact of felling -/
def FellAt (H : Hp) (p : Addr) (x : Int) : Prop := H p = some (.tup [.str "fell", .int x]) ∧ 1 ≤ x ∧ x ≤ 60
def spSound : Sp := fun vs H Q _ => ∃ (s x : Int) (p : Addr), vs = [.int s, .ref p] ∧ FellAt H p x ∧ ∀ H', Same H H' → Q (.bl true) H'
abbrev sSound : Stmt := top 45
theorem scSound : FnScope ["slip", "fact", "is_sound"] ["slip", "fact"] (defScope sSound) := ⟨rfl, rfl, rfl, by decide +kernel, rfl, by decide +kernel, by decide +kernel⟩
theorem ok_sound {f : Addr} {fd : FuncData} (F : Fun K "sound" "sound" sSound f fd) (T : BltM mg) {aS f1 f2 f3 f4 f5 : Addr} (hS : mg "SOUND" = some (.ref aS)) (tS : TabK K aS (tabS f1 f2 f3 f4 f5)) (c1 : Cal1 P w K mg base f1 5 ["slip", "asked"] spFellS) : FnOk P w K mg base CX0 6 f fd ["slip", "fact"] spSound := by
  refine F.ok scSound (fun vs H Q E h => ?_) (fun cdv A outer s H vs Q E hr h => ?_)
  · obtain ⟨_, _, p, rfl, _⟩ := h
    rfl
  · obtain ⟨sl, x, p, rfl, ⟨hp, a, b⟩, k⟩ := h
    refine ⟨_, (pss_cons (ps_if ((pw_or (pt_cmpR op_eq (pe_callB (cLen (K := K) rfl) (by rfl) T.z_len bb_len (pa_cons (pv 1) pa_nil)) pe_int (nomark _)) (pw_or1 (pt_cmp (pc_tabnot (K := K) rfl (pe_ix (ixT (K := K) rfl) (pv 1) pe_int (fun _ _ => rfl)) (pe_glob (v := .ref aS) (by rfl) hS rfl)))))).pt (pss_one (ps_ret pe_bl)) pss_nil)
      (pss_cons (ps_set (i := 2) scSound.nd rfl (Or.inl rfl) (pe_tab (K := K) rfl (pe_glob (v := .ref aS) (by rfl) hS rfl) (pe_ix (ixT (K := K) rfl) (pv 1) pe_int (fun _ _ => rfl)) (fun _ _ => rfl)))
      (pss_one (ps_ret (pe_callL (k := 5) ⟨rfl, rfl, rfl, rfl, rfl⟩ (hr.mono (by omega)) (pv 2) (pa_cons (pv 0) (pa_cons (pe_slice (slT (K := K) rfl) (pv 1) (po_some pe_int) po_none) pa_nil))))))), ?_⟩
    repeat walk_at "s"
    refine iteZ (decide_eq_false fun z => absurd (V.int.inj z) (by show ((2 : Nat) : Int) ≠ 0; decide)) ?_
    repeat walk_at "s"
    refine ⟨aS, _, _, rfl, tS, rfl, ?_⟩
    repeat walk_at "s"
    rw [tabS_fell]
    refine iteF ?_
    repeat walk_at "s"
    refine ⟨aS, _, _, _, rfl, tS, rfl, tabS_fell, ?_⟩
    repeat walk_at "s"
    refine ⟨f1, _, _, rfl, c1, ?_⟩
    repeat walk_at "s"
    refine i_slT (SqT.of hp) (cut1_not _ _) fun q hq => ?_
    rw [cut1]
    have s1 := same_upd (o := .tup [.int x]) hq
    repeat walk_at "s"
    exact ⟨sl, x, q, rfl, upd_same, a, b, k _ s1⟩
def spDiv : Sp := fun vs H Q _ => vs = [.int 0, .int 1] ∧ Q (.int 1) H
abbrev sDivisor : Stmt := top 27
theorem scDivisor : FnScope ["one", "other"] ["one", "other"] (defScope sDivisor) := ⟨rfl, rfl, rfl, by decide +kernel, rfl, by decide +kernel, by decide +kernel⟩
theorem ok_divisor {f : Addr} {fd : FuncData} (F : Fun K "divisor" "divisor" sDivisor f fd) : FnOk P w K mg base CX0 1 f fd ["one", "other"] spDiv := by
  refine F.ok scDivisor (fun vs H Q E h => ?_) (fun cdv A outer s H vs Q E hr h => ?_)
  · obtain ⟨rfl, _⟩ := h
    rfl
  · obtain ⟨rfl, k⟩ := h
    refine ⟨_, (pss_cons (ps_while PassesOwn.never (pt_cmpR op_gt (pv 1) pe_int (nomark _)) (pss_one (ps_par (i := 0) (j := 1) rfl scDivisor.nd rfl rfl (by decide) rfl rfl (pa_cons (pv 1) (pa_cons (pe_op op_mod (pv 0) (pv 1)) pa_nil)) (by rfl))))
      (pss_one (ps_ret (pv 0)))), ?_⟩
    refine while_by (fun σ H' => H' = H ∧ (σ = [some (.int 0), some (.int 1)] ∨ σ = [some (.int 1), some (.int 0)]))
      (fun σ _ => match σ with | [_, some (.int y)] => y.toNat | _ => 0) ⟨rfl, .inl rfl⟩ ?_ ?_
    · rintro σ H' ⟨rfl, rfl | rfl⟩
      · refine ⟨_, rfl, _, _, rfl, rfl, _, rfl, ?_⟩
        refine ite2 (fun h => ?_) (fun h => absurd rfl h)
        exact ⟨_, rfl, _, rfl, _, rfl, _, _, rfl, rfl, (by show (0 : Int) < 1; decide), _, _, rfl, ⟨rfl, .inr rfl⟩, by show (0 : Nat) < 1; decide⟩
      · refine ⟨_, rfl, _, _, rfl, rfl, _, rfl, ?_⟩
        refine ite2 (fun h => absurd h (by decide)) (fun h => ?_)
        exact ⟨_, rfl, k⟩
    · rintro σ H' Q1 Q2 hq ⟨v, e, i, j, e1, e2, c, e3, q⟩
      exact ⟨v, e, i, j, e1, e2, c, e3, hq _ _ q⟩
/-- (0, 1) told -/
def RX (H : Hp) (Q : VK) : Prop := ∀ p H', Same H H' → H' p = some (.tup [.int 0, .int 1]) → Q (.ref p) H'
def spLow : Sp := fun vs H Q _ => vs = [.int 0, .int 1] ∧ RX H Q
abbrev sLowest : Stmt := top 28
theorem scLowest : FnScope ["top", "bottom", "shared"] ["top", "bottom"] (defScope sLowest) := ⟨rfl, rfl, rfl, by decide +kernel, rfl, by decide +kernel, by decide +kernel⟩
theorem ok_lowest {f : Addr} {fd : FuncData} (F : Fun K "lowest" "lowest" sLowest f fd) (T : BltM mg) (c_divisor : Cal P w K mg base "divisor" 1 ["one", "other"] spDiv) : FnOk P w K mg base CX0 2 f fd ["top", "bottom"] spLow := by
  refine F.ok scLowest (fun vs H Q E h => ?_) (fun cdv A outer s H vs Q E hr h => ?_)
  · obtain ⟨rfl, _⟩ := h
    rfl
  · obtain ⟨rfl, k⟩ := h
    refine ⟨_, (pss_cons (ps_set (i := 2) scLowest.nd rfl (Or.inl rfl) (pe_callC c_divisor (hr.mono (by omega)) (by rfl) (pa_cons (pe_callB call_absR (by rfl) T.z_abs bb_abs (pa_cons (pv 0) pa_nil)) (pa_cons (pv 1) pa_nil))))
      (pss_one (ps_ret (pe_tup (pa_cons (pe_op op_fdiv (pv 0) (pv 2)) (pa_cons (pe_op op_fdiv (pv 1) (pv 2)) pa_nil)))))), ?_⟩
    repeat walk_at "s"
    refine ⟨rfl, ?_⟩
    repeat walk_at "s"
    refine ⟨by show 2 ≤ sizeLine; decide, fun p hp => k p _ (same_upd hp) upd_same⟩
end

section
variable {P : Program} {w : World} {K : PySem.W.Frag} {mg : Str → Option Value} {base : Heap} {CY CD aL aX : Addr}
theorem dget_k {H : Hp} {d : Addr} {kvs : List (Key × V)} {k : Key} (r : Rd H d (.dK kvs)) : DGet H d (kV k) (valV kvs k) := .inl ⟨kvs, k, r, rfl, rfl⟩
def spDInit (CD : Addr) : Sp := fun vs H Q _ => ∃ (x dx : Addr), vs = [.ref x] ∧ H x = some (.ins CD dx []) ∧ ∀ dn dt H', H' x = some (.ins CD dx (dF dn dt)) → H dn = none → H dt = none → H' dn = some (.dK []) → H' dt = some (.dK []) → But x H H' → Q .non H'
abbrev sDebtsInit : Stmt := inClass (top 30) 0
theorem scDebtsInit : FnScope ["self"] ["self"] (defScope sDebtsInit) := ⟨rfl, rfl, rfl, by decide +kernel, rfl, by decide +kernel, by decide +kernel⟩
theorem ok_d_init {f : Addr} {fd : FuncData} (F : Fun K "__init__" "Debts.__init__" sDebtsInit f fd) (D : ClsD K CD) : FnOk P w K mg base CX0 1 f fd ["self"] (spDInit CD) := by
  obtain ⟨hc, n1, n2, n3, n4, n5⟩ := D
  refine F.ok scDebtsInit (fun vs H Q E h => ?_) (fun cdv A outer s H vs Q E hr h => ?_)
  · obtain ⟨_, _, rfl, _⟩ := h
    rfl
  · obtain ⟨x, dx, rfl, e0, k⟩ := h
    refine ⟨_, (pss_cons (ps_fldK (K := K) rfl (pv 0) pe_int rfl)
      (pss_cons (ps_fldK (K := K) rfl (pv 0) pe_dnewK rfl)
      (pss_cons (ps_fldK (K := K) rfl (pv 0) pe_dnewK rfl)
      (pss_cons (ps_fldK (K := K) rfl (pv 0) pe_int rfl)
      (pss_one (ps_fldK (K := K) rfl (pv 0) pe_int rfl)))))), ?_⟩
    repeat walk_at "s"
    intro dn hn
    have b1 : But x H (upd H x (.ins CD dx (putF "shares" (.int 1) []))) := but_upd
    have e1 := same_upd (o := .dK []) hn _ _ (upd_same (H := H) (a := x) (o := .ins CD dx (putF "shares" (.int 1) [])))
    have b2 := b1.trans (same_upd (o := .dK []) hn).but
    have d2 : upd (upd H x (.ins CD dx (putF "shares" (.int 1) []))) dn (.dK []) dn = some (.dK []) := upd_same
    have nx : dn ≠ x := fun z => by rw [z, upd_same] at hn; cases hn
    have hn0 : H dn = none := by rw [upd_ne nx] at hn; exact hn
    generalize upd (upd H x (.ins CD dx (putF "shares" (.int 1) []))) dn (.dK []) = H2 at e1 b2 d2 ⊢
    repeat walk_at "s"
    intro dt ht
    have b3 := b2.trans (but_upd (o := .ins CD dx (putF "by_name" (.ref dn) (putF "shares" (.int 1) []))))
    have d3 : upd H2 x (.ins CD dx (putF "by_name" (.ref dn) (putF "shares" (.int 1) []))) dn = some (.dK []) := by rw [upd_ne nx]; exact d2
    have e3 : upd H2 x (.ins CD dx (putF "by_name" (.ref dn) (putF "shares" (.int 1) []))) x = some (.ins CD dx (putF "by_name" (.ref dn) (putF "shares" (.int 1) []))) := upd_same
    generalize upd H2 x (.ins CD dx (putF "by_name" (.ref dn) (putF "shares" (.int 1) []))) = H3 at b3 d3 e3 ht ⊢
    have e4 := same_upd (o := .dK []) ht _ _ e3
    have d4 := same_upd (o := .dK []) ht _ _ d3
    have b4 := b3.trans (same_upd (o := .dK []) ht).but
    have t4 : upd H3 dt (.dK []) dt = some (.dK []) := upd_same
    have nt : dt ≠ x := fun z => by rw [z, e3] at ht; cases ht
    have ht0 : H dt = none := by
      cases z : H dt with
      | none => rfl
      | some o => rw [b3 dt o nt z] at ht; cases ht
    generalize upd H3 dt (.dK []) = H4 at e4 d4 b4 t4 ⊢
    repeat walk_at "s"
    rw [upd_upd, upd_upd, df_made]
    exact k dn dt _ upd_same hn0 ht0 (by rw [upd_ne nx]; exact d4) (by rw [upd_ne nt]; exact t4) (b4.trans but_upd)
def spPart1 (CD : Addr) : Sp := fun vs H Q _ => ∃ (db ddx dn dt : Addr) (t : Int), vs = [.ref db, .int t] ∧ H db = some (.ins CD ddx (dF dn dt)) ∧ H dn = some (.dK []) ∧ H dt = some (.dK []) ∧ RX H Q
def spPart0 (CD : Addr) : Sp := fun vs H Q _ => ∃ (db ddx dn dt : Addr), vs = [.ref db] ∧ H db = some (.ins CD ddx (dF dn dt)) ∧ H dn = some (.dK []) ∧ H dt = some (.dK []) ∧ RX H Q
abbrev sDebtsOwedOn : Stmt := inClass (top 30) 2
theorem scDebtsOwedOn : FnScope ["self", "timber"] ["self", "timber"] (defScope sDebtsOwedOn) := ⟨rfl, rfl, rfl, by decide +kernel, rfl, by decide +kernel, by decide +kernel⟩
theorem ok_d_owed_on {f : Addr} {fd : FuncData} (F : Fun K "owed_on" "Debts.owed_on" sDebtsOwedOn f fd) (D : ClsD K CD) (c_lowest : Cal P w K mg base "lowest" 2 ["top", "bottom"] spLow) : FnOk P w K mg base CX0 3 f fd ["self", "timber"] (spPart1 CD) := by
  obtain ⟨hc, n1, n2, n3, n4, n5⟩ := D
  refine F.ok scDebtsOwedOn (fun vs H Q E h => ?_) (fun cdv A outer s H vs Q E hr h => ?_)
  · obtain ⟨_, _, _, _, _, rfl, _⟩ := h
    rfl
  · obtain ⟨db, ddx, dn, dt, t, rfl, e, en, et, k⟩ := h
    refine ⟨_, (pss_one (ps_ret (pe_callC c_lowest (hr.mono (by omega)) (by rfl) (pa_cons (pe_dget2 (hu1 hr.units) (pe_fldK (K := K) rfl (pv 0)) (pv 1) pe_int ⟨rfl, rfl, rfl, rfl⟩) (pa_cons (pe_fldK (K := K) rfl (pv 0)) pa_nil))))), ?_⟩
    repeat walk_at "s"
    refine ⟨dt, rfl, isD_k (.of et), ?_⟩
    repeat walk_at "s"
    refine ⟨none, dget_k (k := .inl t) (.of et), ?_⟩
    repeat walk_at "s"
    exact ⟨rfl, k⟩
abbrev sDebtsOwedAll : Stmt := inClass (top 30) 3
theorem scDebtsOwedAll : FnScope ["self"] ["self"] (defScope sDebtsOwedAll) := ⟨rfl, rfl, rfl, by decide +kernel, rfl, by decide +kernel, by decide +kernel⟩
theorem ok_d_owed_all {f : Addr} {fd : FuncData} (F : Fun K "owed_all" "Debts.owed_all" sDebtsOwedAll f fd) (D : ClsD K CD) (T : BltM mg) (c_lowest : Cal P w K mg base "lowest" 2 ["top", "bottom"] spLow) : FnOk P w K mg base CX0 3 f fd ["self"] (spPart0 CD) := by
  obtain ⟨hc, n1, n2, n3, n4, n5⟩ := D
  refine F.ok scDebtsOwedAll (fun vs H Q E h => ?_) (fun cdv A outer s H vs Q E hr h => ?_)
  · obtain ⟨_, _, _, _, rfl, _⟩ := h
    rfl
  · obtain ⟨db, ddx, dn, dt, rfl, e, en, et, k⟩ := h
    refine ⟨_, (pss_one (ps_ret (pe_callC c_lowest (hr.mono (by omega)) (by rfl) (pa_cons (pe_op op_add (pe_callB (cSumV rfl) (by rfl) T.z_sum bb_sum (pa_cons (mVals (K := K) rfl (pe_fldK (K := K) rfl (pv 0))) pa_nil)) (pe_callB (cSumV rfl) (by rfl) T.z_sum bb_sum (pa_cons (mVals (K := K) rfl (pe_fldK (K := K) rfl (pv 0))) pa_nil))) (pa_cons (pe_fldK (K := K) rfl (pv 0)) pa_nil))))), ?_⟩
    repeat walk_at "s"
    refine ⟨.inr (.inr (.inl ⟨rfl, .inl ⟨_, en⟩⟩)), i_vals en fun p hp => ?_⟩
    have s1 := same_upd (o := vwO p dn) hp
    have v1 : upd H p (vwO p dn) p = some (vwO p dn) := upd_same
    generalize upd H p (vwO p dn) = H1 at s1 v1 ⊢
    repeat walk_at "s"
    refine i_sumV v1 (s1 _ _ en) ?_
    have e1 := s1 _ _ e
    have et1 := s1 _ _ et
    repeat walk_at "s"
    refine ⟨.inr (.inr (.inl ⟨rfl, .inl ⟨_, et1⟩⟩)), i_vals et1 fun q hq => ?_⟩
    have s2 := same_upd (o := vwO q dt) hq
    have v2 : upd H1 q (vwO q dt) q = some (vwO q dt) := upd_same
    generalize upd H1 q (vwO q dt) = H2 at s2 v2 ⊢
    repeat walk_at "s"
    refine i_sumV v2 (s2 _ _ et1) ?_
    have e2 := s2 _ _ e1
    repeat walk_at "s"
    exact ⟨rfl, fun p H' s' e' => k p H' ((s1.trans s2).trans s') e'⟩
abbrev sDebtsPaid : Stmt := inClass (top 30) 5
theorem scDebtsPaid : FnScope ["self"] ["self"] (defScope sDebtsPaid) := ⟨rfl, rfl, rfl, by decide +kernel, rfl, by decide +kernel, by decide +kernel⟩
theorem ok_d_paid {f : Addr} {fd : FuncData} (F : Fun K "paid" "Debts.paid" sDebtsPaid f fd) (D : ClsD K CD) (c_lowest : Cal P w K mg base "lowest" 2 ["top", "bottom"] spLow) : FnOk P w K mg base CX0 3 f fd ["self"] (spPart0 CD) := by
  obtain ⟨hc, n1, n2, n3, n4, n5⟩ := D
  refine F.ok scDebtsPaid (fun vs H Q E h => ?_) (fun cdv A outer s H vs Q E hr h => ?_)
  · obtain ⟨_, _, _, _, rfl, _⟩ := h
    rfl
  · obtain ⟨db, ddx, dn, dt, rfl, e, en, et, k⟩ := h
    refine ⟨_, (pss_one (ps_ret (pe_callC c_lowest (hr.mono (by omega)) (by rfl) (pa_cons (pe_fldK (K := K) rfl (pv 0)) (pa_cons (pe_fldK (K := K) rfl (pv 0)) pa_nil))))), ?_⟩
    repeat walk_at "s"
    exact ⟨rfl, k⟩
def spLent (CD : Addr) : Sp := fun vs H Q _ => ∃ (db ddx dn dt : Addr), vs = [.ref db] ∧ H db = some (.ins CD ddx (dF dn dt)) ∧ Q (.int 0) H
abbrev sDebtsLent : Stmt := inClass (top 30) 4
theorem scDebtsLent : FnScope ["self"] ["self"] (defScope sDebtsLent) := ⟨rfl, rfl, rfl, by decide +kernel, rfl, by decide +kernel, by decide +kernel⟩
theorem ok_d_lent {f : Addr} {fd : FuncData} (F : Fun K "lent" "Debts.lent" sDebtsLent f fd) (D : ClsD K CD) : FnOk P w K mg base CX0 1 f fd ["self"] (spLent CD) := by
  obtain ⟨hc, n1, n2, n3, n4, n5⟩ := D
  refine F.ok scDebtsLent (fun vs H Q E h => ?_) (fun cdv A outer s H vs Q E hr h => ?_)
  · obtain ⟨_, _, _, _, rfl, _⟩ := h
    rfl
  · obtain ⟨db, ddx, dn, dt, rfl, e, k⟩ := h
    refine ⟨_, (pss_one (ps_ret (pe_fldK (K := K) rfl (pv 0)))), ?_⟩
    repeat walk_at "s"
    exact k
end

section
variable {P : Program} {w : World} {K : PySem.W.Frag} {mg : Str → Option Value} {base : Heap} {CY CD aL aX : Addr}
theorem i_setD {σ : St} {H : Hp} {D : Ends} {x C dx : Addr} {fs : List (Str × V)} {f : Str} {i : Nat} (hσ : σ[i]? = some (some (.ref x))) (e : H x = some (.ins C dx fs)) (l : fs.length < 1000) (c : Cls K C) (n : NoAttr K C f)
    (q : ∀ d H', H d = none → d ≠ x → H' x = some (.ins C dx (putF f (.ref d) fs)) → H' d = some (.dK []) → But x H H' → D.nx σ H') : sFld K (tVar i) tDNewK f D σ H := by
  intro d hd
  have nd : d ≠ x := fun z => by rw [z, e] at hd; cases hd
  refine ⟨_, hσ, x, C, dx, fs, rfl, same_upd hd _ _ e, c, n, l, q d _ hd nd upd_same (by rw [upd_ne nd]; exact upd_same) ((same_upd hd).but.trans but_upd)⟩
def spYInit (CY CD aL : Addr) : Sp := fun vs H Q _ => ∃ (x dx : Addr) (m : Int), vs = [.ref x, .int m] ∧ H x = some (.ins CY dx []) ∧ 1 ≤ m ∧ m ≤ 12 ∧ ∀ (a : YA) H', a.y = x → YardAt CY CD aL H' a (fun _ => 0) m 0 0 (fun _ => 0) → But x H H' → Q .non H'
abbrev sYardInit : Stmt := inClass (top 64) 0
theorem scYardInit : FnScope ["self", "slip"] ["self", "slip"] (defScope sYardInit) := ⟨rfl, rfl, rfl, by decide +kernel, rfl, by decide +kernel, by decide +kernel⟩
theorem ok_y_init {f : Addr} {fd : FuncData} (F : Fun K "__init__" "Yard.__init__" sYardInit f fd) (Y : ClsY K CY) (c_need_slip : Cal P w K mg base "need_slip" 2 ["number"] (spNeed 1 12)) (c_Debts : CalN P w K mg base "Debts" CD 1 ["self"] (spDInit CD)) : FnOk P w K mg base CX0 3 f fd ["self", "slip"] (spYInit CY CD aL) := by
  obtain ⟨hc, n1, n2, n3, n4, n5, n6⟩ := Y
  refine F.ok scYardInit (fun vs H Q E h => ?_) (fun cdv A outer s H vs Q E hr h => ?_)
  · obtain ⟨_, _, _, rfl, _⟩ := h
    rfl
  · obtain ⟨x, dx, m, rfl, e0, m1, m2, k⟩ := h
    refine ⟨_, (pss_cons (ps_expr (pe_callC c_need_slip (hr.mono (by omega)) (by rfl) (pa_cons (pv 1) pa_nil)))
      (pss_cons (ps_fldK (K := K) rfl (pv 0) (pv 1) rfl)
      (pss_cons (ps_fldK (K := K) rfl (pv 0) pe_int rfl)
      (pss_cons (ps_fldK (K := K) rfl (pv 0) pe_dnewK rfl)
      (pss_cons (ps_fldK (K := K) rfl (pv 0) pe_dnewK rfl)
      (pss_cons (ps_fldK (K := K) rfl (pv 0) pe_dnewK rfl)
      (pss_one (ps_fldK (K := K) rfl (pv 0) (pe_makeC0 c_Debts (hr.mono (by omega)) (by rfl)) rfl)))))))), ?_⟩
    repeat walk_at "s"
    refine ⟨m, rfl, m1, m2, ?_⟩
    refine i_seq (i_sfld (i_var rfl (i_var rfl (i_sfldx e0 (by decide) hc n1 ?_))))
    refine i_seq (i_sfld (i_tC (i_var rfl (i_sfldx upd_same (of_decide_eq_true (by kernel_rfl)) hc n2 ?_))))
    rw [upd_upd]
    have b1 : But x H (upd H x (.ins CY dx (putF "day" (.int 0) (putF "most" (.int m) [])))) := but_upd
    have e1 : upd H x (.ins CY dx (putF "day" (.int 0) (putF "most" (.int m) []))) x = some (.ins CY dx (putF "day" (.int 0) (putF "most" (.int m) []))) := upd_same
    generalize upd H x (.ins CY dx (putF "day" (.int 0) (putF "most" (.int m) []))) = H1 at b1 e1 ⊢
    refine i_seq (i_setD rfl e1 (of_decide_eq_true (by kernel_rfl)) hc n3 fun dl H2 l0 nl e2 l2 b2 => ?_)
    refine i_seq (i_setD rfl e2 (of_decide_eq_true (by kernel_rfl)) hc n4 fun dc H3 c0 nc e3 c3 b3 => ?_)
    refine i_seq (i_setD rfl e3 (of_decide_eq_true (by kernel_rfl)) hc n5 fun de H4 d0 nd e4 d4 b4 => ?_)
    repeat walk_at "s"
    intro db ddx hb hdx nb
    have s5 := (same_upd (o := .own db) hdx).trans (same_upd (o := .ins CD ddx []) (show upd H4 ddx (.own db) db = none by rw [upd_ne (Ne.symm nb)]; exact hb))
    have hb5 : upd (upd H4 ddx (.own db)) db (.ins CD ddx []) db = some (.ins CD ddx []) := upd_same
    generalize upd (upd H4 ddx (.own db)) db (.ins CD ddx []) = H5 at s5 hb5 ⊢
    refine ⟨db, ddx, rfl, hb5, fun dn dt H6 e6 hn ht en et b6 => ⟨rfl, ?_⟩⟩
    have nx : x ≠ db := ne_of_none e4 hb
    have l4 := b4 _ _ nl (b3 _ _ nl l2)
    have c4 := b4 _ _ nc c3
    have g : ∀ b o, H4 b = some o → H6 b = some o := fun b o z => b6 b o (ne_of_none z hb) (s5 _ _ z)
    refine i_var rfl (i_sfldx (g _ _ e4) (of_decide_eq_true (by kernel_rfl)) hc n6 ?_)
    rw [yf_made]
    have ndb : db ≠ x := Ne.symm nx
    have nn : ∀ b, H5 b = none → b ≠ x := fun b z => (ne_of_none (s5 _ _ e4) z).symm
    have nlx : ∀ b, H5 b = none → b ≠ dl := fun b z => (ne_of_none (s5 _ _ l4) z).symm
    have uu : ∀ b o, b ≠ x → H6 b = some o → upd H6 x (.ins CY dx (yF m 0 dl dc de db)) b = some o := fun b o n z => by rw [upd_ne n]; exact z
    refine k ⟨x, dx, dl, dc, de, db, ddx, dn, dt⟩ _ rfl ⟨⟨upd_same, .of (uu _ _ nl (g _ _ l4)), uu _ _ nc (g _ _ c4), uu _ _ nd (g _ _ d4), uu _ _ ndb e6, uu _ _ (nn _ hn) en, uu _ _ (nn _ ht) et, fun i hi => absurd hi (Nat.not_lt_zero _), by decide⟩, uu _ _ nl (g _ _ l4), ?_, ?_, nlx _ hn, nlx _ ht⟩ ?_
    · exact (ne_of_none l2 c0).symm
    · exact (ne_of_none (b3 _ _ nl l2) d0).symm
    · exact fun b o n z => uu _ _ n (g _ _ (b4 _ _ n (b3 _ _ n (b2 _ _ n (b1 _ _ n z)))))
/-- what a place is asked of the yard -/
def spLies (CY CD aL : Addr) : Sp := fun vs H Q _ => ∃ (a : YA) (f : Nat → Addr) (most day : Int) (n : Nat) (ds : Nat → Int) (t : Int), vs = [.ref a.y, .int t] ∧ YardR CY CD aL H a f most day n ds ∧ (∀ i : Nat, i < n → t = (i : Int) + 1 → Q (.ref aL) H) ∧ ((t < 1 ∨ (n : Int) < t) → Q .non H)
theorem tm_cases (t : Int) (n : Nat) : (∃ i : Nat, i < n ∧ t = (i : Int) + 1) ∨ (t < 1 ∨ (n : Int) < t) := by
  by_cases h : t < 1 ∨ (n : Int) < t
  · exact .inr h
  · exact .inl ⟨(t - 1).toNat, by omega, by omega⟩
abbrev sYardLies : Stmt := inClass (top 64) 3
theorem scYardLies : FnScope ["self", "timber"] ["self", "timber"] (defScope sYardLies) := ⟨rfl, rfl, rfl, by decide +kernel, rfl, by decide +kernel, by decide +kernel⟩
theorem ok_lies {f : Addr} {fd : FuncData} (F : Fun K "lies" "Yard.lies" sYardLies f fd) (Y : ClsY K CY) : FnOk P w K mg base CX0 1 f fd ["self", "timber"] (spLies CY CD aL) := by
  obtain ⟨hc, n1, n2, n3, n4, n5, n6⟩ := Y
  refine F.ok scYardLies (fun vs H Q E h => ?_) (fun cdv A outer s H vs Q E hr h => ?_)
  · obtain ⟨_, _, _, _, _, _, _, rfl, _⟩ := h
    rfl
  · obtain ⟨a, f, most, day, n, ds, t, rfl, h, k1, k2⟩ := h
    refine ⟨_, (pss_cons (ps_if (pt_cmp (pc_dnotin (hu1 hr.units) (pv 1) (pe_fldK (K := K) rfl (pv 0)))) (pss_one (ps_ret pe_non)) pss_nil)
      (pss_one (ps_ret (pe_ix (ixT (K := K) rfl) (pe_ix (ixL (K := K) rfl) (pe_dget (hu1 hr.units) (pe_fldK (K := K) rfl (pv 0)) (pv 1) (fun _ _ => rfl)) (pe_un un_neg pe_int) (fun _ _ => rfl)) pe_int (fun _ _ => rfl))))), ?_⟩
    have hy := h.y
    repeat walk_at "s"
    refine ⟨a.dl, _, rfl, dget_k (k := .inl t) h.l, ?_⟩
    repeat walk_at "s"
    rcases tm_cases t n with ⟨i, hi, rfl⟩ | ho
    · rw [lnK_in hi]
      refine iteF ?_
      repeat walk_at "s"
      obtain ⟨p, h1, h2⟩ := h.ln i hi
      refine ⟨a.dl, .ref (f i), rfl, by rw [← lnK_in hi]; exact dget_k (k := .inl ((i : Int) + 1)) h.l, ?_⟩
      repeat walk_at "s"
      exact k1 i hi rfl
    · rw [lnK_out ho]
      refine iteT ?_
      repeat walk_at "s"
      exact k2 ho
def spGet (CY CD aL : Addr) (v : Int → Int → Nat → V) : Sp := fun vs H Q _ => ∃ (a : YA) (f : Nat → Addr) (most day : Int) (n : Nat) (ds : Nat → Int), vs = [.ref a.y] ∧ YardR CY CD aL H a f most day n ds ∧ Q (v most day n) H
abbrev sYardToday : Stmt := inClass (top 64) 8
theorem scYardToday : FnScope ["self"] ["self"] (defScope sYardToday) := ⟨rfl, rfl, rfl, by decide +kernel, rfl, by decide +kernel, by decide +kernel⟩
theorem ok_today {f : Addr} {fd : FuncData} (F : Fun K "today" "Yard.today" sYardToday f fd) (Y : ClsY K CY) : FnOk P w K mg base CX0 1 f fd ["self"] (spGet CY CD aL fun _ d _ => .int d) := by
  obtain ⟨hc, n1, n2, n3, n4, n5, n6⟩ := Y
  refine F.ok scYardToday (fun vs H Q E h => ?_) (fun cdv A outer s H vs Q E hr h => ?_)
  · obtain ⟨_, _, _, _, _, _, rfl, _⟩ := h
    rfl
  · obtain ⟨a, f, most, day, n, ds, rfl, h, k⟩ := h
    refine ⟨_, (pss_one (ps_ret (pe_fldK (K := K) rfl (pv 0)))), ?_⟩
    have hy := h.y
    repeat walk_at "s"
    exact k
abbrev sYardSlip : Stmt := inClass (top 64) 9
theorem scYardSlip : FnScope ["self"] ["self"] (defScope sYardSlip) := ⟨rfl, rfl, rfl, by decide +kernel, rfl, by decide +kernel, by decide +kernel⟩
theorem ok_yslip {f : Addr} {fd : FuncData} (F : Fun K "slip" "Yard.slip" sYardSlip f fd) (Y : ClsY K CY) : FnOk P w K mg base CX0 1 f fd ["self"] (spGet CY CD aL fun m _ _ => .int m) := by
  obtain ⟨hc, n1, n2, n3, n4, n5, n6⟩ := Y
  refine F.ok scYardSlip (fun vs H Q E h => ?_) (fun cdv A outer s H vs Q E hr h => ?_)
  · obtain ⟨_, _, _, _, _, _, rfl, _⟩ := h
    rfl
  · obtain ⟨a, f, most, day, n, ds, rfl, h, k⟩ := h
    refine ⟨_, (pss_one (ps_ret (pe_fldK (K := K) rfl (pv 0)))), ?_⟩
    have hy := h.y
    repeat walk_at "s"
    exact k
abbrev sYardFelled : Stmt := inClass (top 64) 10
theorem scYardFelled : FnScope ["self"] ["self"] (defScope sYardFelled) := ⟨rfl, rfl, rfl, by decide +kernel, rfl, by decide +kernel, by decide +kernel⟩
theorem ok_felled {f : Addr} {fd : FuncData} (F : Fun K "felled" "Yard.felled" sYardFelled f fd) (Y : ClsY K CY) (T : BltM mg) : FnOk P w K mg base CX0 1 f fd ["self"] (spGet CY CD aL fun _ _ n => .int n) := by
  obtain ⟨hc, n1, n2, n3, n4, n5, n6⟩ := Y
  refine F.ok scYardFelled (fun vs H Q E h => ?_) (fun cdv A outer s H vs Q E hr h => ?_)
  · obtain ⟨_, _, _, _, _, _, rfl, _⟩ := h
    rfl
  · obtain ⟨a, f, most, day, n, ds, rfl, h, k⟩ := h
    refine ⟨_, (pss_one (ps_ret (pe_callB cLenD (by rfl) T.z_len bb_len (pa_cons (pe_fldK (K := K) rfl (pv 0)) pa_nil)))), ?_⟩
    have hy := h.y
    have hl := h.l
    repeat walk_at "s"
    rw [lnK_length]
    exact k
abbrev sYardLent : Stmt := inClass (top 64) 25
theorem scYardLent : FnScope ["self"] ["self"] (defScope sYardLent) := ⟨rfl, rfl, rfl, by decide +kernel, rfl, by decide +kernel, by decide +kernel⟩
theorem ok_lent {f : Addr} {fd : FuncData} (F : Fun K "lent" "Yard.lent" sYardLent f fd) (Y : ClsY K CY) (c_Debts_lent : CalM P w K mg base CD "lent" 1 ["self"] (spLent CD)) : FnOk P w K mg base CX0 2 f fd ["self"] (spGet CY CD aL fun _ _ _ => .int 0) := by
  obtain ⟨hc, n1, n2, n3, n4, n5, n6⟩ := Y
  refine F.ok scYardLent (fun vs H Q E h => ?_) (fun cdv A outer s H vs Q E hr h => ?_)
  · obtain ⟨_, _, _, _, _, _, rfl, _⟩ := h
    rfl
  · obtain ⟨a, f, most, day, n, ds, rfl, h, k⟩ := h
    refine ⟨_, (pss_one (ps_ret (pe_methC0 c_Debts_lent (hr.mono (by omega)) (pe_fldK (K := K) rfl (pv 0))))), ?_⟩
    have hy := h.y
    have hb := h.b
    repeat walk_at "s"
    exact ⟨_, _, _, _, rfl, hb, k⟩
def spYPart (CY CD aL : Addr) : Sp := fun vs H Q _ => ∃ (a : YA) (f : Nat → Addr) (most day : Int) (n : Nat) (ds : Nat → Int), vs = [.ref a.y] ∧ YardR CY CD aL H a f most day n ds ∧ RX H Q
abbrev sYardPaid : Stmt := inClass (top 64) 26
theorem scYardPaid : FnScope ["self"] ["self"] (defScope sYardPaid) := ⟨rfl, rfl, rfl, by decide +kernel, rfl, by decide +kernel, by decide +kernel⟩
theorem ok_paid {f : Addr} {fd : FuncData} (F : Fun K "paid" "Yard.paid" sYardPaid f fd) (Y : ClsY K CY) (c_Debts_paid : CalM P w K mg base CD "paid" 3 ["self"] (spPart0 CD)) : FnOk P w K mg base CX0 4 f fd ["self"] (spYPart CY CD aL) := by
  obtain ⟨hc, n1, n2, n3, n4, n5, n6⟩ := Y
  refine F.ok scYardPaid (fun vs H Q E h => ?_) (fun cdv A outer s H vs Q E hr h => ?_)
  · obtain ⟨_, _, _, _, _, _, rfl, _⟩ := h
    rfl
  · obtain ⟨a, f, most, day, n, ds, rfl, h, k⟩ := h
    refine ⟨_, (pss_one (ps_ret (pe_methC0 c_Debts_paid (hr.mono (by omega)) (pe_fldK (K := K) rfl (pv 0))))), ?_⟩
    have hy := h.y
    have hb := h.b
    repeat walk_at "s"
    exact ⟨_, _, _, _, rfl, hb, h.nm, h.tm, k⟩
abbrev sYardOwedAll : Stmt := inClass (top 64) 24
theorem scYardOwedAll : FnScope ["self"] ["self"] (defScope sYardOwedAll) := ⟨rfl, rfl, rfl, by decide +kernel, rfl, by decide +kernel, by decide +kernel⟩
theorem ok_owed_all {f : Addr} {fd : FuncData} (F : Fun K "owed_all" "Yard.owed_all" sYardOwedAll f fd) (Y : ClsY K CY) (c_Debts_owed_all : CalM P w K mg base CD "owed_all" 3 ["self"] (spPart0 CD)) : FnOk P w K mg base CX0 4 f fd ["self"] (spYPart CY CD aL) := by
  obtain ⟨hc, n1, n2, n3, n4, n5, n6⟩ := Y
  refine F.ok scYardOwedAll (fun vs H Q E h => ?_) (fun cdv A outer s H vs Q E hr h => ?_)
  · obtain ⟨_, _, _, _, _, _, rfl, _⟩ := h
    rfl
  · obtain ⟨a, f, most, day, n, ds, rfl, h, k⟩ := h
    refine ⟨_, (pss_one (ps_ret (pe_methC0 c_Debts_owed_all (hr.mono (by omega)) (pe_fldK (K := K) rfl (pv 0))))), ?_⟩
    have hy := h.y
    have hb := h.b
    repeat walk_at "s"
    exact ⟨_, _, _, _, rfl, hb, h.nm, h.tm, k⟩
/-- what is asked of a felled timber -/
def spOne (CY CD aL : Addr) (R : Hp → VK → Nat → (Nat → Int) → Prop) : Sp := fun vs H Q _ => ∃ (a : YA) (f : Nat → Addr) (most day : Int) (n : Nat) (ds : Nat → Int) (i : Nat), vs = [.ref a.y, .int ((i : Int) + 1)] ∧ YardR CY CD aL H a f most day n ds ∧ i < n ∧ R H Q i ds
abbrev sYardOwedOn : Stmt := inClass (top 64) 23
theorem scYardOwedOn : FnScope ["self", "timber"] ["self", "timber"] (defScope sYardOwedOn) := ⟨rfl, rfl, rfl, by decide +kernel, rfl, by decide +kernel, by decide +kernel⟩
theorem ok_owed_on {f : Addr} {fd : FuncData} (F : Fun K "owed_on" "Yard.owed_on" sYardOwedOn f fd) (Y : ClsY K CY) (c_Debts_owed_on : CalM P w K mg base CD "owed_on" 3 ["self", "timber"] (spPart1 CD)) : FnOk P w K mg base CX0 4 f fd ["self", "timber"] (spOne CY CD aL fun H Q _ _ => RX H Q) := by
  obtain ⟨hc, n1, n2, n3, n4, n5, n6⟩ := Y
  refine F.ok scYardOwedOn (fun vs H Q E h => ?_) (fun cdv A outer s H vs Q E hr h => ?_)
  · obtain ⟨_, _, _, _, _, _, _, rfl, _⟩ := h
    rfl
  · obtain ⟨a, f, most, day, n, ds, i, rfl, h, hi, k⟩ := h
    refine ⟨_, (pss_cons (ps_if (pt_cmp (pc_dnotin (hu1 hr.units) (pv 1) (pe_fldK (K := K) rfl (pv 0)))) (pss_one ps_dead) pss_nil)
      (pss_one (ps_ret (pe_methC c_Debts_owed_on (hr.mono (by omega)) (pe_fldK (K := K) rfl (pv 0)) (pa_cons (pv 1) pa_nil))))), ?_⟩
    have hy := h.y
    have hb := h.b
    repeat walk_at "s"
    refine ⟨a.dl, _, rfl, dget_k (k := .inl ((i : Int) + 1)) h.l, ?_⟩
    rw [lnK_in hi]
    repeat walk_at "s"
    refine iteF ?_
    repeat walk_at "s"
    exact ⟨_, _, _, _, _, rfl, hb, h.nm, h.tm, k⟩
/-- the line of a timber: a list of its own -/
def LineX (aL : Addr) : Hp → VK → Nat → (Nat → Int) → Prop := fun H Q i ds => ∀ l p H', Same H H' → H' l = some (.lst [.ref p]) → H' p = some (.tup [.int (ds i), .ref aL]) → Q (.ref l) H'
abbrev sYardLine : Stmt := inClass (top 64) 21
theorem scYardLine : FnScope ["self", "timber"] ["self", "timber"] (defScope sYardLine) := ⟨rfl, rfl, rfl, by decide +kernel, rfl, by decide +kernel, by decide +kernel⟩
theorem ok_line {f : Addr} {fd : FuncData} (F : Fun K "line" "Yard.line" sYardLine f fd) (Y : ClsY K CY) (T : BltM mg) : FnOk P w K mg base CX0 1 f fd ["self", "timber"] (spOne CY CD aL (LineX aL)) := by
  obtain ⟨hc, n1, n2, n3, n4, n5, n6⟩ := Y
  refine F.ok scYardLine (fun vs H Q E h => ?_) (fun cdv A outer s H vs Q E hr h => ?_)
  · obtain ⟨_, _, _, _, _, _, _, rfl, _⟩ := h
    rfl
  · obtain ⟨a, f, most, day, n, ds, i, rfl, h, hi, k⟩ := h
    refine ⟨_, (pss_cons (ps_if (pt_cmp (pc_dnotin (hu1 hr.units) (pv 1) (pe_fldK (K := K) rfl (pv 0)))) (pss_one ps_dead) pss_nil)
      (pss_one (ps_ret (pe_callTy (cList (K := K) rfl) (by rfl) T.z_list bb_list (pa_cons (pe_dget (hu1 hr.units) (pe_fldK (K := K) rfl (pv 0)) (pv 1) (fun _ _ => rfl)) pa_nil))))), ?_⟩
    have hy := h.y
    repeat walk_at "s"
    refine ⟨a.dl, _, rfl, dget_k (k := .inl ((i : Int) + 1)) h.l, ?_⟩
    rw [lnK_in hi]
    repeat walk_at "s"
    refine iteF ?_
    repeat walk_at "s"
    obtain ⟨p, h1, h2⟩ := h.ln i hi
    refine ⟨a.dl, .ref (f i), rfl, by rw [← lnK_in hi]; exact dget_k (k := .inl ((i : Int) + 1)) h.l, ?_⟩
    repeat walk_at "s"
    intro l hl
    have s1 := same_upd (o := .lst [.ref p]) hl
    exact k l p _ s1 upd_same (s1 _ _ h2)
abbrev sYardPlace : Stmt := inClass (top 64) 16
theorem scYardPlace : FnScope ["self", "timber"] ["self", "timber"] (defScope sYardPlace) := ⟨rfl, rfl, rfl, by decide +kernel, rfl, by decide +kernel, by decide +kernel⟩
theorem ok_place {f : Addr} {fd : FuncData} (F : Fun K "place" "Yard.place" sYardPlace f fd) (Y : ClsY K CY) (c_Yard_line : CalM P w K mg base CY "line" 1 ["self", "timber"] (spOne CY CD aL (LineX aL))) : FnOk P w K mg base CX0 2 f fd ["self", "timber"] (spOne CY CD aL fun H Q _ _ => ∀ H', Same H H' → Q (.ref aL) H') := by
  obtain ⟨hc, n1, n2, n3, n4, n5, n6⟩ := Y
  refine F.ok scYardPlace (fun vs H Q E h => ?_) (fun cdv A outer s H vs Q E hr h => ?_)
  · obtain ⟨_, _, _, _, _, _, _, rfl, _⟩ := h
    rfl
  · obtain ⟨a, f, most, day, n, ds, i, rfl, h, hi, k⟩ := h
    refine ⟨_, (pss_one (ps_ret (pe_ix (ixT (K := K) rfl) (pe_ix (ixL (K := K) rfl) (pe_methC c_Yard_line (hr.mono (by omega)) (pv 0) (pa_cons (pv 1) pa_nil)) (pe_un un_neg pe_int) (fun _ _ => rfl)) pe_int (fun _ _ => rfl)))), ?_⟩
    have hy := h.y
    repeat walk_at "s"
    refine ⟨a, f, most, day, n, ds, i, rfl, h, hi, fun l p H' s' h1 h2 => ?_⟩
    repeat walk_at "s"
    exact k _ s'
end

section
variable {P : Program} {w : World} {K : PySem.W.Frag} {mg : Str → Option Value} {base : Heap} {CY CD aL aX : Addr}
def tms (n : Nat) : List Int := (List.range n).map fun i : Nat => (i : Int) + 1
theorem tms_length (n : Nat) : (tms n).length = n := by unfold tms; rw [List.length_map, List.length_range]
theorem tms_succ (n : Nat) : tms (n + 1) = tms n ++ [(n : Int) + 1] := by unfold tms; rw [List.range_succ, List.map_append]; rfl
theorem tms_ris (n : Nat) : Ris (tms n) (fun x => x ∈ tms n) := by
  refine ⟨?_, fun x => Iff.rfl⟩
  unfold tms
  rw [List.pairwise_map]
  exact List.pairwise_lt_range.imp fun h => by omega
section
variable {H H' : Hp} {a : YA} {f : Nat → Addr} {most day d : Int} {n : Nat} {ds : Nat → Int}
/-- behind a change of the dict of the lines alone -/
theorem YardAt.onl {o : HO} (h : YardAt CY CD aL H a f most day n ds) : (∀ b u, b ≠ a.dl → H b = some u → upd H a.dl o b = some u) ∧ a.y ≠ a.dl ∧ a.db ≠ a.dl ∧ ∀ i, i < n → f i ≠ a.dl :=
  ⟨fun b u nb z => by rw [upd_ne nb]; exact z, ne_of h.y h.w nofun, ne_of h.b h.w nofun, fun i hi => let ⟨p, h1, _⟩ := h.ln i hi; ne_of h1 h.w nofun⟩
theorem YardAt.freeze {o : Obj} (h : YardAt CY CD aL H a f most day n ds) : YardR CY CD aL (upd H a.dl (.frz o (.dK (lnK f n)))) a f most day n ds := by
  obtain ⟨u, y1, y2, y3⟩ := h.onl (o := .frz o (.dK (lnK f n)))
  exact ⟨u _ _ y1 h.y, .inr ⟨o, upd_same⟩, u _ _ h.d1 h.c, u _ _ h.d2 h.e, u _ _ y2 h.b, u _ _ h.d3 h.nm, u _ _ h.d4 h.tm, fun i hi => let ⟨p, h1, h2⟩ := h.ln i hi; ⟨p, u _ _ (y3 i hi) h1, u _ _ (ne_of h2 h.w nofun) h2⟩, h.n60⟩
end
theorem thaw_same {H H1 H2 : Hp} {d : Addr} {kvs : List (Key × V)} {o : Obj} (e : H d = some (.dK kvs)) (s : Same (upd H d (.frz o (.dK kvs))) H2) : Same H (upd H2 d (.dK kvs)) := fun b u z => by
  by_cases hb : b = d
  · subst hb; rw [e] at z; rw [upd_same]; exact z
  · rw [upd_ne hb]; exact s _ _ (by rw [upd_ne hb]; exact z)
def plL (b : Bool) (n : Nat) : List Int := if b then tms n else []
def ListX (H : Hp) (Q : VK) (ns : List Int) : Prop := ∀ l H', Same H H' → H' l = some (.lst (ns.map V.int)) → Q (.ref l) H'
def spLying (K : PySem.W.Frag) (CY CD aL : Addr) : Sp := fun vs H Q _ => ∃ (a : YA) (f : Nat → Addr) (most day : Int) (n : Nat) (ds : Nat → Int) (q : Addr) (b : Bool), vs = [.ref a.y, .ref q] ∧ YardAt CY CD aL H a f most day n ds ∧ (∀ H, SqT K H q [.str (plW b)]) ∧ ListX H Q (plL b n)
abbrev sYardLying : Stmt := inClass (top 64) 11
theorem scYardLying : FnScope ["self", "place"] ["self", "place"] (defScope sYardLying) := ⟨rfl, rfl, rfl, by decide +kernel, rfl, by decide +kernel, by decide +kernel⟩
theorem nd_321_22 : (["timber", "self", "place"] : List Str).Nodup := by decide +kernel
theorem S_321_22 : CompScope ["self", "place"] (defScope sYardLying) ({ kind := PySem.ScopeKind.function, names := [ (PySem.Str.ofString ".0", PySem.NameKind.local), (PySem.Str.ofString "timber", PySem.NameKind.local), (PySem.Str.ofString "place", PySem.NameKind.free), (PySem.Str.ofString "self", PySem.NameKind.free)], isGenerator := false, isCoroutine := false, more := [] : PySem.Scope }) (["timber"] : List Str) ([(0, "self"), (1, "place")] : List (Nat × Str)) := ⟨by decide +kernel, by decide +kernel, by decide +kernel, by decide +kernel, by decide +kernel⟩
theorem ok_lying {f : Addr} {fd : FuncData} (F : Fun K "lying" "Yard.lying" sYardLying f fd) (Y : ClsY K CY) (wL : ∀ H, SqT K H aL [.str (plW true)]) (c_rising : Cal P w K mg base "rising" 1 ["timbers"] (spRis K)) (c_Yard_lies : CalM P w K mg base CY "lies" 1 ["self", "timber"] (spLies CY CD aL)) : FnOk P w K mg base CX0 2 f fd ["self", "place"] (spLying K CY CD aL) := by
  obtain ⟨hc, n1, n2, n3, n4, n5, n6⟩ := Y
  refine F.ok scYardLying (fun vs H Q E h => ?_) (fun cdv A outer s H vs Q E hr h => ?_)
  · obtain ⟨_, _, _, _, _, _, _, _, rfl, _⟩ := h
    rfl
  · obtain ⟨a, f, most, day, n, ds, q, b, rfl, h, wq, k⟩ := h
    refine ⟨_, (pss_one (ps_ret (pe_callC c_rising (hr.mono (by omega)) (by rfl) (pa_cons (pe_hold (pe_lcomp rfl S_321_22 (piD (K := K) rfl (pe_fldK (K := K) rfl (pv 0))) (by intro _ _ _ _ _; exact (pg_name (i := 0) nd_321_22 rfl (Or.inl rfl))) (by intro _ _ _ _ _; exact (pts_one (pt_cmpR (op_eqPl (K := K) rfl hr.units) (pe_methC c_Yard_lies (hr.mono (by omega)) (pv 1) (pa_cons (pv 0) pa_nil)) (pv 2) (nomark _)))) (by intro _ _ _ _ _; exact (pv 0)))) pa_nil)))), ?_⟩
    repeat walk_at "s"
    refine i_hold h.w fun o => ?_
    have h1 := h.freeze (o := o)
    have eo : upd H a.dl (.frz o (.dK (lnK f n))) a.dl = some (.frz o (.dK (lnK f n))) := upd_same
    have ts : ∀ H2, Same (upd H a.dl (.frz o (.dK (lnK f n)))) H2 → Same H (upd H2 a.dl (.dK (lnK f n))) := fun H2 s2 => thaw_same (H1 := H) h.w s2
    generalize upd H a.dl (.frz o (.dK (lnK f n))) = H1 at h1 eo ts ⊢
    have hy := h1.y
    repeat walk_at "s"
    refine ⟨a.dl, o, _, rfl, eo, ?_⟩
    refine compW (fun i ys σ' H' => Same H1 H' ∧ ys = (plL b i).map V.int ∧ ∃ v, σ' = [v, some (.ref a.y), some (.ref q)]) n ⟨Same.refl _, by cases b <;> rfl, ⟨_, rfl⟩⟩ ?_ ?_
    · rintro ys σ' H2 ⟨s2, rfl, _⟩
      refine ⟨⟨s2 _ _ eo, by rw [lnK_length]; exact Nat.le_refl _⟩, fun D hD => ?_⟩
      have s3 := s2.trans (same_upd (o := .lst ((plL b n).map V.int)) hD)
      refine ⟨s3 _ _ eo, ?_⟩
      repeat walk_at "s"
      have nd : D ≠ a.dl := (ne_of_none (s2 _ _ eo) hD).symm
      refine ⟨D, plL b n, rfl, .inl (SqL.of (by rw [upd_ne nd]; exact upd_same)), ?_, fun l H4 rs s4 _ e4 r4 => ?_⟩
      · have := h.n60
        cases b
        · show 0 < 64; decide
        · show (tms n).length < 64; rw [tms_length]; omega
      · refine k l _ ((ts _ s3).trans s4) ?_
        have e5 : rs = plL b n := by
          cases b
          · cases rs with
            | nil => rfl
            | cons x r => exact absurd ((r4.2 x).mp List.mem_cons_self) (by simp [plL])
          · exact r4.eq (tms_ris n)
        rw [← e5]
        exact e4
    · rintro i ys σ' H2 hi ⟨s2, rfl, v, rfl⟩
      have h2 := h1.same s2
      have hy2 := h2.y
      refine ⟨⟨s2 _ _ eo, by rw [lnK_length]; exact hi⟩, small1000 ?_, ?_⟩
      · rw [List.length_map]
        have := h.n60
        cases b
        · show 0 ≤ 1000; decide
        · show (tms i).length ≤ 1000; rw [tms_length]; omega
      · rintro x H3 ⟨rfl, k', v', e', rfl⟩
        rw [lnK_get hi] at e'
        cases e'
        repeat walk_at "s"
        refine ⟨a, f, most, day, n, ds, _, rfl, h2, fun j hj e => ?_, fun z => absurd z (by omega)⟩
        repeat walk_at "s"
        refine i_pl (a := some true) (b := some b) (wL _) (wq _) ?_
        repeat walk_at "s"
        cases b
        · refine iteF ?_
          exact nxt hi ⟨s2, rfl, ⟨_, rfl⟩⟩
        · refine iteT ?_
          repeat walk_at "s"
          refine nxt hi ⟨s2, ?_, ⟨_, rfl⟩⟩
          show (tms i).map V.int ++ [V.int ((i : Int) + 1)] = (tms (i + 1)).map V.int
          rw [tms_succ, List.map_append]
          rfl
def spNow (CY CD aL : Addr) (g : Nat → List Int) : Sp := fun vs H Q _ => ∃ (a : YA) (f : Nat → Addr) (most day : Int) (n : Nat) (ds : Nat → Int), vs = [.ref a.y] ∧ YardAt CY CD aL H a f most day n ds ∧ ListX H Q (g n)
abbrev sYardLoose : Stmt := inClass (top 64) 12
theorem scYardLoose : FnScope ["self"] ["self"] (defScope sYardLoose) := ⟨rfl, rfl, rfl, by decide +kernel, rfl, by decide +kernel, by decide +kernel⟩
theorem ok_loose {f : Addr} {fd : FuncData} (F : Fun K "loose" "Yard.loose" sYardLoose f fd) (hL : mg "LOOSE" = some (.ref aL)) (wL : ∀ H, SqT K H aL [.str (plW true)]) (c_Yard_lying : CalM P w K mg base CY "lying" 2 ["self", "place"] (spLying K CY CD aL)) : FnOk P w K mg base CX0 3 f fd ["self"] (spNow CY CD aL tms) := by
  refine F.ok scYardLoose (fun vs H Q E h => ?_) (fun cdv A outer s H vs Q E hr h => ?_)
  · obtain ⟨_, _, _, _, _, _, rfl, _⟩ := h
    rfl
  · obtain ⟨a, f, most, day, n, ds, rfl, h, k⟩ := h
    refine ⟨_, (pss_one (ps_ret (pe_methC c_Yard_lying (hr.mono (by omega)) (pv 0) (pa_cons (pe_glob (v := .ref aL) (by rfl) hL rfl) pa_nil)))), ?_⟩
    have hy := h.y
    repeat walk_at "s"
    exact ⟨a, f, most, day, n, ds, aL, true, rfl, h, wL, k⟩
abbrev sYardLost : Stmt := inClass (top 64) 13
theorem scYardLost : FnScope ["self"] ["self"] (defScope sYardLost) := ⟨rfl, rfl, rfl, by decide +kernel, rfl, by decide +kernel, by decide +kernel⟩
theorem ok_lost {f : Addr} {fd : FuncData} (F : Fun K "lost" "Yard.lost" sYardLost f fd) (hX : mg "LOST" = some (.ref aX)) (wX : ∀ H, SqT K H aX [.str (plW false)]) (c_Yard_lying : CalM P w K mg base CY "lying" 2 ["self", "place"] (spLying K CY CD aL)) : FnOk P w K mg base CX0 3 f fd ["self"] (spNow CY CD aL fun _ => []) := by
  refine F.ok scYardLost (fun vs H Q E h => ?_) (fun cdv A outer s H vs Q E hr h => ?_)
  · obtain ⟨_, _, _, _, _, _, rfl, _⟩ := h
    rfl
  · obtain ⟨a, f, most, day, n, ds, rfl, h, k⟩ := h
    refine ⟨_, (pss_one (ps_ret (pe_methC c_Yard_lying (hr.mono (by omega)) (pv 0) (pa_cons (pe_glob (v := .ref aX) (by rfl) hX rfl) pa_nil)))), ?_⟩
    have hy := h.y
    repeat walk_at "s"
    exact ⟨a, f, most, day, n, ds, aX, false, rfl, h, wX, k⟩
abbrev sYardNames : Stmt := inClass (top 64) 17
theorem scYardNames : FnScope ["self"] ["self"] (defScope sYardNames) := ⟨rfl, rfl, rfl, by decide +kernel, rfl, by decide +kernel, by decide +kernel⟩
theorem ok_names {f : Addr} {fd : FuncData} (F : Fun K "names" "Yard.names" sYardNames f fd) (Y : ClsY K CY) (T : BltM mg) : FnOk P w K mg base CX0 1 f fd ["self"] (spNow CY CD aL fun _ => []) := by
  obtain ⟨hc, n1, n2, n3, n4, n5, n6⟩ := Y
  refine F.ok scYardNames (fun vs H Q E h => ?_) (fun cdv A outer s H vs Q E hr h => ?_)
  · obtain ⟨_, _, _, _, _, _, rfl, _⟩ := h
    rfl
  · obtain ⟨a, f, most, day, n, ds, rfl, h, k⟩ := h
    refine ⟨_, (pss_one (ps_ret (pe_callB (cSortedD rfl) (by rfl) T.z_sorted bb_sorted (pa_cons (pe_fldK (K := K) rfl (pv 0)) pa_nil)))), ?_⟩
    have hy := h.y
    repeat walk_at "s"
    refine i_sortedD (ns := []) (.of h.c) rfl (by decide) fun l rs hl pm _ => ?_
    obtain rfl := List.perm_nil.mp pm
    exact k l _ (same_upd hl) upd_same
abbrev sYardBoats : Stmt := inClass (top 64) 14
theorem scYardBoats : FnScope ["self"] ["self"] (defScope sYardBoats) := ⟨rfl, rfl, rfl, by decide +kernel, rfl, by decide +kernel, by decide +kernel⟩
theorem nd_330_22 : (["name", "self"] : List Str).Nodup := by decide +kernel
theorem S_330_22 : CompScope ["self"] (defScope sYardBoats) ({ kind := PySem.ScopeKind.function, names := [ (PySem.Str.ofString ".0", PySem.NameKind.local), (PySem.Str.ofString "name", PySem.NameKind.local), (PySem.Str.ofString "self", PySem.NameKind.free)], isGenerator := false, isCoroutine := false, more := [] : PySem.Scope }) (["name"] : List Str) ([(0, "self")] : List (Nat × Str)) := ⟨by decide +kernel, by decide +kernel, by decide +kernel, by decide +kernel, by decide +kernel⟩
theorem ok_boats {f : Addr} {fd : FuncData} (F : Fun K "boats" "Yard.boats" sYardBoats f fd) (Y : ClsY K CY) (T : BltM mg) : FnOk P w K mg base CX0 1 f fd ["self"] (spNow CY CD aL fun _ => []) := by
  obtain ⟨hc, n1, n2, n3, n4, n5, n6⟩ := Y
  refine F.ok scYardBoats (fun vs H Q E h => ?_) (fun cdv A outer s H vs Q E hr h => ?_)
  · obtain ⟨_, _, _, _, _, _, rfl, _⟩ := h
    rfl
  · obtain ⟨a, f, most, day, n, ds, rfl, h, k⟩ := h
    refine ⟨_, (pss_one (ps_ret (pe_callB (cSortedL (K := K) rfl) (by rfl) T.z_sorted bb_sorted (pa_cons (pe_hold (pe_lcomp rfl S_330_22 (piD (K := K) rfl (pe_fldK (K := K) rfl (pv 0))) (by intro _ _ _ _ _; exact (pg_name (i := 0) nd_330_22 rfl (Or.inl rfl))) (by intro _ _ _ _ _; exact (pts_one (pt_cmp (pc_isN pe_dead)))) (by intro _ _ _ _ _; exact (pv 0)))) pa_nil)))), ?_⟩
    repeat walk_at "s"
    refine i_hold h.e fun o => ?_
    have hy : upd H a.de (.frz o (.dK [])) a.y = some (.ins CY a.dx (yF most day a.dl a.dc a.de a.db)) := by rw [upd_ne (ne_of h.y h.e nofun)]; exact h.y
    have eo : upd H a.de (.frz o (.dK [])) a.de = some (.frz o (.dK [])) := upd_same
    have ts : ∀ H2, Same (upd H a.de (.frz o (.dK []))) H2 → Same H (upd H2 a.de (.dK [])) := fun H2 s2 => thaw_same (H1 := H) h.e s2
    generalize upd H a.de (.frz o (.dK [])) = H1 at hy eo ts ⊢
    repeat walk_at "s"
    refine ⟨a.de, o, _, rfl, eo, ?_⟩
    refine compW (fun i ys σ' H' => H' = H1 ∧ ys = []) 0 ⟨rfl, rfl⟩ ?_ (fun i _ _ _ hi => absurd hi (Nat.not_lt_zero _))
    rintro ys σ' H2 ⟨rfl, rfl⟩
    refine ⟨⟨eo, Nat.le_refl _⟩, fun D hD => ?_⟩
    have s3 := same_upd (o := .lst []) hD
    refine ⟨s3 _ _ eo, ?_⟩
    repeat walk_at "s"
    have nd : D ≠ a.de := (ne_of_none eo hD).symm
    refine i_sortedL (ns := []) (SqL.of (by rw [upd_ne nd]; exact upd_same)) (by decide) fun l rs hl pm _ => ?_
    obtain rfl := List.perm_nil.mp pm
    exact k l _ ((ts _ s3).trans (same_upd hl)) upd_same
def spMove (CY CD aL : Addr) : Sp := fun vs H Q _ => ∃ (a : YA) (f : Nat → Addr) (most day : Int) (n : Nat) (ds : Nat → Int), vs = [.ref a.y, .int ((n : Int) + 1), .ref aL] ∧ YardAt CY CD aL H a f most day n ds ∧ n < 60 ∧ ∀ f' H', YardAt CY CD aL H' a f' most day (n + 1) (grow ds n day) → But a.dl H H' → Q .non H'
abbrev sYardMove : Stmt := inClass (top 64) 4
theorem scYardMove : FnScope ["self", "timber", "place"] ["self", "timber", "place"] (defScope sYardMove) := ⟨rfl, rfl, rfl, by decide +kernel, rfl, by decide +kernel, by decide +kernel⟩
theorem ok_move {f : Addr} {fd : FuncData} (F : Fun K "move" "Yard.move" sYardMove f fd) (Y : ClsY K CY) (wL : ∀ H, SqT K H aL [.str (plW true)]) (c_Yard_lies : CalM P w K mg base CY "lies" 1 ["self", "timber"] (spLies CY CD aL)) : FnOk P w K mg base CX0 2 f fd ["self", "timber", "place"] (spMove CY CD aL) := by
  obtain ⟨hc, n1, n2, n3, n4, n5, n6⟩ := Y
  refine F.ok scYardMove (fun vs H Q E h => ?_) (fun cdv A outer s H vs Q E hr h => ?_)
  · obtain ⟨_, _, _, _, _, _, rfl, _⟩ := h
    rfl
  · obtain ⟨a, f, most, day, n, ds, rfl, h, hn, k⟩ := h
    refine ⟨_, (pss_one (ps_if (pt_cmpR (op_nePl (K := K) rfl hr.units) (pe_methC c_Yard_lies (hr.mono (by omega)) (pv 0) (pa_cons (pv 1) pa_nil)) (pv 2) (nomark _)) (pss_one (ps_expr (mApp (K := K) rfl (pe_dsetd (pe_fldK (K := K) rfl (pv 0)) (pv 1) (pe_lst pa_nil) ⟨rfl, rfl, rfl, rfl⟩) (pa_cons (pe_tup (pa_cons (pe_fldK (K := K) rfl (pv 0)) (pa_cons (pv 2) pa_nil))) pa_nil)))) pss_nil)), ?_⟩
    have hy := h.y
    repeat walk_at "s"
    refine ⟨a, f, most, day, n, ds, _, rfl, h.toYardR, fun i hi e => absurd e (by omega), fun _ => ?_⟩
    repeat walk_at "s"
    refine i_pl (a := none) (b := some true) trivial (wL _) ?_
    repeat walk_at "s"
    refine iteT ?_
    repeat walk_at "s"
    refine ⟨a.dl, rfl, isD_k h.l, ?_⟩
    repeat walk_at "s"
    refine ⟨by show 0 ≤ sizeLine; decide, fun l hl => ?_⟩
    have s1 := same_upd (o := .lst []) hl
    have h1 := h.same s1
    have l1 : upd H l (.lst []) l = some (.lst []) := upd_same
    generalize upd H l (.lst []) = H1 at s1 h1 l1 ⊢
    have sz : (lnK f n).length < sizeLine := by rw [lnK_length, sizeLine_eq]; omega
    refine ⟨lnK f n, .inl ((n : Int) + 1), h1.w, rfl, lnK_out (.inr (by omega)), sz, ?_⟩
    rw [lnK_put]
    obtain ⟨u, y1, y2, y3⟩ := h1.onl (o := .dK (lnK (fun i => if i = n then l else f i) (n + 1)))
    have nl : l ≠ a.dl := (ne_of_none h.w hl).symm
    have w2 : upd H1 a.dl (.dK (lnK (fun i => if i = n then l else f i) (n + 1))) a.dl = some (.dK (lnK (fun i => if i = n then l else f i) (n + 1))) := upd_same
    have b2 : But a.dl H1 (upd H1 a.dl (.dK (lnK (fun i => if i = n then l else f i) (n + 1)))) := but_upd
    generalize upd H1 a.dl (.dK (lnK (fun i => if i = n then l else f i) (n + 1))) = H2 at u w2 b2 ⊢
    have hy2 := u _ _ y1 h1.y
    have l2 := u _ _ nl l1
    refine ⟨.inl ⟨rfl, _, SqL.of l2⟩, ?_⟩
    repeat walk_at "s"
    refine ⟨by show 2 ≤ sizeLine; decide, fun p hp => ?_⟩
    repeat walk_at "s"
    have s3 := same_upd (o := .tup [.int day, .ref aL]) hp
    have p3 : upd H2 p (.tup [.int day, .ref aL]) p = some (.tup [.int day, .ref aL]) := upd_same
    generalize upd H2 p (.tup [.int day, .ref aL]) = H3 at s3 p3 ⊢
    have l3 := s3 _ _ l2
    refine i_app l3 (by show 0 < sizeLine; decide) ?_
    have g : ∀ b o, b ≠ a.dl → b ≠ l → H1 b = some o → upd H3 l (.lst ([] ++ [.ref p])) b = some o := fun b o n1 n2 z => by rw [upd_ne n2]; exact s3 _ _ (u _ _ n1 z)
    have fl : ∀ {b : Addr} {o : HO}, H b = some o → b ≠ l := fun z => ne_of_none z hl
    have pl : p ≠ l := (ne_of_none l2 hp).symm
    refine k (fun i => if i = n then l else f i) _ ⟨⟨g _ _ y1 (fl h.y) h1.y, .of ?_, g _ _ h.d1 (fl h.c) h1.c, g _ _ h.d2 (fl h.e) h1.e, g _ _ y2 (fl h.b) h1.b, g _ _ h.d3 (fl h.nm) h1.nm, g _ _ h.d4 (fl h.tm) h1.tm, fun i hi => ?_, by omega⟩, ?_, h.d1, h.d2, h.d3, h.d4⟩ ?_
    · rw [upd_ne (Ne.symm nl)]; exact s3 _ _ w2
    · by_cases e : i = n
      · subst e
        refine ⟨p, ?_, ?_⟩
        · rw [if_pos rfl]; exact upd_same
        · rw [upd_ne pl, p3]; unfold grow; rw [if_neg (Nat.lt_irrefl _)]
      · obtain ⟨p', q1, q2⟩ := h.ln i (by omega)
        refine ⟨p', ?_, ?_⟩
        · rw [if_neg e]; exact g _ _ (y3 i (by omega)) (fl q1) (s1 _ _ q1)
        · unfold grow; rw [if_pos (by omega)]; exact g _ _ (ne_of q2 h.w nofun) (fl q2) (s1 _ _ q2)
    · rw [upd_ne (Ne.symm nl)]; exact s3 _ _ w2
    · exact fun b o nb z => g b o nb (fl z) (s1 _ _ z)
end

section
variable {P : Program} {w : World} {K : PySem.W.Frag} {mg : Str → Option Value} {base : Heap} {CY CD aL aX : Addr}
section
variable {H H' : Hp} {a : YA} {f : Nat → Addr} {most day d : Int} {n : Nat} {ds es : Nat → Int}
theorem YardAt.cong (e : ∀ i, i < n → ds i = es i) (h : YardAt CY CD aL H a f most day n ds) : YardAt CY CD aL H a f most day n es :=
  ⟨⟨h.y, h.l, h.c, h.e, h.b, h.nm, h.tm, fun i hi => let ⟨p, h1, h2⟩ := h.ln i hi; ⟨p, h1, by rw [← e i hi]; exact h2⟩, h.n60⟩, h.w, h.d1, h.d2, h.d3, h.d4⟩
theorem YardAt.dayed (h : YardAt CY CD aL H a f most day n ds) : YardAt CY CD aL (upd H a.y (.ins CY a.dx (yF most d a.dl a.dc a.de a.db))) a f most d n ds := by
  have u : ∀ {b : Addr} {o : HO}, H b = some o → o ≠ .ins CY a.dx (yF most day a.dl a.dc a.de a.db) → upd H a.y (.ins CY a.dx (yF most d a.dl a.dc a.de a.db)) b = some o := fun z no => by
    rw [upd_ne (ne_of z h.y no)]; exact z
  have nb : HO.ins CD a.ddx (dF a.dn a.dt) ≠ .ins CY a.dx (yF most day a.dl a.dc a.de a.db) := fun z => by injection z with _ _ z; cases z
  have w2 := u h.w nofun
  exact ⟨⟨upd_same, .of w2, u h.c nofun, u h.e nofun, u h.b nb, u h.nm nofun, u h.tm nofun, fun i hi => let ⟨p, h1, h2⟩ := h.ln i hi; ⟨p, u h1 nofun, u h2 nofun⟩, h.n60⟩, w2, h.d1, h.d2, h.d3, h.d4⟩
end
theorem grow_grow (ds : Nat → Int) (n i : Nat) (d : Int) : grow (grow ds n d) (n + i) d = grow ds n d := by
  funext j
  unfold grow
  by_cases h : j < n
  · rw [if_pos (show j < n + i by omega)]
  · by_cases h2 : j < n + i
    · rw [if_pos h2]
    · rw [if_neg h2, if_neg h]
def spFell (CY CD aL : Addr) : Sp := fun vs H Q _ => ∃ (a : YA) (f : Nat → Addr) (most day : Int) (n : Nat) (ds : Nat → Int) (p : Addr) (x : Nat), vs = [.ref a.y, .ref p] ∧ YardAt CY CD aL H a f most day n ds ∧ FellAt H p x ∧
  (60 < n + x → Q (.str "full") H) ∧ (n + x ≤ 60 → ∀ f' H', YardAt CY CD aL H' a f' most day (n + x) (grow ds n day) → But a.dl H H' → Q (.str "good") H')
abbrev sEnterFell : Stmt := top 53
theorem scEnterFell : FnScope ["yard", "fact", "last", "timber"] ["yard", "fact"] (defScope sEnterFell) := ⟨rfl, rfl, rfl, by decide +kernel, rfl, by decide +kernel, by decide +kernel⟩
theorem ok_enter_fell {f : Addr} {fd : FuncData} (F : Fun K "enter_fell" "enter_fell" sEnterFell f fd) (T : BltM mg) {tk : Tok} (hMT : mg "MOST_TIMBERS" = some (.int 60 tk)) (hL : mg "LOOSE" = some (.ref aL)) (c_Yard_felled : CalM P w K mg base CY "felled" 1 ["self"] (spGet CY CD aL fun _ _ n => .int n)) (c_Yard_move : CalM P w K mg base CY "move" 2 ["self", "timber", "place"] (spMove CY CD aL)) : FnOk P w K mg base CX0 3 f fd ["yard", "fact"] (spFell CY CD aL) := by
  refine F.ok scEnterFell (fun vs H Q E h => ?_) (fun cdv A outer s H vs Q E hr h => ?_)
  · obtain ⟨_, _, _, _, _, _, _, _, rfl, _⟩ := h
    rfl
  · obtain ⟨a, f, most, day, n, ds, p, x, rfl, h, ⟨hp, x1, x2⟩, k1, k2⟩ := h
    refine ⟨_, (pss_cons (ps_set (i := 2) scEnterFell.nd rfl (Or.inl rfl) (pe_op op_add (pe_methC0 c_Yard_felled (hr.mono (by omega)) (pv 0)) (pe_ix (ixT (K := K) rfl) (pv 1) pe_int (fun _ _ => rfl))))
      (pss_cons (ps_if (pt_cmpR op_gt (pv 2) (pe_glob (v := .int 60) (by rfl) hMT ⟨_, rfl⟩) (nomark _)) (pss_one (ps_ret pe_str)) pss_nil)
      (pss_cons (ps_for PassesOwn.never rfl (pi_range2 (by rfl) T.z_range (pa_cons (pe_op op_add (pe_methC0 c_Yard_felled (hr.mono (by omega)) (pv 0)) pe_int) (pa_cons (pe_op op_add (pv 2) pe_int) pa_nil))) (pg_name (i := 3) scEnterFell.nd rfl (Or.inl rfl)) (pss_one (ps_expr (pe_methC c_Yard_move (hr.mono (by omega)) (pv 0) (pa_cons (pv 3) (pa_cons (pe_glob (v := .ref aL) (by rfl) hL rfl) pa_nil))))))
      (pss_one (ps_ret pe_str))))), ?_⟩
    have hy := h.y
    repeat walk_at "s"
    refine ⟨a, f, most, day, n, ds, rfl, h.toYardR, ?_⟩
    repeat walk_at "s"
    refine ite2 (fun z => ?_) (fun z => ?_)
    · have := of_decide_eq_true z
      repeat walk_at "s"
      exact k1 (by omega)
    · have hn : n + x ≤ 60 := by
        have : ¬ ((60 : Int) < n + x) := fun y => z (decide_eq_true y)
        omega
      repeat walk_at "s"
      refine ⟨a, f, most, day, n, ds, rfl, h.toYardR, ?_⟩
      repeat walk_at "s"
      refine ⟨_, _, rfl, ⟨by omega, by omega, by omega, by omega⟩, ?_⟩
      have e : ((n : Int) + x + 1 - ((n : Int) + 1)).toNat = x := by omega
      rw [e]
      refine forW (fun i σ' H' => (∃ f', YardAt CY CD aL H' a f' most day (n + i) (grow ds n day)) ∧ But a.dl H H' ∧ ∃ v, σ' = [some (.ref a.y), some (.ref p), some (.int ((n : Int) + x)), v]) x ⟨⟨f, h.cong fun i hi => by unfold grow; rw [if_pos (show i < n from hi)]⟩, But.refl, ⟨_, rfl⟩⟩ ?_ ?_
      · rintro σ' H' ⟨⟨f', h'⟩, b', v, rfl⟩
        refine ⟨Nat.le_refl _, ?_⟩
        repeat walk_at "s"
        exact k2 hn f' H' h' b'
      · rintro i σ' H' hi ⟨⟨f', h'⟩, b', v, rfl⟩
        refine ⟨hi, ?_⟩
        rintro x' H2 ⟨rfl, rfl⟩
        have hy' := h'.y
        repeat walk_at "s"
        refine ⟨a, f', most, day, n + i, _, ?_, h', by omega, fun f2 H3 h3 b3 => ?_⟩
        · rw [show (((n + i : Nat) : Int) + 1) = (n : Int) + 1 + i by omega]; rfl
        · rw [grow_grow] at h3
          exact ⟨⟨f2, h3⟩, b'.trans b3, ⟨_, rfl⟩⟩
def But2 (x y : Addr) (H H' : Hp) : Prop := ∀ b o, b ≠ x → b ≠ y → H b = some o → H' b = some o
def tabE (f1 f2 f3 f4 f5 f6 f7 : Addr) : List (Str × Addr) := [("fell", f1), ("refit", f2), ("storm", f3), ("find", f4), ("lend", f5), ("pay", f6), ("clear", f7)]
theorem tabE_fell {f1 f2 f3 f4 f5 f6 f7 : Addr} : PyProof.Rows.KTD.datumAt ("fell" : Str) (tabE f1 f2 f3 f4 f5 f6 f7) = some f1 := by kernel_rfl
def spEnter (CY CD aL : Addr) : Sp := fun vs H Q _ => ∃ (a : YA) (f : Nat → Addr) (most d0 d : Int) (n : Nat) (ds : Nat → Int) (p : Addr) (x : Nat), vs = [.ref a.y, .int d, .ref p] ∧ YardAt CY CD aL H a f most d0 n ds ∧ FellAt H p x ∧ 1 ≤ d ∧ d ≤ 400 ∧ d0 < d ∧
  (60 < n + x → ∀ H', YardAt CY CD aL H' a f most d n ds → But2 a.y a.dl H H' → Q (.str "full") H') ∧ (n + x ≤ 60 → ∀ f' H', YardAt CY CD aL H' a f' most d (n + x) (grow ds n d) → But2 a.y a.dl H H' → Q (.str "good") H')
abbrev sYardEnter : Stmt := inClass (top 64) 1
theorem scYardEnter : FnScope ["self", "day", "fact", "entered"] ["self", "day", "fact"] (defScope sYardEnter) := ⟨rfl, rfl, rfl, by decide +kernel, rfl, by decide +kernel, by decide +kernel⟩
theorem ok_enter {f : Addr} {fd : FuncData} (F : Fun K "enter" "Yard.enter" sYardEnter f fd) (Y : ClsY K CY) {aE f1 f2 f3 f4 f5 f6 f7 : Addr} (hE : mg "ENTER" = some (.ref aE)) (tE : TabK K aE (tabE f1 f2 f3 f4 f5 f6 f7)) (c1 : Cal1 P w K mg base f1 9 ["yard", "fact"] (spFell CY CD aL)) (c_need_day : Cal P w K mg base "need_day" 2 ["number"] (spNeed 1 400)) (c_sound : Cal P w K mg base "sound" 6 ["slip", "fact"] spSound) : FnOk P w K mg base CX0 10 f fd ["self", "day", "fact"] (spEnter CY CD aL) := by
  obtain ⟨hc, n1, n2, n3, n4, n5, n6⟩ := Y
  refine F.ok scYardEnter (fun vs H Q E h => ?_) (fun cdv A outer s H vs Q E hr h => ?_)
  · obtain ⟨_, _, _, _, _, _, _, _, _, rfl, _⟩ := h
    rfl
  · obtain ⟨a, f, most, d0, d, n, ds, p, x, rfl, h, hp, g1, g2, g3, k1, k2⟩ := h
    refine ⟨_, (pss_cons (ps_expr (pe_callC c_need_day (hr.mono (by omega)) (by rfl) (pa_cons (pv 1) pa_nil)))
      (pss_cons (ps_if (pt_not (pt_val (pe_callC c_sound (hr.mono (by omega)) (by rfl) (pa_cons (pe_fldK (K := K) rfl (pv 0)) (pa_cons (pv 2) pa_nil))))) (pss_one ps_dead) pss_nil)
      (pss_cons (ps_if (pt_cmpR op_le (pv 1) (pe_fldK (K := K) rfl (pv 0)) (nomark _)) (pss_one ps_dead) pss_nil)
      (pss_cons (ps_fldK (K := K) rfl (pv 0) (pv 1) rfl)
      (pss_cons (ps_set (i := 3) scYardEnter.nd rfl (Or.inl rfl) (pe_tab (K := K) rfl (pe_glob (v := .ref aE) (by rfl) hE rfl) (pe_ix (ixT (K := K) rfl) (pv 2) pe_int (fun _ _ => rfl)) (fun _ _ => rfl)))
      (pss_one (ps_ret (pe_callL (k := 9) ⟨rfl, rfl, rfl, rfl, rfl⟩ (hr.mono (by omega)) (pv 3) (pa_cons (pv 0) (pa_cons (pv 2) pa_nil)))))))))), ?_⟩
    have hy := h.y
    repeat walk_at "s"
    refine ⟨d, rfl, g1, g2, ?_⟩
    repeat walk_at "s"
    refine ⟨most, x, p, rfl, hp, fun H1 s1 => ?_⟩
    repeat walk_at "s"
    refine iteF ?_
    have h1 := h.same s1
    have hy1 := h1.y
    repeat walk_at "s"
    refine iteZ (decide_eq_false (by omega)) ?_
    refine i_next ?_
    refine i_seq (i_sfld (i_var rfl (i_var rfl (i_sfldx hy1 (by show 6 < 1000; decide) hc n2 ?_))))
    rw [yf_put]
    have h2 := h1.dayed (d := d)
    have b2 : ∀ b o, b ≠ a.y → H1 b = some o → upd H1 a.y (.ins CY a.dx (yF most d a.dl a.dc a.de a.db)) b = some o := fun b o nb z => by rw [upd_ne nb]; exact z
    generalize upd H1 a.y (.ins CY a.dx (yF most d a.dl a.dc a.de a.db)) = H2 at h2 b2 ⊢
    have p2 : H2 p = some (.tup [.str "fell", .int x]) := b2 _ _ (ne_of hp.1 h.y nofun) (s1 _ _ hp.1)
    repeat walk_at "s"
    refine ⟨aE, _, _, _, rfl, tE, rfl, tabE_fell, ?_⟩
    repeat walk_at "s"
    refine ⟨f1, _, _, rfl, c1, ?_⟩
    repeat walk_at "s"
    refine ⟨a, f, most, d, n, ds, p, x, rfl, h2, ⟨p2, hp.2⟩, fun z => k1 z H2 h2 fun b o nb _ z => b2 _ _ nb (s1 _ _ z), fun z f' H' h' b' => k2 z f' H' h' fun b o nb nl z => b' _ _ nl (b2 _ _ nb (s1 _ _ z))⟩
end

/-! ### what is told of a yard -/
def looseD : Dt := .tup [.str "loose"]
def partD : Dt := .tup [.int 0, .int 1]
def lineD (d : Int) : Dt := .lst [.tup [.int d, looseD]]
def lookD (most day : Int) (n : Nat) (ds : Nat → Int) : Dt :=
  .lst ([.int day, .int most, .int n, .lst ((tms n).map Dt.int), .lst [], .lst [], .lst []] ++ [.lst []] ++ [.lst []] ++ [.lst []] ++ [.lst []] ++ [.lst []] ++ [.lst ((List.range n).map fun _ => looseD)] ++ [.lst ((List.range n).map fun i => lineD (ds i))] ++ [.lst ((List.range n).map fun _ => partD)] ++ [.int 0, partD, partD])
/-! ### a list that grows; what lies in it lies beside it -/
def wo (q : Addr) (H : Hp) : Hp := fun b => if b = q then none else H b
section
variable {K : PySem.W.Frag} {q b : Addr} {o : HO} {H H' H0 : Hp} {vs : List V} {ds : List Dt}
theorem wo_at (h : H b = some o) (n : b ≠ q) : wo q H b = some o := by unfold wo; rw [if_neg n]; exact h
theorem wo_upd : wo q (upd H q o) = wo q H := by
  funext b
  unfold wo
  by_cases h : b = q
  · rw [if_pos h, if_pos h]
  · rw [if_neg h, if_neg h, upd_ne h]
theorem wo_same (s : Same H H') : Same (wo q H) (wo q H') := fun b o e => by
  unfold wo at e ⊢
  by_cases h : b = q
  · rw [if_pos h] at e; cases e
  · rw [if_neg h] at e ⊢; exact s _ _ e
theorem wo_le : Same (wo q H) H := fun b o e => by
  unfold wo at e
  by_cases h : b = q
  · rw [if_pos h] at e; cases e
  · rw [if_neg h] at e; exact e
structure LkAt (K : PySem.W.Frag) (H0 : Hp) (q : Addr) (H : Hp) (vs : List V) (ds : List Dt) : Prop where
  at_ : H q = some (.lst vs)
  r : RepsK K (wo q H) vs ds
  s : Same H0 H
  n : H0 q = none
theorem LkAt.same (W : LkAt K H0 q H vs ds) (s : Same H H') : LkAt K H0 q H' vs ds := ⟨s _ _ W.at_, RepsK.mono (wo_same s) W.r, W.s.trans s, W.n⟩
theorem LkAt.app {y : V} {d : Dt} (W : LkAt K H0 q H vs ds) (h : RepK K (wo q H) y d) : LkAt K H0 q (upd H q (.lst (vs ++ [y]))) (vs ++ [y]) (ds ++ [d]) :=
  ⟨upd_same, by rw [wo_upd]; exact W.r.app (.cons h .nil), fun b o z => by rw [upd_ne (ne_of_none z W.n)]; exact W.s _ _ z, W.n⟩
theorem repK_ints (ns : List Int) : RepsK K H (ns.map V.int) (ns.map Dt.int) := RepsK.map fun x _ => .int x
section
variable {σ : St} {D : Ends} {i j n : Nat} {tl te : TE} {g : TG} {tt : TT} {m : Nat} {fre : List (Nat × Str)}
theorem small20 {vs : List V} (h : vs.length ≤ 20) : vs.length < sizeLine := by rw [sizeLine_eq]; omega
theorem ap0 (hσ : σ[i]? = some (some (.ref q))) (W : LkAt K H0 q H vs ds) (hl : vs.length ≤ 20) (ht : ∀ Q' : VK, (∀ l H', Same H H' → H' l = some (.lst []) → Q' (.ref l) H') → tl σ H Q')
    (k : ∀ y H', LkAt K H0 q H' (vs ++ [y]) (ds ++ [.lst []]) → But q H H' → D.nx σ H') : tDrop (tBM K "list" rAppend (tVar i) (tCons (tComp m fre (iList K tl) g tt te) tNil)) D σ H := by
  refine ⟨_, hσ, .inl ⟨rfl, _, SqL.of W.at_⟩, ht _ fun l H1 s1 e1 => ⟨l, rfl, ⟨_, SqL.of e1⟩, ?_⟩⟩
  refine compW (fun _ ys σ' H' => H' = H1 ∧ ys = []) 0 ⟨rfl, rfl⟩ ?_ (fun i _ _ _ hi => absurd hi (Nat.not_lt_zero _))
  rintro ys σ' H2 ⟨rfl, rfl⟩
  refine ⟨⟨[], SqL.of e1, Nat.le_refl _⟩, fun L hL => ?_⟩
  have W2 := (W.same s1).same (same_upd (o := .lst []) hL)
  exact ⟨q, vs, .ref L, rfl, rfl, W2.at_, small20 hl, k _ _ (W2.app (.lst (wo_at upd_same (ne_of_none (s1 _ _ W.at_) hL).symm) .nil)) ((s1.but.trans (same_upd hL).but).trans but_upd)⟩
theorem ap1 {t : Addr} {rest : St} {gd : Nat → Dt} (hσ : σ[i]? = some (some (.ref q))) (hσ2 : σ[j]? = some (some (.ref t))) (hs : startC m fre σ = none :: rest) (W : LkAt K H0 q H vs ds) (hl : vs.length ≤ 20) (et : H t = some (.lst ((tms n).map V.int))) (hn : n ≤ 60)
    (step : ∀ (i : Nat) H' (R : VK), i < n → Same H H' → (∀ y H3, Same H' H3 → RepK K (wo q H3) y (gd i) → R y H3) → te (some (.int ((i : Int) + 1)) :: rest) H' R)
    (k : ∀ y H', LkAt K H0 q H' (vs ++ [y]) (ds ++ [.lst ((List.range n).map gd)]) → But q H H' → D.nx σ H') : tDrop (tBM K "list" rAppend (tVar i) (tCons (tComp m fre (iList K (tVar j)) (gName 0) tYes te) tNil)) D σ H := by
  refine ⟨_, hσ, .inl ⟨rfl, _, SqL.of W.at_⟩, _, hσ2, t, rfl, ⟨_, SqL.of et⟩, ?_⟩
  rw [hs]
  refine compW (fun i ys σ' H' => Same H H' ∧ RepsK K (wo q H') ys ((List.range i).map gd) ∧ ∃ v, σ' = v :: rest) n ⟨Same.refl _, .nil, ⟨_, rfl⟩⟩ ?_ ?_
  · rintro ys σ' H2 ⟨s2, r2, _⟩
    refine ⟨⟨_, SqL.of (s2 _ _ et), by rw [List.length_map, tms_length]; exact Nat.le_refl _⟩, fun L hL => ?_⟩
    have s3 := same_upd (o := .lst ys) hL
    have W2 := (W.same s2).same s3
    exact ⟨q, vs, .ref L, rfl, rfl, W2.at_, small20 hl, k _ _ (W2.app (.lst (wo_at upd_same (ne_of_none (s2 _ _ W.at_) hL).symm) (RepsK.mono (wo_same s3) r2))) ((s2.but.trans s3.but).trans but_upd)⟩
  · rintro i ys σ' H2 hi ⟨s2, r2, v, rfl⟩
    have gi : ((tms n).map V.int)[i]? = some (.int ((i : Int) + 1)) := by unfold tms; rw [List.getElem?_map, List.getElem?_map, List.getElem?_range hi]; rfl
    have ly := r2.length
    rw [List.length_map, List.length_range] at ly
    refine ⟨⟨_, _, SqL.of (s2 _ _ et), gi⟩, by rw [sizeLine_eq]; omega, ?_⟩
    rintro x H3 ⟨rfl, hx⟩
    have e := hx _ (SqL.of (s2 _ _ et))
    rw [gi] at e
    cases e
    refine i_name (i_yes (iteT ?_))
    refine step i H3 _ hi s2 fun y H4 s4 ry => nxt hi ⟨s2.trans s4, ?_, ⟨_, rfl⟩⟩
    rw [List.range_succ, List.map_append]
    exact (RepsK.mono (wo_same s4) r2).app (.cons ry .nil)
/-- a stretch of the telling: the list so far, the empty list of names, the timbers -/
def Lk (K : PySem.W.Frag) (H0 : Hp) (l0 t q : Addr) (σ0 : St) (n : Nat) (ds : List Dt) (m : Nat) : St → Hp → Prop := fun σ' H' => ∃ vs, LkAt K H0 q H' vs ds ∧ vs.length = m ∧ l0 ≠ q ∧ t ≠ q ∧ H' l0 = some (.lst []) ∧ H' t = some (.lst ((tms n).map V.int)) ∧ σ' = σ0
theorem lk0 {l0 t : Addr} {σ0 : St} {M : Nat} (h : Lk K H0 l0 t q σ0 n ds M σ H) (hσ : σ[i]? = some (some (.ref q))) (hM : M ≤ 19) (ht : ∀ Q' : VK, Same H0 H → H l0 = some (.lst []) → (∀ l H', Same H H' → H' l = some (.lst []) → Q' (.ref l) H') → tl σ H Q') :
    tDrop (tBM K "list" rAppend (tVar i) (tCons (tComp m fre (iList K tl) g tt te) tNil)) { D with nx := Lk K H0 l0 t q σ0 n (ds ++ [.lst []]) (M + 1) } σ H := by
  obtain ⟨vs, W, lv, n0, nt, e0, et, rfl⟩ := h
  refine ap0 hσ W (by omega) (fun Q' k' => ht Q' W.s e0 k') fun y H' W' b' => ?_
  exact ⟨vs ++ [y], W', by rw [List.length_append, lv]; rfl, n0, nt, b' _ _ n0 e0, b' _ _ nt et, rfl⟩
theorem lk1 {l0 t : Addr} {σ0 : St} {M : Nat} {rest : St} {gd : Nat → Dt} (h : Lk K H0 l0 t q σ0 n ds M σ H) (hσ : σ[i]? = some (some (.ref q))) (hσ2 : σ[j]? = some (some (.ref t))) (hs : startC m fre σ = none :: rest) (h7 : 7 ≤ M) (hM : M ≤ 19) (hn : n ≤ 60)
    (step : ∀ (i : Nat) H' (us : List V) (R : VK), i < n → Same H0 H' → H' q = some (.lst us) → 7 ≤ us.length → (∀ y H3, Same H' H3 → RepK K (wo q H3) y (gd i) → R y H3) → te (some (.int ((i : Int) + 1)) :: rest) H' R) :
    tDrop (tBM K "list" rAppend (tVar i) (tCons (tComp m fre (iList K (tVar j)) (gName 0) tYes te) tNil)) { D with nx := Lk K H0 l0 t q σ0 n (ds ++ [.lst ((List.range n).map gd)]) (M + 1) } σ H := by
  obtain ⟨vs, W, lv, n0, nt, e0, et, rfl⟩ := h
  refine ap1 (gd := gd) hσ hσ2 hs W (by omega) et hn (fun i H' R hi s' kR => step i H' vs R hi (W.s.trans s') (s' _ _ W.at_) (by omega) kR) fun y H' W' b' => ?_
  exact ⟨vs ++ [y], W', by rw [List.length_append, lv]; rfl, n0, nt, b' _ _ n0 e0, b' _ _ nt et, rfl⟩
end
end
section
variable {P : Program} {w : World} {K : PySem.W.Frag} {mg : Str → Option Value} {base : Heap} {CY CD aL aX : Addr}
def spLook (K : PySem.W.Frag) (CY CD aL : Addr) : Sp := fun vs H Q _ => ∃ (a : YA) (f : Nat → Addr) (most day : Int) (n : Nat) (ds : Nat → Int), vs = [.ref a.y] ∧ YardAt CY CD aL H a f most day n ds ∧ ∀ v H', Same H H' → RepK K H' v (lookD most day n ds) → Q v H'
theorem rng_tms (n : Nat) : rangeI 1 ((n : Int) + 1 - 1).toNat = tms n := by
  rw [show ((n : Int) + 1 - 1).toNat = n by omega]
  unfold rangeI tms
  exact List.map_congr_left fun i _ => by omega
abbrev sLawLook : Stmt := top 89
theorem scLawLook : FnScope ["_law_yard", "_law_names", "_law_timbers", "_law_look_here"] ["_law_yard"] (defScope sLawLook) := ⟨rfl, rfl, rfl, by decide +kernel, rfl, by decide +kernel, by decide +kernel⟩
theorem nd_557_26 : (["_law_name", "_law_yard"] : List Str).Nodup := by decide +kernel
theorem S_557_26 : CompScope ["_law_yard", "_law_names", "_law_timbers", "_law_look_here"] (defScope sLawLook) ({ kind := PySem.ScopeKind.function, names := [ (PySem.Str.ofString ".0", PySem.NameKind.local), (PySem.Str.ofString "_law_name", PySem.NameKind.local), (PySem.Str.ofString "_law_yard", PySem.NameKind.free)], isGenerator := false, isCoroutine := false, more := [] : PySem.Scope }) (["_law_name"] : List Str) ([(0, "_law_yard")] : List (Nat × Str)) := ⟨by decide +kernel, by decide +kernel, by decide +kernel, by decide +kernel, by decide +kernel⟩
theorem nd_558_26 : (["_law_name", "_law_yard"] : List Str).Nodup := by decide +kernel
theorem S_558_26 : CompScope ["_law_yard", "_law_names", "_law_timbers", "_law_look_here"] (defScope sLawLook) ({ kind := PySem.ScopeKind.function, names := [ (PySem.Str.ofString ".0", PySem.NameKind.local), (PySem.Str.ofString "_law_name", PySem.NameKind.local), (PySem.Str.ofString "_law_yard", PySem.NameKind.free)], isGenerator := false, isCoroutine := false, more := [] : PySem.Scope }) (["_law_name"] : List Str) ([(0, "_law_yard")] : List (Nat × Str)) := ⟨by decide +kernel, by decide +kernel, by decide +kernel, by decide +kernel, by decide +kernel⟩
theorem nd_559_26 : (["_law_name", "_law_yard"] : List Str).Nodup := by decide +kernel
theorem S_559_26 : CompScope ["_law_yard", "_law_names", "_law_timbers", "_law_look_here"] (defScope sLawLook) ({ kind := PySem.ScopeKind.function, names := [ (PySem.Str.ofString ".0", PySem.NameKind.local), (PySem.Str.ofString "_law_name", PySem.NameKind.local), (PySem.Str.ofString "_law_yard", PySem.NameKind.free)], isGenerator := false, isCoroutine := false, more := [] : PySem.Scope }) (["_law_name"] : List Str) ([(0, "_law_yard")] : List (Nat × Str)) := ⟨by decide +kernel, by decide +kernel, by decide +kernel, by decide +kernel, by decide +kernel⟩
theorem nd_560_26 : (["_law_name", "_law_yard"] : List Str).Nodup := by decide +kernel
theorem S_560_26 : CompScope ["_law_yard", "_law_names", "_law_timbers", "_law_look_here"] (defScope sLawLook) ({ kind := PySem.ScopeKind.function, names := [ (PySem.Str.ofString ".0", PySem.NameKind.local), (PySem.Str.ofString "_law_name", PySem.NameKind.local), (PySem.Str.ofString "_law_yard", PySem.NameKind.free)], isGenerator := false, isCoroutine := false, more := [] : PySem.Scope }) (["_law_name"] : List Str) ([(0, "_law_yard")] : List (Nat × Str)) := ⟨by decide +kernel, by decide +kernel, by decide +kernel, by decide +kernel, by decide +kernel⟩
theorem nd_561_26 : (["_law_name", "_law_yard"] : List Str).Nodup := by decide +kernel
theorem S_561_26 : CompScope ["_law_yard", "_law_names", "_law_timbers", "_law_look_here"] (defScope sLawLook) ({ kind := PySem.ScopeKind.function, names := [ (PySem.Str.ofString ".0", PySem.NameKind.local), (PySem.Str.ofString "_law_name", PySem.NameKind.local), (PySem.Str.ofString "_law_yard", PySem.NameKind.free)], isGenerator := false, isCoroutine := false, more := [] : PySem.Scope }) (["_law_name"] : List Str) ([(0, "_law_yard")] : List (Nat × Str)) := ⟨by decide +kernel, by decide +kernel, by decide +kernel, by decide +kernel, by decide +kernel⟩
theorem nd_562_26 : (["_law_timber", "_law_yard"] : List Str).Nodup := by decide +kernel
theorem S_562_26 : CompScope ["_law_yard", "_law_names", "_law_timbers", "_law_look_here"] (defScope sLawLook) ({ kind := PySem.ScopeKind.function, names := [ (PySem.Str.ofString ".0", PySem.NameKind.local), (PySem.Str.ofString "_law_timber", PySem.NameKind.local), (PySem.Str.ofString "_law_yard", PySem.NameKind.free)], isGenerator := false, isCoroutine := false, more := [] : PySem.Scope }) (["_law_timber"] : List Str) ([(0, "_law_yard")] : List (Nat × Str)) := ⟨by decide +kernel, by decide +kernel, by decide +kernel, by decide +kernel, by decide +kernel⟩
theorem nd_563_26 : (["_law_timber", "_law_yard"] : List Str).Nodup := by decide +kernel
theorem S_563_26 : CompScope ["_law_yard", "_law_names", "_law_timbers", "_law_look_here"] (defScope sLawLook) ({ kind := PySem.ScopeKind.function, names := [ (PySem.Str.ofString ".0", PySem.NameKind.local), (PySem.Str.ofString "_law_timber", PySem.NameKind.local), (PySem.Str.ofString "_law_yard", PySem.NameKind.free)], isGenerator := false, isCoroutine := false, more := [] : PySem.Scope }) (["_law_timber"] : List Str) ([(0, "_law_yard")] : List (Nat × Str)) := ⟨by decide +kernel, by decide +kernel, by decide +kernel, by decide +kernel, by decide +kernel⟩
theorem nd_564_26 : (["_law_timber", "_law_yard"] : List Str).Nodup := by decide +kernel
theorem S_564_26 : CompScope ["_law_yard", "_law_names", "_law_timbers", "_law_look_here"] (defScope sLawLook) ({ kind := PySem.ScopeKind.function, names := [ (PySem.Str.ofString ".0", PySem.NameKind.local), (PySem.Str.ofString "_law_timber", PySem.NameKind.local), (PySem.Str.ofString "_law_yard", PySem.NameKind.free)], isGenerator := false, isCoroutine := false, more := [] : PySem.Scope }) (["_law_timber"] : List Str) ([(0, "_law_yard")] : List (Nat × Str)) := ⟨by decide +kernel, by decide +kernel, by decide +kernel, by decide +kernel, by decide +kernel⟩
theorem ok_look {f : Addr} {fd : FuncData} (F : Fun K "_law_look" "_law_look" sLawLook f fd) (T : BltM mg) (wL : ∀ H, SqT K H aL [.str (plW true)])
    (c_Yard_names : CalM P w K mg base CY "names" 1 ["self"] (spNow CY CD aL fun _ => [])) (c_Yard_felled : CalM P w K mg base CY "felled" 1 ["self"] (spGet CY CD aL fun _ _ n => .int n)) (c_Yard_today : CalM P w K mg base CY "today" 1 ["self"] (spGet CY CD aL fun _ d _ => .int d)) (c_Yard_slip : CalM P w K mg base CY "slip" 1 ["self"] (spGet CY CD aL fun m _ _ => .int m))
    (c_Yard_loose : CalM P w K mg base CY "loose" 3 ["self"] (spNow CY CD aL tms)) (c_Yard_lost : CalM P w K mg base CY "lost" 3 ["self"] (spNow CY CD aL fun _ => [])) (c_Yard_boats : CalM P w K mg base CY "boats" 1 ["self"] (spNow CY CD aL fun _ => []))
    (c_Yard_place : CalM P w K mg base CY "place" 2 ["self", "timber"] (spOne CY CD aL fun H Q _ _ => ∀ H', Same H H' → Q (.ref aL) H')) (c_Yard_line : CalM P w K mg base CY "line" 1 ["self", "timber"] (spOne CY CD aL (LineX aL))) (c_Yard_owed_on : CalM P w K mg base CY "owed_on" 4 ["self", "timber"] (spOne CY CD aL fun H Q _ _ => RX H Q))
    (c_Yard_lent : CalM P w K mg base CY "lent" 2 ["self"] (spGet CY CD aL fun _ _ _ => .int 0)) (c_Yard_paid : CalM P w K mg base CY "paid" 4 ["self"] (spYPart CY CD aL)) (c_Yard_owed_all : CalM P w K mg base CY "owed_all" 4 ["self"] (spYPart CY CD aL)) : FnOk P w K mg base CX0 5 f fd ["_law_yard"] (spLook K CY CD aL) := by
  refine F.ok scLawLook (fun vs H Q E h => ?_) (fun cdv A outer s H vs Q E hr h => ?_)
  · obtain ⟨_, _, _, _, _, _, rfl, _⟩ := h
    rfl
  · obtain ⟨a, f, most, day, n, ds, rfl, h, k⟩ := h
    refine' ⟨_, ?zz, ?_⟩
    case zz =>
      refine' pss_cut ?s0 ?r0
      case s0 => exact (ps_set (i := 1) scLawLook.nd rfl (Or.inl rfl) (pe_methC0 c_Yard_names (hr.mono (by omega)) (pv 0)))
      case r0 =>
      refine' pss_cut ?s1 ?r1
      case s1 => exact (ps_set (i := 2) scLawLook.nd rfl (Or.inl rfl) (pe_callTy (cListRng rfl) (by rfl) T.z_list bb_list (pa_cons (pe_callTy cRng2 (by rfl) T.z_range bb_range (pa_cons pe_int (pa_cons (pe_op op_add (pe_methC0 c_Yard_felled (hr.mono (by omega)) (pv 0)) pe_int) pa_nil))) pa_nil)))
      case r1 =>
      refine' pss_cut ?s2 ?r2
      case s2 => exact (ps_set (i := 3) scLawLook.nd rfl (Or.inl rfl) (pe_lst (by exact pa_cons (pe_methC0 c_Yard_today (hr.mono (by omega)) (pv 0)) (by exact pa_cons (pe_methC0 c_Yard_slip (hr.mono (by omega)) (pv 0)) (by exact pa_cons (pe_methC0 c_Yard_felled (hr.mono (by omega)) (pv 0)) (by exact pa_cons (pe_methC0 c_Yard_loose (hr.mono (by omega)) (pv 0)) (by exact pa_cons (pe_methC0 c_Yard_lost (hr.mono (by omega)) (pv 0)) (by exact pa_cons (pe_methC0 c_Yard_boats (hr.mono (by omega)) (pv 0)) (by exact pa_cons (pv 1) pa_nil)))))))))
      case r2 =>
      refine' pss_cut ?s3 ?r3
      case s3 => exact (ps_expr (mApp (K := K) rfl (pv 3) (pa_cons (pe_lcomp rfl S_557_26 (piL (K := K) rfl (pe_methC0 c_Yard_boats (hr.mono (by omega)) (pv 0))) (by intro _ _ _ _ _; exact (pg_name (i := 0) nd_557_26 rfl (Or.inl rfl))) (by intro _ _ _ _ _; exact pts_nil) (by intro _ _ _ _ _; exact pe_dead)) pa_nil)))
      case r3 =>
      refine' pss_cut ?s4 ?r4
      case s4 => exact (ps_expr (mApp (K := K) rfl (pv 3) (pa_cons (pe_lcomp rfl S_558_26 (piL (K := K) rfl (pv 1)) (by intro _ _ _ _ _; exact (pg_name (i := 0) nd_558_26 rfl (Or.inl rfl))) (by intro _ _ _ _ _; exact pts_nil) (by intro _ _ _ _ _; exact pe_dead)) pa_nil)))
      case r4 =>
      refine' pss_cut ?s5 ?r5
      case s5 => exact (ps_expr (mApp (K := K) rfl (pv 3) (pa_cons (pe_lcomp rfl S_559_26 (piL (K := K) rfl (pv 1)) (by intro _ _ _ _ _; exact (pg_name (i := 0) nd_559_26 rfl (Or.inl rfl))) (by intro _ _ _ _ _; exact pts_nil) (by intro _ _ _ _ _; exact pe_dead)) pa_nil)))
      case r5 =>
      refine' pss_cut ?s6 ?r6
      case s6 => exact (ps_expr (mApp (K := K) rfl (pv 3) (pa_cons (pe_lcomp rfl S_560_26 (piL (K := K) rfl (pv 1)) (by intro _ _ _ _ _; exact (pg_name (i := 0) nd_560_26 rfl (Or.inl rfl))) (by intro _ _ _ _ _; exact pts_nil) (by intro _ _ _ _ _; exact pe_dead)) pa_nil)))
      case r6 =>
      refine' pss_cut ?s7 ?r7
      case s7 => exact (ps_expr (mApp (K := K) rfl (pv 3) (pa_cons (pe_lcomp rfl S_561_26 (piL (K := K) rfl (pv 1)) (by intro _ _ _ _ _; exact (pg_name (i := 0) nd_561_26 rfl (Or.inl rfl))) (by intro _ _ _ _ _; exact pts_nil) (by intro _ _ _ _ _; exact pe_dead)) pa_nil)))
      case r7 =>
      refine' pss_cut ?s8 ?r8
      case s8 => exact (ps_expr (mApp (K := K) rfl (pv 3) (pa_cons (pe_lcomp rfl S_562_26 (piL (K := K) rfl (pv 2)) (by intro _ _ _ _ _; exact (pg_name (i := 0) nd_562_26 rfl (Or.inl rfl))) (by intro _ _ _ _ _; exact pts_nil) (by intro _ _ _ _ _; exact (pe_methC c_Yard_place (hr.mono (by omega)) (pv 1) (pa_cons (pv 0) pa_nil)))) pa_nil)))
      case r8 =>
      refine' pss_cut ?s9 ?r9
      case s9 => exact (ps_expr (mApp (K := K) rfl (pv 3) (pa_cons (pe_lcomp rfl S_563_26 (piL (K := K) rfl (pv 2)) (by intro _ _ _ _ _; exact (pg_name (i := 0) nd_563_26 rfl (Or.inl rfl))) (by intro _ _ _ _ _; exact pts_nil) (by intro _ _ _ _ _; exact (pe_methC c_Yard_line (hr.mono (by omega)) (pv 1) (pa_cons (pv 0) pa_nil)))) pa_nil)))
      case r9 =>
      refine' pss_cut ?s10 ?r10
      case s10 => exact (ps_expr (mApp (K := K) rfl (pv 3) (pa_cons (pe_lcomp rfl S_564_26 (piL (K := K) rfl (pv 2)) (by intro _ _ _ _ _; exact (pg_name (i := 0) nd_564_26 rfl (Or.inl rfl))) (by intro _ _ _ _ _; exact pts_nil) (by intro _ _ _ _ _; exact (pe_methC c_Yard_owed_on (hr.mono (by omega)) (pv 1) (pa_cons (pv 0) pa_nil)))) pa_nil)))
      case r10 =>
      exact pss_one (ps_ret (pe_op op_cat (pv 3) (pe_lst (by exact pa_cons (pe_methC0 c_Yard_lent (hr.mono (by omega)) (pv 0)) (by exact pa_cons (pe_methC0 c_Yard_paid (hr.mono (by omega)) (pv 0)) (by exact pa_cons (pe_methC0 c_Yard_owed_all (hr.mono (by omega)) (pv 0)) pa_nil))))))
    have hn := h.n60
    refine ⟨fun σ' H' => Same H H' ∧ ∃ l0, H' l0 = some (.lst []) ∧ σ' = [some (.ref a.y), some (.ref l0), none, none], ?_, ?_⟩
    · have hy := h.y
      repeat walk_at "s"
      exact ⟨a, f, most, day, n, ds, rfl, h, fun l0 H1 s1 e0 => ⟨s1, l0, e0, rfl⟩⟩
    rintro _ H1 ⟨s1, l0, e0, rfl⟩
    have h1 := h.same s1
    refine ⟨fun σ' H' => Same H1 H' ∧ ∃ t, H' t = some (.lst ((tms n).map V.int)) ∧ σ' = [some (.ref a.y), some (.ref l0), some (.ref t), none], ?_, ?_⟩
    · have hy := h1.y
      repeat walk_at "s"
      refine ⟨a, f, most, day, n, ds, rfl, h1.toYardR, ?_⟩
      repeat walk_at "s"
      intro r hr'
      repeat walk_at "s"
      refine i_listRng upd_same (by omega) (by omega) (by omega) (by omega) (by omega) fun t ht => ?_
      rw [rng_tms]
      exact ⟨(same_upd hr').trans (same_upd ht), t, upd_same, rfl⟩
    rintro _ H2 ⟨s2, t, et, rfl⟩
    have h2 := h1.same s2
    refine ⟨fun σ' H' => ∃ q, Lk K H l0 t q [some (.ref a.y), some (.ref l0), some (.ref t), some (.ref q)] n [.int day, .int most, .int n, .lst ((tms n).map Dt.int), .lst [], .lst [], .lst []] 7 σ' H', ?_, ?_⟩
    · have hy2 := h2.y
      repeat walk_at "s"
      refine ⟨a, f, most, day, n, ds, rfl, h2.toYardR, ?_⟩
      repeat walk_at "s"
      refine ⟨a, f, most, day, n, ds, rfl, h2.toYardR, ?_⟩
      repeat walk_at "s"
      refine ⟨a, f, most, day, n, ds, rfl, h2.toYardR, ?_⟩
      repeat walk_at "s"
      refine ⟨a, f, most, day, n, ds, rfl, h2, fun l1 H3 s3 e1 => ?_⟩
      have h3 := h2.same s3
      have hy3 := h3.y
      repeat walk_at "s"
      refine ⟨a, f, most, day, n, ds, rfl, h3, fun l2 H4 s4 e2 => ?_⟩
      have h4 := h3.same s4
      have hy4 := h4.y
      repeat walk_at "s"
      refine ⟨a, f, most, day, n, ds, rfl, h4, fun l3 H5 s5 e3 => ?_⟩
      repeat walk_at "s"
      refine ⟨by show 7 ≤ sizeLine; decide, fun q hq => ?_⟩
      have s25 := (s3.trans s4).trans s5
      have s15 := s2.trans s25
      have s05 := s1.trans s15
      have s6 := same_upd (o := .lst [.int day, .int most, .int n, .ref l1, .ref l2, .ref l3, .ref l0]) hq
      have g : ∀ {b : Addr} {o : HO}, H5 b = some o → wo q (upd H5 q (.lst [.int day, .int most, .int n, .ref l1, .ref l2, .ref l3, .ref l0])) b = some o := fun z => wo_at (s6 _ _ z) (ne_of_none z hq)
      refine ⟨q, _, ⟨upd_same, .cons (.int _) (.cons (.int _) (.cons (.int _) (.cons (.lst (g ((s4.trans s5) _ _ e1)) (repK_ints _)) (.cons (.lst (g (s5 _ _ e2)) .nil) (.cons (.lst (g e3) .nil) (.cons (.lst (g (s15 _ _ e0)) .nil) .nil)))))), s05.trans s6, ?_⟩, rfl, ne_of_none (s15 _ _ e0) hq, ne_of_none (s25 _ _ et) hq, s6 _ _ (s15 _ _ e0), s6 _ _ (s25 _ _ et), rfl⟩
      cases z : H q with
      | none => rfl
      | some o => rw [s05 _ _ z] at hq; cases hq
    rintro σ3 H3 ⟨q, L3⟩
    have sg : ∀ {σ' : St} {H' : Hp} {ds' : List Dt} {m' : Nat}, Lk K H l0 t q [some (.ref a.y), some (.ref l0), some (.ref t), some (.ref q)] n ds' m' σ' H' → σ' = [some (.ref a.y), some (.ref l0), some (.ref t), some (.ref q)] := fun h => let ⟨_, _, _, _, _, _, _, e⟩ := h; e
    cases sg L3
    refine ⟨_, lk0 L3 rfl (by omega) (fun Q' sH _ k' => ?_), fun σ4 H4 L4 => ?_⟩
    · have h' := h.same sH
      have hy' := h'.y
      repeat walk_at "s"
      exact ⟨a, f, most, day, n, ds, rfl, h', k'⟩
    cases sg L4
    refine ⟨_, lk0 L4 rfl (by omega) (fun Q' _ e0 k' => ⟨_, rfl, k' _ _ (Same.refl _) e0⟩), fun σ5 H5 L5 => ?_⟩
    cases sg L5
    refine ⟨_, lk0 L5 rfl (by omega) (fun Q' _ e0 k' => ⟨_, rfl, k' _ _ (Same.refl _) e0⟩), fun σ6 H6 L6 => ?_⟩
    cases sg L6
    refine ⟨_, lk0 L6 rfl (by omega) (fun Q' _ e0 k' => ⟨_, rfl, k' _ _ (Same.refl _) e0⟩), fun σ7 H7 L7 => ?_⟩
    cases sg L7
    refine ⟨_, lk0 L7 rfl (by omega) (fun Q' _ e0 k' => ⟨_, rfl, k' _ _ (Same.refl _) e0⟩), fun σ8 H8 L8 => ?_⟩
    cases sg L8
    refine ⟨_, lk1 (gd := fun _ => looseD) (rest := [some (.ref a.y)]) L8 rfl rfl rfl (by omega) (by omega) hn (fun i H' us R hi sH hq hu kR => ?_), fun σ9 H9 L9 => ?_⟩
    · have h' := h.same sH
      have hy' := h'.y
      repeat walk_at "s"
      exact ⟨a, f, most, day, n, ds, i, rfl, h'.toYardR, hi, fun H'' s'' => kR _ _ s'' (.tup (wL _) (.cons (.str _) .nil))⟩
    cases sg L9
    refine ⟨_, lk1 (gd := fun i => lineD (ds i)) (rest := [some (.ref a.y)]) L9 rfl rfl rfl (by omega) (by omega) hn (fun i H' us R hi sH hq hu kR => ?_), fun σ10 H10 L10 => ?_⟩
    · have h' := h.same sH
      have hy' := h'.y
      repeat walk_at "s"
      refine ⟨a, f, most, day, n, ds, i, rfl, h'.toYardR, hi, fun l p H'' s'' c1 c2 => ?_⟩
      have q9 := s'' _ _ hq
      refine kR _ _ s'' (.lst (wo_at c1 (ne_of c1 q9 fun z => by injection z with z; rw [← z] at hu; simp at hu)) (.cons (.tup (.of (wo_at c2 (ne_of c2 q9 nofun))) (.cons (.int _) (.cons (.tup (wL _) (.cons (.str _) .nil)) .nil))) .nil))
    cases sg L10
    refine ⟨_, lk1 (gd := fun _ => partD) (rest := [some (.ref a.y)]) L10 rfl rfl rfl (by omega) (by omega) hn (fun i H' us R hi sH hq hu kR => ?_), fun σ11 H11 L11 => ?_⟩
    · have h' := h.same sH
      have hy' := h'.y
      repeat walk_at "s"
      refine ⟨a, f, most, day, n, ds, i, rfl, h'.toYardR, hi, fun p H'' s'' c2 => ?_⟩
      exact kR _ _ s'' (.tup (.of (wo_at c2 (ne_of c2 (s'' _ _ hq) nofun))) (.cons (.int _) (.cons (.int _) .nil)))
    obtain ⟨u11, W11, l11, _, _, _, _, rfl⟩ := L11
    have h11 := h.same W11.s
    have hy11 := h11.y
    repeat walk_at "s"
    refine ⟨a, f, most, day, n, ds, rfl, h11.toYardR, ?_⟩
    repeat walk_at "s"
    refine ⟨a, f, most, day, n, ds, rfl, h11.toYardR, fun p1 H12 s12 c1 => ?_⟩
    have h12 := h11.same s12
    have hy12 := h12.y
    repeat walk_at "s"
    refine ⟨a, f, most, day, n, ds, rfl, h12.toYardR, fun p2 H13 s13 c2 => ?_⟩
    repeat walk_at "s"
    refine ⟨by show 3 ≤ sizeLine; decide, fun z hz => ?_⟩
    have s14 := same_upd (o := .lst [.int 0, .ref p1, .ref p2]) hz
    have s11 := (s12.trans s13).trans s14
    refine i_cat (s11 _ _ W11.at_) upd_same (by rw [l11, sizeLine_eq]; show 15 + 3 ≤ _; omega) fun r hr' => ?_
    have s15 := s11.trans (same_upd (o := .lst (u11 ++ [.int 0, .ref p1, .ref p2])) hr')
    refine k _ _ (W11.s.trans s15) (.lst upd_same ?_)
    refine RepsK.app (RepsK.mono (wo_le.trans s15) W11.r) ?_
    exact .cons (.int _) (.cons (.tup (.of (same_upd hr' _ _ (s14 _ _ (s13 _ _ c1)))) (.cons (.int _) (.cons (.int _) .nil))) (.cons (.tup (.of (same_upd hr' _ _ (s14 _ _ c2))) (.cons (.int _) (.cons (.int _) .nil))) .nil))
end

/-! ### the law's book -/
structure BA where
  (m pp pl bo dn ch ln on lo : Addr)
def bk (slip day : Int) (n : Nat) (x : BA) : List (Key × V) := [(.inr "slip", .int slip), (.inr "day", .int day), (.inr "many", .int n), (.inr "lent", .int 0), (.inr "paid", .ref x.pp), (.inr "lost", .ref x.pl), (.inr "boats", .ref x.bo), (.inr "down", .ref x.dn), (.inr "chains", .ref x.ch), (.inr "lines", .ref x.ln), (.inr "on", .ref x.on), (.inr "loads", .ref x.lo)]
structure BookAt (H : Hp) (x : BA) (f : Nat → Addr) (slip day : Int) (many n : Nat) (ds : Nat → Int) : Prop where
  m : H x.m = some (.dK (bk slip day many x))
  pp : H x.pp = some (.tup [.int 0, .int 1])
  pl : H x.pl = some (.lst [])
  bo : H x.bo = some (.dK [])
  dn : H x.dn = some (.dK [])
  ch : H x.ch = some (.dK [])
  on : H x.on = some (.dK [])
  lo : H x.lo = some (.dK [])
  ln : H x.ln = some (.dK (lnK f n))
  li : ∀ i, i < n → ∃ p q, H (f i) = some (.lst [.ref p]) ∧ H p = some (.tup [.int (ds i), .ref q]) ∧ H q = some (.tup [.str "loose"])
  nm : n ≤ many
  n60 : many ≤ 60
  dm : x.ln ≠ x.m
  ds1 : ∀ b ∈ [x.bo, x.dn, x.ch, x.on, x.lo], b ≠ x.m ∧ b ≠ x.ln
section
variable {H H' : Hp} {x : BA} {f : Nat → Addr} {slip day d : Int} {many n : Nat} {ds : Nat → Int}
theorem bk_slip : valV (bk slip day many x) (.inr "slip") = some (.int slip) := by kernel_rfl
theorem bk_day : valV (bk slip day many x) (.inr "day") = some (.int day) := by kernel_rfl
theorem bk_many : valV (bk slip day many x) (.inr "many") = some (.int many) := by kernel_rfl
theorem bk_lent : valV (bk slip day many x) (.inr "lent") = some (.int 0) := by kernel_rfl
theorem bk_paid : valV (bk slip day many x) (.inr "paid") = some (.ref x.pp) := by kernel_rfl
theorem bk_lost : valV (bk slip day many x) (.inr "lost") = some (.ref x.pl) := by kernel_rfl
theorem bk_boats : valV (bk slip day many x) (.inr "boats") = some (.ref x.bo) := by kernel_rfl
theorem bk_chains : valV (bk slip day many x) (.inr "chains") = some (.ref x.ch) := by kernel_rfl
theorem bk_lines : valV (bk slip day many x) (.inr "lines") = some (.ref x.ln) := by kernel_rfl
theorem bk_on : valV (bk slip day many x) (.inr "on") = some (.ref x.on) := by kernel_rfl
theorem bk_loads : valV (bk slip day many x) (.inr "loads") = some (.ref x.lo) := by kernel_rfl
theorem bk_pday : putK (bk slip day many x) (.inr "day") (.int d) = bk slip d many x := by kernel_rfl
theorem bk_pmany {k : Nat} : putK (bk slip day many x) (.inr "many") (.int k) = bk slip day k x := by kernel_rfl
theorem BookAt.get {key : Str} {v : V} (h : BookAt H x f slip day many n ds) (e : valV (bk slip day many x) (.inr key) = some v) : ∃ a v', V.ref x.m = .ref a ∧ DGet H a (.str key) (some v') ∧ v' = v := ⟨x.m, v, rfl, by rw [← e]; exact dget_k (k := .inr key) (.of h.m), rfl⟩
theorem bget {key : Str} {v : V} {R : V → Prop} (h : BookAt H x f slip day many n ds) (e : valV (bk slip day many x) (.inr key) = some v) (q : R v) : ∃ a v', V.ref x.m = .ref a ∧ DGet H a (.str key) (some v') ∧ R v' := ⟨x.m, v, rfl, by rw [← e]; exact dget_k (k := .inr key) (.of h.m), q⟩
theorem BookAt.same (s : Same H H') (h : BookAt H x f slip day many n ds) : BookAt H' x f slip day many n ds :=
  ⟨s _ _ h.m, s _ _ h.pp, s _ _ h.pl, s _ _ h.bo, s _ _ h.dn, s _ _ h.ch, s _ _ h.on, s _ _ h.lo, s _ _ h.ln, fun i hi => let ⟨p, q, h1, h2, h3⟩ := h.li i hi; ⟨p, q, s _ _ h1, s _ _ h2, s _ _ h3⟩, h.nm, h.n60, h.dm, h.ds1⟩
/-- behind a change of the book itself -/
theorem BookAt.onm {d2 : Int} {m2 : Nat} (h : BookAt H x f slip day many n ds) (hm : n ≤ m2) (h6 : m2 ≤ 60) : BookAt (upd H x.m (.dK (bk slip d2 m2 x))) x f slip d2 m2 n ds := by
  have u : ∀ {b : Addr} {o : HO}, H b = some o → b ≠ x.m → upd H x.m (.dK (bk slip d2 m2 x)) b = some o := fun z n => by rw [upd_ne n]; exact z
  have D : ∀ b ∈ [x.bo, x.dn, x.ch, x.on, x.lo], b ≠ x.m := fun b hb => (h.ds1 b hb).1
  exact ⟨upd_same, u h.pp (ne_of h.pp h.m nofun), u h.pl (ne_of h.pl h.m nofun), u h.bo (D _ (by simp)), u h.dn (D _ (by simp)), u h.ch (D _ (by simp)), u h.on (D _ (by simp)), u h.lo (D _ (by simp)), u h.ln h.dm,
    fun i hi => let ⟨p, q, h1, h2, h3⟩ := h.li i hi; ⟨p, q, u h1 (ne_of h1 h.m nofun), u h2 (ne_of h2 h.m nofun), u h3 (ne_of h3 h.m nofun)⟩, hm, h6, h.dm, h.ds1⟩
/-- a timber's line is written -/
theorem BookAt.put {l p q : Addr} (h : BookAt H x f slip day many n ds) (hn : n < many) (hl : H l = some (.lst [.ref p])) (hp : H p = some (.tup [.int day, .ref q])) (hq : H q = some (.tup [.str "loose"])) :
    BookAt (upd H x.ln (.dK (lnK (fun i => if i = n then l else f i) (n + 1)))) x (fun i => if i = n then l else f i) slip day many (n + 1) (grow ds n day) := by
  have u : ∀ {b : Addr} {o : HO}, H b = some o → b ≠ x.ln → upd H x.ln (.dK (lnK (fun i => if i = n then l else f i) (n + 1))) b = some o := fun z n => by rw [upd_ne n]; exact z
  have D : ∀ b ∈ [x.bo, x.dn, x.ch, x.on, x.lo], b ≠ x.ln := fun b hb => (h.ds1 b hb).2
  refine ⟨u h.m (Ne.symm h.dm), u h.pp (ne_of h.pp h.ln nofun), u h.pl (ne_of h.pl h.ln nofun), u h.bo (D _ (by simp)), u h.dn (D _ (by simp)), u h.ch (D _ (by simp)), u h.on (D _ (by simp)), u h.lo (D _ (by simp)), upd_same, fun i hi => ?_, hn, h.n60, h.dm, h.ds1⟩
  by_cases e : i = n
  · subst e
    refine ⟨p, q, ?_, ?_, u hq (ne_of hq h.ln nofun)⟩
    · rw [if_pos rfl]; exact u hl (ne_of hl h.ln nofun)
    · unfold grow; rw [if_neg (Nat.lt_irrefl _)]; exact u hp (ne_of hp h.ln nofun)
  · obtain ⟨p', q', h1, h2, h3⟩ := h.li i (by omega)
    refine ⟨p', q', ?_, ?_, u h3 (ne_of h3 h.ln nofun)⟩
    · rw [if_neg e]; exact u h1 (ne_of h1 h.ln nofun)
    · unfold grow; rw [if_pos (by omega)]; exact u h2 (ne_of h2 h.ln nofun)
theorem BookAt.cong {es : Nat → Int} (e : ∀ i, i < n → ds i = es i) (h : BookAt H x f slip day many n ds) : BookAt H x f slip day many n es :=
  ⟨h.m, h.pp, h.pl, h.bo, h.dn, h.ch, h.on, h.lo, h.ln, fun i hi => let ⟨p, q, h1, h2, h3⟩ := h.li i hi; ⟨p, q, h1, by rw [← e i hi]; exact h2, h3⟩, h.nm, h.n60, h.dm, h.ds1⟩
end
section
variable {P : Program} {w : World} {K : PySem.W.Frag} {mg : Str → Option Value} {base : Heap}
def spPlace : Sp := fun vs H Q _ => ∃ (x : BA) (f : Nat → Addr) (slip day : Int) (many n : Nat) (ds : Nat → Int) (t : Int), vs = [.ref x.m, .int t] ∧ BookAt H x f slip day many n ds ∧ ∀ q H', Same H H' → H q = none → H' q = some (.tup [.str "loose"]) → Q (.ref q) H'
abbrev sLawPlace : Stmt := top 76
theorem scLawPlace : FnScope ["_law_m", "_law_timber", "_law_name"] ["_law_m", "_law_timber"] (defScope sLawPlace) := ⟨rfl, rfl, rfl, by decide +kernel, rfl, by decide +kernel, by decide +kernel⟩
theorem ok_law_place {f : Addr} {fd : FuncData} (F : Fun K "_law_place" "_law_place" sLawPlace f fd) (T : BltM mg) : FnOk P w K mg base CX0 1 f fd ["_law_m", "_law_timber"] spPlace := by
  refine F.ok scLawPlace (fun vs H Q E h => ?_) (fun cdv A outer s H vs Q E hr h => ?_)
  · obtain ⟨_, _, _, _, _, _, _, _, rfl, _⟩ := h
    rfl
  · obtain ⟨x, f, slip, day, many, n, ds, t, rfl, h, k⟩ := h
    refine ⟨_, (pss_cons (ps_if (pt_cmpR (oIn (K := K) rfl) (pv 1) (pe_dget (hu1 hr.units) (pv 0) pe_str (fun _ _ => rfl)) (by with_unfolding_all rfl)) (pss_one (ps_ret (pe_tup (pa_cons pe_str pa_nil)))) pss_nil)
      (pss_cons (ps_for PassesOwn.never rfl (piL (K := K) rfl (pe_callB (cSortedD rfl) (by rfl) T.z_sorted bb_sorted (pa_cons (pe_dget (hu1 hr.units) (pv 0) pe_str (fun _ _ => rfl)) pa_nil))) (pg_name (i := 2) scLawPlace.nd rfl (Or.inl rfl)) (pss_one ps_dead))
      (pss_one (ps_ret (pe_tup (pa_cons pe_str pa_nil)))))), ?_⟩
    repeat walk_at "s"
    refine bget h bk_lost ?_
    refine i_inI (ns := []) (SqL.of h.pl) ?_
    repeat walk_at "s"
    refine iteZ (decide_eq_false (by simp)) ?_
    repeat walk_at "s"
    refine bget h bk_boats ?_
    repeat walk_at "s"
    refine i_sortedD (ns := []) (.of h.bo) rfl (by decide) fun l rs hl pm _ => ?_
    obtain rfl := List.perm_nil.mp pm
    have s1 := same_upd (o := .lst (([] : List Int).map V.int)) hl
    have e1 : upd H l (.lst (([] : List Int).map V.int)) l = some (.lst []) := upd_same
    generalize upd H l (.lst (([] : List Int).map V.int)) = H1 at s1 e1 ⊢
    refine ⟨l, rfl, ⟨_, SqL.of e1⟩, ?_⟩
    refine forW (fun _ σ' H' => H' = H1) 0 rfl ?_ (fun i _ _ hi => absurd hi (Nat.not_lt_zero _))
    rintro σ' H' rfl
    refine ⟨⟨_, SqL.of e1, Nat.le_refl _⟩, ?_⟩
    repeat walk_at "s"
    refine ⟨by show 1 ≤ sizeLine; decide, fun q hq => k q _ (s1.trans (same_upd hq)) ?_ upd_same⟩
    cases z : H q with
    | none => rfl
    | some o => rw [s1 _ _ z] at hq; cases hq
def spLoose : Sp := fun vs H Q _ => ∃ (x : BA) (f : Nat → Addr) (slip day : Int) (many n : Nat) (ds : Nat → Int), vs = [.ref x.m] ∧ BookAt H x f slip day many n ds ∧ ListX H Q (tms many)
abbrev sLawLoose : Stmt := top 77
theorem scLawLoose : FnScope ["_law_m"] ["_law_m"] (defScope sLawLoose) := ⟨rfl, rfl, rfl, by decide +kernel, rfl, by decide +kernel, by decide +kernel⟩
theorem nd_443_11 : (["_law_timber", "_law_m"] : List Str).Nodup := by decide +kernel
theorem S_443_11 : CompScope ["_law_m"] (defScope sLawLoose) ({ kind := PySem.ScopeKind.function, names := [ (PySem.Str.ofString ".0", PySem.NameKind.local), (PySem.Str.ofString "_law_timber", PySem.NameKind.local), (PySem.Str.ofString "_law_place", PySem.NameKind.globalImplicit), (PySem.Str.ofString "_law_m", PySem.NameKind.free)], isGenerator := false, isCoroutine := false, more := [] : PySem.Scope }) (["_law_timber"] : List Str) ([(0, "_law_m")] : List (Nat × Str)) := ⟨by decide +kernel, by decide +kernel, by decide +kernel, by decide +kernel, by decide +kernel⟩
theorem ok_law_loose {f : Addr} {fd : FuncData} (F : Fun K "_law_loose" "_law_loose" sLawLoose f fd) (T : BltM mg) (c_law_place : Cal P w K mg base "_law_place" 1 ["_law_m", "_law_timber"] spPlace) : FnOk P w K mg base CX0 2 f fd ["_law_m"] spLoose := by
  refine F.ok scLawLoose (fun vs H Q E h => ?_) (fun cdv A outer s H vs Q E hr h => ?_)
  · obtain ⟨_, _, _, _, _, _, _, rfl, _⟩ := h
    rfl
  · obtain ⟨x, f, slip, day, many, n, ds, rfl, h, k⟩ := h
    refine ⟨_, (pss_one (ps_ret (pe_lcomp rfl S_443_11 (pi_range2 (by rfl) T.z_range (pa_cons pe_int (pa_cons (pe_op op_add (pe_dget (hu1 hr.units) (pv 0) pe_str (fun _ _ => rfl)) pe_int) pa_nil))) (by intro _ _ _ _ _; exact (pg_name (i := 0) nd_443_11 rfl (Or.inl rfl))) (by intro _ _ _ _ _; exact (pts_one (pt_cmpR (op_eqPl (K := K) rfl hr.units) (pe_callC c_law_place (hr.mono (by omega)) (by rfl) (pa_cons (pv 1) (pa_cons (pv 0) pa_nil))) (pe_tup (pa_cons pe_str pa_nil)) (nomark _)))) (by intro _ _ _ _ _; exact (pv 0))))), ?_⟩
    have h6 := h.n60
    repeat walk_at "s"
    refine bget h bk_many ?_
    repeat walk_at "s"
    refine ⟨_, _, rfl, ⟨by omega, by omega, by omega, by omega⟩, ?_⟩
    rw [show ((many : Int) + 1 - 1).toNat = many by omega]
    refine compW (fun i ys σ' H' => Same H H' ∧ ys = (tms i).map V.int ∧ ∃ v, σ' = [v, some (.ref x.m)]) many ⟨Same.refl _, rfl, ⟨_, rfl⟩⟩ ?_ ?_
    · rintro ys σ' H2 ⟨s2, rfl, _⟩
      exact ⟨Nat.le_refl _, fun D hD => k D _ (s2.trans (same_upd hD)) upd_same⟩
    · rintro i ys σ' H2 hi ⟨s2, rfl, v, rfl⟩
      refine ⟨hi, small1000 (by rw [List.length_map, tms_length]; omega), ?_⟩
      rintro y H3 ⟨rfl, rfl⟩
      repeat walk_at "s"
      refine ⟨x, f, slip, day, many, n, ds, _, rfl, h.same s2, fun q H4 s4 _ e4 => ?_⟩
      repeat walk_at "s"
      refine ⟨by show 1 ≤ sizeLine; decide, fun p hp => ?_⟩
      have s5 := same_upd (o := .tup [.str "loose"]) hp
      refine i_pl (a := some true) (b := some true) (SqT.of (s5 _ _ e4)) (SqT.of upd_same) ?_
      repeat walk_at "s"
      refine iteT ?_
      repeat walk_at "s"
      refine nxt hi ⟨(s2.trans s4).trans s5, ?_, ⟨_, rfl⟩⟩
      rw [tms_succ, List.map_append, show (1 : Int) + i = (i : Int) + 1 by omega]
      rfl
def spIdle : Sp := fun vs H Q _ => ∃ (x : BA) (f : Nat → Addr) (slip day : Int) (many n : Nat) (ds : Nat → Int) (p : Addr) (c : Nat), vs = [.ref x.m, .ref p] ∧ BookAt H x f slip day many n ds ∧ FellAt H p c ∧ ∀ H', Same H H' → Q (.str (if 60 < many + c then "full" else "")) H'
abbrev sLawIdle : Stmt := top 82
theorem scLawIdle : FnScope ["_law_m", "_law_fact", "_law_good"] ["_law_m", "_law_fact"] (defScope sLawIdle) := ⟨rfl, rfl, rfl, by decide +kernel, rfl, by decide +kernel, by decide +kernel⟩
theorem ok_law_idle {f : Addr} {fd : FuncData} (F : Fun K "_law_idle" "_law_idle" sLawIdle f fd) (T : BltM mg) : FnOk P w K mg base CX0 1 f fd ["_law_m", "_law_fact"] spIdle := by
  refine F.ok scLawIdle (fun vs H Q E h => ?_) (fun cdv A outer s H vs Q E hr h => ?_)
  · obtain ⟨_, _, _, _, _, _, _, _, _, rfl, _⟩ := h
    rfl
  · obtain ⟨x, f, slip, day, many, n, ds, p, c, rfl, h, ⟨hp, c1, c2⟩, k⟩ := h
    refine ⟨_, (pss_cons (ps_if (pt_cmpR op_eq (pe_ix (ixT (K := K) rfl) (pv 1) pe_int (fun _ _ => rfl)) pe_str (nomark _)) (pss_one (ps_ret (pe_ix (ixT (K := K) rfl) (pe_tup (pa_cons pe_str (pa_cons pe_str pa_nil))) (pe_callTy cInt1 (by rfl) T.z_int bb_int (pa_cons (pe_cmpR op_gt (pe_op op_add (pe_dget (hu1 hr.units) (pv 0) pe_str (fun _ _ => rfl)) (pe_ix (ixT (K := K) rfl) (pv 1) pe_int (fun _ _ => rfl))) pe_int (nomark _)) pa_nil)) (fun _ _ => rfl)))) pss_nil)
      (pss_cons ps_dead
      (pss_cons ps_dead
      (pss_cons ps_dead
      (pss_one ps_dead))))), ?_⟩
    repeat walk_at "s"
    refine iteY (decide_eq_true rfl) ?_
    repeat walk_at "s"
    refine ⟨by show 2 ≤ sizeLine; decide, fun t ht => ?_⟩
    have s1 := same_upd (o := .tup [.str "", .str "full"]) ht
    have e1 : upd H t (.tup [.str "", .str "full"]) t = some (.tup [.str "", .str "full"]) := upd_same
    generalize upd H t (.tup [.str "", .str "full"]) = H1 at s1 e1 ⊢
    have hp1 := s1 _ _ hp
    repeat walk_at "s"
    refine bget (h.same s1) bk_many ?_
    repeat walk_at "s"
    have k1 := k _ s1
    by_cases z : 60 < many + c
    · rw [if_pos z] at k1
      rw [decide_eq_true (show (60 : Int) < (many : Int) + c by omega)]
      exact i_ixT (SqT.of e1) rfl k1
    · rw [if_neg z] at k1
      rw [decide_eq_false (show ¬ (60 : Int) < (many : Int) + c by omega)]
      exact i_ixT (SqT.of e1) rfl k1
end

section
variable {P : Program} {w : World} {K : PySem.W.Frag} {mg : Str → Option Value} {base : Heap}
theorem kvsz {kvs : List (Key × V)} {n : Nat} (e : kvs.length = n) (h : n ≤ 1000) : kvs.length < sizeLine := by rw [e, sizeLine_eq]; omega
def spLEnter : Sp := fun vs H Q _ => ∃ (x : BA) (f : Nat → Addr) (slip d0 d : Int) (n : Nat) (ds : Nat → Int) (p : Addr) (c : Nat), vs = [.ref x.m, .int d, .ref p] ∧ BookAt H x f slip d0 n n ds ∧ FellAt H p c ∧
  (60 < n + c → ∀ H', BookAt H' x f slip d n n ds → But2 x.m x.ln H H' → Q (.str "full") H') ∧ (n + c ≤ 60 → ∀ f' H', BookAt H' x f' slip d (n + c) (n + c) (grow ds n d) → But2 x.m x.ln H H' → Q (.str "good") H')
abbrev sLawEnter : Stmt := top 87
theorem scLawEnter : FnScope ["_law_m", "_law_day", "_law_fact", "_law_word", "_law_timber", "_law_line"] ["_law_m", "_law_day", "_law_fact"] (defScope sLawEnter) := ⟨rfl, rfl, rfl, by decide +kernel, rfl, by decide +kernel, by decide +kernel⟩
theorem ok_law_enter {f : Addr} {fd : FuncData} (F : Fun K "_law_enter" "_law_enter" sLawEnter f fd) (T : BltM mg) (c_law_place : Cal P w K mg base "_law_place" 1 ["_law_m", "_law_timber"] spPlace) (c_law_idle : Cal P w K mg base "_law_idle" 1 ["_law_m", "_law_fact"] spIdle) : FnOk P w K mg base CX0 2 f fd ["_law_m", "_law_day", "_law_fact"] spLEnter := by
  refine F.ok scLawEnter (fun vs H Q E h => ?_) (fun cdv A outer s H vs Q E hr h => ?_)
  · obtain ⟨_, _, _, _, _, _, _, _, _, rfl, _⟩ := h
    rfl
  · obtain ⟨x, f, slip, d0, d, n, ds, p, c, rfl, h, ⟨hp, c1, c2⟩, k1, k2⟩ := h
    refine ⟨_, (pss_cut (ps_dput (hu1 hr.units) (pv 0) pe_str (pv 1) rfl)
      (pss_cut (ps_set (i := 3) scLawEnter.nd rfl (Or.inl rfl) (pe_callC c_law_idle (hr.mono (by omega)) (by rfl) (pa_cons (pv 0) (pa_cons (pv 2) pa_nil))))
      (pss_cut (ps_if (pt_cmpR op_ne (pv 3) pe_str (nomark _)) (pss_one (ps_ret (pv 3))) pss_nil)
      (pss_cut (ps_if (pt_cmpR op_eq (pe_ix (ixT (K := K) rfl) (pv 2) pe_int (fun _ _ => rfl)) pe_str (nomark _)) (pss_one (ps_dput (hu1 hr.units) (pv 0) pe_str (pe_op op_add (pe_dget (hu1 hr.units) (pv 0) pe_str (fun _ _ => rfl)) (pe_ix (ixT (K := K) rfl) (pv 2) pe_int (fun _ _ => rfl))) rfl)) (pss_one ps_dead))
      (pss_cut (ps_for PassesOwn.never rfl (pi_range2 (by rfl) T.z_range (pa_cons pe_int (pa_cons (pe_op op_add (pe_dget (hu1 hr.units) (pv 0) pe_str (fun _ _ => rfl)) pe_int) pa_nil))) (pg_name (i := 4) scLawEnter.nd rfl (Or.inl rfl)) (pss_cons (ps_set (i := 5) scLawEnter.nd rfl (Or.inl rfl) (pe_dget2 (hu1 hr.units) (pe_dget (hu1 hr.units) (pv 0) pe_str (fun _ _ => rfl)) (pv 4) (pe_lst pa_nil) ⟨rfl, rfl, rfl, rfl⟩))
      (pss_one (ps_if ((pw_or (pt_cmpR (op_eqNoL hr.units) (pv 5) (pe_lst pa_nil) (nomark _)) (pw_or1 (pt_cmpR (op_nePl (K := K) rfl hr.units) (pe_ix (ixT (K := K) rfl) (pe_ix (ixL (K := K) rfl) (pv 5) (pe_un un_neg pe_int) (fun _ _ => rfl)) pe_int (fun _ _ => rfl)) (pe_callC c_law_place (hr.mono (by omega)) (by rfl) (pa_cons (pv 0) (pa_cons (pv 4) pa_nil))) (nomark _))))).pt (pss_one (ps_dput (hu1 hr.units) (pe_dget (hu1 hr.units) (pv 0) pe_str (fun _ _ => rfl)) (pv 4) (pe_op op_cat (pv 5) (pe_lst (pa_cons (pe_tup (pa_cons (pv 1) (pa_cons (pe_callC c_law_place (hr.mono (by omega)) (by rfl) (pa_cons (pv 0) (pa_cons (pv 4) pa_nil))) pa_nil))) pa_nil))) rfl)) pss_nil))))
      (pss_one (ps_ret pe_str))))))), ?_⟩
    have nb := h.n60
    have pm : p ≠ x.m := ne_of hp h.m nofun
    have pn : p ≠ x.ln := ne_of hp h.ln nofun
    refine ⟨fun σ' H' => BookAt H' x f slip d n n ds ∧ But2 x.m x.ln H H' ∧ σ' = [some (.ref x.m), some (.int d), some (.ref p), none, none, none], ?_, ?_⟩
    · repeat walk_at "s"
      refine ⟨x.m, _, rfl, DPut.k (k := .inr "day") h.m (kvsz (n := 12) rfl (by decide)), ?_⟩
      rw [bk_pday]
      exact ⟨h.onm (Nat.le_refl _) nb, fun b o b1 _ z => by rw [upd_ne b1]; exact z, rfl⟩
    rintro _ H1 ⟨h1, b1, rfl⟩
    have hp1 := b1 _ _ pm pn hp
    refine ⟨fun σ' H' => BookAt H' x f slip d n n ds ∧ But2 x.m x.ln H H' ∧ σ' = [some (.ref x.m), some (.int d), some (.ref p), some (.str (if 60 < n + c then "full" else "")), none, none], ?_, ?_⟩
    · repeat walk_at "s"
      exact ⟨x, f, slip, d, n, n, ds, p, c, rfl, h1, ⟨hp1, c1, c2⟩, fun H' s' => ⟨h1.same s', fun b o b2 b3 z => s' _ _ (b1 _ _ b2 b3 z), rfl⟩⟩
    rintro _ H2 ⟨h2, b2, rfl⟩
    have hp2 := b2 _ _ pm pn hp
    by_cases z : 60 < n + c
    · rw [if_pos z]
      refine ⟨fun _ _ => False, ?_, fun _ _ h => h.elim⟩
      repeat walk_at "s"
      refine iteY (by decide +kernel) ?_
      repeat walk_at "s"
      exact k1 z H2 h2 b2
    rw [if_neg z]
    refine ⟨fun σ' H' => H' = H2 ∧ σ' = [some (.ref x.m), some (.int d), some (.ref p), some (.str ""), none, none], ?_, ?_⟩
    · repeat walk_at "s"
      refine iteZ (by decide +kernel) ?_
      repeat walk_at "s"
      exact ⟨rfl, rfl⟩
    rintro _ _ ⟨rfl, rfl⟩
    refine ⟨fun σ' H' => BookAt H' x f slip d (n + c) n ds ∧ But2 x.m x.ln H H' ∧ σ' = [some (.ref x.m), some (.int d), some (.ref p), some (.str ""), none, none], ?_, ?_⟩
    · repeat walk_at "s"
      refine iteY (decide_eq_true rfl) ?_
      repeat walk_at "s"
      refine bget h2 bk_many ?_
      repeat walk_at "s"
      refine ⟨x.m, _, rfl, DPut.k (k := .inr "many") h2.m (kvsz (n := 12) rfl (by decide)), ?_⟩
      rw [show V.int ((n : Int) + (c : Int)) = V.int ((n + c : Nat) : Int) by rw [Int.natCast_add], bk_pmany]
      exact ⟨h2.onm (by omega) (by omega), fun b o b1 b3 z => by rw [upd_ne b1]; exact b2 _ _ b1 b3 z, rfl⟩
    rintro _ H3 ⟨h3, b3, rfl⟩
    refine ⟨fun σ' H' => (∃ f', BookAt H' x f' slip d (n + c) (n + c) (grow ds n d)) ∧ But2 x.m x.ln H H', ?_, ?_⟩
    · repeat walk_at "s"
      refine bget h3 bk_many ?_
      repeat walk_at "s"
      refine ⟨_, _, rfl, ⟨by omega, by omega, by omega, by omega⟩, ?_⟩
      rw [show (((n + c : Nat) : Int) + 1 - 1).toNat = n + c by omega]
      refine forW (fun i σ' H' => (∃ f', BookAt H' x f' slip d (n + c) (max n i) (grow ds n d)) ∧ But2 x.m x.ln H H' ∧ ∃ v u, σ' = [some (.ref x.m), some (.int d), some (.ref p), some (.str ""), v, u]) (n + c) ⟨⟨f, ?_⟩, b3, ⟨_, _, rfl⟩⟩ ?_ ?_
      · rw [Nat.max_eq_left (Nat.zero_le _)]
        exact h3.cong fun i hi => by unfold grow; rw [if_pos hi]
      · rintro σ' H' ⟨h', b', _⟩
        rw [Nat.max_eq_right (Nat.le_add_right _ _)] at h'
        exact ⟨Nat.le_refl _, h', b'⟩
      · rintro i σ' H' hi ⟨⟨f', h'⟩, b', v, u, rfl⟩
        refine ⟨hi, ?_⟩
        rintro y H4 ⟨rfl, rfl⟩
        repeat walk_at "s"
        refine bget h' bk_lines ?_
        refine ⟨x.ln, rfl, isD_k (.of h'.ln), ?_⟩
        repeat walk_at "s"
        refine ⟨by show 0 ≤ sizeLine; decide, fun e he => ?_⟩
        have s5 := same_upd (o := .lst []) he
        have e5 : upd H4 e (.lst []) e = some (.lst []) := upd_same
        generalize upd H4 e (.lst []) = H5 at s5 e5 ⊢
        have h5 := h'.same s5
        have b5 : But2 x.m x.ln H H5 := fun b o q1 q2 z => s5 _ _ (b' _ _ q1 q2 z)
        rw [show (1 : Int) + i = (i : Int) + 1 by omega]
        refine ⟨_, dget_k (k := .inl ((i : Int) + 1)) (.of h5.ln), ?_⟩
        rcases Nat.lt_or_ge i n with hin | hin
        · rw [lnK_in (show i < max n i by omega), Option.getD_some]
          obtain ⟨p', q', g1, g2, g3⟩ := h5.li i (by omega)
          repeat walk_at "s"
          refine ⟨by show 0 ≤ sizeLine; decide, fun e2 he2 => ?_⟩
          have s6 := same_upd (o := .lst []) he2
          refine i_noL (s6 _ _ g1) upd_same ?_
          generalize upd H5 e2 (.lst []) = H6 at s6 ⊢
          repeat walk_at "s"
          refine iteF ?_
          have g16 := s6 _ _ g1
          have g26 := s6 _ _ g2
          repeat walk_at "s"
          refine ⟨x, f', slip, d, _, _, _, _, rfl, h5.same s6, fun q7 H7 s7 _ e7 => ?_⟩
          repeat walk_at "s"
          refine i_pl (a := some true) (b := some true) (SqT.of (s7 _ _ (s6 _ _ g3))) (SqT.of e7) ?_
          repeat walk_at "s"
          refine iteF ?_
          repeat walk_at "s"
          refine ⟨⟨f', ?_⟩, fun b o q1 q2 z => s7 _ _ (s6 _ _ (b5 _ _ q1 q2 z)), ⟨_, _, rfl⟩⟩
          rw [show max n (i + 1) = max n i by omega]
          exact (h5.same s6).same s7
        · rw [lnK_out (.inr (by omega)), Option.getD_none]
          have hm : max n i = i := by omega
          rw [hm] at h5
          repeat walk_at "s"
          refine ⟨by show 0 ≤ sizeLine; decide, fun e2 he2 => ?_⟩
          have s6 := same_upd (o := .lst []) he2
          refine i_noL (s6 _ _ e5) upd_same ?_
          have e6 := s6 _ _ e5
          generalize upd H5 e2 (.lst []) = H6 at s6 e6 ⊢
          repeat walk_at "s"
          refine iteT ?_
          repeat walk_at "s"
          refine iteT ?_
          repeat walk_at "s"
          refine ⟨x, f', slip, d, _, _, _, _, rfl, h5.same s6, fun q7 H7 s7 _ e7 => ?_⟩
          repeat walk_at "s"
          refine ⟨by show 2 ≤ sizeLine; decide, fun p8 hp8 => ?_⟩
          have s8 := same_upd (o := .tup [.int d, .ref q7]) hp8
          have t8 : upd H7 p8 (.tup [.int d, .ref q7]) p8 = some (.tup [.int d, .ref q7]) := upd_same
          generalize upd H7 p8 (.tup [.int d, .ref q7]) = H8 at s8 t8 ⊢
          repeat walk_at "s"
          refine ⟨by show 1 ≤ sizeLine; decide, fun l9 hl9 => ?_⟩
          have s9 := same_upd (o := .lst [.ref p8]) hl9
          refine i_cat (s9 _ _ (s8 _ _ (s7 _ _ e6))) upd_same (by show 0 + 1 ≤ sizeLine; decide) fun l hl => ?_
          have s10 := s9.trans (same_upd (o := .lst ([] ++ [.ref p8])) hl)
          have t10 : upd (upd H8 l9 (.lst [.ref p8])) l (.lst ([] ++ [.ref p8])) l = some (.lst [.ref p8]) := upd_same
          generalize upd (upd H8 l9 (.lst [.ref p8])) l (.lst ([] ++ [.ref p8])) = H10 at s10 t10 ⊢
          have s610 := (s7.trans s8).trans s10
          have h10 := (h5.same s6).same s610
          repeat walk_at "s"
          refine bget h10 bk_lines ?_
          repeat walk_at "s"
          refine ⟨x.ln, _, rfl, DPut.k (k := .inl ((i : Int) + 1)) h10.ln (kvsz lnK_length (by omega)), ?_⟩
          rw [lnK_put]
          have hh := h10.put (by omega) t10 (s10 _ _ t8) (s10 _ _ (s8 _ _ e7))
          rw [show i = n + (i - n) by omega, grow_grow, ← show i = n + (i - n) by omega] at hh
          refine ⟨⟨_, by rw [show max n (i + 1) = i + 1 by omega]; exact hh⟩, fun b o q1 q2 z => by rw [upd_ne q2]; exact s610 _ _ (s6 _ _ (b5 _ _ q1 q2 z)), ⟨_, _, rfl⟩⟩
    rintro σ4 H4 ⟨⟨f', h4⟩, b4⟩
    repeat walk_at "s"
    exact k2 (by omega) f' H4 h4 b4
def spAll : Sp := fun vs H Q _ => ∃ l, vs = [.ref l] ∧ H l = some (.lst []) ∧ RX H Q
abbrev sLawAll : Stmt := top 73
theorem scLawAll : FnScope ["_law_parts", "_law_found", "_law_one"] ["_law_parts"] (defScope sLawAll) := ⟨rfl, rfl, rfl, by decide +kernel, rfl, by decide +kernel, by decide +kernel⟩
theorem ok_law_all {f : Addr} {fd : FuncData} (F : Fun K "_law_all" "_law_all" sLawAll f fd) : FnOk P w K mg base CX0 1 f fd ["_law_parts"] spAll := by
  refine F.ok scLawAll (fun vs H Q E h => ?_) (fun cdv A outer s H vs Q E hr h => ?_)
  · obtain ⟨_, rfl, _⟩ := h
    rfl
  · obtain ⟨l, rfl, e, k⟩ := h
    refine ⟨_, (pss_cons (ps_set (i := 1) scLawAll.nd rfl (Or.inl rfl) (pe_tup (pa_cons pe_int (pa_cons pe_int pa_nil))))
      (pss_cons (ps_for PassesOwn.never rfl (piL (K := K) rfl (pv 0)) (pg_name (i := 2) scLawAll.nd rfl (Or.inl rfl)) (pss_one ps_dead))
      (pss_one (ps_ret (pv 1))))), ?_⟩
    repeat walk_at "s"
    refine ⟨by show 2 ≤ sizeLine; decide, fun p hp => ?_⟩
    have s1 := same_upd (o := .tup [.int 0, .int 1]) hp
    have e1 : upd H p (.tup [.int 0, .int 1]) p = some (.tup [.int 0, .int 1]) := upd_same
    generalize upd H p (.tup [.int 0, .int 1]) = H1 at s1 e1 ⊢
    repeat walk_at "s"
    refine ⟨l, rfl, ⟨_, SqL.of (s1 _ _ e)⟩, ?_⟩
    refine forW (fun _ σ' H' => H' = H1 ∧ ∃ v, σ' = [some (.ref l), some (.ref p), v]) 0 ⟨rfl, ⟨_, rfl⟩⟩ ?_ (fun i _ _ hi => absurd hi (Nat.not_lt_zero _))
    rintro σ' H' ⟨rfl, v, rfl⟩
    refine ⟨⟨_, SqL.of (s1 _ _ e), Nat.le_refl _⟩, ?_⟩
    repeat walk_at "s"
    exact k p _ s1 e1
end

section
variable {P : Program} {w : World} {K : PySem.W.Frag} {mg : Str → Option Value} {base : Heap}
theorem comp0 {σ : St} {H : Hp} {Q : VK} {m : Nat} {fre : List (Nat × Str)} {tl te : TE} {g : TG} {tt : TT} (ht : ∀ Q' : VK, (∀ l H', Same H H' → H' l = some (.lst []) → Q' (.ref l) H') → tl σ H Q') (k : ∀ l H', Same H H' → H' l = some (.lst []) → Q (.ref l) H') : tComp m fre (iList K tl) g tt te σ H Q := by
  refine ht _ fun l H1 s1 e1 => ⟨l, rfl, ⟨_, SqL.of e1⟩, ?_⟩
  refine compW (fun _ ys σ' H' => H' = H1 ∧ ys = []) 0 ⟨rfl, rfl⟩ ?_ (fun i _ _ _ hi => absurd hi (Nat.not_lt_zero _))
  rintro ys σ' H2 ⟨rfl, rfl⟩
  exact ⟨⟨[], SqL.of e1, Nat.le_refl _⟩, fun L hL => k L _ (s1.trans (same_upd hL)) upd_same⟩
theorem sort0 {H : Hp} {d : Addr} {Q : VK} (e : H d = some (.dK [])) (k : ∀ l H', Same H H' → H' l = some (.lst []) → Q (.ref l) H') : rSortedD [.ref d] H Q :=
  i_sortedD (ns := []) (.of e) rfl (by decide) fun l rs hl pm _ => by
    obtain rfl := List.perm_nil.mp pm
    exact k l _ (same_upd hl) upd_same
def spDue (K : PySem.W.Frag) : Sp := fun vs H Q _ => ∃ (x : BA) (f : Nat → Addr) (slip day : Int) (n : Nat) (ds : Nat → Int), vs = [.ref x.m] ∧ BookAt H x f slip day n n ds ∧ ∀ v H', Same H H' → RepK K H' v (lookD slip day n ds) → Q v H'
abbrev sLawDue : Stmt := top 88
theorem scLawDue : FnScope ["_law_m", "_law_names", "_law_timbers", "_law_due_here", "_law_whole"] ["_law_m"] (defScope sLawDue) := ⟨rfl, rfl, rfl, by decide +kernel, rfl, by decide +kernel, by decide +kernel⟩
theorem nd_543_25 : (["_law_name", "_law_m"] : List Str).Nodup := by decide +kernel
theorem S_543_25 : CompScope ["_law_m", "_law_names", "_law_timbers", "_law_due_here", "_law_whole"] (defScope sLawDue) ({ kind := PySem.ScopeKind.function, names := [ (PySem.Str.ofString ".0", PySem.NameKind.local), (PySem.Str.ofString "_law_name", PySem.NameKind.local), (PySem.Str.ofString "list", PySem.NameKind.globalImplicit), (PySem.Str.ofString "_law_m", PySem.NameKind.free)], isGenerator := false, isCoroutine := false, more := [] : PySem.Scope }) (["_law_name"] : List Str) ([(0, "_law_m")] : List (Nat × Str)) := ⟨by decide +kernel, by decide +kernel, by decide +kernel, by decide +kernel, by decide +kernel⟩
theorem nd_544_25 : (["_law_name", "_law_m"] : List Str).Nodup := by decide +kernel
theorem S_544_25 : CompScope ["_law_m", "_law_names", "_law_timbers", "_law_due_here", "_law_whole"] (defScope sLawDue) ({ kind := PySem.ScopeKind.function, names := [ (PySem.Str.ofString ".0", PySem.NameKind.local), (PySem.Str.ofString "_law_name", PySem.NameKind.local), (PySem.Str.ofString "list", PySem.NameKind.globalImplicit), (PySem.Str.ofString "_law_m", PySem.NameKind.free)], isGenerator := false, isCoroutine := false, more := [] : PySem.Scope }) (["_law_name"] : List Str) ([(0, "_law_m")] : List (Nat × Str)) := ⟨by decide +kernel, by decide +kernel, by decide +kernel, by decide +kernel, by decide +kernel⟩
theorem nd_545_25 : (["_law_name", "_law_m"] : List Str).Nodup := by decide +kernel
theorem S_545_25 : CompScope ["_law_m", "_law_names", "_law_timbers", "_law_due_here", "_law_whole"] (defScope sLawDue) ({ kind := PySem.ScopeKind.function, names := [ (PySem.Str.ofString ".0", PySem.NameKind.local), (PySem.Str.ofString "_law_name", PySem.NameKind.local), (PySem.Str.ofString "_law_m", PySem.NameKind.free)], isGenerator := false, isCoroutine := false, more := [] : PySem.Scope }) (["_law_name"] : List Str) ([(0, "_law_m")] : List (Nat × Str)) := ⟨by decide +kernel, by decide +kernel, by decide +kernel, by decide +kernel, by decide +kernel⟩
theorem nd_546_25 : (["_law_name", "_law_m"] : List Str).Nodup := by decide +kernel
theorem S_546_25 : CompScope ["_law_m", "_law_names", "_law_timbers", "_law_due_here", "_law_whole"] (defScope sLawDue) ({ kind := PySem.ScopeKind.function, names := [ (PySem.Str.ofString ".0", PySem.NameKind.local), (PySem.Str.ofString "_law_name", PySem.NameKind.local), (PySem.Str.ofString "_law_m", PySem.NameKind.free)], isGenerator := false, isCoroutine := false, more := [] : PySem.Scope }) (["_law_name"] : List Str) ([(0, "_law_m")] : List (Nat × Str)) := ⟨by decide +kernel, by decide +kernel, by decide +kernel, by decide +kernel, by decide +kernel⟩
theorem nd_547_25 : (["_law_name", "_law_m"] : List Str).Nodup := by decide +kernel
theorem S_547_25 : CompScope ["_law_m", "_law_names", "_law_timbers", "_law_due_here", "_law_whole"] (defScope sLawDue) ({ kind := PySem.ScopeKind.function, names := [ (PySem.Str.ofString ".0", PySem.NameKind.local), (PySem.Str.ofString "_law_name", PySem.NameKind.local), (PySem.Str.ofString "_law_m", PySem.NameKind.free)], isGenerator := false, isCoroutine := false, more := [] : PySem.Scope }) (["_law_name"] : List Str) ([(0, "_law_m")] : List (Nat × Str)) := ⟨by decide +kernel, by decide +kernel, by decide +kernel, by decide +kernel, by decide +kernel⟩
theorem nd_548_25 : (["_law_timber", "_law_m"] : List Str).Nodup := by decide +kernel
theorem S_548_25 : CompScope ["_law_m", "_law_names", "_law_timbers", "_law_due_here", "_law_whole"] (defScope sLawDue) ({ kind := PySem.ScopeKind.function, names := [ (PySem.Str.ofString ".0", PySem.NameKind.local), (PySem.Str.ofString "_law_timber", PySem.NameKind.local), (PySem.Str.ofString "_law_place", PySem.NameKind.globalImplicit), (PySem.Str.ofString "_law_m", PySem.NameKind.free)], isGenerator := false, isCoroutine := false, more := [] : PySem.Scope }) (["_law_timber"] : List Str) ([(0, "_law_m")] : List (Nat × Str)) := ⟨by decide +kernel, by decide +kernel, by decide +kernel, by decide +kernel, by decide +kernel⟩
theorem nd_549_25 : (["_law_timber", "_law_m"] : List Str).Nodup := by decide +kernel
theorem S_549_25 : CompScope ["_law_m", "_law_names", "_law_timbers", "_law_due_here", "_law_whole"] (defScope sLawDue) ({ kind := PySem.ScopeKind.function, names := [ (PySem.Str.ofString ".0", PySem.NameKind.local), (PySem.Str.ofString "_law_timber", PySem.NameKind.local), (PySem.Str.ofString "_law_m", PySem.NameKind.free)], isGenerator := false, isCoroutine := false, more := [] : PySem.Scope }) (["_law_timber"] : List Str) ([(0, "_law_m")] : List (Nat × Str)) := ⟨by decide +kernel, by decide +kernel, by decide +kernel, by decide +kernel, by decide +kernel⟩
theorem nd_550_25 : (["_law_timber", "_law_m"] : List Str).Nodup := by decide +kernel
theorem S_550_25 : CompScope ["_law_m", "_law_names", "_law_timbers", "_law_due_here", "_law_whole"] (defScope sLawDue) ({ kind := PySem.ScopeKind.function, names := [ (PySem.Str.ofString ".0", PySem.NameKind.local), (PySem.Str.ofString "_law_timber", PySem.NameKind.local), (PySem.Str.ofString "_law_m", PySem.NameKind.free)], isGenerator := false, isCoroutine := false, more := [] : PySem.Scope }) (["_law_timber"] : List Str) ([(0, "_law_m")] : List (Nat × Str)) := ⟨by decide +kernel, by decide +kernel, by decide +kernel, by decide +kernel, by decide +kernel⟩
theorem nd_551_26 : (["_law_name", "_law_m"] : List Str).Nodup := by decide +kernel
theorem S_551_26 : CompScope ["_law_m", "_law_names", "_law_timbers", "_law_due_here", "_law_whole"] (defScope sLawDue) ({ kind := PySem.ScopeKind.function, names := [ (PySem.Str.ofString ".0", PySem.NameKind.local), (PySem.Str.ofString "_law_name", PySem.NameKind.local), (PySem.Str.ofString "_law_m", PySem.NameKind.free)], isGenerator := false, isCoroutine := false, more := [] : PySem.Scope }) (["_law_name"] : List Str) ([(0, "_law_m")] : List (Nat × Str)) := ⟨by decide +kernel, by decide +kernel, by decide +kernel, by decide +kernel, by decide +kernel⟩
theorem nd_551_92 : (["_law_one", "_law_m"] : List Str).Nodup := by decide +kernel
theorem S_551_92 : CompScope ["_law_m", "_law_names", "_law_timbers", "_law_due_here", "_law_whole"] (defScope sLawDue) ({ kind := PySem.ScopeKind.function, names := [ (PySem.Str.ofString ".0", PySem.NameKind.local), (PySem.Str.ofString "_law_one", PySem.NameKind.local), (PySem.Str.ofString "_law_m", PySem.NameKind.free)], isGenerator := false, isCoroutine := false, more := [] : PySem.Scope }) (["_law_one"] : List Str) ([(0, "_law_m")] : List (Nat × Str)) := ⟨by decide +kernel, by decide +kernel, by decide +kernel, by decide +kernel, by decide +kernel⟩
theorem ok_due {f : Addr} {fd : FuncData} (F : Fun K "_law_due" "_law_due" sLawDue f fd) (T : BltM mg) (c_law_place : Cal P w K mg base "_law_place" 1 ["_law_m", "_law_timber"] spPlace) (c_law_loose : Cal P w K mg base "_law_loose" 2 ["_law_m"] spLoose) (c_law_all : Cal P w K mg base "_law_all" 1 ["_law_parts"] spAll) : FnOk P w K mg base CX0 3 f fd ["_law_m"] (spDue K) := by
  refine F.ok scLawDue (fun vs H Q E h => ?_) (fun cdv A outer s H vs Q E hr h => ?_)
  · obtain ⟨_, _, _, _, _, _, rfl, _⟩ := h
    rfl
  · obtain ⟨x, f, slip, day, n, ds, rfl, h, k⟩ := h
    refine' ⟨_, ?zz, ?_⟩
    case zz =>
      refine' pss_cut ?s0 ?r0
      case s0 => exact (ps_set (i := 1) scLawDue.nd rfl (Or.inl rfl) (pe_callB (cSortedD rfl) (by rfl) T.z_sorted bb_sorted (pa_cons (pe_dget (hu1 hr.units) (pv 0) pe_str (fun _ _ => rfl)) pa_nil)))
      case r0 =>
      refine' pss_cut ?s1 ?r1
      case s1 => exact (ps_set (i := 2) scLawDue.nd rfl (Or.inl rfl) (pe_callTy (cListRng rfl) (by rfl) T.z_list bb_list (pa_cons (pe_callTy cRng2 (by rfl) T.z_range bb_range (pa_cons pe_int (pa_cons (pe_op op_add (pe_dget (hu1 hr.units) (pv 0) pe_str (fun _ _ => rfl)) pe_int) pa_nil))) pa_nil)))
      case r1 =>
      refine' pss_cut ?s2 ?r2
      case s2 => exact (ps_set (i := 3) scLawDue.nd rfl (Or.inl rfl) (pe_lst (by exact pa_cons (pe_dget (hu1 hr.units) (pv 0) pe_str (fun _ _ => rfl)) (by exact pa_cons (pe_dget (hu1 hr.units) (pv 0) pe_str (fun _ _ => rfl)) (by exact pa_cons (pe_dget (hu1 hr.units) (pv 0) pe_str (fun _ _ => rfl)) (by exact pa_cons (pe_callC c_law_loose (hr.mono (by omega)) (by rfl) (pa_cons (pv 0) pa_nil)) (by exact pa_cons (pe_dget (hu1 hr.units) (pv 0) pe_str (fun _ _ => rfl)) (by exact pa_cons (pe_callB (cSortedD rfl) (by rfl) T.z_sorted bb_sorted (pa_cons (pe_dget (hu1 hr.units) (pv 0) pe_str (fun _ _ => rfl)) pa_nil)) (by exact pa_cons (pv 1) pa_nil)))))))))
      case r2 =>
      refine' pss_cut ?s3 ?r3
      case s3 => exact (ps_expr (mApp (K := K) rfl (pv 3) (pa_cons (pe_lcomp rfl S_543_25 (piL (K := K) rfl (pe_callB (cSortedD rfl) (by rfl) T.z_sorted bb_sorted (pa_cons (pe_dget (hu1 hr.units) (pv 0) pe_str (fun _ _ => rfl)) pa_nil))) (by intro _ _ _ _ _; exact (pg_name (i := 0) nd_543_25 rfl (Or.inl rfl))) (by intro _ _ _ _ _; exact pts_nil) (by intro _ _ _ _ _; exact pe_dead)) pa_nil)))
      case r3 =>
      refine' pss_cut ?s4 ?r4
      case s4 => exact (ps_expr (mApp (K := K) rfl (pv 3) (pa_cons (pe_lcomp rfl S_544_25 (piL (K := K) rfl (pv 1)) (by intro _ _ _ _ _; exact (pg_name (i := 0) nd_544_25 rfl (Or.inl rfl))) (by intro _ _ _ _ _; exact pts_nil) (by intro _ _ _ _ _; exact pe_dead)) pa_nil)))
      case r4 =>
      refine' pss_cut ?s5 ?r5
      case s5 => exact (ps_expr (mApp (K := K) rfl (pv 3) (pa_cons (pe_lcomp rfl S_545_25 (piL (K := K) rfl (pv 1)) (by intro _ _ _ _ _; exact (pg_name (i := 0) nd_545_25 rfl (Or.inl rfl))) (by intro _ _ _ _ _; exact pts_nil) (by intro _ _ _ _ _; exact pe_dead)) pa_nil)))
      case r5 =>
      refine' pss_cut ?s6 ?r6
      case s6 => exact (ps_expr (mApp (K := K) rfl (pv 3) (pa_cons (pe_lcomp rfl S_546_25 (piL (K := K) rfl (pv 1)) (by intro _ _ _ _ _; exact (pg_name (i := 0) nd_546_25 rfl (Or.inl rfl))) (by intro _ _ _ _ _; exact pts_nil) (by intro _ _ _ _ _; exact pe_dead)) pa_nil)))
      case r6 =>
      refine' pss_cut ?s7 ?r7
      case s7 => exact (ps_expr (mApp (K := K) rfl (pv 3) (pa_cons (pe_lcomp rfl S_547_25 (piL (K := K) rfl (pv 1)) (by intro _ _ _ _ _; exact (pg_name (i := 0) nd_547_25 rfl (Or.inl rfl))) (by intro _ _ _ _ _; exact pts_nil) (by intro _ _ _ _ _; exact pe_dead)) pa_nil)))
      case r7 =>
      refine' pss_cut ?s8 ?r8
      case s8 => exact (ps_expr (mApp (K := K) rfl (pv 3) (pa_cons (pe_lcomp rfl S_548_25 (piL (K := K) rfl (pv 2)) (by intro _ _ _ _ _; exact (pg_name (i := 0) nd_548_25 rfl (Or.inl rfl))) (by intro _ _ _ _ _; exact pts_nil) (by intro _ _ _ _ _; exact (pe_callC c_law_place (hr.mono (by omega)) (by rfl) (pa_cons (pv 1) (pa_cons (pv 0) pa_nil))))) pa_nil)))
      case r8 =>
      refine' pss_cut ?s9 ?r9
      case s9 => exact (ps_expr (mApp (K := K) rfl (pv 3) (pa_cons (pe_lcomp rfl S_549_25 (piL (K := K) rfl (pv 2)) (by intro _ _ _ _ _; exact (pg_name (i := 0) nd_549_25 rfl (Or.inl rfl))) (by intro _ _ _ _ _; exact pts_nil) (by intro _ _ _ _ _; exact (pe_dget (hu1 hr.units) (pe_dget (hu1 hr.units) (pv 1) pe_str (fun _ _ => rfl)) (pv 0) (fun _ _ => rfl)))) pa_nil)))
      case r9 =>
      refine' pss_cut ?s10 ?r10
      case s10 => exact (ps_expr (mApp (K := K) rfl (pv 3) (pa_cons (pe_lcomp rfl S_550_25 (piL (K := K) rfl (pv 2)) (by intro _ _ _ _ _; exact (pg_name (i := 0) nd_550_25 rfl (Or.inl rfl))) (by intro _ _ _ _ _; exact pts_nil) (by intro _ _ _ _ _; exact (pe_dget2 (hu1 hr.units) (pe_dget (hu1 hr.units) (pv 1) pe_str (fun _ _ => rfl)) (pv 0) (pe_tup (pa_cons pe_int (pa_cons pe_int pa_nil))) ⟨rfl, rfl, rfl, rfl⟩))) pa_nil)))
      case r10 =>
      refine' pss_cut ?s11 ?r11
      case s11 => exact (ps_set (i := 4) scLawDue.nd rfl (Or.inl rfl) (pe_callC c_law_all (hr.mono (by omega)) (by rfl) (pa_cons (pe_op op_cat (pe_lcomp rfl S_551_26 (piL (K := K) rfl (pe_callB (cSortedD rfl) (by rfl) T.z_sorted bb_sorted (pa_cons (pe_dget (hu1 hr.units) (pv 0) pe_str (fun _ _ => rfl)) pa_nil))) (by intro _ _ _ _ _; exact (pg_name (i := 0) nd_551_26 rfl (Or.inl rfl))) (by intro _ _ _ _ _; exact pts_nil) (by intro _ _ _ _ _; exact pe_dead)) (pe_lcomp rfl S_551_92 (piL (K := K) rfl (pe_callB (cSortedD rfl) (by rfl) T.z_sorted bb_sorted (pa_cons (pe_dget (hu1 hr.units) (pv 0) pe_str (fun _ _ => rfl)) pa_nil))) (by intro _ _ _ _ _; exact (pg_name (i := 0) nd_551_92 rfl (Or.inl rfl))) (by intro _ _ _ _ _; exact pts_nil) (by intro _ _ _ _ _; exact pe_dead))) pa_nil)))
      case r11 =>
      exact pss_one (ps_ret (pe_op op_cat (pv 3) (pe_lst (by exact pa_cons (pe_dget (hu1 hr.units) (pv 0) pe_str (fun _ _ => rfl)) (by exact pa_cons (pe_dget (hu1 hr.units) (pv 0) pe_str (fun _ _ => rfl)) (by exact pa_cons (pv 4) pa_nil))))))
    have hn := h.n60
    refine ⟨fun σ' H' => Same H H' ∧ ∃ l0, H' l0 = some (.lst []) ∧ σ' = [some (.ref x.m), some (.ref l0), none, none, none], ?_, ?_⟩
    · repeat walk_at "s"
      refine bget h bk_chains ?_
      repeat walk_at "s"
      exact sort0 h.ch fun l0 H1 s1 e0 => ⟨s1, l0, e0, rfl⟩
    rintro _ H1 ⟨s1, l0, e0, rfl⟩
    have h1 := h.same s1
    refine ⟨fun σ' H' => Same H1 H' ∧ ∃ t, H' t = some (.lst ((tms n).map V.int)) ∧ σ' = [some (.ref x.m), some (.ref l0), some (.ref t), none, none], ?_, ?_⟩
    · repeat walk_at "s"
      refine bget h1 bk_many ?_
      repeat walk_at "s"
      intro r hr'
      repeat walk_at "s"
      refine i_listRng upd_same (by omega) (by omega) (by omega) (by omega) (by omega) fun t ht => ?_
      rw [rng_tms]
      exact ⟨(same_upd hr').trans (same_upd ht), t, upd_same, rfl⟩
    rintro _ H2 ⟨s2, t, et, rfl⟩
    have h2 := h1.same s2
    refine ⟨fun σ' H' => ∃ q, Lk K H l0 t q [some (.ref x.m), some (.ref l0), some (.ref t), some (.ref q), none] n [.int day, .int slip, .int n, .lst ((tms n).map Dt.int), .lst [], .lst [], .lst []] 7 σ' H', ?_, ?_⟩
    · repeat walk_at "s"
      refine bget h2 bk_day ?_
      repeat walk_at "s"
      refine bget h2 bk_slip ?_
      repeat walk_at "s"
      refine bget h2 bk_many ?_
      repeat walk_at "s"
      refine ⟨x, f, slip, day, n, n, ds, rfl, h2, fun l1 H3 s3 e1 => ?_⟩
      have h3 := h2.same s3
      repeat walk_at "s"
      refine bget h3 bk_lost ?_
      repeat walk_at "s"
      refine bget h3 bk_boats ?_
      repeat walk_at "s"
      refine sort0 h3.bo fun l3 H5 s5 e3 => ?_
      repeat walk_at "s"
      refine ⟨by show 7 ≤ sizeLine; decide, fun q hq => ?_⟩
      have s25 := s3.trans s5
      have s15 := s2.trans s25
      have s05 := s1.trans s15
      have s6 := same_upd (o := .lst [.int day, .int slip, .int n, .ref l1, .ref x.pl, .ref l3, .ref l0]) hq
      have g : ∀ {b : Addr} {o : HO}, H5 b = some o → wo q (upd H5 q (.lst [.int day, .int slip, .int n, .ref l1, .ref x.pl, .ref l3, .ref l0])) b = some o := fun z => wo_at (s6 _ _ z) (ne_of_none z hq)
      refine ⟨q, _, ⟨upd_same, .cons (.int _) (.cons (.int _) (.cons (.int _) (.cons (.lst (g (s5 _ _ e1)) (repK_ints _)) (.cons (.lst (g (s5 _ _ h3.pl)) .nil) (.cons (.lst (g e3) .nil) (.cons (.lst (g (s15 _ _ e0)) .nil) .nil)))))), s05.trans s6, ?_⟩, rfl, ne_of_none (s15 _ _ e0) hq, ne_of_none (s25 _ _ et) hq, s6 _ _ (s15 _ _ e0), s6 _ _ (s25 _ _ et), rfl⟩
      cases z : H q with
      | none => rfl
      | some o => rw [s05 _ _ z] at hq; cases hq
    rintro σ3 H3 ⟨q, L3⟩
    have sg : ∀ {σ' : St} {H' : Hp} {ds' : List Dt} {m' : Nat}, Lk K H l0 t q [some (.ref x.m), some (.ref l0), some (.ref t), some (.ref q), none] n ds' m' σ' H' → σ' = [some (.ref x.m), some (.ref l0), some (.ref t), some (.ref q), none] := fun h => let ⟨_, _, _, _, _, _, _, e⟩ := h; e
    cases sg L3
    refine ⟨_, lk0 L3 rfl (by omega) (fun Q' sH _ k' => ?_), fun σ4 H4 L4 => ?_⟩
    · have h' := h.same sH
      repeat walk_at "s"
      refine bget h' bk_boats ?_
      repeat walk_at "s"
      exact sort0 h'.bo k'
    cases sg L4
    refine ⟨_, lk0 L4 rfl (by omega) (fun Q' _ e0 k' => ⟨_, rfl, k' _ _ (Same.refl _) e0⟩), fun σ5 H5 L5 => ?_⟩
    cases sg L5
    refine ⟨_, lk0 L5 rfl (by omega) (fun Q' _ e0 k' => ⟨_, rfl, k' _ _ (Same.refl _) e0⟩), fun σ6 H6 L6 => ?_⟩
    cases sg L6
    refine ⟨_, lk0 L6 rfl (by omega) (fun Q' _ e0 k' => ⟨_, rfl, k' _ _ (Same.refl _) e0⟩), fun σ7 H7 L7 => ?_⟩
    cases sg L7
    refine ⟨_, lk0 L7 rfl (by omega) (fun Q' _ e0 k' => ⟨_, rfl, k' _ _ (Same.refl _) e0⟩), fun σ8 H8 L8 => ?_⟩
    cases sg L8
    refine ⟨_, lk1 (gd := fun _ => looseD) (rest := [some (.ref x.m)]) L8 rfl rfl rfl (by omega) (by omega) hn (fun i H' us R hi sH hq hu kR => ?_), fun σ9 H9 L9 => ?_⟩
    · repeat walk_at "s"
      exact ⟨x, f, slip, day, n, n, ds, _, rfl, h.same sH, fun p H'' s'' _ c2 => kR _ _ s'' (.tup (.of (wo_at c2 (ne_of c2 (s'' _ _ hq) nofun))) (.cons (.str _) .nil))⟩
    cases sg L9
    refine ⟨_, lk1 (gd := fun i => lineD (ds i)) (rest := [some (.ref x.m)]) L9 rfl rfl rfl (by omega) (by omega) hn (fun i H' us R hi sH hq hu kR => ?_), fun σ10 H10 L10 => ?_⟩
    · have h' := h.same sH
      repeat walk_at "s"
      refine bget h' bk_lines ?_
      repeat walk_at "s"
      obtain ⟨p, q', c1, c2, c3⟩ := h'.li i hi
      refine ⟨x.ln, .ref (f i), rfl, by rw [← lnK_in hi]; exact dget_k (k := .inl ((i : Int) + 1)) (.of h'.ln), ?_⟩
      refine kR _ _ (Same.refl _) (.lst (wo_at c1 (ne_of c1 hq fun z => by injection z with z; rw [← z] at hu; simp at hu)) (.cons (.tup (.of (wo_at c2 (ne_of c2 hq nofun))) (.cons (.int _) (.cons (.tup (.of (wo_at c3 (ne_of c3 hq nofun))) (.cons (.str _) .nil)) .nil))) .nil))
    cases sg L10
    refine ⟨_, lk1 (gd := fun _ => partD) (rest := [some (.ref x.m)]) L10 rfl rfl rfl (by omega) (by omega) hn (fun i H' us R hi sH hq hu kR => ?_), fun σ11 H11 L11 => ?_⟩
    · have h' := h.same sH
      repeat walk_at "s"
      refine bget h' bk_loads ?_
      refine ⟨x.lo, rfl, isD_k (.of h'.lo), ?_⟩
      repeat walk_at "s"
      refine ⟨by show 2 ≤ sizeLine; decide, fun p hp => ?_⟩
      have s2 := same_upd (o := .tup [.int 0, .int 1]) hp
      refine ⟨none, dget_k (k := .inl ((i : Int) + 1)) (.of (s2 _ _ h'.lo)), ?_⟩
      exact kR _ _ s2 (.tup (.of (wo_at upd_same (ne_of_none hq hp).symm)) (.cons (.int _) (.cons (.int _) .nil)))
    obtain ⟨u11, W11, l11, n0, nt, e011, et11, rfl⟩ := L11
    have h11 := h.same W11.s
    refine ⟨fun σ' H' => ∃ w, Same H11 H' ∧ H' w = some (.tup [.int 0, .int 1]) ∧ σ' = [some (.ref x.m), some (.ref l0), some (.ref t), some (.ref q), some (.ref w)], ?_, ?_⟩
    · refine i_asg (i_call (i_cons (i_op ?_)))
      refine comp0 (fun Q' k' => ?_) fun c1 H12 s12 e12 => ?_
      · repeat walk_at "s"
        refine bget h11 bk_on ?_
        repeat walk_at "s"
        exact sort0 h11.on k'
      have h12 := h11.same s12
      refine comp0 (fun Q' k' => ?_) fun c2 H13 s13 e13 => ?_
      · repeat walk_at "s"
        refine bget h12 bk_loads ?_
        repeat walk_at "s"
        exact sort0 h12.lo k'
      refine i_cat (s13 _ _ e12) e13 (by show 0 ≤ sizeLine; decide) fun c hc => ?_
      repeat walk_at "s"
      exact ⟨c, rfl, upd_same, fun w H14 s14 e14 => ⟨w, ((s12.trans s13).trans (same_upd hc)).trans s14, e14, rfl⟩⟩
    rintro _ H12 ⟨w1, s12, e12, rfl⟩
    have h12 := h11.same s12
    repeat walk_at "s"
    refine bget h12 bk_lent ?_
    repeat walk_at "s"
    refine bget h12 bk_paid ?_
    repeat walk_at "s"
    refine ⟨by show 3 ≤ sizeLine; decide, fun z hz => ?_⟩
    have s14 := same_upd (o := .lst [.int 0, .ref x.pp, .ref w1]) hz
    have s11 := s12.trans s14
    refine i_cat (s11 _ _ W11.at_) upd_same (by rw [l11, sizeLine_eq]; show 15 + 3 ≤ _; omega) fun r hr' => ?_
    have s15 := s11.trans (same_upd (o := .lst (u11 ++ [.int 0, .ref x.pp, .ref w1])) hr')
    refine k _ _ (W11.s.trans s15) (.lst upd_same ?_)
    refine RepsK.app (RepsK.mono (wo_le.trans s15) W11.r) ?_
    exact .cons (.int _) (.cons (.tup (.of (same_upd hr' _ _ (s14 _ _ h12.pp))) (.cons (.int _) (.cons (.int _) .nil))) (.cons (.tup (.of (same_upd hr' _ _ (s14 _ _ e12))) (.cons (.int _) (.cons (.int _) .nil))) .nil))
end

section
variable {P : Program} {w : World} {K : PySem.W.Frag} {mg : Str → Option Value} {base : Heap}
def bkN (slip : Int) (m pp pl : Addr) (g : Nat → Addr) (i : Nat) : List (Key × V) := (bk slip 0 0 ⟨m, pp, pl, g 0, g 1, g 2, g 3, g 4, g 5⟩).take (6 + i)
def wd (i : Nat) : Str := ["boats", "down", "chains", "lines", "on", "loads"].getD i ""
theorem bkN_put {slip : Int} {m pp pl d : Addr} {g : Nat → Addr} {i : Nat} (h : i < 6) : putK (bkN slip m pp pl g i) (.inr (wd i)) (.ref d) = bkN slip m pp pl (fun j => if j = i then d else g j) (i + 1) := by
  rcases (show i = 0 ∨ i = 1 ∨ i = 2 ∨ i = 3 ∨ i = 4 ∨ i = 5 by omega) with rfl | rfl | rfl | rfl | rfl | rfl <;> kernel_rfl
theorem bkN_length {slip : Int} {m pp pl : Addr} {g : Nat → Addr} {i : Nat} : (bkN slip m pp pl g i).length ≤ 12 := by unfold bkN; rw [List.length_take]; exact Nat.min_le_right _ _
def spNew : Sp := fun vs H Q _ => ∃ slip : Int, vs = [.int slip] ∧ ∀ x f ds H', BookAt H' x f slip 0 0 0 ds → Same H H' → (∀ b ∈ [x.m, x.bo, x.dn, x.ch, x.ln, x.on, x.lo], H b = none) → Q (.ref x.m) H'
theorem fresh_of {H H' : Hp} {b : Addr} (s : Same H H') (h : H' b = none) : H b = none := by
  cases z : H b with
  | none => rfl
  | some o => rw [s _ _ z] at h; cases h
theorem words_at {i : Nat} (h : i < 6) : [V.str "boats", .str "down", .str "chains", .str "lines", .str "on", .str "loads"][i]? = some (.str (wd i)) := by
  rcases (show i = 0 ∨ i = 1 ∨ i = 2 ∨ i = 3 ∨ i = 4 ∨ i = 5 by omega) with rfl | rfl | rfl | rfl | rfl | rfl <;> rfl
abbrev sLawNew : Stmt := top 75
theorem scLawNew : FnScope ["_law_slip_here", "_law_m", "_law_word"] ["_law_slip_here"] (defScope sLawNew) := ⟨rfl, rfl, rfl, by decide +kernel, rfl, by decide +kernel, by decide +kernel⟩
theorem ok_new {f : Addr} {fd : FuncData} (F : Fun K "_law_new" "_law_new" sLawNew f fd) : FnOk P w K mg base CX0 1 f fd ["_law_slip_here"] spNew := by
  refine F.ok scLawNew (fun vs H Q E h => ?_) (fun cdv A outer s H vs Q E hr h => ?_)
  · obtain ⟨_, rfl, _⟩ := h
    rfl
  · obtain ⟨slip, rfl, k⟩ := h
    refine' ⟨_, ?zz, ?_⟩
    case zz =>
      refine' pss_cons ?s0 ?r0
      case s0 => exact (by refine' ps_set (i := 1) ?xa ?xb ?xc ?xd ?xe ?xf; (case xa => exact scLawNew.nd); (case xb => rfl); (case xc => exact Or.inl rfl); (case xe => rfl); (case xf => first | exact .inl rfl | exact .inr rfl); (case xd => exact (by refine' pe_disp ?xp ?y1 ?y2 ?y3 ?y4; (case y1 => rfl); (case y2 => rfl); (case y3 => exact List.cons_ne_nil _ _); (case y4 => decide); (case xp => exact (by exact pps_cons pe_str (pv 0) (by exact pps_cons pe_str pe_int (by exact pps_cons pe_str pe_int (by exact pps_cons pe_str pe_int (by exact pps_cons pe_str (pe_tup (pa_cons pe_int (pa_cons pe_int pa_nil))) (by exact pps_cons pe_str (pe_lst pa_nil) pps_nil))))))))))
      case r0 =>
      refine' pss_cons ?s1 ?r1
      case s1 => exact (ps_for PassesOwn.never rfl (piL (K := K) rfl (pe_lst (by exact pa_cons pe_str (by exact pa_cons pe_str (by exact pa_cons pe_str (by exact pa_cons pe_str (by exact pa_cons pe_str (by exact pa_cons pe_str pa_nil)))))))) (pg_name (i := 2) scLawNew.nd rfl (Or.inl rfl)) (pss_one (by exact (ps_dput (hu1 hr.units) (pv 1) (pv 2) pe_dnewK rfl))))
      case r1 =>
      exact pss_one (ps_ret (pv 1))
    refine i_seq (i_asg (i_disp fun m hm => ?_))
    have s1 := same_upd (o := .dK []) hm
    have m1 : upd H m (.dK []) m = some (.dK []) := upd_same
    generalize upd H m (.dK []) = H1 at s1 m1 ⊢
    refine i_tC (i_var rfl (i_tC (i_tC (i_tC (i_tC (i_tC (i_tC (i_tC (i_tup (i_cons (i_tC (i_cons (i_tC (i_nil ⟨by show 2 ≤ sizeLine; decide, fun pp hpp => ?_⟩))))))))))))))
    have s2 := same_upd (o := .tup [.int 0, .int 1]) hpp
    have p2 : upd H1 pp (.tup [.int 0, .int 1]) pp = some (.tup [.int 0, .int 1]) := upd_same
    generalize upd H1 pp (.tup [.int 0, .int 1]) = H2 at s2 p2 ⊢
    refine i_tC (i_lst (i_nil ⟨by show 0 ≤ sizeLine; decide, fun pl hpl => ?_⟩))
    have s3 := same_upd (o := .lst []) hpl
    have l3 : upd H2 pl (.lst []) pl = some (.lst []) := upd_same
    generalize upd H2 pl (.lst []) = H3 at s3 l3 ⊢
    have m3 := s3 _ _ (s2 _ _ m1)
    refine ⟨m3, [(.inr "slip", .int slip), (.inr "day", .int 0), (.inr "many", .int 0), (.inr "lent", .int 0), (.inr "paid", .ref pp), (.inr "lost", .ref pl)], rfl, by show 6 ≤ 15; decide, ?_⟩
    have em : mergeK [] [(.inr "slip", .int slip), (.inr "day", .int 0), (.inr "many", .int 0), (.inr "lent", .int 0), (.inr "paid", .ref pp), (.inr "lost", .ref pl)] = bkN slip m pp pl (fun _ => 0) 0 := by kernel_rfl
    rw [em]
    have hm0 := hm
    have nm : ∀ {b : Addr} {o : HO}, H b = some o → b ≠ m := fun z => ne_of_none z hm
    have s4 : Same H (upd H3 m (.dK (bkN slip m pp pl (fun _ => 0) 0))) := fun b o z => by rw [upd_ne (nm z)]; exact s3 _ _ (s2 _ _ (s1 _ _ z))
    have m4 : upd H3 m (.dK (bkN slip m pp pl (fun _ => 0) 0)) m = some (.dK (bkN slip m pp pl (fun _ => 0) 0)) := upd_same
    have pp4 : upd H3 m (.dK (bkN slip m pp pl (fun _ => 0) 0)) pp = some (.tup [.int 0, .int 1]) := by rw [upd_ne (ne_of (s3 _ _ p2) m3 nofun)]; exact s3 _ _ p2
    have pl4 : upd H3 m (.dK (bkN slip m pp pl (fun _ => 0) 0)) pl = some (.lst []) := by rw [upd_ne (ne_of l3 m3 nofun)]; exact l3
    generalize upd H3 m (.dK (bkN slip m pp pl (fun _ => 0) 0)) = H4 at s4 m4 pp4 pl4 ⊢
    repeat walk_at "s"
    refine ⟨by show 6 ≤ sizeLine; decide, fun wl hwl => ?_⟩
    have s5 := same_upd (o := .lst [.str "boats", .str "down", .str "chains", .str "lines", .str "on", .str "loads"]) hwl
    have w5 : upd H4 wl (.lst [.str "boats", .str "down", .str "chains", .str "lines", .str "on", .str "loads"]) wl = some (.lst [.str "boats", .str "down", .str "chains", .str "lines", .str "on", .str "loads"]) := upd_same
    generalize upd H4 wl (.lst [.str "boats", .str "down", .str "chains", .str "lines", .str "on", .str "loads"]) = H5 at s5 w5 ⊢
    refine ⟨wl, rfl, ⟨_, SqL.of w5⟩, ?_⟩
    refine forW (fun i σ' H' => Same H H' ∧ H' wl = some (.lst [.str "boats", .str "down", .str "chains", .str "lines", .str "on", .str "loads"]) ∧ H' pp = some (.tup [.int 0, .int 1]) ∧ H' pl = some (.lst []) ∧ (∃ v, σ' = [some (.int slip), some (.ref m), v]) ∧
      ∃ g : Nat → Addr, H' m = some (.dK (bkN slip m pp pl g i)) ∧ (∀ j, j < i → H (g j) = none ∧ H' (g j) = some (.dK []) ∧ g j ≠ m) ∧ ∀ j j', j < i → j' < i → j ≠ j' → g j ≠ g j') 6
      ⟨s4.trans s5, w5, s5 _ _ pp4, s5 _ _ pl4, ⟨_, rfl⟩, fun _ => 0, s5 _ _ m4, fun j hj => absurd hj (Nat.not_lt_zero _), fun j _ hj => absurd hj (Nat.not_lt_zero _)⟩ ?_ ?_
    · rintro σ' H' ⟨sH, w', pp', pl', ⟨v, rfl⟩, g, mm, ga, gd⟩
      refine ⟨⟨_, SqL.of w', Nat.le_refl _⟩, ?_⟩
      repeat walk_at "s"
      have D : ∀ j, j < 6 → H' (g j) = some (.dK []) := fun j hj => (ga j hj).2.1
      have M : ∀ j, j < 6 → g j ≠ m := fun j hj => (ga j hj).2.2
      refine k ⟨m, pp, pl, g 0, g 1, g 2, g 3, g 4, g 5⟩ (fun _ => 0) (fun _ => 0) H' ⟨mm, pp', pl', D 0 (by decide), D 1 (by decide), D 2 (by decide), D 4 (by decide), D 5 (by decide), D 3 (by decide), fun i hi => absurd hi (Nat.not_lt_zero _), Nat.le_refl _, by decide, M 3 (by decide), ?_⟩ sH ?_
      · intro b hb
        simp only [List.mem_cons, List.not_mem_nil, or_false] at hb
        rcases hb with rfl | rfl | rfl | rfl | rfl
        · exact ⟨M 0 (by decide), gd 0 3 (by decide) (by decide) (by decide)⟩
        · exact ⟨M 1 (by decide), gd 1 3 (by decide) (by decide) (by decide)⟩
        · exact ⟨M 2 (by decide), gd 2 3 (by decide) (by decide) (by decide)⟩
        · exact ⟨M 4 (by decide), gd 4 3 (by decide) (by decide) (by decide)⟩
        · exact ⟨M 5 (by decide), gd 5 3 (by decide) (by decide) (by decide)⟩
      · intro b hb
        simp only [List.mem_cons, List.not_mem_nil, or_false] at hb
        rcases hb with rfl | rfl | rfl | rfl | rfl | rfl | rfl
        · exact hm0
        · exact (ga 0 (by decide)).1
        · exact (ga 1 (by decide)).1
        · exact (ga 2 (by decide)).1
        · exact (ga 3 (by decide)).1
        · exact (ga 4 (by decide)).1
        · exact (ga 5 (by decide)).1
    · rintro i σ' H' hi ⟨sH, w', pp', pl', ⟨v, rfl⟩, g, mm, ga, gd⟩
      refine ⟨⟨_, _, SqL.of w', words_at hi⟩, ?_⟩
      rintro y H2' ⟨rfl, hy⟩
      have ey := hy _ (SqL.of w')
      rw [words_at hi] at ey
      cases ey
      repeat walk_at "s"
      intro d hd
      repeat walk_at "s"
      have sd := same_upd (o := .dK []) hd
      have dd : upd H2' d (.dK []) d = some (.dK []) := upd_same
      generalize upd H2' d (.dK []) = H6 at sd dd ⊢
      have nd : d ≠ m := (ne_of_none mm hd).symm
      refine ⟨m, _, rfl, DPut.k (k := .inr (wd i)) (sd _ _ mm) (by have := bkN_length (slip := slip) (m := m) (pp := pp) (pl := pl) (g := g) (i := i); rw [sizeLine_eq]; omega), ?_⟩
      rw [bkN_put hi]
      have u : ∀ {b : Addr} {o : HO}, b ≠ m → H2' b = some o → upd H6 m (.dK (bkN slip m pp pl (fun j => if j = i then d else g j) (i + 1))) b = some o := fun n z => by rw [upd_ne n]; exact sd _ _ z
      refine ⟨fun b o z => u (nm z) (sH _ _ z), u (ne_of w' mm nofun) w', u (ne_of pp' mm nofun) pp', u (ne_of pl' mm nofun) pl', ⟨_, rfl⟩, _, upd_same, fun j hj => ?_, fun j j' hj hj' e => ?_⟩
      · by_cases z : j = i
        · subst z
          simp only [if_true]
          exact ⟨fresh_of sH hd, by rw [upd_ne nd]; exact dd, nd⟩
        · simp only [if_neg z]
          obtain ⟨a1, a2, a3⟩ := ga j (by omega)
          exact ⟨a1, u a3 a2, a3⟩
      · by_cases z : j = i
        · by_cases z' : j' = i
          · exact absurd (z.trans z'.symm) e
          · simp only [if_pos z, if_neg z']
            exact (ne_of_none (ga j' (by omega)).2.1 hd).symm
        · by_cases z' : j' = i
          · simp only [if_neg z, if_pos z']
            exact ne_of_none (ga j (by omega)).2.1 hd
          · simp only [if_neg z, if_neg z']
            exact gd j j' (by omega) (by omega) e
end

/-! ### sizes of what is told -/
theorem depths_le {k : Nat} : ∀ {l : List Dt}, (∀ d ∈ l, d.depth ≤ k) → depths l ≤ k
  | [], _ => Nat.zero_le _
  | d :: r, h => Nat.max_le.mpr ⟨h d List.mem_cons_self, depths_le fun e he => h e (List.mem_cons_of_mem _ he)⟩
theorem wides_le {k : Nat} : ∀ {l : List Dt}, (∀ d ∈ l, d.wide ≤ k) → wides l ≤ k
  | [], _ => Nat.zero_le _
  | d :: r, h => Nat.max_le.mpr ⟨h d List.mem_cons_self, wides_le fun e he => h e (List.mem_cons_of_mem _ he)⟩
def okD (d : Dt) : Prop := d.depth ≤ 4 ∧ d.wide ≤ 1000
theorem okD_map {α : Type} {l : List α} {g : α → Dt} (hl : l.length ≤ 60) (h : ∀ a, (g a).depth ≤ 3 ∧ (g a).wide ≤ 1000) : okD (.lst (l.map g)) := by
  refine ⟨?_, ?_⟩
  · show depths (l.map g) + 1 ≤ 4
    have : depths (l.map g) ≤ 3 := depths_le fun d hd => by obtain ⟨a, _, rfl⟩ := List.mem_map.mp hd; exact (h a).1
    omega
  · show max (l.map g).length (wides (l.map g)) ≤ 1000
    refine Nat.max_le.mpr ⟨by rw [List.length_map]; omega, wides_le fun d hd => by obtain ⟨a, _, rfl⟩ := List.mem_map.mp hd; exact (h a).2⟩
theorem look_ok {most day : Int} {n : Nat} {ds : Nat → Int} (hn : n ≤ 60) : (lookD most day n ds).depth ≤ 5 ∧ (lookD most day n ds).wide ≤ 1000 := by
  have all : ∀ d ∈ ([.int day, .int most, .int n, .lst ((tms n).map Dt.int), .lst [], .lst [], .lst []] ++ [.lst []] ++ [.lst []] ++ [.lst []] ++ [.lst []] ++ [.lst []] ++ [.lst ((List.range n).map fun _ => looseD)] ++ [.lst ((List.range n).map fun i => lineD (ds i))] ++ [.lst ((List.range n).map fun _ => partD)] ++ [.int 0, partD, partD] : List Dt), okD d := by
    intro d hd
    simp only [List.mem_append, List.mem_cons, List.not_mem_nil, or_false] at hd
    have o1 : okD (.lst []) := ⟨by decide, by decide⟩
    have o2 : ∀ i, okD (.int i) := fun i => ⟨Nat.zero_le _, Nat.zero_le _⟩
    have o3 : okD partD := ⟨by decide, by decide⟩
    have o4 : okD (.lst ((tms n).map Dt.int)) := okD_map (by rw [tms_length]; exact hn) fun a => ⟨Nat.zero_le _, Nat.zero_le _⟩
    have o5 : okD (.lst ((List.range n).map fun _ => looseD)) := okD_map (by rw [List.length_range]; exact hn) fun a => ⟨by decide, by decide⟩
    have o6 : okD (.lst ((List.range n).map fun i => lineD (ds i))) := okD_map (by rw [List.length_range]; exact hn) fun a => ⟨by show 3 ≤ 3; decide, by show max 1 (max (max 2 (max 0 (max (max 1 (max 0 0)) 0))) 0) ≤ 1000; decide⟩
    have o7 : okD (.lst ((List.range n).map fun _ => partD)) := okD_map (by rw [List.length_range]; exact hn) fun a => ⟨by decide, by decide⟩
    rcases hd with (((((((((hd | hd) | hd) | hd) | hd) | hd) | hd) | hd) | hd) | hd)
    · rcases hd with rfl | rfl | rfl | rfl | rfl | rfl | rfl <;> first | exact o1 | exact o4 | exact o2 _
    · subst hd; exact o1
    · subst hd; exact o1
    · subst hd; exact o1
    · subst hd; exact o1
    · subst hd; exact o1
    · subst hd; exact o5
    · subst hd; exact o6
    · subst hd; exact o7
    · rcases hd with rfl | rfl | rfl <;> first | exact o2 _ | exact o3
  refine ⟨?_, ?_⟩
  · show depths _ + 1 ≤ 5
    have := depths_le fun d hd => (all d hd).1
    omega
  · show max _ (wides _) ≤ 1000
    exact Nat.max_le.mpr ⟨by simp, wides_le fun d hd => (all d hd).2⟩
/-! ### yard, book and draws beside each other -/
def okY : HO → Prop
  | .ins _ _ _ => True
  | .tup _ => True
  | .lst xs => xs.length ≤ 1
  | _ => False
def okB : HO → Prop
  | .tup _ => True
  | .lst xs => xs.length ≤ 1
  | _ => False
section
variable {CY CD aL : Addr} {H H' : Hp} {a : YA} {x : BA} {f g : Nat → Addr} {slip day : Int} {m n : Nat} {ds : Nat → Int} {d c0 : Addr}
theorem YardAt.tr (h : YardAt CY CD aL H a f slip day n ds) (u1 : ∀ b o, okY o → H b = some o → H' b = some o) (u2 : ∀ b ∈ [a.dl, a.dc, a.de, a.dn, a.dt], ∀ kvs, H b = some (.dK kvs) → H' b = some (.dK kvs)) : YardAt CY CD aL H' a f slip day n ds := by
  have w2 := u2 a.dl (by simp) _ h.w
  exact ⟨⟨u1 _ _ trivial h.y, .of w2, u2 _ (by simp) _ h.c, u2 _ (by simp) _ h.e, u1 _ _ trivial h.b, u2 _ (by simp) _ h.nm, u2 _ (by simp) _ h.tm, fun i hi => let ⟨p, h1, h2⟩ := h.ln i hi; ⟨p, u1 _ _ (Nat.le_refl 1) h1, u1 _ _ trivial h2⟩, h.n60⟩, w2, h.d1, h.d2, h.d3, h.d4⟩
theorem BookAt.tr (h : BookAt H x g slip day m n ds) (u1 : ∀ b o, okB o → H b = some o → H' b = some o) (u2 : ∀ b ∈ [x.m, x.bo, x.dn, x.ch, x.ln, x.on, x.lo], ∀ kvs, H b = some (.dK kvs) → H' b = some (.dK kvs)) : BookAt H' x g slip day m n ds :=
  ⟨u2 _ (by simp) _ h.m, u1 _ _ trivial h.pp, u1 _ _ (Nat.zero_le _) h.pl, u2 _ (by simp) _ h.bo, u2 _ (by simp) _ h.dn, u2 _ (by simp) _ h.ch, u2 _ (by simp) _ h.on, u2 _ (by simp) _ h.lo, u2 _ (by simp) _ h.ln,
    fun i hi => let ⟨p, q, h1, h2, h3⟩ := h.li i hi; ⟨p, q, u1 _ _ (Nat.le_refl 1) h1, u1 _ _ trivial h2, u1 _ _ trivial h3⟩, h.nm, h.n60, h.dm, h.ds1⟩
structure Stt (CY CD aL : Addr) (H : Hp) (d c0 : Addr) (a : YA) (x : BA) (slip day : Int) (n : Nat) (ds : Nat → Int) (f g : Nat → Addr) : Prop where
  dr : DrawC H d c0
  yd : YardAt CY CD aL H a f slip day n ds
  bk : BookAt H x g slip day n n ds
  sp : ∀ b ∈ [a.dl, a.dc, a.de, a.dn, a.dt], ∀ b' ∈ [x.m, x.bo, x.dn, x.ch, x.ln, x.on, x.lo], b ≠ b'
theorem Stt.same (s : Same H H') (h : Stt CY CD aL H d c0 a x slip day n ds f g) : Stt CY CD aL H' d c0 a x slip day n ds f g := ⟨h.dr.same s, h.yd.same s, h.bk.same s, h.sp⟩
theorem Stt.take (h : Stt CY CD aL H d c0 a x slip day n ds f g) (hD : DrawC H' d c0) (b : But d H H') : Stt CY CD aL H' d c0 a x slip day n ds f g := by
  obtain ⟨ns, k, r, e, h1, _⟩ := h.dr
  have n4 : ∀ xs : List V, xs.length ≤ 1 → HO.lst xs ≠ .lst [.ref c0, .int k, .int r, .int e] := fun xs hx z => by injection z with z; rw [z] at hx; exact absurd hx (by show ¬ 4 ≤ 1; decide)
  refine ⟨hD, h.yd.tr (fun b' o ho z => b _ _ (ne_of z h1 ?_) z) (fun b' _ kvs z => b _ _ (ne_of z h1 nofun) z), h.bk.tr (fun b' o ho z => b _ _ (ne_of z h1 ?_) z) (fun b' _ kvs z => b _ _ (ne_of z h1 nofun) z), h.sp⟩
  · cases o <;> first | exact n4 _ ho | (intro z; cases z)
  · cases o <;> first | exact n4 _ ho | (intro z; cases z)
theorem DrawC.but2 {p q C dx : Addr} {fs : List (Str × V)} {kvs : List (Key × V)} (h : DrawC H d c0) (b : But2 p q H H') (hp : H p = some (.ins C dx fs) ∨ H p = some (.dK kvs)) (hq : ∃ k2, H q = some (.dK k2)) : DrawC H' d c0 := by
  obtain ⟨ns, k, r, e, h1, h2, h3, h4⟩ := h
  obtain ⟨k2, hq⟩ := hq
  have t : ∀ {b' : Addr} {xs : List V}, H b' = some (.lst xs) → H' b' = some (.lst xs) := fun z => b _ _ (by rcases hp with hp | hp <;> exact ne_of z hp nofun) (ne_of z hq nofun) z
  exact ⟨ns, k, r, e, t h1, t h2, h3, h4⟩
end
section
variable {P : Program} {w : World} {K : PySem.W.Frag} {mg : Str → Option Value} {base : Heap} {CY CD aL : Addr}
def spLaw (K : PySem.W.Frag) : Sp := fun vs H Q _ => ∃ (a : Addr) (ns : List Int), vs = [.ref a] ∧ SqL K H a (ns.map V.int) ∧ ns.length ≤ 63 ∧ ∀ H', Q (.bl true) H'
/-- both tell the same -/
theorem told {σ : St} {H : Hp} {D : Ends} {d c0 : Addr} {a : YA} {x : BA} {slip day : Int} {n : Nat} {ds : Nat → Int} {f g : Nat → Addr} (h : Stt CY CD aL H d c0 a x slip day n ds f g) (h3 : σ[3]? = some (some (.ref a.y))) (h4 : σ[4]? = some (some (.ref x.m)))
    (k : ∀ H', Same H H' → D.nx σ H') : tIfS (tNot (tTest (tCall (spS K 6) [] E0 (tCons (tCall (spLook K CY CD aL) [] E0 (tCons (tVar 3) tNil)) (tCons (tCall (spDue K) [] E0 (tCons (tVar 4) tNil)) tNil))))) (tRet (tC (.bl false))) tNext D σ H := by
  refine i_if (i_not (i_test (i_call (i_cons (i_call (i_cons (i_var h3 (i_nil ?_))))))))
  refine ⟨a, f, slip, day, n, ds, rfl, h.yd, fun v H1 s1 r1 => i_cons (i_call (i_cons (i_var h4 (i_nil ?_))))⟩
  refine ⟨x, g, slip, day, n, ds, rfl, h.bk.same s1, fun u H2 s2 r2 => i_nil ?_⟩
  obtain ⟨o1, o2⟩ := look_ok (most := slip) (day := day) (ds := ds) h.yd.n60
  refine ⟨v, u, _, rfl, r1.mono s2, r2, o1, o2, fun H3 s3 => ⟨true, rfl, ?_⟩⟩
  exact iteF (i_next (k _ ((s1.trans s2).trans s3)))
abbrev sLaw : Stmt := top 90
theorem scLaw : FnScope ["_law_script", "_law_draw", "_law_slip_here", "_law_yard", "_law_m", "_law_day", "_law_k", "_law_fact"] ["_law_script"] (defScope sLaw) := ⟨rfl, rfl, rfl, by decide +kernel, rfl, by decide +kernel, by decide +kernel⟩
theorem ok_law {f : Addr} {fd : FuncData} (F : Fun K "law" "law" sLaw f fd) (T : BltM mg) (c_law_begin : Cal P w K mg base "_law_begin" 1 ["_law_script"] (spBeginC K)) (c_law_take : Cal P w K mg base "_law_take" 1 ["_law_draw", "_law_many"] spTakeC) (c_law_slip : Cal P w K mg base "_law_slip" 2 ["_law_draw"] spSlip)
    (c_Yard : CalN P w K mg base "Yard" CY 3 ["self", "slip"] (spYInit CY CD aL)) (c_law_new : Cal P w K mg base "_law_new" 1 ["_law_slip_here"] spNew) (c_law_same : Cal P w K mg base "_law_same" 6 ["_law_found", "_law_due_here"] (spS K 6)) (c_law_look : Cal P w K mg base "_law_look" 5 ["_law_yard"] (spLook K CY CD aL)) (c_law_due : Cal P w K mg base "_law_due" 3 ["_law_m"] (spDue K))
    (c_Yard_enter : CalM P w K mg base CY "enter" 10 ["self", "day", "fact"] (spEnter CY CD aL)) (c_law_enter : Cal P w K mg base "_law_enter" 2 ["_law_m", "_law_day", "_law_fact"] spLEnter) : FnOk P w K mg base CX0 12 f fd ["_law_script"] (spLaw K) := by
  refine F.ok scLaw (fun vs H Q E h => ?_) (fun cdv A outer s H vs Q E hr h => ?_)
  · obtain ⟨a, ns, rfl, _⟩ := h
    rfl
  · obtain ⟨sc, ns, rfl, hS, hl, k⟩ := h
    refine' ⟨_, ?zz, ?_⟩
    case zz =>
      refine' pss_cut ?s0 ?r0
      case s0 => exact (ps_set (i := 1) scLaw.nd rfl (Or.inl rfl) (pe_callC c_law_begin (hr.mono (by omega)) (by rfl) (pa_cons (pv 0) pa_nil)))
      case r0 =>
      refine' pss_cut ?s1 ?r1
      case s1 => exact (ps_set (i := 2) scLaw.nd rfl (Or.inl rfl) (pe_callC c_law_slip (hr.mono (by omega)) (by rfl) (pa_cons (pv 1) pa_nil)))
      case r1 =>
      refine' pss_cut ?s2 ?r2
      case s2 => exact (ps_set (i := 3) scLaw.nd rfl (Or.inl rfl) (pe_makeC c_Yard (hr.mono (by omega)) (by rfl) (pa_cons (pv 2) pa_nil)))
      case r2 =>
      refine' pss_cut ?s3 ?r3
      case s3 => exact (ps_set (i := 4) scLaw.nd rfl (Or.inl rfl) (pe_callC c_law_new (hr.mono (by omega)) (by rfl) (pa_cons (pv 2) pa_nil)))
      case r3 =>
      refine' pss_cut ?s4 ?r4
      case s4 => exact (ps_set (i := 5) scLaw.nd rfl (Or.inl rfl) pe_int)
      case r4 =>
      refine' pss_cut ?s5 ?r5
      case s5 => exact (ps_if (pt_not (pt_val (pe_callC c_law_same (hr.mono (by omega)) (by rfl) (by exact pa_cons (pe_callC c_law_look (hr.mono (by omega)) (by rfl) (pa_cons (pv 3) pa_nil)) (by exact pa_cons (pe_callC c_law_due (hr.mono (by omega)) (by rfl) (pa_cons (pv 4) pa_nil)) pa_nil))))) (pss_one (by exact (ps_ret pe_bl))) pss_nil)
      case r5 =>
      refine' pss_cut ?s6 ?r6
      case s6 => exact (ps_for PassesOwn.never rfl (pi_range1 (by rfl) T.z_range (pa_cons (pe_callC c_law_take (hr.mono (by omega)) (by rfl) (pa_cons (pv 1) (pa_cons pe_int pa_nil))) pa_nil)) (pg_name (i := 6) scLaw.nd rfl (Or.inl rfl)) (pss_cut (by exact (ps_set (i := 5) scLaw.nd rfl (Or.inl rfl) (pe_op op_add (pe_op op_add (pv 5) pe_int) (pe_callC c_law_take (hr.mono (by omega)) (by rfl) (pa_cons (pv 1) (pa_cons pe_int pa_nil))))))
      (pss_cut (by exact (ps_set (i := 7) scLaw.nd rfl (Or.inl rfl) (pe_tup (pa_cons pe_str (pa_cons (pe_op op_add pe_int (pe_callC c_law_take (hr.mono (by omega)) (by rfl) (pa_cons (pv 1) (pa_cons (pe_ix (ixT (K := K) rfl) (pe_tup (by exact pa_cons pe_int (by exact pa_cons pe_int (by exact pa_cons pe_int pa_nil)))) (pe_callC c_law_take (hr.mono (by omega)) (by rfl) (pa_cons (pv 1) (pa_cons pe_int pa_nil))) (fun _ _ => rfl)) pa_nil)))) pa_nil)))))
      (pss_cut (by exact (ps_if (pt_cmpR op_eq (pe_callC c_law_take (hr.mono (by omega)) (by rfl) (pa_cons (pv 1) (pa_cons pe_int pa_nil))) pe_int (nomark _)) (pss_one (by exact (ps_set (i := 7) scLaw.nd rfl (Or.inl rfl) (by refine' pe_tup ?zt1; (case zt1 => refine' pa_cons ?za2 ?zb2 ?zs2; (case zs2 => rfl); (case za2 => exact pe_str); (case zb2 => refine' pa_cons ?za4 ?zb4 ?zs4; (case zs4 => rfl); (case za4 => exact (pe_callB (cMax2 rfl) (by rfl) T.z_max bb_max (by exact pa_cons pe_int (by exact pa_cons (pe_callB (cMin2 rfl) (by rfl) T.z_min bb_min (pa_cons pe_int (pa_cons (pe_op op_add (pe_op op_sub pe_int (pe_dget (hu1 hr.units) (pv 4) pe_str (fun _ _ => rfl))) (pe_callC c_law_take (hr.mono (by omega)) (by rfl) (pa_cons (pv 1) (pa_cons pe_int pa_nil)))) pa_nil))) pa_nil)))); (case zb4 => exact pa_nil))))))) pss_nil))
      (pss_cut (by exact (ps_if (pt_not (pt_val (pe_callC c_law_same (hr.mono (by omega)) (by rfl) (by exact pa_cons (pe_methC c_Yard_enter (hr.mono (by omega)) (pv 3) (pa_cons (pv 5) (pa_cons (pv 7) pa_nil))) (by exact pa_cons (pe_callC c_law_enter (hr.mono (by omega)) (by rfl) (by exact pa_cons (pv 4) (by exact pa_cons (pv 5) (by exact pa_cons (pv 7) pa_nil)))) pa_nil))))) (pss_one (by exact (ps_ret pe_bl))) pss_nil))
      (pss_one (by exact (ps_if (pt_not (pt_val (pe_callC c_law_same (hr.mono (by omega)) (by rfl) (by exact pa_cons (pe_callC c_law_look (hr.mono (by omega)) (by rfl) (pa_cons (pv 3) pa_nil)) (by exact pa_cons (pe_callC c_law_due (hr.mono (by omega)) (by rfl) (pa_cons (pv 4) pa_nil)) pa_nil))))) (pss_one (by exact (ps_ret pe_bl))) pss_nil))))))))
      case r6 =>
      exact pss_one (ps_ret pe_bl)
    refine ⟨fun σ' H' => ∃ d c0, DrawC H' d c0 ∧ σ' = [some (.ref sc), some (.ref d), none, none, none, none, none, none], ?_, ?_⟩
    · repeat walk_at "s"
      exact ⟨sc, ns, rfl, hS, hl, fun d c0 H1 s1 hd hc hD1 => ⟨d, c0, hD1, rfl⟩⟩
    rintro _ H1 ⟨d, c0, hD1, rfl⟩
    refine ⟨fun σ' H' => DrawC H' d c0 ∧ ∃ slip : Int, 1 ≤ slip ∧ slip ≤ 12 ∧ σ' = [some (.ref sc), some (.ref d), some (.int slip), none, none, none, none, none], ?_, ?_⟩
    · repeat walk_at "s"
      exact ⟨d, c0, rfl, hD1, fun slip H2 l1 l2 hD2 _ => ⟨hD2, slip, l1, l2, rfl⟩⟩
    rintro _ H2 ⟨hD2, slip, l1, l2, rfl⟩
    refine ⟨fun σ' H' => DrawC H' d c0 ∧ ∃ a : YA, YardAt CY CD aL H' a (fun _ => 0) slip 0 0 (fun _ => 0) ∧ σ' = [some (.ref sc), some (.ref d), some (.int slip), some (.ref a.y), none, none, none, none], ?_, ?_⟩
    · repeat walk_at "s"
      intro y dx hy hdx ne
      have s3 := (same_upd (o := .own y) hdx).trans (same_upd (o := .ins CY dx []) (show upd H2 dx (.own y) y = none by rw [upd_ne (Ne.symm ne)]; exact hy))
      refine ⟨y, dx, slip, rfl, upd_same, l1, l2, fun a H4 ea h4 b4 => ⟨rfl, ?_⟩⟩
      refine ⟨?_, a, h4, by rw [← ea]; rfl⟩
      obtain ⟨ns', k', r, e, z1, z2, z3, z4⟩ := hD2
      exact ⟨ns', k', r, e, b4 _ _ (ne_of_none z1 hy) (s3 _ _ z1), b4 _ _ (ne_of_none z2 hy) (s3 _ _ z2), z3, z4⟩
    rintro _ H3 ⟨hD3, a, h3, rfl⟩
    refine ⟨fun σ' H' => ∃ (x : BA) (g : Nat → Addr) (ds : Nat → Int), Stt CY CD aL H' d c0 a x slip 0 0 ds (fun _ => 0) g ∧ σ' = [some (.ref sc), some (.ref d), some (.int slip), some (.ref a.y), some (.ref x.m), none, none, none], ?_, ?_⟩
    · repeat walk_at "s"
      refine ⟨slip, rfl, fun x g ds H4 b4 s4 fr => ⟨x, g, ds, ⟨hD3.same s4, (h3.same s4).cong (fun i hi => absurd hi (Nat.not_lt_zero _)), b4, fun b hb b' hb' => ?_⟩, rfl⟩⟩
      have z : ∃ o, H3 b = some o := by
        simp only [List.mem_cons, List.not_mem_nil, or_false] at hb
        rcases hb with rfl | rfl | rfl | rfl | rfl
        · exact ⟨_, h3.w⟩
        · exact ⟨_, h3.c⟩
        · exact ⟨_, h3.e⟩
        · exact ⟨_, h3.nm⟩
        · exact ⟨_, h3.tm⟩
      obtain ⟨o, z⟩ := z
      exact ne_of_none z (fr b' hb')
    rintro _ H4 ⟨x, g, ds, h4, rfl⟩
    refine ⟨fun σ' H' => H' = H4 ∧ σ' = [some (.ref sc), some (.ref d), some (.int slip), some (.ref a.y), some (.ref x.m), some (.int 0), none, none], ?_, ?_⟩
    · repeat walk_at "s"
      exact ⟨rfl, rfl⟩
    rintro _ _ ⟨rfl, rfl⟩
    refine ⟨fun σ' H' => Stt CY CD aL H' d c0 a x slip 0 0 ds (fun _ => 0) g ∧ σ' = [some (.ref sc), some (.ref d), some (.int slip), some (.ref a.y), some (.ref x.m), some (.int 0), none, none], ?_, ?_⟩
    · exact told h4 rfl rfl fun H' s' => ⟨h4.same s', rfl⟩
    rintro _ H5 ⟨h5, rfl⟩
    refine ⟨fun _ _ => True, ?_, ?_⟩
    · repeat walk_at "s"
      refine ⟨d, c0, 10, rfl, h5.dr, by decide, by decide, fun r H6 r0 r1 hD6 b6 => ?_⟩
      repeat walk_at "s"
      refine ⟨r, rfl, by omega, by omega, ?_⟩
      refine forW (fun i σ' H' => (∃ (day : Int) (n : Nat) (ds : Nat → Int) (f g : Nat → Addr), Stt CY CD aL H' d c0 a x slip day n ds f g ∧ 0 ≤ day ∧ day ≤ 40 * i ∧ ∃ v u, σ' = [some (.ref sc), some (.ref d), some (.int slip), some (.ref a.y), some (.ref x.m), some (.int day), v, u])) r.toNat
        ⟨0, 0, ds, _, g, h5.take hD6 b6, Int.le_refl _, by omega, ⟨_, _, rfl⟩⟩ ?_ ?_
      · rintro σ' H' _
        exact ⟨Nat.le_refl _, trivial⟩
      · rintro i σ' H7 hi ⟨day, n, ds7, f7, g7, h7, d0, d1, v, u, rfl⟩
        refine ⟨hi, ?_⟩
        rintro y H8 ⟨rfl, rfl⟩
        refine i_name ?_
        refine ⟨fun σ' H' => ∃ (dy : Int), Stt CY CD aL H' d c0 a x slip day n ds7 f7 g7 ∧ day < dy ∧ dy ≤ 40 * (i + 1 : Nat) ∧ ∃ v, σ' = [some (.ref sc), some (.ref d), some (.int slip), some (.ref a.y), some (.ref x.m), some (.int dy), v, u], ?_, ?_⟩
        · repeat walk_at "s"
          refine ⟨d, c0, 40, rfl, h7.dr, by decide, by decide, fun t H9 t0 t1 hD9 b9 => ?_⟩
          repeat walk_at "s"
          exact ⟨day + 1 + t, h7.take hD9 b9, by omega, by omega, ⟨_, rfl⟩⟩
        rintro _ H9 ⟨dy, h9, y0, y1, v9, rfl⟩
        refine ⟨fun σ' H' => ∃ (p : Addr) (c : Nat), Stt CY CD aL H' d c0 a x slip day n ds7 f7 g7 ∧ FellAt H' p c ∧ σ' = [some (.ref sc), some (.ref d), some (.int slip), some (.ref a.y), some (.ref x.m), some (.int dy), v9, some (.ref p)], ?_, ?_⟩
        · repeat walk_at "s"
          refine ⟨by show 3 ≤ sizeLine; decide, fun q hq => ?_⟩
          have sq := same_upd (o := .tup [.int 3, .int 20, .int 60]) hq
          have eq : upd H9 q (.tup [.int 3, .int 20, .int 60]) q = some (.tup [.int 3, .int 20, .int 60]) := upd_same
          generalize upd H9 q (.tup [.int 3, .int 20, .int 60]) = H10 at sq eq ⊢
          have h10 := h9.same sq
          repeat walk_at "s"
          refine ⟨d, c0, 3, rfl, h10.dr, by decide, by decide, fun t H11 t0 t1 hD11 b11 => ?_⟩
          have h11 := h10.take hD11 b11
          have e11 := b11 _ _ (h10.dr.ne_tup eq) eq
          have key : ∀ M : Int, atI [V.int 3, .int 20, .int 60] t = some (.int M) → 0 < M → M ≤ 60 → rIxT K (.ref q) (.int t) H11 fun y H2 => tNil [some (.ref sc), some (.ref d), some (.int slip), some (.ref a.y), some (.ref x.m), some (.int dy), v9, u] H2 fun xs H2 => spTakeC (V.ref d :: y :: xs ++ []) H2 (fun y H2 => rI0 (fun i j => .int (i + j)) (.int 1) y H2 fun x_1 H1 => tNil [some (.ref sc), some (.ref d), some (.int slip), some (.ref a.y), some (.ref x.m), some (.int dy), v9, u] H1 fun xs H2 => (V.str "fell" :: x_1 :: xs).length ≤ sizeLine ∧ ∀ p, H2 p = none → gName 7 (.ref p) [some (.ref sc), some (.ref d), some (.int slip), some (.ref a.y), some (.ref x.m), some (.int dy), v9, u] (upd H2 p (.tup (V.str "fell" :: x_1 :: xs))) fun σ' H' => ∃ (p : Addr) (c : Nat), Stt CY CD aL H' d c0 a x slip day n ds7 f7 g7 ∧ FellAt H' p c ∧ σ' = [some (.ref sc), some (.ref d), some (.int slip), some (.ref a.y), some (.ref x.m), some (.int dy), v9, some (.ref p)]) E0 := fun M eM M0 M1 => by
            refine i_ixT (SqT.of e11) eM ?_
            refine ⟨d, c0, M, rfl, h11.dr, M0, by omega, fun z H12 z0 z1 hD12 b12 => ?_⟩
            have h12 := h11.take hD12 b12
            repeat walk_at "s"
            refine ⟨by show 2 ≤ sizeLine; decide, fun p hp => ?_⟩
            exact ⟨p, (1 + z).toNat, h12.same (same_upd hp), ⟨by rw [show (((1 + z).toNat : Nat) : Int) = 1 + z by omega]; exact upd_same, by omega, by omega⟩, rfl⟩
          rcases (show t = 0 ∨ t = 1 ∨ t = 2 by omega) with rfl | rfl | rfl
          · exact key 3 rfl (by decide) (by decide)
          · exact key 20 rfl (by decide) (by decide)
          · exact key 60 rfl (by decide) (by decide)
        rintro _ H10 ⟨p, c, h10, fp, rfl⟩
        refine ⟨fun σ' H' => ∃ (p : Addr) (c : Nat), Stt CY CD aL H' d c0 a x slip day n ds7 f7 g7 ∧ FellAt H' p c ∧ σ' = [some (.ref sc), some (.ref d), some (.int slip), some (.ref a.y), some (.ref x.m), some (.int dy), v9, some (.ref p)], ?_, ?_⟩
        · repeat walk_at "s"
          refine ⟨d, c0, 4, rfl, h10.dr, by decide, by decide, fun t H11 t0 t1 hD11 b11 => ?_⟩
          have h11 := h10.take hD11 b11
          have fp11 := b11 _ _ (h10.dr.ne_tup fp.1) fp.1
          repeat walk_at "s"
          refine ite2 (fun _ => ?_) (fun _ => ?_)
          · repeat walk_at "s"
            refine bget h11.bk bk_many ?_
            repeat walk_at "s"
            refine ⟨d, c0, 2, rfl, h11.dr, by decide, by decide, fun z H12 z0 z1 hD12 b12 => ?_⟩
            have h12 := h11.take hD12 b12
            have n6 := h12.yd.n60
            repeat walk_at "s"
            refine ⟨by show 2 ≤ sizeLine; decide, fun p' hp' => ?_⟩
            have hv : ∃ c' : Nat, (if (if 60 - (n : Int) + z < 60 then 60 - (n : Int) + z else 60) > 1 then (if 60 - (n : Int) + z < 60 then 60 - (n : Int) + z else 60) else 1) = (c' : Int) ∧ 1 ≤ c' ∧ c' ≤ 60 := by
              refine ⟨(if (if 60 - (n : Int) + z < 60 then 60 - (n : Int) + z else 60) > 1 then (if 60 - (n : Int) + z < 60 then 60 - (n : Int) + z else 60) else 1).toNat, ?_, ?_, ?_⟩ <;> split <;> split <;> omega
            obtain ⟨c', ec, c1, c2⟩ := hv
            rw [ec]
            exact ⟨p', c', h12.same (same_upd hp'), ⟨upd_same, by omega, by omega⟩, rfl⟩
          · repeat walk_at "s"
            exact ⟨p, c, h11, ⟨fp11, fp.2⟩, rfl⟩
        rintro _ H11 ⟨p, c, h11, fp, rfl⟩
        have hm9 : (i : Int) + 1 ≤ 9 := by omega
        refine ⟨fun σ' H' => ∃ (n : Nat) (ds : Nat → Int) (f g : Nat → Addr), Stt CY CD aL H' d c0 a x slip dy n ds f g ∧ σ' = [some (.ref sc), some (.ref d), some (.int slip), some (.ref a.y), some (.ref x.m), some (.int dy), v9, some (.ref p)], ?_, ?_⟩
        · have hy := h11.yd.y
          repeat walk_at "s"
          have nY : ∀ {b : Addr} {o : HO}, okB o → H11 b = some o → b ≠ a.y ∧ b ≠ a.dl := fun ho z => ⟨ne_of z h11.yd.y (by rintro rfl; exact ho), ne_of z h11.yd.w (by rintro rfl; exact ho)⟩
          have nB : ∀ {H' : Hp} {b : Addr} {o : HO} {k1 k2 : List (Key × V)}, H' x.m = some (.dK k1) → H' x.ln = some (.dK k2) → okY o → H' b = some o → b ≠ x.m ∧ b ≠ x.ln := fun z1 z2 ho z => ⟨ne_of z z1 (by rintro rfl; exact ho), ne_of z z2 (by rintro rfl; exact ho)⟩
          have stepB : ∀ {H' : Hp}, But2 a.y a.dl H11 H' → BookAt H' x g7 slip day n n ds7 ∧ DrawC H' d c0 ∧ FellAt H' p c := fun b => by
            refine ⟨h11.bk.tr (fun b' o ho z => b _ _ (nY ho z).1 (nY ho z).2 z) (fun b' hb kvs z => b _ _ (ne_of z h11.yd.y nofun) (fun e => h11.sp a.dl (by simp) b' hb e.symm) z), h11.dr.but2 (kvs := []) b (.inl h11.yd.y) ⟨_, h11.yd.w⟩, ⟨b _ _ (nY (o := .tup _) trivial fp.1).1 (nY (o := .tup _) trivial fp.1).2 fp.1, fp.2⟩⟩
          have fin : ∀ (wd : Str) (v w : V) (H' : Hp) (n2 : Nat) (ds2 : Nat → Int) (f2 g2 : Nat → Addr), v = .str wd → w = .str wd → Stt CY CD aL H' d c0 a x slip dy n2 ds2 f2 g2 → spS K 6 [v, w] H' (fun x_1 H' => ∃ k_1, x_1 = .bl k_1 ∧ if (!k_1) = true then tRet (tC (.bl false)) { nx := fun σ' H' => ∃ (n : Nat) (ds : Nat → Int) (f g : Nat → Addr), Stt CY CD aL H' d c0 a x slip dy n ds f g ∧ σ' = [some (.ref sc), some (.ref d), some (.int slip), some (.ref a.y), some (.ref x.m), some (.int dy), v9, some (.ref p)], rt := Q } [some (.ref sc), some (.ref d), some (.int slip), some (.ref a.y), some (.ref x.m), some (.int dy), v9, some (.ref p)] H' else tNext { nx := fun σ' H' => ∃ (n : Nat) (ds : Nat → Int) (f g : Nat → Addr), Stt CY CD aL H' d c0 a x slip dy n ds f g ∧ σ' = [some (.ref sc), some (.ref d), some (.int slip), some (.ref a.y), some (.ref x.m), some (.int dy), v9, some (.ref p)], rt := Q } [some (.ref sc), some (.ref d), some (.int slip), some (.ref a.y), some (.ref x.m), some (.int dy), v9, some (.ref p)] H') E0 := fun wd v w H' n2 ds2 f2 g2 ev ew h' => by
            subst ev ew
            exact ⟨.str wd, .str wd, .str wd, rfl, .str _, .str _, Nat.zero_le _, Nat.zero_le _, fun H'' s'' => ⟨true, rfl, iteF ⟨n2, ds2, f2, g2, h'.same s'', rfl⟩⟩⟩
          have stepY : ∀ {H' H'' : Hp} {k1 k2 : List (Key × V)} {n2 : Nat} {ds2 : Nat → Int} {f2 : Nat → Addr}, YardAt CY CD aL H' a f2 slip dy n2 ds2 → H' x.m = some (.dK k1) → H' x.ln = some (.dK k2) → But2 x.m x.ln H' H'' → YardAt CY CD aL H'' a f2 slip dy n2 ds2 := fun hY z1 z2 b =>
            hY.tr (fun b' o ho z => b _ _ (nB z1 z2 ho z).1 (nB z1 z2 ho z).2 z) fun b' hb kvs z => b _ _ (h11.sp b' hb x.m (by simp)) (h11.sp b' hb x.ln (by simp)) z
          refine ⟨a, f7, slip, day, dy, n, ds7, p, c, rfl, h11.yd, fp, by omega, by omega, y0, fun full H12 hY bb => ?_, fun good f12 H12 hY bb => ?_⟩
          · obtain ⟨hB, hD, fp'⟩ := stepB bb
            repeat walk_at "s"
            refine ⟨x, g7, slip, day, dy, n, ds7, p, c, rfl, hB, fp', fun _ H13 hB3 b3 => ?_, fun z => absurd z (by omega)⟩
            repeat walk_at "s"
            exact fin "full" _ _ _ _ _ _ _ rfl rfl ⟨hD.but2 (C := 0) (dx := 0) (fs := []) b3 (.inr hB.m) ⟨_, hB.ln⟩, stepY hY hB.m hB.ln b3, hB3, h11.sp⟩
          · obtain ⟨hB, hD, fp'⟩ := stepB bb
            repeat walk_at "s"
            refine ⟨x, g7, slip, day, dy, n, ds7, p, c, rfl, hB, fp', fun z => absurd z (by omega), fun _ g13 H13 hB3 b3 => ?_⟩
            repeat walk_at "s"
            exact fin "good" _ _ _ _ _ _ _ rfl rfl ⟨hD.but2 (C := 0) (dx := 0) (fs := []) b3 (.inr hB.m) ⟨_, hB.ln⟩, stepY hY hB.m hB.ln b3, hB3, h11.sp⟩
        rintro _ H12 ⟨n12, ds12, f12, g12, h12, rfl⟩
        exact told h12 rfl rfl fun H' s' => ⟨dy, n12, ds12, f12, g12, h12.same s', by omega, y1, ⟨_, _, rfl⟩⟩
    · rintro σ' H' _
      repeat walk_at "s"
      exact k _
end
end K11

namespace K11
open PySem L2
theorem len_1 {fd : FuncData} {ps : List Str} (h : ∀ a0, bindArgs fd { pos := [a0] } = pure (ps.zip [a0])) : ∀ us : List Value, us.length = 1 → bindArgs fd { pos := us } = pure (ps.zip us)
  | [a0], _ => h a0
theorem len_2 {fd : FuncData} {ps : List Str} (h : ∀ a0 a1, bindArgs fd { pos := [a0, a1] } = pure (ps.zip [a0, a1])) : ∀ us : List Value, us.length = 2 → bindArgs fd { pos := us } = pure (ps.zip us)
  | [a0, a1], _ => h a0 a1
theorem len_3 {fd : FuncData} {ps : List Str} (h : ∀ a0 a1 a2, bindArgs fd { pos := [a0, a1, a2] } = pure (ps.zip [a0, a1, a2])) : ∀ us : List Value, us.length = 3 → bindArgs fd { pos := us } = pure (ps.zip us)
  | [a0, a1, a2], _ => h a0 a1 a2
theorem all_mk {l : PySem.W.OpenLaw} {w : World} {K : PySem.W.Frag} {h : Heap} {mg : Str → Option Value} {fa f0 f1 f2 f3 f4 f5 f6 f7 f8 f9 f10 f11 f12 f13 f14 f15 f16 f17 f18 f19 f20 f21 f22 f23 f24 f25 f26 f27 f28 f29 f30 f31 f32 f33 f34 f35 f36 f37 f38 f39 f40 f41 f42 f43 f44 f45 f46 : Addr} (X : K.In h) (G : h.Ns mainGlobals mg) (hfa : mg "law" = some (.ref fa))
    {od0 an0 od1 an1 od2 an2 od3 an3 od4 an4 od5 an5 od6 an6 od7 an7 od8 an8 od9 an9 od10 an10 od11 an11 od12 an12 od13 an13 od14 an14 od15 an15 od16 an16 od17 an17 od18 an18 od19 an19 od20 an20 od21 an21 od22 an22 od23 an23 od24 an24 od25 an25 od26 an26 od27 an27 od28 an28 od29 an29 od30 an30 od31 an31 od32 an32 od33 an33 od34 an34 od35 an35 od36 an36 od37 an37 od38 an38 od39 an39 od40 an40 od41 an41 od42 an42 od43 an43 od44 an44 od45 an45 od46 an46 : Option Addr} {sl0 sl1 sl2 sl3 sl4 sl5 sl6 sl7 sl8 sl9 sl10 sl11 sl12 sl13 sl14 sl15 sl16 sl17 sl18 sl19 sl20 sl21 sl22 sl23 sl24 sl25 sl26 sl27 sl28 sl29 sl30 sl31 sl32 sl33 sl34 sl35 sl36 sl37 sl38 sl39 sl40 sl41 sl42 sl43 sl44 sl45 sl46 : Array (Option Value)} {oc0 kV0 dc0 pm0 cd0 ct0 oc1 kV1 dc1 pm1 cd1 ct1 oc2 kV2 dc2 pm2 cd2 ct2 oc3 kV3 dc3 pm3 cd3 ct3 oc4 kV4 dc4 pm4 cd4 ct4 oc5 kV5 dc5 pm5 cd5 ct5 oc6 kV6 dc6 pm6 cd6 ct6 oc7 kV7 dc7 pm7 cd7 ct7 oc8 kV8 dc8 pm8 cd8 ct8 oc9 kV9 dc9 pm9 cd9 ct9 oc10 kV10 dc10 pm10 cd10 ct10 oc11 kV11 dc11 pm11 cd11 ct11 oc12 kV12 dc12 pm12 cd12 ct12 oc13 kV13 dc13 pm13 cd13 ct13 oc14 kV14 dc14 pm14 cd14 ct14 oc15 kV15 dc15 pm15 cd15 ct15 oc16 kV16 dc16 pm16 cd16 ct16 oc17 kV17 dc17 pm17 cd17 ct17 oc18 kV18 dc18 pm18 cd18 ct18 oc19 kV19 dc19 pm19 cd19 ct19 oc20 kV20 dc20 pm20 cd20 ct20 oc21 kV21 dc21 pm21 cd21 ct21 oc22 kV22 dc22 pm22 cd22 ct22 oc23 kV23 dc23 pm23 cd23 ct23 oc24 kV24 dc24 pm24 cd24 ct24 oc25 kV25 dc25 pm25 cd25 ct25 oc26 kV26 dc26 pm26 cd26 ct26 oc27 kV27 dc27 pm27 cd27 ct27 oc28 kV28 dc28 pm28 cd28 ct28 oc29 kV29 dc29 pm29 cd29 ct29 oc30 kV30 dc30 pm30 cd30 ct30 oc31 kV31 dc31 pm31 cd31 ct31 oc32 kV32 dc32 pm32 cd32 ct32 oc33 kV33 dc33 pm33 cd33 ct33 oc34 kV34 dc34 pm34 cd34 ct34 oc35 kV35 dc35 pm35 cd35 ct35 oc36 kV36 dc36 pm36 cd36 ct36 oc37 kV37 dc37 pm37 cd37 ct37 oc38 kV38 dc38 pm38 cd38 ct38 oc39 kV39 dc39 pm39 cd39 ct39 oc40 kV40 dc40 pm40 cd40 ct40 oc41 kV41 dc41 pm41 cd41 ct41 oc42 kV42 dc42 pm42 cd42 ct42 oc43 kV43 dc43 pm43 cd43 ct43 oc44 kV44 dc44 pm44 cd44 ct44 oc45 kV45 dc45 pm45 cd45 ct45 oc46 kV46 dc46 pm46 cd46 ct46 : Value}
    {cYard : Addr} (xcl0 : PySem.W.nsIn K mainGlobals "Yard" = some (some (.ref cYard)))
    {cDebts : Addr} (xcl1 : PySem.W.nsIn K mainGlobals "Debts" = some (some (.ref cDebts)))
    {cSOUND : Addr} (xcl2 : PySem.W.nsIn K mainGlobals "SOUND" = some (some (.ref cSOUND)))
    {cENTER : Addr} (xcl3 : PySem.W.nsIn K mainGlobals "ENTER" = some (some (.ref cENTER)))
    {cLOOSE : Addr} (xcl4 : PySem.W.nsIn K mainGlobals "LOOSE" = some (some (.ref cLOOSE)))
    {cLOST : Addr} (xcl5 : PySem.W.nsIn K mainGlobals "LOST" = some (some (.ref cLOST)))
    {crefit_is_sound : Addr} (xcl6 : PySem.W.nsIn K mainGlobals "refit_is_sound" = some (some (.ref crefit_is_sound)))
    {cmoving_is_sound : Addr} (xcl7 : PySem.W.nsIn K mainGlobals "moving_is_sound" = some (some (.ref cmoving_is_sound)))
    {cmoney_is_sound : Addr} (xcl8 : PySem.W.nsIn K mainGlobals "money_is_sound" = some (some (.ref cmoney_is_sound)))
    {cclear_is_sound : Addr} (xcl9 : PySem.W.nsIn K mainGlobals "clear_is_sound" = some (some (.ref cclear_is_sound)))
    {center_refit : Addr} (xcl10 : PySem.W.nsIn K mainGlobals "enter_refit" = some (some (.ref center_refit)))
    {center_storm : Addr} (xcl11 : PySem.W.nsIn K mainGlobals "enter_storm" = some (some (.ref center_storm)))
    {center_find : Addr} (xcl12 : PySem.W.nsIn K mainGlobals "enter_find" = some (some (.ref center_find)))
    {center_lend : Addr} (xcl13 : PySem.W.nsIn K mainGlobals "enter_lend" = some (some (.ref center_lend)))
    {center_pay : Addr} (xcl14 : PySem.W.nsIn K mainGlobals "enter_pay" = some (some (.ref center_pay)))
    {center_clear : Addr} (xcl15 : PySem.W.nsIn K mainGlobals "enter_clear" = some (some (.ref center_clear)))
    (a0 : PySem.W.nsIn K mainGlobals "rising" = some (some (.ref f0))) (l0 : K.lookup f0 = some ⟨oc0, od0, .func (PySem.W.fnOf "rising" "rising" (defArgs sRising) (defBody sRising) (defScope sRising) .none kV0 dc0 pm0 an0 cd0 ct0), sl0⟩) (c0 : PySem.W.codeIn K cd0 "rising" = true) (k0 : PySem.W.keepIn K (.ref f0) = true)
    (a1 : PySem.W.nsIn K mainGlobals "is_slip" = some (some (.ref f1))) (l1 : K.lookup f1 = some ⟨oc1, od1, .func (PySem.W.fnOf "is_slip" "is_slip" (defArgs sIsSlip) (defBody sIsSlip) (defScope sIsSlip) .none kV1 dc1 pm1 an1 cd1 ct1), sl1⟩) (c1 : PySem.W.codeIn K cd1 "is_slip" = true) (k1 : PySem.W.keepIn K (.ref f1) = true)
    (a2 : PySem.W.nsIn K mainGlobals "is_day" = some (some (.ref f2))) (l2 : K.lookup f2 = some ⟨oc2, od2, .func (PySem.W.fnOf "is_day" "is_day" (defArgs sIsDay) (defBody sIsDay) (defScope sIsDay) .none kV2 dc2 pm2 an2 cd2 ct2), sl2⟩) (c2 : PySem.W.codeIn K cd2 "is_day" = true) (k2 : PySem.W.keepIn K (.ref f2) = true)
    (a3 : PySem.W.nsIn K mainGlobals "need_slip" = some (some (.ref f3))) (l3 : K.lookup f3 = some ⟨oc3, od3, .func (PySem.W.fnOf "need_slip" "need_slip" (defArgs sNeedSlip) (defBody sNeedSlip) (defScope sNeedSlip) .none kV3 dc3 pm3 an3 cd3 ct3), sl3⟩) (c3 : PySem.W.codeIn K cd3 "need_slip" = true) (k3 : PySem.W.keepIn K (.ref f3) = true)
    (a4 : PySem.W.nsIn K mainGlobals "need_day" = some (some (.ref f4))) (l4 : K.lookup f4 = some ⟨oc4, od4, .func (PySem.W.fnOf "need_day" "need_day" (defArgs sNeedDay) (defBody sNeedDay) (defScope sNeedDay) .none kV4 dc4 pm4 an4 cd4 ct4), sl4⟩) (c4 : PySem.W.codeIn K cd4 "need_day" = true) (k4 : PySem.W.keepIn K (.ref f4) = true)
    (a5 : PySem.W.nsIn K mainGlobals "is_number" = some (some (.ref f5))) (l5 : K.lookup f5 = some ⟨oc5, od5, .func (PySem.W.fnOf "is_number" "is_number" (defArgs sIsNumber) (defBody sIsNumber) (defScope sIsNumber) .none kV5 dc5 pm5 an5 cd5 ct5), sl5⟩) (c5 : PySem.W.codeIn K cd5 "is_number" = true) (k5 : PySem.W.keepIn K (.ref f5) = true)
    (a6 : PySem.W.nsIn K mainGlobals "fell_is_sound" = some (some (.ref f6))) (l6 : K.lookup f6 = some ⟨oc6, od6, .func (PySem.W.fnOf "fell_is_sound" "fell_is_sound" (defArgs sFellIsSound) (defBody sFellIsSound) (defScope sFellIsSound) .none kV6 dc6 pm6 an6 cd6 ct6), sl6⟩) (c6 : PySem.W.codeIn K cd6 "fell_is_sound" = true) (k6 : PySem.W.keepIn K (.ref f6) = true)
    (a7 : PySem.W.nsIn K mainGlobals "sound" = some (some (.ref f7))) (l7 : K.lookup f7 = some ⟨oc7, od7, .func (PySem.W.fnOf "sound" "sound" (defArgs sSound) (defBody sSound) (defScope sSound) .none kV7 dc7 pm7 an7 cd7 ct7), sl7⟩) (c7 : PySem.W.codeIn K cd7 "sound" = true) (k7 : PySem.W.keepIn K (.ref f7) = true)
    (a8 : PySem.W.nsIn K mainGlobals "divisor" = some (some (.ref f8))) (l8 : K.lookup f8 = some ⟨oc8, od8, .func (PySem.W.fnOf "divisor" "divisor" (defArgs sDivisor) (defBody sDivisor) (defScope sDivisor) .none kV8 dc8 pm8 an8 cd8 ct8), sl8⟩) (c8 : PySem.W.codeIn K cd8 "divisor" = true) (k8 : PySem.W.keepIn K (.ref f8) = true)
    (a9 : PySem.W.nsIn K mainGlobals "lowest" = some (some (.ref f9))) (l9 : K.lookup f9 = some ⟨oc9, od9, .func (PySem.W.fnOf "lowest" "lowest" (defArgs sLowest) (defBody sLowest) (defScope sLowest) .none kV9 dc9 pm9 an9 cd9 ct9), sl9⟩) (c9 : PySem.W.codeIn K cd9 "lowest" = true) (k9 : PySem.W.keepIn K (.ref f9) = true)
    (a10 : PySem.W.findIn K (.ref cDebts) "__init__" = some (some (.ref f10))) (i10 : PySem.W.isFn K (.ref f10) = true) (l10 : K.lookup f10 = some ⟨oc10, od10, .func (PySem.W.fnOf "__init__" "Debts.__init__" (defArgs sDebtsInit) (defBody sDebtsInit) (defScope sDebtsInit) .none kV10 dc10 pm10 an10 cd10 ct10), sl10⟩) (c10 : PySem.W.codeIn K cd10 "Debts.__init__" = true) (k10 : PySem.W.keepIn K (.ref f10) = true)
    (a11 : PySem.W.findIn K (.ref cDebts) "owed_on" = some (some (.ref f11))) (i11 : PySem.W.isFn K (.ref f11) = true) (l11 : K.lookup f11 = some ⟨oc11, od11, .func (PySem.W.fnOf "owed_on" "Debts.owed_on" (defArgs sDebtsOwedOn) (defBody sDebtsOwedOn) (defScope sDebtsOwedOn) .none kV11 dc11 pm11 an11 cd11 ct11), sl11⟩) (c11 : PySem.W.codeIn K cd11 "Debts.owed_on" = true) (k11 : PySem.W.keepIn K (.ref f11) = true)
    (a12 : PySem.W.findIn K (.ref cDebts) "owed_all" = some (some (.ref f12))) (i12 : PySem.W.isFn K (.ref f12) = true) (l12 : K.lookup f12 = some ⟨oc12, od12, .func (PySem.W.fnOf "owed_all" "Debts.owed_all" (defArgs sDebtsOwedAll) (defBody sDebtsOwedAll) (defScope sDebtsOwedAll) .none kV12 dc12 pm12 an12 cd12 ct12), sl12⟩) (c12 : PySem.W.codeIn K cd12 "Debts.owed_all" = true) (k12 : PySem.W.keepIn K (.ref f12) = true)
    (a13 : PySem.W.findIn K (.ref cDebts) "paid" = some (some (.ref f13))) (i13 : PySem.W.isFn K (.ref f13) = true) (l13 : K.lookup f13 = some ⟨oc13, od13, .func (PySem.W.fnOf "paid" "Debts.paid" (defArgs sDebtsPaid) (defBody sDebtsPaid) (defScope sDebtsPaid) .none kV13 dc13 pm13 an13 cd13 ct13), sl13⟩) (c13 : PySem.W.codeIn K cd13 "Debts.paid" = true) (k13 : PySem.W.keepIn K (.ref f13) = true)
    (a14 : PySem.W.findIn K (.ref cDebts) "lent" = some (some (.ref f14))) (i14 : PySem.W.isFn K (.ref f14) = true) (l14 : K.lookup f14 = some ⟨oc14, od14, .func (PySem.W.fnOf "lent" "Debts.lent" (defArgs sDebtsLent) (defBody sDebtsLent) (defScope sDebtsLent) .none kV14 dc14 pm14 an14 cd14 ct14), sl14⟩) (c14 : PySem.W.codeIn K cd14 "Debts.lent" = true) (k14 : PySem.W.keepIn K (.ref f14) = true)
    (a15 : PySem.W.findIn K (.ref cYard) "__init__" = some (some (.ref f15))) (i15 : PySem.W.isFn K (.ref f15) = true) (l15 : K.lookup f15 = some ⟨oc15, od15, .func (PySem.W.fnOf "__init__" "Yard.__init__" (defArgs sYardInit) (defBody sYardInit) (defScope sYardInit) .none kV15 dc15 pm15 an15 cd15 ct15), sl15⟩) (c15 : PySem.W.codeIn K cd15 "Yard.__init__" = true) (k15 : PySem.W.keepIn K (.ref f15) = true)
    (a16 : PySem.W.findIn K (.ref cYard) "lies" = some (some (.ref f16))) (i16 : PySem.W.isFn K (.ref f16) = true) (l16 : K.lookup f16 = some ⟨oc16, od16, .func (PySem.W.fnOf "lies" "Yard.lies" (defArgs sYardLies) (defBody sYardLies) (defScope sYardLies) .none kV16 dc16 pm16 an16 cd16 ct16), sl16⟩) (c16 : PySem.W.codeIn K cd16 "Yard.lies" = true) (k16 : PySem.W.keepIn K (.ref f16) = true)
    (a17 : PySem.W.findIn K (.ref cYard) "today" = some (some (.ref f17))) (i17 : PySem.W.isFn K (.ref f17) = true) (l17 : K.lookup f17 = some ⟨oc17, od17, .func (PySem.W.fnOf "today" "Yard.today" (defArgs sYardToday) (defBody sYardToday) (defScope sYardToday) .none kV17 dc17 pm17 an17 cd17 ct17), sl17⟩) (c17 : PySem.W.codeIn K cd17 "Yard.today" = true) (k17 : PySem.W.keepIn K (.ref f17) = true)
    (a18 : PySem.W.findIn K (.ref cYard) "slip" = some (some (.ref f18))) (i18 : PySem.W.isFn K (.ref f18) = true) (l18 : K.lookup f18 = some ⟨oc18, od18, .func (PySem.W.fnOf "slip" "Yard.slip" (defArgs sYardSlip) (defBody sYardSlip) (defScope sYardSlip) .none kV18 dc18 pm18 an18 cd18 ct18), sl18⟩) (c18 : PySem.W.codeIn K cd18 "Yard.slip" = true) (k18 : PySem.W.keepIn K (.ref f18) = true)
    (a19 : PySem.W.findIn K (.ref cYard) "felled" = some (some (.ref f19))) (i19 : PySem.W.isFn K (.ref f19) = true) (l19 : K.lookup f19 = some ⟨oc19, od19, .func (PySem.W.fnOf "felled" "Yard.felled" (defArgs sYardFelled) (defBody sYardFelled) (defScope sYardFelled) .none kV19 dc19 pm19 an19 cd19 ct19), sl19⟩) (c19 : PySem.W.codeIn K cd19 "Yard.felled" = true) (k19 : PySem.W.keepIn K (.ref f19) = true)
    (a20 : PySem.W.findIn K (.ref cYard) "lent" = some (some (.ref f20))) (i20 : PySem.W.isFn K (.ref f20) = true) (l20 : K.lookup f20 = some ⟨oc20, od20, .func (PySem.W.fnOf "lent" "Yard.lent" (defArgs sYardLent) (defBody sYardLent) (defScope sYardLent) .none kV20 dc20 pm20 an20 cd20 ct20), sl20⟩) (c20 : PySem.W.codeIn K cd20 "Yard.lent" = true) (k20 : PySem.W.keepIn K (.ref f20) = true)
    (a21 : PySem.W.findIn K (.ref cYard) "paid" = some (some (.ref f21))) (i21 : PySem.W.isFn K (.ref f21) = true) (l21 : K.lookup f21 = some ⟨oc21, od21, .func (PySem.W.fnOf "paid" "Yard.paid" (defArgs sYardPaid) (defBody sYardPaid) (defScope sYardPaid) .none kV21 dc21 pm21 an21 cd21 ct21), sl21⟩) (c21 : PySem.W.codeIn K cd21 "Yard.paid" = true) (k21 : PySem.W.keepIn K (.ref f21) = true)
    (a22 : PySem.W.findIn K (.ref cYard) "owed_all" = some (some (.ref f22))) (i22 : PySem.W.isFn K (.ref f22) = true) (l22 : K.lookup f22 = some ⟨oc22, od22, .func (PySem.W.fnOf "owed_all" "Yard.owed_all" (defArgs sYardOwedAll) (defBody sYardOwedAll) (defScope sYardOwedAll) .none kV22 dc22 pm22 an22 cd22 ct22), sl22⟩) (c22 : PySem.W.codeIn K cd22 "Yard.owed_all" = true) (k22 : PySem.W.keepIn K (.ref f22) = true)
    (a23 : PySem.W.findIn K (.ref cYard) "owed_on" = some (some (.ref f23))) (i23 : PySem.W.isFn K (.ref f23) = true) (l23 : K.lookup f23 = some ⟨oc23, od23, .func (PySem.W.fnOf "owed_on" "Yard.owed_on" (defArgs sYardOwedOn) (defBody sYardOwedOn) (defScope sYardOwedOn) .none kV23 dc23 pm23 an23 cd23 ct23), sl23⟩) (c23 : PySem.W.codeIn K cd23 "Yard.owed_on" = true) (k23 : PySem.W.keepIn K (.ref f23) = true)
    (a24 : PySem.W.findIn K (.ref cYard) "line" = some (some (.ref f24))) (i24 : PySem.W.isFn K (.ref f24) = true) (l24 : K.lookup f24 = some ⟨oc24, od24, .func (PySem.W.fnOf "line" "Yard.line" (defArgs sYardLine) (defBody sYardLine) (defScope sYardLine) .none kV24 dc24 pm24 an24 cd24 ct24), sl24⟩) (c24 : PySem.W.codeIn K cd24 "Yard.line" = true) (k24 : PySem.W.keepIn K (.ref f24) = true)
    (a25 : PySem.W.findIn K (.ref cYard) "place" = some (some (.ref f25))) (i25 : PySem.W.isFn K (.ref f25) = true) (l25 : K.lookup f25 = some ⟨oc25, od25, .func (PySem.W.fnOf "place" "Yard.place" (defArgs sYardPlace) (defBody sYardPlace) (defScope sYardPlace) .none kV25 dc25 pm25 an25 cd25 ct25), sl25⟩) (c25 : PySem.W.codeIn K cd25 "Yard.place" = true) (k25 : PySem.W.keepIn K (.ref f25) = true)
    (a26 : PySem.W.findIn K (.ref cYard) "lying" = some (some (.ref f26))) (i26 : PySem.W.isFn K (.ref f26) = true) (l26 : K.lookup f26 = some ⟨oc26, od26, .func (PySem.W.fnOf "lying" "Yard.lying" (defArgs sYardLying) (defBody sYardLying) (defScope sYardLying) .none kV26 dc26 pm26 an26 cd26 ct26), sl26⟩) (c26 : PySem.W.codeIn K cd26 "Yard.lying" = true) (k26 : PySem.W.keepIn K (.ref f26) = true)
    (a27 : PySem.W.findIn K (.ref cYard) "loose" = some (some (.ref f27))) (i27 : PySem.W.isFn K (.ref f27) = true) (l27 : K.lookup f27 = some ⟨oc27, od27, .func (PySem.W.fnOf "loose" "Yard.loose" (defArgs sYardLoose) (defBody sYardLoose) (defScope sYardLoose) .none kV27 dc27 pm27 an27 cd27 ct27), sl27⟩) (c27 : PySem.W.codeIn K cd27 "Yard.loose" = true) (k27 : PySem.W.keepIn K (.ref f27) = true)
    (a28 : PySem.W.findIn K (.ref cYard) "lost" = some (some (.ref f28))) (i28 : PySem.W.isFn K (.ref f28) = true) (l28 : K.lookup f28 = some ⟨oc28, od28, .func (PySem.W.fnOf "lost" "Yard.lost" (defArgs sYardLost) (defBody sYardLost) (defScope sYardLost) .none kV28 dc28 pm28 an28 cd28 ct28), sl28⟩) (c28 : PySem.W.codeIn K cd28 "Yard.lost" = true) (k28 : PySem.W.keepIn K (.ref f28) = true)
    (a29 : PySem.W.findIn K (.ref cYard) "names" = some (some (.ref f29))) (i29 : PySem.W.isFn K (.ref f29) = true) (l29 : K.lookup f29 = some ⟨oc29, od29, .func (PySem.W.fnOf "names" "Yard.names" (defArgs sYardNames) (defBody sYardNames) (defScope sYardNames) .none kV29 dc29 pm29 an29 cd29 ct29), sl29⟩) (c29 : PySem.W.codeIn K cd29 "Yard.names" = true) (k29 : PySem.W.keepIn K (.ref f29) = true)
    (a30 : PySem.W.findIn K (.ref cYard) "boats" = some (some (.ref f30))) (i30 : PySem.W.isFn K (.ref f30) = true) (l30 : K.lookup f30 = some ⟨oc30, od30, .func (PySem.W.fnOf "boats" "Yard.boats" (defArgs sYardBoats) (defBody sYardBoats) (defScope sYardBoats) .none kV30 dc30 pm30 an30 cd30 ct30), sl30⟩) (c30 : PySem.W.codeIn K cd30 "Yard.boats" = true) (k30 : PySem.W.keepIn K (.ref f30) = true)
    (a31 : PySem.W.findIn K (.ref cYard) "move" = some (some (.ref f31))) (i31 : PySem.W.isFn K (.ref f31) = true) (l31 : K.lookup f31 = some ⟨oc31, od31, .func (PySem.W.fnOf "move" "Yard.move" (defArgs sYardMove) (defBody sYardMove) (defScope sYardMove) .none kV31 dc31 pm31 an31 cd31 ct31), sl31⟩) (c31 : PySem.W.codeIn K cd31 "Yard.move" = true) (k31 : PySem.W.keepIn K (.ref f31) = true)
    (a32 : PySem.W.nsIn K mainGlobals "enter_fell" = some (some (.ref f32))) (l32 : K.lookup f32 = some ⟨oc32, od32, .func (PySem.W.fnOf "enter_fell" "enter_fell" (defArgs sEnterFell) (defBody sEnterFell) (defScope sEnterFell) .none kV32 dc32 pm32 an32 cd32 ct32), sl32⟩) (c32 : PySem.W.codeIn K cd32 "enter_fell" = true) (k32 : PySem.W.keepIn K (.ref f32) = true)
    (a33 : PySem.W.findIn K (.ref cYard) "enter" = some (some (.ref f33))) (i33 : PySem.W.isFn K (.ref f33) = true) (l33 : K.lookup f33 = some ⟨oc33, od33, .func (PySem.W.fnOf "enter" "Yard.enter" (defArgs sYardEnter) (defBody sYardEnter) (defScope sYardEnter) .none kV33 dc33 pm33 an33 cd33 ct33), sl33⟩) (c33 : PySem.W.codeIn K cd33 "Yard.enter" = true) (k33 : PySem.W.keepIn K (.ref f33) = true)
    (a34 : PySem.W.nsIn K mainGlobals "_law_begin" = some (some (.ref f34))) (l34 : K.lookup f34 = some ⟨oc34, od34, .func (PySem.W.fnOf "_law_begin" "_law_begin" (defArgs sLawBegin) (defBody sLawBegin) (defScope sLawBegin) .none kV34 dc34 pm34 an34 cd34 ct34), sl34⟩) (c34 : PySem.W.codeIn K cd34 "_law_begin" = true) (k34 : PySem.W.keepIn K (.ref f34) = true)
    (a35 : PySem.W.nsIn K mainGlobals "_law_take" = some (some (.ref f35))) (l35 : K.lookup f35 = some ⟨oc35, od35, .func (PySem.W.fnOf "_law_take" "_law_take" (defArgs sLawTake) (defBody sLawTake) (defScope sLawTake) .none kV35 dc35 pm35 an35 cd35 ct35), sl35⟩) (c35 : PySem.W.codeIn K cd35 "_law_take" = true) (k35 : PySem.W.keepIn K (.ref f35) = true)
    (a36 : PySem.W.nsIn K mainGlobals "_law_same" = some (some (.ref f36))) (l36 : K.lookup f36 = some ⟨oc36, od36, .func (PySem.W.fnOf "_law_same" "_law_same" (defArgs sLawSame) (defBody sLawSame) (defScope sLawSame) .none kV36 dc36 pm36 an36 cd36 ct36), sl36⟩) (c36 : PySem.W.codeIn K cd36 "_law_same" = true) (k36 : PySem.W.keepIn K (.ref f36) = true)
    (a37 : PySem.W.nsIn K mainGlobals "_law_slip" = some (some (.ref f37))) (l37 : K.lookup f37 = some ⟨oc37, od37, .func (PySem.W.fnOf "_law_slip" "_law_slip" (defArgs sLawSlip) (defBody sLawSlip) (defScope sLawSlip) .none kV37 dc37 pm37 an37 cd37 ct37), sl37⟩) (c37 : PySem.W.codeIn K cd37 "_law_slip" = true) (k37 : PySem.W.keepIn K (.ref f37) = true)
    (a38 : PySem.W.nsIn K mainGlobals "_law_all" = some (some (.ref f38))) (l38 : K.lookup f38 = some ⟨oc38, od38, .func (PySem.W.fnOf "_law_all" "_law_all" (defArgs sLawAll) (defBody sLawAll) (defScope sLawAll) .none kV38 dc38 pm38 an38 cd38 ct38), sl38⟩) (c38 : PySem.W.codeIn K cd38 "_law_all" = true) (k38 : PySem.W.keepIn K (.ref f38) = true)
    (a39 : PySem.W.nsIn K mainGlobals "_law_new" = some (some (.ref f39))) (l39 : K.lookup f39 = some ⟨oc39, od39, .func (PySem.W.fnOf "_law_new" "_law_new" (defArgs sLawNew) (defBody sLawNew) (defScope sLawNew) .none kV39 dc39 pm39 an39 cd39 ct39), sl39⟩) (c39 : PySem.W.codeIn K cd39 "_law_new" = true) (k39 : PySem.W.keepIn K (.ref f39) = true)
    (a40 : PySem.W.nsIn K mainGlobals "_law_place" = some (some (.ref f40))) (l40 : K.lookup f40 = some ⟨oc40, od40, .func (PySem.W.fnOf "_law_place" "_law_place" (defArgs sLawPlace) (defBody sLawPlace) (defScope sLawPlace) .none kV40 dc40 pm40 an40 cd40 ct40), sl40⟩) (c40 : PySem.W.codeIn K cd40 "_law_place" = true) (k40 : PySem.W.keepIn K (.ref f40) = true)
    (a41 : PySem.W.nsIn K mainGlobals "_law_loose" = some (some (.ref f41))) (l41 : K.lookup f41 = some ⟨oc41, od41, .func (PySem.W.fnOf "_law_loose" "_law_loose" (defArgs sLawLoose) (defBody sLawLoose) (defScope sLawLoose) .none kV41 dc41 pm41 an41 cd41 ct41), sl41⟩) (c41 : PySem.W.codeIn K cd41 "_law_loose" = true) (k41 : PySem.W.keepIn K (.ref f41) = true)
    (a42 : PySem.W.nsIn K mainGlobals "_law_idle" = some (some (.ref f42))) (l42 : K.lookup f42 = some ⟨oc42, od42, .func (PySem.W.fnOf "_law_idle" "_law_idle" (defArgs sLawIdle) (defBody sLawIdle) (defScope sLawIdle) .none kV42 dc42 pm42 an42 cd42 ct42), sl42⟩) (c42 : PySem.W.codeIn K cd42 "_law_idle" = true) (k42 : PySem.W.keepIn K (.ref f42) = true)
    (a43 : PySem.W.nsIn K mainGlobals "_law_enter" = some (some (.ref f43))) (l43 : K.lookup f43 = some ⟨oc43, od43, .func (PySem.W.fnOf "_law_enter" "_law_enter" (defArgs sLawEnter) (defBody sLawEnter) (defScope sLawEnter) .none kV43 dc43 pm43 an43 cd43 ct43), sl43⟩) (c43 : PySem.W.codeIn K cd43 "_law_enter" = true) (k43 : PySem.W.keepIn K (.ref f43) = true)
    (a44 : PySem.W.nsIn K mainGlobals "_law_due" = some (some (.ref f44))) (l44 : K.lookup f44 = some ⟨oc44, od44, .func (PySem.W.fnOf "_law_due" "_law_due" (defArgs sLawDue) (defBody sLawDue) (defScope sLawDue) .none kV44 dc44 pm44 an44 cd44 ct44), sl44⟩) (c44 : PySem.W.codeIn K cd44 "_law_due" = true) (k44 : PySem.W.keepIn K (.ref f44) = true)
    (a45 : PySem.W.nsIn K mainGlobals "_law_look" = some (some (.ref f45))) (l45 : K.lookup f45 = some ⟨oc45, od45, .func (PySem.W.fnOf "_law_look" "_law_look" (defArgs sLawLook) (defBody sLawLook) (defScope sLawLook) .none kV45 dc45 pm45 an45 cd45 ct45), sl45⟩) (c45 : PySem.W.codeIn K cd45 "_law_look" = true) (k45 : PySem.W.keepIn K (.ref f45) = true)
    (a46 : PySem.W.nsIn K mainGlobals "law" = some (some (.ref f46))) (l46 : K.lookup f46 = some ⟨oc46, od46, .func (PySem.W.fnOf "law" "law" (defArgs sLaw) (defBody sLaw) (defScope sLaw) .none kV46 dc46 pm46 an46 cd46 ct46), sl46⟩) (c46 : PySem.W.codeIn K cd46 "law" = true) (k46 : PySem.W.keepIn K (.ref f46) = true)
    {gt0 : Tok} (g0 : PySem.W.nsIn K mainGlobals "MOST_TIMBERS" = some (some (.int 60 gt0)))
    {gt1 : Tok} (g1 : PySem.W.nsIn K mainGlobals "LAST_DAY" = some (some (.int 400 gt1)))
    {gt2 : Tok} (g2 : PySem.W.nsIn K mainGlobals "MOST_SLIP" = some (some (.int 12 gt2)))
    (fct0 : (PySem.W.plainGet K cYard Str.empty = true))
    (fct1 : (PySem.W.hasDictIn K cYard = true))
    (fct2 : (PySem.W.plainOver K cYard = true))
    (fct3 : (PySem.W.findIn K (.ref cYard) "__setattr__" = some (some (.builtin "object.__setattr__"))))
    (fct4 : (PySem.W.findIn K (.ref cYard) "most" = some none))
    (fct5 : (PySem.W.findIn K (.ref cYard) "day" = some none))
    (fct6 : (PySem.W.findIn K (.ref cYard) "lines" = some none))
    (fct7 : (PySem.W.findIn K (.ref cYard) "chains" = some none))
    (fct8 : (PySem.W.findIn K (.ref cYard) "ends" = some none))
    (fct9 : (PySem.W.findIn K (.ref cYard) "debts" = some none))
    (fct10 : (PySem.W.makesIn K cYard = true))
    (fct11 : (PySem.W.keepIn K (.ref cYard) = true))
    (fct12 : (PySem.W.plainGet K cDebts Str.empty = true))
    (fct13 : (PySem.W.hasDictIn K cDebts = true))
    (fct14 : (PySem.W.plainOver K cDebts = true))
    (fct15 : (PySem.W.findIn K (.ref cDebts) "__setattr__" = some (some (.builtin "object.__setattr__"))))
    (fct16 : (PySem.W.findIn K (.ref cDebts) "shares" = some none))
    (fct17 : (PySem.W.findIn K (.ref cDebts) "by_name" = some none))
    (fct18 : (PySem.W.findIn K (.ref cDebts) "by_timber" = some none))
    (fct19 : (PySem.W.findIn K (.ref cDebts) "coins" = some none))
    (fct20 : (PySem.W.findIn K (.ref cDebts) "settled" = some none))
    (fct21 : (PySem.W.makesIn K cDebts = true))
    (fct22 : (PySem.W.keepIn K (.ref cDebts) = true))
    (fct23 : (wdLook K cLOOSE "loose" = true))
    (fct24 : (wdLook K cLOST "lost" = true))
    (fct25 : (TabK K cSOUND (tabS f6 crefit_is_sound cmoving_is_sound cmoney_is_sound cclear_is_sound)))
    (fct26 : (TabK K cENTER (tabE f32 center_refit center_storm center_find center_lend center_pay center_clear)))
    (z0 : PySem.W.nsIn K mainGlobals "len" = some none) (z1 : PySem.W.nsIn K mainGlobals "abs" = some none) (z2 : PySem.W.nsIn K mainGlobals "all" = some none) (z3 : PySem.W.nsIn K mainGlobals "isinstance" = some none) (z4 : PySem.W.nsIn K mainGlobals "zip" = some none) (z5 : PySem.W.nsIn K mainGlobals "list" = some none) (z6 : PySem.W.nsIn K mainGlobals "tuple" = some none) (z7 : PySem.W.nsIn K mainGlobals "bool" = some none) (z8 : PySem.W.nsIn K mainGlobals "int" = some none) (z9 : PySem.W.nsIn K mainGlobals "str" = some none) (z10 : PySem.W.nsIn K mainGlobals "range" = some none) (z11 : PySem.W.nsIn K mainGlobals "sorted" = some none) (z12 : PySem.W.nsIn K mainGlobals "set" = some none) (z13 : PySem.W.nsIn K mainGlobals "min" = some none) (z14 : PySem.W.nsIn K mainGlobals "max" = some none) (z15 : PySem.W.nsIn K mainGlobals "sum" = some none) (z16 : PySem.W.nsIn K mainGlobals "enumerate" = some none) :
    ∃ fd : FuncData, (∀ (s : Shared) (v : Value), BindsTo s fd ⟨[v], []⟩ [("_law_script", v)]) ∧ ∀ base : Heap, K.In base → base.Ns mainGlobals mg → FnOk l.prog w K mg base CX0 12 fa fd ["_law_script"] (spLaw K) := by
  have e := hfa.symm.trans (PySem.W.mg_of X G a46)
  cases e
  have T : BltM mg := { toBlt := ⟨PySem.W.mg_none_of X G z0, PySem.W.mg_none_of X G z1, PySem.W.mg_none_of X G z2, PySem.W.mg_none_of X G z3, PySem.W.mg_none_of X G z4, PySem.W.mg_none_of X G z5, PySem.W.mg_none_of X G z6, PySem.W.mg_none_of X G z7, PySem.W.mg_none_of X G z8, PySem.W.mg_none_of X G z9, PySem.W.mg_none_of X G z10, PySem.W.mg_none_of X G z11, PySem.W.mg_none_of X G z12⟩, z_min := PySem.W.mg_none_of X G z13, z_max := PySem.W.mg_none_of X G z14, z_sum := PySem.W.mg_none_of X G z15, z_enumerate := PySem.W.mg_none_of X G z16 }
  have C0 := PySem.W.mg_of X G g0
  have C1 := PySem.W.mg_of X G g1
  have C2 := PySem.W.mg_of X G g2
  have hYard := PySem.W.mg_of X G xcl0
  have hDebts := PySem.W.mg_of X G xcl1
  have hSOUND := PySem.W.mg_of X G xcl2
  have hENTER := PySem.W.mg_of X G xcl3
  have hLOOSE := PySem.W.mg_of X G xcl4
  have hLOST := PySem.W.mg_of X G xcl5
  have hrefit_is_sound := PySem.W.mg_of X G xcl6
  have hmoving_is_sound := PySem.W.mg_of X G xcl7
  have hmoney_is_sound := PySem.W.mg_of X G xcl8
  have hclear_is_sound := PySem.W.mg_of X G xcl9
  have henter_refit := PySem.W.mg_of X G xcl10
  have henter_storm := PySem.W.mg_of X G xcl11
  have henter_find := PySem.W.mg_of X G xcl12
  have henter_lend := PySem.W.mg_of X G xcl13
  have henter_pay := PySem.W.mg_of X G xcl14
  have henter_clear := PySem.W.mg_of X G xcl15
  have Y : ClsY K cYard := ⟨⟨fct0, fct1, fct2, fct3⟩, fct4, fct5, fct6, fct7, fct8, fct9⟩
  have mkYard := fct10
  have kcYard := fct11
  have D : ClsD K cDebts := ⟨⟨fct12, fct13, fct14, fct15⟩, fct16, fct17, fct18, fct19, fct20⟩
  have mkDebts := fct21
  have kcDebts := fct22
  have wL : ∀ H, SqT K H cLOOSE [.str (plW true)] := wd_of fct23
  have wX : ∀ H, SqT K H cLOST [.str (plW false)] := wd_of fct24
  have tS := fct25
  have tE := fct26
  have F0 := fun_mk (st := sRising) l0 c0 k0
  have b0 := F0.binds (ps := ["timbers"]) fun _ _ _ _ _ _ us hl => len_1 (fun _ => rfl) us hl
  have m0 := PySem.W.mg_of X G a0
  have F1 := fun_mk (st := sIsSlip) l1 c1 k1
  have b1 := F1.binds (ps := ["number"]) fun _ _ _ _ _ _ us hl => len_1 (fun _ => rfl) us hl
  have m1 := PySem.W.mg_of X G a1
  have F2 := fun_mk (st := sIsDay) l2 c2 k2
  have b2 := F2.binds (ps := ["number"]) fun _ _ _ _ _ _ us hl => len_1 (fun _ => rfl) us hl
  have m2 := PySem.W.mg_of X G a2
  have F3 := fun_mk (st := sNeedSlip) l3 c3 k3
  have b3 := F3.binds (ps := ["number"]) fun _ _ _ _ _ _ us hl => len_1 (fun _ => rfl) us hl
  have m3 := PySem.W.mg_of X G a3
  have F4 := fun_mk (st := sNeedDay) l4 c4 k4
  have b4 := F4.binds (ps := ["number"]) fun _ _ _ _ _ _ us hl => len_1 (fun _ => rfl) us hl
  have m4 := PySem.W.mg_of X G a4
  have F5 := fun_mk (st := sIsNumber) l5 c5 k5
  have b5 := F5.binds (ps := ["thing"]) fun _ _ _ _ _ _ us hl => len_1 (fun _ => rfl) us hl
  have m5 := PySem.W.mg_of X G a5
  have F6 := fun_mk (st := sFellIsSound) l6 c6 k6
  have b6 := F6.binds (ps := ["slip", "asked"]) fun _ _ _ _ _ _ us hl => len_2 (fun _ _ => rfl) us hl
  have m6 := PySem.W.mg_of X G a6
  have F7 := fun_mk (st := sSound) l7 c7 k7
  have b7 := F7.binds (ps := ["slip", "fact"]) fun _ _ _ _ _ _ us hl => len_2 (fun _ _ => rfl) us hl
  have m7 := PySem.W.mg_of X G a7
  have F8 := fun_mk (st := sDivisor) l8 c8 k8
  have b8 := F8.binds (ps := ["one", "other"]) fun _ _ _ _ _ _ us hl => len_2 (fun _ _ => rfl) us hl
  have m8 := PySem.W.mg_of X G a8
  have F9 := fun_mk (st := sLowest) l9 c9 k9
  have b9 := F9.binds (ps := ["top", "bottom"]) fun _ _ _ _ _ _ us hl => len_2 (fun _ _ => rfl) us hl
  have m9 := PySem.W.mg_of X G a9
  have F10 := fun_mk (st := sDebtsInit) l10 c10 k10
  have b10 := F10.binds (ps := ["self"]) fun _ _ _ _ _ _ us hl => len_1 (fun _ => rfl) us hl
  have F11 := fun_mk (st := sDebtsOwedOn) l11 c11 k11
  have b11 := F11.binds (ps := ["self", "timber"]) fun _ _ _ _ _ _ us hl => len_2 (fun _ _ => rfl) us hl
  have F12 := fun_mk (st := sDebtsOwedAll) l12 c12 k12
  have b12 := F12.binds (ps := ["self"]) fun _ _ _ _ _ _ us hl => len_1 (fun _ => rfl) us hl
  have F13 := fun_mk (st := sDebtsPaid) l13 c13 k13
  have b13 := F13.binds (ps := ["self"]) fun _ _ _ _ _ _ us hl => len_1 (fun _ => rfl) us hl
  have F14 := fun_mk (st := sDebtsLent) l14 c14 k14
  have b14 := F14.binds (ps := ["self"]) fun _ _ _ _ _ _ us hl => len_1 (fun _ => rfl) us hl
  have F15 := fun_mk (st := sYardInit) l15 c15 k15
  have b15 := F15.binds (ps := ["self", "slip"]) fun _ _ _ _ _ _ us hl => len_2 (fun _ _ => rfl) us hl
  have F16 := fun_mk (st := sYardLies) l16 c16 k16
  have b16 := F16.binds (ps := ["self", "timber"]) fun _ _ _ _ _ _ us hl => len_2 (fun _ _ => rfl) us hl
  have F17 := fun_mk (st := sYardToday) l17 c17 k17
  have b17 := F17.binds (ps := ["self"]) fun _ _ _ _ _ _ us hl => len_1 (fun _ => rfl) us hl
  have F18 := fun_mk (st := sYardSlip) l18 c18 k18
  have b18 := F18.binds (ps := ["self"]) fun _ _ _ _ _ _ us hl => len_1 (fun _ => rfl) us hl
  have F19 := fun_mk (st := sYardFelled) l19 c19 k19
  have b19 := F19.binds (ps := ["self"]) fun _ _ _ _ _ _ us hl => len_1 (fun _ => rfl) us hl
  have F20 := fun_mk (st := sYardLent) l20 c20 k20
  have b20 := F20.binds (ps := ["self"]) fun _ _ _ _ _ _ us hl => len_1 (fun _ => rfl) us hl
  have F21 := fun_mk (st := sYardPaid) l21 c21 k21
  have b21 := F21.binds (ps := ["self"]) fun _ _ _ _ _ _ us hl => len_1 (fun _ => rfl) us hl
  have F22 := fun_mk (st := sYardOwedAll) l22 c22 k22
  have b22 := F22.binds (ps := ["self"]) fun _ _ _ _ _ _ us hl => len_1 (fun _ => rfl) us hl
  have F23 := fun_mk (st := sYardOwedOn) l23 c23 k23
  have b23 := F23.binds (ps := ["self", "timber"]) fun _ _ _ _ _ _ us hl => len_2 (fun _ _ => rfl) us hl
  have F24 := fun_mk (st := sYardLine) l24 c24 k24
  have b24 := F24.binds (ps := ["self", "timber"]) fun _ _ _ _ _ _ us hl => len_2 (fun _ _ => rfl) us hl
  have F25 := fun_mk (st := sYardPlace) l25 c25 k25
  have b25 := F25.binds (ps := ["self", "timber"]) fun _ _ _ _ _ _ us hl => len_2 (fun _ _ => rfl) us hl
  have F26 := fun_mk (st := sYardLying) l26 c26 k26
  have b26 := F26.binds (ps := ["self", "place"]) fun _ _ _ _ _ _ us hl => len_2 (fun _ _ => rfl) us hl
  have F27 := fun_mk (st := sYardLoose) l27 c27 k27
  have b27 := F27.binds (ps := ["self"]) fun _ _ _ _ _ _ us hl => len_1 (fun _ => rfl) us hl
  have F28 := fun_mk (st := sYardLost) l28 c28 k28
  have b28 := F28.binds (ps := ["self"]) fun _ _ _ _ _ _ us hl => len_1 (fun _ => rfl) us hl
  have F29 := fun_mk (st := sYardNames) l29 c29 k29
  have b29 := F29.binds (ps := ["self"]) fun _ _ _ _ _ _ us hl => len_1 (fun _ => rfl) us hl
  have F30 := fun_mk (st := sYardBoats) l30 c30 k30
  have b30 := F30.binds (ps := ["self"]) fun _ _ _ _ _ _ us hl => len_1 (fun _ => rfl) us hl
  have F31 := fun_mk (st := sYardMove) l31 c31 k31
  have b31 := F31.binds (ps := ["self", "timber", "place"]) fun _ _ _ _ _ _ us hl => len_3 (fun _ _ _ => rfl) us hl
  have F32 := fun_mk (st := sEnterFell) l32 c32 k32
  have b32 := F32.binds (ps := ["yard", "fact"]) fun _ _ _ _ _ _ us hl => len_2 (fun _ _ => rfl) us hl
  have m32 := PySem.W.mg_of X G a32
  have F33 := fun_mk (st := sYardEnter) l33 c33 k33
  have b33 := F33.binds (ps := ["self", "day", "fact"]) fun _ _ _ _ _ _ us hl => len_3 (fun _ _ _ => rfl) us hl
  have F34 := fun_mk (st := sLawBegin) l34 c34 k34
  have b34 := F34.binds (ps := ["_law_script"]) fun _ _ _ _ _ _ us hl => len_1 (fun _ => rfl) us hl
  have m34 := PySem.W.mg_of X G a34
  have F35 := fun_mk (st := sLawTake) l35 c35 k35
  have b35 := F35.binds (ps := ["_law_draw", "_law_many"]) fun _ _ _ _ _ _ us hl => len_2 (fun _ _ => rfl) us hl
  have m35 := PySem.W.mg_of X G a35
  have F36 := fun_mk (st := sLawSame) l36 c36 k36
  have b36 := F36.binds (ps := ["_law_found", "_law_due_here"]) fun _ _ _ _ _ _ us hl => len_2 (fun _ _ => rfl) us hl
  have m36 := PySem.W.mg_of X G a36
  have F37 := fun_mk (st := sLawSlip) l37 c37 k37
  have b37 := F37.binds (ps := ["_law_draw"]) fun _ _ _ _ _ _ us hl => len_1 (fun _ => rfl) us hl
  have m37 := PySem.W.mg_of X G a37
  have F38 := fun_mk (st := sLawAll) l38 c38 k38
  have b38 := F38.binds (ps := ["_law_parts"]) fun _ _ _ _ _ _ us hl => len_1 (fun _ => rfl) us hl
  have m38 := PySem.W.mg_of X G a38
  have F39 := fun_mk (st := sLawNew) l39 c39 k39
  have b39 := F39.binds (ps := ["_law_slip_here"]) fun _ _ _ _ _ _ us hl => len_1 (fun _ => rfl) us hl
  have m39 := PySem.W.mg_of X G a39
  have F40 := fun_mk (st := sLawPlace) l40 c40 k40
  have b40 := F40.binds (ps := ["_law_m", "_law_timber"]) fun _ _ _ _ _ _ us hl => len_2 (fun _ _ => rfl) us hl
  have m40 := PySem.W.mg_of X G a40
  have F41 := fun_mk (st := sLawLoose) l41 c41 k41
  have b41 := F41.binds (ps := ["_law_m"]) fun _ _ _ _ _ _ us hl => len_1 (fun _ => rfl) us hl
  have m41 := PySem.W.mg_of X G a41
  have F42 := fun_mk (st := sLawIdle) l42 c42 k42
  have b42 := F42.binds (ps := ["_law_m", "_law_fact"]) fun _ _ _ _ _ _ us hl => len_2 (fun _ _ => rfl) us hl
  have m42 := PySem.W.mg_of X G a42
  have F43 := fun_mk (st := sLawEnter) l43 c43 k43
  have b43 := F43.binds (ps := ["_law_m", "_law_day", "_law_fact"]) fun _ _ _ _ _ _ us hl => len_3 (fun _ _ _ => rfl) us hl
  have m43 := PySem.W.mg_of X G a43
  have F44 := fun_mk (st := sLawDue) l44 c44 k44
  have b44 := F44.binds (ps := ["_law_m"]) fun _ _ _ _ _ _ us hl => len_1 (fun _ => rfl) us hl
  have m44 := PySem.W.mg_of X G a44
  have F45 := fun_mk (st := sLawLook) l45 c45 k45
  have b45 := F45.binds (ps := ["_law_yard"]) fun _ _ _ _ _ _ us hl => len_1 (fun _ => rfl) us hl
  have m45 := PySem.W.mg_of X G a45
  have F46 := fun_mk (st := sLaw) l46 c46 k46
  refine ⟨PySem.W.fnOf "law" "law" (defArgs sLaw) (defBody sLaw) (defScope sLaw) .none kV46 dc46 pm46 an46 cd46 ct46, fun s v => .of_eq rfl, fun base _ _ => ?_⟩
  have c_rising : Cal l.prog w K mg base "rising" 1 ["timbers"] (spRis K) := ⟨_, _, ok_rising F0 T, m0, k0, b0⟩
  have c_is_slip : Cal l.prog w K mg base "is_slip" 1 ["number"] (spIn 1 12) := ⟨_, _, ok_is_slip F1 C2, m1, k1, b1⟩
  have c_is_day : Cal l.prog w K mg base "is_day" 1 ["number"] (spIn 1 400) := ⟨_, _, ok_is_day F2 C1, m2, k2, b2⟩
  have c_need_slip : Cal l.prog w K mg base "need_slip" 2 ["number"] (spNeed 1 12) := ⟨_, _, ok_need_slip F3 c_is_slip, m3, k3, b3⟩
  have c_need_day : Cal l.prog w K mg base "need_day" 2 ["number"] (spNeed 1 400) := ⟨_, _, ok_need_day F4 c_is_day, m4, k4, b4⟩
  have c_is_number : Cal l.prog w K mg base "is_number" 1 ["thing"] spNum := ⟨_, _, ok_is_number F5 T, m5, k5, b5⟩
  have c_fell_is_sound : Cal l.prog w K mg base "fell_is_sound" 2 ["slip", "asked"] spFellS := ⟨_, _, ok_fell F6 T C0 c_is_number, m6, k6, b6⟩
  have c_sound : Cal l.prog w K mg base "sound" 6 ["slip", "fact"] spSound := ⟨_, _, ok_sound F7 T hSOUND tS ⟨_, (ok_fell F6 T C0 c_is_number).mono (by decide), k6, b6⟩, m7, k7, b7⟩
  have c_divisor : Cal l.prog w K mg base "divisor" 1 ["one", "other"] spDiv := ⟨_, _, ok_divisor F8, m8, k8, b8⟩
  have c_lowest : Cal l.prog w K mg base "lowest" 2 ["top", "bottom"] spLow := ⟨_, _, ok_lowest F9 T c_divisor, m9, k9, b9⟩
  have c_Debts : CalN l.prog w K mg base "Debts" cDebts 1 ["self"] (spDInit cDebts) := ⟨hDebts, _, _, ok_d_init F10 D, ⟨mkDebts, a10, i10, kcDebts⟩, b10⟩
  have c_Debts_owed_on : CalM l.prog w K mg base cDebts "owed_on" 3 ["self", "timber"] (spPart1 cDebts) := ⟨D.c, _, _, ok_d_owed_on F11 D c_lowest, ⟨a11, i11, k11⟩, b11⟩
  have c_Debts_owed_all : CalM l.prog w K mg base cDebts "owed_all" 3 ["self"] (spPart0 cDebts) := ⟨D.c, _, _, ok_d_owed_all F12 D T c_lowest, ⟨a12, i12, k12⟩, b12⟩
  have c_Debts_paid : CalM l.prog w K mg base cDebts "paid" 3 ["self"] (spPart0 cDebts) := ⟨D.c, _, _, ok_d_paid F13 D c_lowest, ⟨a13, i13, k13⟩, b13⟩
  have c_Debts_lent : CalM l.prog w K mg base cDebts "lent" 1 ["self"] (spLent cDebts) := ⟨D.c, _, _, ok_d_lent F14 D, ⟨a14, i14, k14⟩, b14⟩
  have c_Yard : CalN l.prog w K mg base "Yard" cYard 3 ["self", "slip"] (spYInit cYard cDebts cLOOSE) := ⟨hYard, _, _, ok_y_init F15 Y c_need_slip c_Debts, ⟨mkYard, a15, i15, kcYard⟩, b15⟩
  have c_Yard_lies : CalM l.prog w K mg base cYard "lies" 1 ["self", "timber"] (spLies cYard cDebts cLOOSE) := ⟨Y.c, _, _, ok_lies F16 Y, ⟨a16, i16, k16⟩, b16⟩
  have c_Yard_today : CalM l.prog w K mg base cYard "today" 1 ["self"] (spGet cYard cDebts cLOOSE fun _ d _ => .int d) := ⟨Y.c, _, _, ok_today F17 Y, ⟨a17, i17, k17⟩, b17⟩
  have c_Yard_slip : CalM l.prog w K mg base cYard "slip" 1 ["self"] (spGet cYard cDebts cLOOSE fun m _ _ => .int m) := ⟨Y.c, _, _, ok_yslip F18 Y, ⟨a18, i18, k18⟩, b18⟩
  have c_Yard_felled : CalM l.prog w K mg base cYard "felled" 1 ["self"] (spGet cYard cDebts cLOOSE fun _ _ n => .int n) := ⟨Y.c, _, _, ok_felled F19 Y T, ⟨a19, i19, k19⟩, b19⟩
  have c_Yard_lent : CalM l.prog w K mg base cYard "lent" 2 ["self"] (spGet cYard cDebts cLOOSE fun _ _ _ => .int 0) := ⟨Y.c, _, _, ok_lent F20 Y c_Debts_lent, ⟨a20, i20, k20⟩, b20⟩
  have c_Yard_paid : CalM l.prog w K mg base cYard "paid" 4 ["self"] (spYPart cYard cDebts cLOOSE) := ⟨Y.c, _, _, ok_paid F21 Y c_Debts_paid, ⟨a21, i21, k21⟩, b21⟩
  have c_Yard_owed_all : CalM l.prog w K mg base cYard "owed_all" 4 ["self"] (spYPart cYard cDebts cLOOSE) := ⟨Y.c, _, _, ok_owed_all F22 Y c_Debts_owed_all, ⟨a22, i22, k22⟩, b22⟩
  have c_Yard_owed_on : CalM l.prog w K mg base cYard "owed_on" 4 ["self", "timber"] (spOne cYard cDebts cLOOSE fun H Q _ _ => RX H Q) := ⟨Y.c, _, _, ok_owed_on F23 Y c_Debts_owed_on, ⟨a23, i23, k23⟩, b23⟩
  have c_Yard_line : CalM l.prog w K mg base cYard "line" 1 ["self", "timber"] (spOne cYard cDebts cLOOSE (LineX cLOOSE)) := ⟨Y.c, _, _, ok_line F24 Y T, ⟨a24, i24, k24⟩, b24⟩
  have c_Yard_place : CalM l.prog w K mg base cYard "place" 2 ["self", "timber"] (spOne cYard cDebts cLOOSE fun H Q _ _ => ∀ H', Same H H' → Q (.ref cLOOSE) H') := ⟨Y.c, _, _, ok_place F25 Y c_Yard_line, ⟨a25, i25, k25⟩, b25⟩
  have c_Yard_lying : CalM l.prog w K mg base cYard "lying" 2 ["self", "place"] (spLying K cYard cDebts cLOOSE) := ⟨Y.c, _, _, ok_lying F26 Y wL c_rising c_Yard_lies, ⟨a26, i26, k26⟩, b26⟩
  have c_Yard_loose : CalM l.prog w K mg base cYard "loose" 3 ["self"] (spNow cYard cDebts cLOOSE tms) := ⟨Y.c, _, _, ok_loose F27 hLOOSE wL c_Yard_lying, ⟨a27, i27, k27⟩, b27⟩
  have c_Yard_lost : CalM l.prog w K mg base cYard "lost" 3 ["self"] (spNow cYard cDebts cLOOSE fun _ => []) := ⟨Y.c, _, _, ok_lost F28 hLOST wX c_Yard_lying, ⟨a28, i28, k28⟩, b28⟩
  have c_Yard_names : CalM l.prog w K mg base cYard "names" 1 ["self"] (spNow cYard cDebts cLOOSE fun _ => []) := ⟨Y.c, _, _, ok_names F29 Y T, ⟨a29, i29, k29⟩, b29⟩
  have c_Yard_boats : CalM l.prog w K mg base cYard "boats" 1 ["self"] (spNow cYard cDebts cLOOSE fun _ => []) := ⟨Y.c, _, _, ok_boats F30 Y T, ⟨a30, i30, k30⟩, b30⟩
  have c_Yard_move : CalM l.prog w K mg base cYard "move" 2 ["self", "timber", "place"] (spMove cYard cDebts cLOOSE) := ⟨Y.c, _, _, ok_move F31 Y wL c_Yard_lies, ⟨a31, i31, k31⟩, b31⟩
  have c_enter_fell : Cal l.prog w K mg base "enter_fell" 3 ["yard", "fact"] (spFell cYard cDebts cLOOSE) := ⟨_, _, ok_enter_fell F32 T C0 hLOOSE c_Yard_felled c_Yard_move, m32, k32, b32⟩
  have c_Yard_enter : CalM l.prog w K mg base cYard "enter" 10 ["self", "day", "fact"] (spEnter cYard cDebts cLOOSE) := ⟨Y.c, _, _, ok_enter F33 Y hENTER tE ⟨_, (ok_enter_fell F32 T C0 hLOOSE c_Yard_felled c_Yard_move).mono (by decide), k32, b32⟩ c_need_day c_sound, ⟨a33, i33, k33⟩, b33⟩
  have c_law_begin : Cal l.prog w K mg base "_law_begin" 1 ["_law_script"] (spBeginC K) := ⟨_, _, ok_begin F34 T.toBlt, m34, k34, b34⟩
  have c_law_take : Cal l.prog w K mg base "_law_take" 1 ["_law_draw", "_law_many"] spTakeC := ⟨_, _, ok_take F35 T.toBlt, m35, k35, b35⟩
  have c_law_same : Cal l.prog w K mg base "_law_same" 6 ["_law_found", "_law_due_here"] (spS K 6) := ⟨_, _, ok_same F36 T.toBlt m36 b36 6, m36, k36, b36⟩
  have c_law_slip : Cal l.prog w K mg base "_law_slip" 2 ["_law_draw"] spSlip := ⟨_, _, ok_slip F37 T c_law_take, m37, k37, b37⟩
  have c_law_all : Cal l.prog w K mg base "_law_all" 1 ["_law_parts"] spAll := ⟨_, _, ok_law_all F38, m38, k38, b38⟩
  have c_law_new : Cal l.prog w K mg base "_law_new" 1 ["_law_slip_here"] spNew := ⟨_, _, ok_new F39, m39, k39, b39⟩
  have c_law_place : Cal l.prog w K mg base "_law_place" 1 ["_law_m", "_law_timber"] spPlace := ⟨_, _, ok_law_place F40 T, m40, k40, b40⟩
  have c_law_loose : Cal l.prog w K mg base "_law_loose" 2 ["_law_m"] spLoose := ⟨_, _, ok_law_loose F41 T c_law_place, m41, k41, b41⟩
  have c_law_idle : Cal l.prog w K mg base "_law_idle" 1 ["_law_m", "_law_fact"] spIdle := ⟨_, _, ok_law_idle F42 T, m42, k42, b42⟩
  have c_law_enter : Cal l.prog w K mg base "_law_enter" 2 ["_law_m", "_law_day", "_law_fact"] spLEnter := ⟨_, _, ok_law_enter F43 T c_law_place c_law_idle, m43, k43, b43⟩
  have c_law_due : Cal l.prog w K mg base "_law_due" 3 ["_law_m"] (spDue K) := ⟨_, _, ok_due F44 T c_law_place c_law_loose c_law_all, m44, k44, b44⟩
  have c_law_look : Cal l.prog w K mg base "_law_look" 5 ["_law_yard"] (spLook K cYard cDebts cLOOSE) := ⟨_, _, ok_look F45 T wL c_Yard_names c_Yard_felled c_Yard_today c_Yard_slip c_Yard_loose c_Yard_lost c_Yard_boats c_Yard_place c_Yard_line c_Yard_owed_on c_Yard_lent c_Yard_paid c_Yard_owed_all, m45, k45, b45⟩
  exact ok_law F46 T c_law_begin c_law_take c_law_slip c_Yard c_law_new c_law_same c_law_look c_law_due c_Yard_enter c_law_enter
theorem walk {l : PySem.W.OpenLaw} {q : Program} {loose : List Str} {XP : (Str → Option Value) → Heap → Prop} {YP : World → Heap → Prop} {d : DefRec} {K : Params → PySem.W.Frag} (hn : l.most = some 63) (hdf : d.params.defaults = [])
    (hY : ∀ (w : World) (h : Heap), YP w h → (K w.params).In h)
    (F : ∀ (w : World) (mg : Str → Option Value) (fa : Addr) (h : Heap), (K w.params).In h → h.Ns mainGlobals mg → mg d.name = some (.ref fa) →
      ∃ fd : FuncData, (∀ (s : Shared) (u : Value), BindsTo s fd ⟨[u], []⟩ [("_law_script", u)]) ∧ ∀ base : Heap, (K w.params).In base → base.Ns mainGlobals mg → FnOk l.prog w (K w.params) mg base CX0 12 fa fd ["_law_script"] (spLaw (K w.params))) :
    PySem.W.WalkO q loose XP YP l.row.toRowW d [] (fun f vs => PySem.call f vs) :=
  L2.walk_of (n := 63) (k := 12) (x := "_law_script") (CX := fun _ => CX0) (sp := fun w => spLaw (K w.params)) hn (by decide) hdf ⟨rfl, by decide, by decide⟩ hY F (fun _ _ a ns hl _ hS => ⟨a, ns, rfl, hS, hl, fun _ => rfl⟩) fun _ _ _ _ _ z => z
end K11
def PySem.W.Fast.tw6180842373889380875 : Nat := 0
def PySem.W.Fast.tw3144988033860595687 : Nat := 0
def PySem.W.Fast.tw6787918360040148073 : Nat := 0
def PySem.W.Fast.tw9369954696558509406 : Nat := 0
def PySem.W.Fast.tw8939818634215731509 : Nat := 0
def PySem.W.Fast.tw4506712172373334265 : Nat := 0
def PySem.W.Fast.tw17347252029779384027 : Nat := 0
def PySem.W.Fast.tw9913162736214089841 : Nat := 0
def PySem.W.Fast.tw15312479853084972381 : Nat := 0
def PySem.W.Fast.tw273411869765484722 : Nat := 0
def PySem.W.Fast.tw879740308728511720 : Nat := 0
def PySem.W.Fast.tw8608231187541756715 : Nat := 0
def PySem.W.Fast.tw3304548732971503825 : Nat := 0
def PySem.W.Fast.tw9410537916588776834 : Nat := 0
def PySem.W.Fast.tw5118125154093111847 : Nat := 0
def PySem.W.Fast.tw4643161268792684766 : Nat := 0
def PySem.W.Fast.tw3018074432454412275 : Nat := 0
def PySem.W.Fast.tw2501130097533873175 : Nat := 0
def PySem.W.Fast.tw16494976318595446267 : Nat := 0
def PySem.W.Fast.tw14096931443907477861 : Nat := 0
def PySem.W.Fast.tw13972139012806282895 : Nat := 0
def PySem.W.Fast.tw15677919205605169281 : Nat := 0
def PySem.W.Fast.tw14600508504940984575 : Nat := 0
def PySem.W.Fast.tw7923149146528773605 : Nat := 0
def PySem.W.Fast.tw10519299144236305435 : Nat := 0
def PySem.W.Fast.tw5203806656729127081 : Nat := 0
def PySem.W.Fast.tw11765501775141148835 : Nat := 0
def PySem.W.Fast.tw11766709507662716611 : Nat := 0
def PySem.W.Fast.tw17685629624134000599 : Nat := 0
def PySem.W.Fast.tw8134851506395077024 : Nat := 0
def PySem.W.Fast.tw6615587802676893294 : Nat := 0
def PySem.W.Fast.tw6348508898585662371 : Nat := 0
def PySem.W.Fast.tw15954958247919418898 : Nat := 0
def PySem.W.Fast.tw11132618722428103154 : Nat := 0
def PySem.W.Fast.tw5961500455756877517 : Nat := 0
def PySem.W.Fast.tw8213420778012412689 : Nat := 0
def PySem.W.Fast.tw11849409957279308683 : Nat := 0
def PySem.W.Fast.tw2413454719807397034 : Nat := 0
def PySem.W.Fast.tw3151414831555675163 : Nat := 0
def PySem.W.Fast.tw3047523243556002152 : Nat := 0
def PySem.W.Fast.tw15750455535495583976 : Nat := 0
def PySem.W.Fast.tw5866294615870676403 : Nat := 0
def PySem.W.Fast.tw12270210360264780730 : Nat := 0
def PySem.W.Fast.tw15926078234067057108 : Nat := 0
def PySem.W.Fast.tw4654267285537922872 : Nat := 0
def PySem.W.Fast.tw14546867922940710725 : Nat := 0
def PySem.W.Fast.tw13517695984709902989 : Nat := 0
def PySem.W.Fast.tw629719611668213764 : Nat := 0
def PySem.W.Fast.tw3619300824743129229 : Nat := 0
def PySem.W.Fast.tw14123212799057697282 : Nat := 0
def PySem.W.Fast.tw3628944943792048668 : Nat := 0
def PySem.W.Fast.tw12880175871695868824 : Nat := 0
def PySem.W.Fast.tw14983773090710149579 : Nat := 0
def PySem.W.Fast.tw1120574944803324656 : Nat := 0
def PySem.W.Fast.tw596474292404934088 : Nat := 0
def PySem.W.Fast.tw3646841926293134590 : Nat := 0
def PySem.W.Fast.tw14928363580803211218 : Nat := 0
def PySem.W.Fast.tw5915250966236075194 : Nat := 0
def PySem.W.Fast.tw1178378114033863489 : Nat := 0
def PySem.W.Fast.tw14323271980601155554 : Nat := 0
def PySem.W.Fast.tw13970869558813558004 : Nat := 0
def PySem.W.Fast.tw11292363906082051905 : Nat := 0
def PySem.W.Fast.tw12272811462020811796 : Nat := 0
def PySem.W.Fast.tw2453071065663793262 : Nat := 0
def PySem.W.Fast.tw16460883560664351514 : Nat := 0
def PySem.W.Fast.tw3113540744692371846 : Nat := 0
def PySem.W.Fast.tw9793808567882148276 : Nat := 0
def PySem.W.Fast.tw814013027644507369 : Nat := 0
def PySem.W.Fast.tw15250067386102964458 : Nat := 0
def PySem.W.Fast.tw2058058306209372594 : Nat := 0
def PySem.W.Fast.tw17204909731532982067 : Nat := 0
def PySem.W.Fast.tw393919726016586055 : Nat := 0
def PySem.W.Fast.tw18354989739864482972 : Nat := 0
def PySem.W.Fast.tw17568473858726803665 : Nat := 0
def PySem.W.Fast.tw2967767377643681897 : Nat := 0
def PySem.W.Fast.tw12671191226511783607 : Nat := 0
def PySem.W.Fast.tw15729999727968626496 : Nat := 0
def PySem.W.Fast.tw16741069157790071899 : Nat := 0
def PySem.W.Fast.tw8698057381894433047 : Nat := 0
def PySem.W.Fast.tw913755007571243853 : Nat := 0
def PySem.W.Fast.tw12860879824566654692 : Nat := 0
def PySem.W.Fast.tw13534891359416348578 : Nat := 0
def PySem.W.Fast.tw13540286335314202411 : Nat := 0
def PySem.W.Fast.tw18068379948354746594 : Nat := 0
def PySem.W.Fast.tw17679779580822569518 : Nat := 0
def PySem.W.Fast.tw13000749966085927999 : Nat := 0
def PySem.W.Fast.tw1081054034278781209 : Nat := 0
def PySem.W.Fast.tw16139575045584985885 : Nat := 0
def PySem.W.Fast.tw9334927128104535316 : Nat := 0
def PySem.W.Fast.tw5013238024078266377 : Nat := 0
def PySem.W.Fast.tw17259042775087569414 : Nat := 0
def PySem.W.Fast.tw5933140459436437455 : Nat := 0
open PySem PySem.W PyProof.Rows
set_option maxRecDepth 100000 in
set_option maxHeartbeats 0 in
theorem PySem.Challenge.cw_argosy_k11_timbers_felled_and_places_holds : PySem.Challenge.rw_argosy_k11_timbers_felled_and_places.Holds := by
  w_on; o_law; k_head; (case hw => w_witness2)
  k_fill
  refine K11.walk (l := PySem.Challenge.rw_argosy_k11_timbers_felled_and_places) rfl rfl (fun w h Y => PySem.W.kIn_of Y) ?F
  case F =>
    intro w mg fa h KX G hmg
    refine' K11.all_mk KX G hmg ?xcl0 ?xcl1 ?xcl2 ?xcl3 ?xcl4 ?xcl5 ?xcl6 ?xcl7 ?xcl8 ?xcl9 ?xcl10 ?xcl11 ?xcl12 ?xcl13 ?xcl14 ?xcl15 ?a0 ?l0 ?c0 ?k0 ?a1 ?l1 ?c1 ?k1 ?a2 ?l2 ?c2 ?k2 ?a3 ?l3 ?c3 ?k3 ?a4 ?l4 ?c4 ?k4 ?a5 ?l5 ?c5 ?k5 ?a6 ?l6 ?c6 ?k6 ?a7 ?l7 ?c7 ?k7 ?a8 ?l8 ?c8 ?k8 ?a9 ?l9 ?c9 ?k9 ?a10 ?i10 ?l10 ?c10 ?k10 ?a11 ?i11 ?l11 ?c11 ?k11 ?a12 ?i12 ?l12 ?c12 ?k12 ?a13 ?i13 ?l13 ?c13 ?k13 ?a14 ?i14 ?l14 ?c14 ?k14 ?a15 ?i15 ?l15 ?c15 ?k15 ?a16 ?i16 ?l16 ?c16 ?k16 ?a17 ?i17 ?l17 ?c17 ?k17 ?a18 ?i18 ?l18 ?c18 ?k18 ?a19 ?i19 ?l19 ?c19 ?k19 ?a20 ?i20 ?l20 ?c20 ?k20 ?a21 ?i21 ?l21 ?c21 ?k21 ?a22 ?i22 ?l22 ?c22 ?k22 ?a23 ?i23 ?l23 ?c23 ?k23 ?a24 ?i24 ?l24 ?c24 ?k24 ?a25 ?i25 ?l25 ?c25 ?k25 ?a26 ?i26 ?l26 ?c26 ?k26 ?a27 ?i27 ?l27 ?c27 ?k27 ?a28 ?i28 ?l28 ?c28 ?k28 ?a29 ?i29 ?l29 ?c29 ?k29 ?a30 ?i30 ?l30 ?c30 ?k30 ?a31 ?i31 ?l31 ?c31 ?k31 ?a32 ?l32 ?c32 ?k32 ?a33 ?i33 ?l33 ?c33 ?k33 ?a34 ?l34 ?c34 ?k34 ?a35 ?l35 ?c35 ?k35 ?a36 ?l36 ?c36 ?k36 ?a37 ?l37 ?c37 ?k37 ?a38 ?l38 ?c38 ?k38 ?a39 ?l39 ?c39 ?k39 ?a40 ?l40 ?c40 ?k40 ?a41 ?l41 ?c41 ?k41 ?a42 ?l42 ?c42 ?k42 ?a43 ?l43 ?c43 ?k43 ?a44 ?l44 ?c44 ?k44 ?a45 ?l45 ?c45 ?k45 ?a46 ?l46 ?c46 ?k46 ?gcst0 ?gcst1 ?gcst2 ?fct0 ?fct1 ?fct2 ?fct3 ?fct4 ?fct5 ?fct6 ?fct7 ?fct8 ?fct9 ?fct10 ?fct11 ?fct12 ?fct13 ?fct14 ?fct15 ?fct16 ?fct17 ?fct18 ?fct19 ?fct20 ?fct21 ?fct22 ?fct23 ?fct24 ?fct25 ?fct26 ?z0 ?z1 ?z2 ?z3 ?z4 ?z5 ?z6 ?z7 ?z8 ?z9 ?z10 ?z11 ?z12 ?z13 ?z14 ?z15 ?z16
    (case xcl0 => k_is); (case xcl1 => k_is); (case xcl2 => k_is); (case xcl3 => k_is); (case xcl4 => k_is); (case xcl5 => k_is); (case xcl6 => k_is); (case xcl7 => k_is)
    (case xcl8 => k_is); (case xcl9 => k_is); (case xcl10 => k_is); (case xcl11 => k_is); (case xcl12 => k_is); (case xcl13 => k_is); (case xcl14 => k_is); (case xcl15 => k_is)
    (case a0 => k_is); (case l0 => k_is); (case c0 => k_is); (case k0 => k_is); (case a1 => k_is); (case l1 => k_is); (case c1 => k_is); (case k1 => k_is)
    (case a2 => k_is); (case l2 => k_is); (case c2 => k_is); (case k2 => k_is); (case a3 => k_is); (case l3 => k_is); (case c3 => k_is); (case k3 => k_is)
    (case a4 => k_is); (case l4 => k_is); (case c4 => k_is); (case k4 => k_is); (case a5 => k_is); (case l5 => k_is); (case c5 => k_is); (case k5 => k_is)
    (case a6 => k_is); (case l6 => k_is); (case c6 => k_is); (case k6 => k_is); (case a7 => k_is); (case l7 => k_is); (case c7 => k_is); (case k7 => k_is)
    (case a8 => k_is); (case l8 => k_is); (case c8 => k_is); (case k8 => k_is); (case a9 => k_is); (case l9 => k_is); (case c9 => k_is); (case k9 => k_is)
    (case a10 => k_is); (case i10 => k_is); (case l10 => k_is); (case c10 => k_is); (case k10 => k_is); (case a11 => k_is); (case i11 => k_is); (case l11 => k_is)
    (case c11 => k_is); (case k11 => k_is); (case a12 => k_is); (case i12 => k_is); (case l12 => k_is); (case c12 => k_is); (case k12 => k_is); (case a13 => k_is)
    (case i13 => k_is); (case l13 => k_is); (case c13 => k_is); (case k13 => k_is); (case a14 => k_is); (case i14 => k_is); (case l14 => k_is); (case c14 => k_is)
    (case k14 => k_is); (case a15 => k_is); (case i15 => k_is); (case l15 => k_is); (case c15 => k_is); (case k15 => k_is); (case a16 => k_is); (case i16 => k_is)
    (case l16 => k_is); (case c16 => k_is); (case k16 => k_is); (case a17 => k_is); (case i17 => k_is); (case l17 => k_is); (case c17 => k_is); (case k17 => k_is)
    (case a18 => k_is); (case i18 => k_is); (case l18 => k_is); (case c18 => k_is); (case k18 => k_is); (case a19 => k_is); (case i19 => k_is); (case l19 => k_is)
    (case c19 => k_is); (case k19 => k_is); (case a20 => k_is); (case i20 => k_is); (case l20 => k_is); (case c20 => k_is); (case k20 => k_is); (case a21 => k_is)
    (case i21 => k_is); (case l21 => k_is); (case c21 => k_is); (case k21 => k_is); (case a22 => k_is); (case i22 => k_is); (case l22 => k_is); (case c22 => k_is)
    (case k22 => k_is); (case a23 => k_is); (case i23 => k_is); (case l23 => k_is); (case c23 => k_is); (case k23 => k_is); (case a24 => k_is); (case i24 => k_is)
    (case l24 => k_is); (case c24 => k_is); (case k24 => k_is); (case a25 => k_is); (case i25 => k_is); (case l25 => k_is); (case c25 => k_is); (case k25 => k_is)
    (case a26 => k_is); (case i26 => k_is); (case l26 => k_is); (case c26 => k_is); (case k26 => k_is); (case a27 => k_is); (case i27 => k_is); (case l27 => k_is)
    (case c27 => k_is); (case k27 => k_is); (case a28 => k_is); (case i28 => k_is); (case l28 => k_is); (case c28 => k_is); (case k28 => k_is); (case a29 => k_is)
    (case i29 => k_is); (case l29 => k_is); (case c29 => k_is); (case k29 => k_is); (case a30 => k_is); (case i30 => k_is); (case l30 => k_is); (case c30 => k_is)
    (case k30 => k_is); (case a31 => k_is); (case i31 => k_is); (case l31 => k_is); (case c31 => k_is); (case k31 => k_is); (case a32 => k_is); (case l32 => k_is)
    (case c32 => k_is); (case k32 => k_is); (case a33 => k_is); (case i33 => k_is); (case l33 => k_is); (case c33 => k_is); (case k33 => k_is); (case a34 => k_is)
    (case l34 => k_is); (case c34 => k_is); (case k34 => k_is); (case a35 => k_is); (case l35 => k_is); (case c35 => k_is); (case k35 => k_is); (case a36 => k_is)
    (case l36 => k_is); (case c36 => k_is); (case k36 => k_is); (case a37 => k_is); (case l37 => k_is); (case c37 => k_is); (case k37 => k_is); (case a38 => k_is)
    (case l38 => k_is); (case c38 => k_is); (case k38 => k_is); (case a39 => k_is); (case l39 => k_is); (case c39 => k_is); (case k39 => k_is); (case a40 => k_is)
    (case l40 => k_is); (case c40 => k_is); (case k40 => k_is); (case a41 => k_is); (case l41 => k_is); (case c41 => k_is); (case k41 => k_is); (case a42 => k_is)
    (case l42 => k_is); (case c42 => k_is); (case k42 => k_is); (case a43 => k_is); (case l43 => k_is); (case c43 => k_is); (case k43 => k_is); (case a44 => k_is)
    (case l44 => k_is); (case c44 => k_is); (case k44 => k_is); (case a45 => k_is); (case l45 => k_is); (case c45 => k_is); (case k45 => k_is); (case a46 => k_is)
    (case l46 => k_is); (case c46 => k_is); (case k46 => k_is); (case gcst0 => k_is); (case gcst1 => k_is); (case gcst2 => k_is); (case fct0 => k_is); (case fct1 => k_is)
    (case fct2 => k_is); (case fct3 => k_is); (case fct4 => k_is); (case fct5 => k_is); (case fct6 => k_is); (case fct7 => k_is); (case fct8 => k_is); (case fct9 => k_is)
    (case fct10 => k_is); (case fct11 => k_is); (case fct12 => k_is); (case fct13 => k_is); (case fct14 => k_is); (case fct15 => k_is); (case fct16 => k_is); (case fct17 => k_is)
    (case fct18 => k_is); (case fct19 => k_is); (case fct20 => k_is); (case fct21 => k_is); (case fct22 => k_is); (case fct23 => (show K11.wdLook _ _ _ = true; kernel_rfl)); (case fct24 => (show K11.wdLook _ _ _ = true; kernel_rfl)); (case fct25 => (show PyProof.Rows.KTD.tabLook _ _ _ _ = true; kernel_rfl))
    (case fct26 => (show PyProof.Rows.KTD.tabLook _ _ _ _ = true; kernel_rfl)); (case z0 => k_is); (case z1 => k_is); (case z2 => k_is); (case z3 => k_is); (case z4 => k_is); (case z5 => k_is); (case z6 => k_is)
    (case z7 => k_is); (case z8 => k_is); (case z9 => k_is); (case z10 => k_is); (case z11 => k_is); (case z12 => k_is); (case z13 => k_is); (case z14 => k_is)
    (case z15 => k_is); (case z16 => k_is)

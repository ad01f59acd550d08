import PyProof.Rows.All
import Wide.All
import OpenK.AllK
import Wide.FinOn
import Lean
import PyProof.EqAt
import PyProof.EqKinds
import PyProof.TupleCall
import KE.KNestM
import PySem.Challenge.RW_backline_k71_rows_as_text
set_option Elab.async false
set_option linter.all false
set_option maxRecDepth 100000
/-! THE HAND LAYER, for ints, bools, texts, own classes, LISTS and tuples (index, slices, in, append, pop ..), calls, loops. Paste it whole ahead of your own text; what your proof does not reach may be deleted. -/
namespace L2
open PySem PySem.Spec PyProof.Rows

/-- a key: an int or a str -/
abbrev Key := Sum Int Str
def keyIs : Key → Value → Bool
  | .inl k, v => Value.isInt k v
  | .inr x, v => Value.isStrOf x v
def keyH (w : World) : Key → Int
  | .inl k => hashInt k
  | .inr x => hashStr w x
theorem keyIs_shape : ∀ {k : Key} {v : Value}, keyIs k v = true → (∃ i t, k = Sum.inl i ∧ v = Value.int i t) ∨ (∃ x t, k = Sum.inr x ∧ v = Value.str x t)
  | .inl i, v, h => by
    obtain ⟨t, e⟩ := Value.isInt_shape (k := i) (v := v) h
    exact .inl ⟨i, t, rfl, e⟩
  | .inr x, v, h => by
    obtain ⟨t, e⟩ := Value.isStrOf_shape (x := x) (v := v) h
    exact .inr ⟨x, t, rfl, e⟩
theorem keyIs_int (i : Int) (t : Tok) : keyIs (.inl i) (.int i t) = true := by simp [keyIs, Value.isInt]
theorem keyIs_str (x : Str) (t : Tok) : keyIs (.inr x) (.str x t) = true := by simp [keyIs, Value.isStrOf]
theorem key_ll (a b : Int) : decide ((Sum.inl a : Key) = Sum.inl b) = (a == b) := by
  by_cases e : a = b
  · subst e; simp
  · have h : ¬ (Sum.inl a : Key) = Sum.inl b := fun q => e (Sum.inl.inj q)
    rw [decide_eq_false h]
    exact (beq_eq_false_iff_ne.mpr e).symm
theorem key_rr (a b : Str) : decide ((Sum.inr a : Key) = Sum.inr b) = decide (a = b) := by
  by_cases e : a = b
  · subst e; simp
  · have h : ¬ (Sum.inr a : Key) = Sum.inr b := fun q => e (Sum.inr.inj q)
    rw [decide_eq_false h, decide_eq_false e]
theorem key_lr (a : Int) (b : Str) : decide ((Sum.inl a : Key) = Sum.inr b) = false := decide_eq_false (fun q => nomatch q)
theorem key_rl (a : Str) (b : Int) : decide ((Sum.inr a : Key) = Sum.inl b) = false := decide_eq_false (fun q => nomatch q)

def mixKind (prog : Program) (w : World) : PySem.KeyKind prog w Key where
  is := keyIs
  hash := keyH w
  inj := fun v a b ha hb => by
    rcases keyIs_shape ha with ⟨i, t, rfl, rfl⟩ | ⟨x, t, rfl, rfl⟩
    · rcases keyIs_shape hb with ⟨j, u, rfl, e⟩ | ⟨y, u, rfl, e⟩
      · injection e with e1 _; rw [e1]
      · exact nomatch e
    · rcases keyIs_shape hb with ⟨j, u, rfl, e⟩ | ⟨y, u, rfl, e⟩
      · exact nomatch e
      · injection e with e1 _; rw [e1]
  byValue := fun k v h => by
    rcases keyIs_shape h with ⟨i, t, rfl, rfl⟩ | ⟨x, t, rfl, rfl⟩ <;> rfl
  pyHash := fun hv h => by
    rcases keyIs_shape hv with ⟨i, t, rfl, rfl⟩ | ⟨x, t, rfl, rfl⟩
    · exact wpAny_pyHash_int h
    · exact wpAny_pyHash_str h
  eqBool := fun hu hv h => by
    rcases keyIs_shape hu with ⟨i, t, rfl, rfl⟩ | ⟨x, t, rfl, rfl⟩
    · rcases keyIs_shape hv with ⟨j, u, rfl, rfl⟩ | ⟨y, u, rfl, rfl⟩
      · rw [key_ll] at h; exact wpAny_eqBool_int h
      · rw [key_lr] at h; exact SeqAt.EqAt.int_str i t y u _ _ _ _ h
    · rcases keyIs_shape hv with ⟨j, u, rfl, rfl⟩ | ⟨y, u, rfl, rfl⟩
      · rw [key_rl] at h; exact SeqAt.EqAt.str_int x t j u _ _ _ _ h
      · rw [key_rr] at h; exact wpAny_eqBool_str h
  «strs» := fun k x t v h => by
    rcases keyIs_shape h with ⟨i, u, rfl, e⟩ | ⟨y, u, rfl, e⟩
    · exact nomatch e
    · injection e with e1 _
      subst e1
      cases v <;> rfl

theorem mixKind_is (prog : Program) (w : World) (k : Key) (v : Value) : (mixKind prog w).is k v = keyIs k v := rfl
theorem mixKind_int (prog : Program) (w : World) (i : Int) (t : Tok) : (mixKind prog w).is (.inl i) (.int i t) = true := keyIs_int i t
theorem mixKind_str (prog : Program) (w : World) (x : Str) (t : Tok) : (mixKind prog w).is (.inr x) (.str x t) = true := keyIs_str x t
end L2

namespace L2
open PySem PySem.Spec PyProof.Rows

/-- a value, without the heap -/
inductive V where
  | non | bl (b : Bool) | int (i : Int) | str (x : Str) | byt (b : Array UInt8) | flt (b : UInt64) | ref (a : Addr) | ty (n : String)
  deriving DecidableEq

def RelV : V → Value → Prop
  | .non, u => u = Value.none
  | .bl b, u => u = Value.bool b
  | .int i, u => ∃ t, u = Value.int i t
  | .str x, u => ∃ t, u = Value.str x t
  | .byt b, u => ∃ t, u = Value.bytes b t
  | .flt b, u => ∃ t, u = Value.float b t
  | .ref a, u => u = Value.ref a
  | .ty n, u => u = Value.type n

abbrev Vals : List V → List Value → Prop := Paired RelV
theorem Vals.length {xs : List V} {us : List Value} (r : Vals xs us) : xs.length = us.length := Paired.length r
theorem Vals.get : ∀ {xs : List V} {us : List Value} {i : Nat} {x : V}, Vals xs us → xs[i]? = some x → ∃ u, us[i]? = some u ∧ RelV x u
  | _, _, _, _, .nil, e => by simp at e
  | _, _, 0, _, .cons r _, e => by simp at e; subst e; exact ⟨_, rfl, r⟩
  | _, _, i + 1, x, .cons _ t, e => by
    obtain ⟨u, h1, h2⟩ := Vals.get (i := i) (x := x) t (by simpa using e)
    exact ⟨u, by simpa using h1, h2⟩
theorem Vals.set {x : V} {u : Value} (r : RelV x u) : ∀ {xs : List V} {us : List Value} (i : Nat), Vals xs us → Vals (xs.set i x) (us.set i u)
  | _, _, _, .nil => .nil
  | _, _, 0, .cons _ t => .cons r t
  | _, _, i + 1, .cons q t => .cons q (Vals.set r i t)
theorem Vals.append : ∀ {xs ys : List V} {us ws : List Value}, Vals xs us → Vals ys ws → Vals (xs ++ ys) (us ++ ws)
  | _, _, _, _, .nil, s => s
  | _, _, _, _, .cons r t, s => .cons r (Vals.append t s)
theorem Vals.take : ∀ {xs : List V} {us : List Value} (n : Nat), Vals xs us → Vals (xs.take n) (us.take n)
  | _, _, 0, _ => .nil
  | _, _, _ + 1, .nil => .nil
  | _, _, n + 1, .cons r t => .cons r (Vals.take n t)
theorem Vals.drop : ∀ {xs : List V} {us : List Value} (n : Nat), Vals xs us → Vals (xs.drop n) (us.drop n)
  | _, _, 0, r => r
  | _, _, _ + 1, .nil => .nil
  | _, _, n + 1, .cons _ t => Vals.drop n t
theorem Vals.none_of : ∀ {xs : List V} {us : List Value} {i : Nat}, Vals xs us → xs[i]? = none → us[i]? = none := fun {xs us i} r e => by
  have h1 := r.length
  have h2 : xs.length ≤ i := List.getElem?_eq_none_iff.mp e
  exact List.getElem?_eq_none_iff.mpr (by omega)

def RelO : Option V → Option Value → Prop
  | some v, some u => RelV v u
  | none, none => True
  | _, _ => False
def KV {κ : Type} : List (κ × V) → List (κ × Value) → Prop := Paired fun (p : κ × V) (q : κ × Value) => p.1 = q.1 ∧ RelV p.2 q.2

/-- a key of a dict (00_mix): an int or a text -/
def kV : Key → V
  | .inl i => .int i
  | .inr x => .str x

/-- what stands at a tracked address -/
inductive HO where
  /-- a list -/
  | lst (xs : List V)
  /-- a tuple (never changes) -/
  | tup (xs : List V)
  /-- a dict whose keys are ints and texts; one whose keys are tuples of ints and texts (the empty one is both) -/
  | dK (kvs : List (Key × V)) | dT (kvs : List (List Key × V))
  /-- a set of ints: its members, its size -/
  | set (S : Int → Bool) (n : Nat)
  /-- an instance of the class at C, its dict at dx, its attributes -/
  | ins (C dx : Addr) (fs : List (Str × V))
  /-- the dict of the instance at x -/
  | own (x : Addr)
  /-- the dict of an exception -/
  | xd (fs : List (Str × V))
  /-- a bound method, f of x -/
  | met (f x : Addr)
  /-- a range object lo, lo + 1, .. below hi -/
  | rng (lo hi : Int)
  /-- a thing that is known to the object (the script; a dict while a loop walks it): read, never written while it is so -/
  | frz (o : Obj) (u : HO)
  /-- a code object's table -/
  | tbl (ps : Array Value)
  /-- any other thing, by what is true of its one object (a def of one's own: SetO a S n := HO.ext fun h => ..) -/
  | ext (φ : Heap → Prop)

abbrev Hp := Addr → Option HO
def upd (H : Hp) (a : Addr) (o : HO) : Hp := fun b => if b = a then some o else H b
theorem upd_same {H : Hp} {a : Addr} {o : HO} : upd H a o a = some o := by unfold upd; rw [if_pos rfl]
theorem upd_ne {H : Hp} {a b : Addr} {o : HO} (h : b ≠ a) : upd H a o b = H b := by unfold upd; rw [if_neg h]
theorem upd_upd {H : Hp} {a : Addr} {o u : HO} : upd (upd H a o) a u = upd H a u := by
  funext b; unfold upd; split <;> rfl
/-- two objects of different content stand apart -/
theorem ne_of {H : Hp} {a b : Addr} {o u : HO} (h : H a = some o) (h' : H b = some u) (d : o ≠ u) : a ≠ b := by
  intro e; subst e; rw [h] at h'; exact d (Option.some.inj h')
theorem ne_of_none {H : Hp} {a b : Addr} {o : HO} (h : H a = some o) (h' : H b = none) : a ≠ b := by
  intro e; subst e; rw [h] at h'; cases h'

section
variable (P : Program) (w : World)
def ObjOk (H : Hp) (h : Heap) (a : Addr) : HO → Prop
  | .lst xs => xs.length ≤ sizeLine ∧ ∃ (its : List Value) (n : Nat), Vals xs its ∧ h.get? a = some { cls := .type "list", data := .seq its.toArray n }
  | .tup xs => xs.length ≤ sizeLine ∧ ∃ its : List Value, Vals xs its ∧ IsTup h a its.toArray
  | .dK kvs => kvs.length ≤ sizeLine ∧ (a == sysModules) = false ∧ ∃ vs, KV kvs vs ∧ h.DictOf (mixKind P w) a vs
  | .dT kvs => kvs.length ≤ sizeLine ∧ (a == sysModules) = false ∧ ∃ xs : List (List Key × Addr × Value),
      Paired (fun (p : List Key × V) (q : List Key × Addr × Value) => p.1 = q.1 ∧ H q.2.1 = some (.tup (p.1.map kV)) ∧ RelV p.2 q.2.2) kvs xs ∧
      ∃ o es ep, h.get? a = some o ∧ o.ExactDict ∧ o.data = .dict es ep ∧ es.toList = xs.map (entryOfKey (tupleKind (mixKind P w))) ∧ (xs.map (·.1)).Nodup
  | .set S n => h.SetOf (intKind P w) a S n
  | .ins C dx fs => H dx = some (.own a) ∧ fs.length ≤ 1000 ∧ dx ≠ a ∧ h.get? a = some (PySem.W.instObj C dx) ∧
      ∃ mA, h.Ns1 dx mA ∧ (∀ f, RelO (fs.lookup f) (mA f)) ∧ PySem.Within mA (fs.map (·.1))
  | .own _ => ∃ o, h.get? a = some o
  | .xd fs => ∃ mA, h.Ns1 a mA ∧ ∀ f, RelO (fs.lookup f) (mA f)
  | .rng lo hi => ∃ t u v, h.get? a = some { cls := .type "range", data := .fields #[.int lo t, .int hi u, .int 1 v] }
  | .frz o u => h.get? a = some o ∧ ObjOk H h a u
  | .tbl ps => h.get? a = some { cls := .none, data := .fields ps }
  | .met f x => h.get? a = some (PySem.W.methodObj (.ref f) (.ref x))
  | .ext φ => φ h ∧ (∃ o, h.get? a = some o) ∧ ∀ h1 h2 : Heap, φ h1 → (∀ o, h1.get? a = some o → h2.get? a = some o) → φ h2
/-- the abstract heap is held -/
def HOk (H : Hp) (h : Heap) : Prop := ∀ a o, H a = some o → ObjOk P w H h a o
end

section
variable {P : Program} {w : World} {H H' : Hp} {h h' : Heap} {a : Addr} {o : HO}
theorem ObjOk.lt (x : ObjOk P w H h a o) : a < h.objs.size := by
  cases o with
  | lst xs => obtain ⟨_, _, _, _, e⟩ := x; exact Heap.lt_size e
  | tup xs => obtain ⟨_, _, _, p⟩ := x; exact p.lt
  | dK kvs => obtain ⟨_, _, _, _, o, _, _, e, _⟩ := x; exact Heap.lt_size e
  | dT kvs => obtain ⟨_, _, _, _, o, _, _, e, _⟩ := x; exact Heap.lt_size e
  | set S n => obtain ⟨o, _, _, _, e, _⟩ := x; exact Heap.lt_size e
  | ins C dx fs => obtain ⟨_, _, _, e, _⟩ := x; exact Heap.lt_size e
  | own y => obtain ⟨_, e⟩ := x; exact Heap.lt_size e
  | xd fs => obtain ⟨_, ⟨_, _, _, e, _⟩, _⟩ := x; exact Heap.lt_size e
  | rng lo hi => obtain ⟨_, _, _, e⟩ := x; exact Heap.lt_size e
  | frz ob u => obtain ⟨e, _⟩ := x; exact Heap.lt_size e
  | tbl ps => exact Heap.lt_size (show h.get? a = some _ from x)
  | met f y => exact Heap.lt_size (show h.get? a = some _ from x)
  | ext φ => obtain ⟨_, ⟨_, e⟩, _⟩ := x; exact Heap.lt_size e
theorem Paired.mapP {α β : Type} {F G : α → β → Prop} : ∀ {l₁ : List α} {l₂ : List β}, Paired F l₁ l₂ → (∀ a b, F a b → G a b) → Paired G l₁ l₂
  | _, _, .nil, _ => .nil
  | _, _, .cons r t, f => .cons (f _ _ r) (Paired.mapP t f)
theorem Paired.imp' {α β : Type} {F G : α → β → Prop} (f : ∀ a b, F a b → G a b) {l₁ : List α} {l₂ : List β} (r : Paired F l₁ l₂) : Paired G l₁ l₂ := Paired.mapP r f
/-- what an object's description leans on: its own object, its own dict, the tuples -/
theorem ObjOk.stay (x : ObjOk P w H h a o) (k : ∀ b u, (b = a ∨ H b = some (.own a)) → h.get? b = some u → h'.get? b = some u)
    (ho : ∀ b, H b = some (.own a) → H' b = some (.own a)) (ht : ∀ b xs, H b = some (.tup xs) → H' b = some (.tup xs)) : ObjOk P w H' h' a o := by
  induction o with
  | lst xs => obtain ⟨z, its, n, r, e⟩ := x; exact ⟨z, its, n, r, k _ _ (.inl rfl) e⟩
  | tup xs => obtain ⟨z, its, r, ob, e, c⟩ := x; exact ⟨z, its, r, ob, k _ _ (.inl rfl) e, c⟩
  | dK kvs => obtain ⟨z, y, vs, r, ob, es, ep, e, c⟩ := x; exact ⟨z, y, vs, r, ob, es, ep, k _ _ (.inl rfl) e, c⟩
  | dT kvs =>
    obtain ⟨z, y, xs, r, ob, es, ep, e, c⟩ := x
    exact ⟨z, y, xs, Paired.mapP r fun p q z => ⟨z.1, ht _ _ z.2.1, z.2.2⟩, ob, es, ep, k _ _ (.inl rfl) e, c⟩
  | set S n => obtain ⟨ob, es, ep, t, e, c⟩ := x; exact ⟨ob, es, ep, t, k _ _ (.inl rfl) e, c⟩
  | ins C dx fs =>
    obtain ⟨d, z, ne, e, mA, ⟨od, es, ep, e2, c⟩, r⟩ := x
    exact ⟨ho _ d, z, ne, k _ _ (.inl rfl) e, mA, ⟨od, es, ep, k _ _ (.inr d) e2, c⟩, r⟩
  | own y => obtain ⟨ob, e⟩ := x; exact ⟨ob, k _ _ (.inl rfl) e⟩
  | xd fs => obtain ⟨mA, ⟨od, es, ep, e, c⟩, r⟩ := x; exact ⟨mA, ⟨od, es, ep, k _ _ (.inl rfl) e, c⟩, r⟩
  | rng lo hi => obtain ⟨t, u, v, e⟩ := x; exact ⟨t, u, v, k _ _ (.inl rfl) e⟩
  | frz ob u ih => obtain ⟨e, q⟩ := x; exact ⟨k _ _ (.inl rfl) e, ih q⟩
  | tbl ps =>
    have e : h.get? a = some { cls := .none, data := .fields ps } := x
    show h'.get? a = some { cls := .none, data := .fields ps }
    exact k a _ (.inl rfl) e
  | met f y =>
    have e : h.get? a = some (PySem.W.methodObj (.ref f) (.ref y)) := x
    show h'.get? a = some (PySem.W.methodObj (.ref f) (.ref y))
    exact k a _ (.inl rfl) e
  | ext φ => obtain ⟨p, ⟨o, e⟩, st⟩ := x; exact ⟨st _ _ p fun o q => k _ _ (.inl rfl) q, ⟨o, k _ _ (.inl rfl) e⟩, st⟩
theorem HOk.lt (x : HOk P w H h) (e : H a = some o) : a < h.objs.size := (x a o e).lt
theorem HOk.fresh (x : HOk P w H h) (e : h.objs.size ≤ a) : H a = none := by
  cases q : H a with
  | none => rfl
  | some u => exact absurd (Nat.lt_of_lt_of_le (x.lt q) e) (Nat.lt_irrefl _)
/-- every object of the heap is kept -/
theorem HOk.kept (x : HOk P w H h) (k : ∀ b u, h.get? b = some u → h'.get? b = some u) : HOk P w H h' := fun a o e =>
  (x a o e).stay (fun b u _ q => k b u q) (fun _ q => q) fun _ _ q => q
/-- a new object is laid and tracked -/
theorem HOk.laid (x : HOk P w H h) (k : ∀ b u, h.get? b = some u → h'.get? b = some u) (hp : h.objs.size ≤ a) (new : ObjOk P w (upd H a o) h' a o) : HOk P w (upd H a o) h' := fun b u e => by
  have hn := x.fresh hp
  by_cases hb : b = a
  · subst hb; rw [upd_same] at e; cases e; exact new
  · rw [upd_ne hb] at e
    exact (x b u e).stay (fun c v _ q => k c v q) (fun c q => by rw [upd_ne (ne_of_none q hn)]; exact q) fun c xs q => by rw [upd_ne (ne_of_none q hn)]; exact q
end

/-- what may be read as u: it is u, or a known u -/
def Rd (H : Hp) (a : Addr) (u : HO) : Prop := H a = some u ∨ ∃ o, H a = some (.frz o u)
theorem Rd.of {H : Hp} {a : Addr} {u : HO} (h : H a = some u) : Rd H a u := .inl h
theorem Rd.ok {P : Program} {w : World} {H : Hp} {h : Heap} {a : Addr} {u : HO} (r : Rd H a u) (x : HOk P w H h) : ObjOk P w H h a u := by
  rcases r with r | ⟨o, r⟩
  · exact x a u r
  · obtain ⟨_, q⟩ := x a _ r
    exact q
/-- what may be written -/
def Mut : Option HO → Prop
  | some (.lst _) => True
  | some (.dK _) => True
  | some (.dT _) => True
  | some (.set _ _) => True
  | some (.ins _ _ _) => True
  | some (.ext _) => True
  | _ => False
section
variable {P : Program} {w : World} {H : Hp} {h h' : Heap} {x e : Addr} {o' : HO}
/-- the object at e is changed: x itself, or the dict of the instance x -/
theorem HOk.write (ok : HOk P w H h) (mu : Mut (H x)) (he : e = x ∨ H e = some (.own x)) (k : ∀ b u, b ≠ e → h.get? b = some u → h'.get? b = some u) (heo : ∃ u, h'.get? e = some u)
    (new : ObjOk P w (upd H x o') h' x o') : HOk P w (upd H x o') h' := fun b u q => by
  have nown : ∀ c y, H c = some (.own y) → c ≠ x := fun c y r z => by subst z; rw [r] at mu; exact mu
  have ntup : ∀ c xs, H c = some (.tup xs) → c ≠ x := fun c xs r z => by subst z; rw [r] at mu; exact mu
  by_cases hb : b = x
  · subst hb; rw [upd_same] at q; cases q; exact new
  · rw [upd_ne hb] at q
    by_cases hbe : b = e
    · have q' : H b = some (.own x) := by
        rcases he with z | z
        · exact absurd (hbe.trans z) hb
        · rw [hbe]; exact z
      rw [q] at q'; cases q'
      obtain ⟨v, hv⟩ := heo
      exact ⟨v, by rw [hbe]; exact hv⟩
    · refine (ok b u q).stay (fun c v hc r => k c v ?_ r) (fun c r => by rw [upd_ne (nown c b r)]; exact r) fun c xs r => by rw [upd_ne (ntup c xs r)]; exact r
      rcases hc with rfl | hc
      · exact hbe
      · rintro rfl
        rcases he with z | z
        · exact nown c b hc z
        · rw [hc] at z; cases z; exact hb rfl
end

/-! ### kept unless tracked; of the frames at fs (the callers') the slots may change (an exception that passes writes there); of the records at ex (iterators) nothing is said -/
structure Un (fs ex : List Addr) (H H' : Hp) (h h' : Heap) : Prop where
  keep : ∀ b o, h.get? b = some o → H b = none → b ∉ fs → b ∉ ex → h'.get? b = some o
  slot : ∀ b o, h.get? b = some o → H b = none → b ∈ fs → b ∉ ex → ∃ sl, h'.get? b = some { o with slots := sl }
  free : ∀ b o, h.get? b = some o → H b = none → b ∉ ex → H' b = none
  there : ∀ b o, h.get? b = some o → b ∉ ex → ∃ o', h'.get? b = some o'
  tups : ∀ b xs, H b = some (.tup xs) → H' b = some (.tup xs)
  frzs : ∀ b o u, H b = some (.frz o u) → H' b = some (.frz o u)
  tbls : ∀ b ps, H b = some (.tbl ps) → ∃ more, H' b = some (.tbl (ps ++ more))
section
variable {fs fs' ex ex' : List Addr} {H H1 H2 : Hp} {h h1 h2 h' : Heap} {a x e : Addr} {o : HO}
theorem Un.any (u : Un fs ex H H1 h h1) {b : Addr} {ob : Obj} (q : h.get? b = some ob) (n : H b = none) (hx : b ∉ ex) : ∃ sl, h1.get? b = some { ob with slots := sl } := by
  by_cases hb : b ∈ fs
  · exact u.slot b ob q n hb hx
  · exact ⟨ob.slots, u.keep b ob q n hb hx⟩
theorem Un.trans (a : Un fs ex H H1 h h1) (b : Un fs ex H1 H2 h1 h2) : Un fs ex H H2 h h2 where
  keep := fun c ob q n hc hx => b.keep c ob (a.keep c ob q n hc hx) (a.free c ob q n hx) hc hx
  slot := fun c ob q n hc hx => by
    obtain ⟨sl, e1⟩ := a.slot c ob q n hc hx
    obtain ⟨sl', e2⟩ := b.slot c _ e1 (a.free c ob q n hx) hc hx
    exact ⟨sl', e2⟩
  free := fun c ob q n hx => by
    obtain ⟨o', e1⟩ := a.there c ob q hx
    exact b.free c o' e1 (a.free c ob q n hx) hx
  there := fun c ob q hx => by
    obtain ⟨o', e1⟩ := a.there c ob q hx
    exact b.there c o' e1 hx
  tups := fun c xs q => b.tups c xs (a.tups c xs q)
  frzs := fun c ob xs q => b.frzs c ob xs (a.frzs c ob xs q)
  tbls := fun c ps q => by
    obtain ⟨m1, e1⟩ := a.tbls c ps q
    obtain ⟨m2, e2⟩ := b.tbls c _ e1
    exact ⟨m1 ++ m2, by rw [e2, Array.append_assoc]⟩
theorem Un.kept (k : ∀ b u, h.get? b = some u → h'.get? b = some u) : Un fs ex H H h h' :=
  ⟨fun b ob q _ _ _ => k b ob q, fun b ob q _ _ _ => ⟨ob.slots, k b ob q⟩, fun _ _ _ n _ => n, fun b ob q _ => ⟨ob, k b ob q⟩, fun _ _ q => q, fun _ _ _ q => q, fun _ ps q => ⟨#[], by rw [q]; simp⟩⟩
theorem Un.refl : Un fs ex H H h h := Un.kept fun _ _ q => q
theorem Un.laid (k : ∀ b u, h.get? b = some u → h'.get? b = some u) (hp : h.objs.size ≤ a) (hn : H a = none) : Un fs ex H (upd H a o) h h' where
  keep := fun b u q _ _ _ => k b u q
  slot := fun b u q _ _ _ => ⟨u.slots, k b u q⟩
  free := fun b u q n _ => by rw [upd_ne (Nat.ne_of_lt (Nat.lt_of_lt_of_le (Heap.lt_size q) hp))]; exact n
  there := fun b u q _ => ⟨u, k b u q⟩
  tups := fun b xs q => by rw [upd_ne (ne_of_none q hn)]; exact q
  frzs := fun b u xs q => by rw [upd_ne (ne_of_none q hn)]; exact q
  tbls := fun b ps q => ⟨#[], by rw [upd_ne (ne_of_none q hn), q]; simp⟩
theorem Un.write (mu : Mut (H x)) (he : e = x ∨ H e = some (.own x)) (k : ∀ b u, b ≠ e → h.get? b = some u → h'.get? b = some u) (heo : ∃ u, h'.get? e = some u) : Un fs ex H (upd H x o) h h' := by
  have hx : ∀ b, H b = none → b ≠ x := fun b n z => by subst z; rw [n] at mu; exact mu
  have hb : ∀ b, H b = none → b ≠ e := fun b n z => by
    subst z
    rcases he with r | r
    · exact hx b n r
    · rw [n] at r; cases r
  have hm : ∀ b u, H b = some u → ¬ Mut (some u) → b ≠ x := fun b u q nm z => by subst z; rw [q] at mu; exact nm mu
  refine ⟨fun b u q n _ _ => k b u (hb b n) q, fun b u q n _ _ => ⟨u.slots, k b u (hb b n) q⟩, fun b u q n _ => by rw [upd_ne (hx b n)]; exact n, fun b u q _ => ?_,
    fun b xs q => by rw [upd_ne (hm b _ q fun z => z)]; exact q, fun b u xs q => by rw [upd_ne (hm b _ q fun z => z)]; exact q, fun b ps q => ⟨#[], by rw [upd_ne (hm b _ q fun z => z), q]; simp⟩⟩
  by_cases hbe : b = e
  · subst hbe; exact heo
  · exact ⟨u, k b u hbe q⟩
theorem Un.mono (u : Un fs ex H H1 h h1) (hs : ∀ b ∈ fs, b ∈ fs') (hx : ∀ b ∈ ex, b ∈ ex') : Un fs' ex' H H1 h h1 :=
  ⟨fun b ob q n hb he => u.keep b ob q n (fun z => hb (hs b z)) fun z => he (hx b z), fun _ _ q n _ he => u.any q n fun z => he (hx _ z), fun b ob q n he => u.free b ob q n fun z => he (hx b z), fun b ob q he => u.there b ob q fun z => he (hx b z), u.tups, u.frzs, u.tbls⟩
end

/-! ### the heap without what is tracked -/
def trk (h : Heap) (H : Hp) : List Addr := (List.range h.objs.size).filter fun a => (H a).isSome
def hidT (h : Heap) (H : Hp) : Heap := PySem.W.hideAll h (trk h H)
theorem hidT_size (h : Heap) (H : Hp) : (hidT h H).objs.size = h.objs.size := PySem.W.hideAll_size _ _
theorem hidT_get {h : Heap} {H : Hp} {b : Addr} {o : Obj} (e : h.get? b = some o) (n : H b = none) : (hidT h H).get? b = some o :=
  PySem.W.hideAll_get _ e fun hm => by
    have q : (H b).isSome = true := (List.mem_filter.mp hm).2
    rw [n] at q; simp at q
theorem of_hidT {h : Heap} {H : Hp} {b : Addr} {o : Obj} (e : (hidT h H).get? b = some o) : h.get? b = some o ∧ H b = none := by
  have e' : h.get? b = some o := PySem.W.of_hideAll (trk h H) e
  refine ⟨e', ?_⟩
  cases q : H b with
  | none => rfl
  | some x =>
    have hm : b ∈ trk h H := List.mem_filter.mpr ⟨List.mem_range.mpr (Heap.lt_size e'), by simp [q]⟩
    have z : (hidT h H).get? b = none := PySem.W.hideAll_none (trk h H) hm
    rw [z] at e; cases e

/-! ### OpenK's ledger, filled with every new object but one -/
def allNews (g h : Heap) (L : Addr) : List (Addr × Obj) := (List.range h.objs.size).filterMap fun a => if a = L ∨ (g.get? a).isSome = true then none else (h.get? a).map fun o => (a, o)
theorem mem_allNews {g h : Heap} {L a : Addr} {o : Obj} (h1 : a ≠ L) (h2 : g.get? a = none) (h3 : h.get? a = some o) : (a, o) ∈ allNews g h L :=
  List.mem_filterMap.mpr ⟨a, List.mem_range.mpr (Heap.lt_size h3), by simp [h1, h2, h3]⟩
theorem of_mem_allNews {g h : Heap} {L : Addr} {p : Addr × Obj} (hp : p ∈ allNews g h L) : p.1 ≠ L ∧ g.get? p.1 = none ∧ h.get? p.1 = some p.2 := by
  obtain ⟨b, _, e⟩ := List.mem_filterMap.mp hp
  split at e
  · cases e
  · rename_i hn
    cases q : h.get? b with
    | none => rw [q] at e; simp at e
    | some u =>
      rw [q] at e
      simp only [Option.map_some, Option.some.injEq] at e
      subst e
      refine ⟨fun z => hn (.inl z), ?_, q⟩
      show g.get? b = none
      cases r : g.get? b with
      | none => rfl
      | some v => exact (hn (.inr (by simp [r]))).elim
def rest (g h : Heap) (L d : Addr) : List (Addr × Obj) := (allNews g h L).filter fun p => decide (p.1 ≠ d)
theorem rest_ne {g h : Heap} {L d : Addr} : ∀ p ∈ rest g h L d, p.1 ≠ d := fun p hp => of_decide_eq_true (List.mem_filter.mp hp).2
theorem mem_rest {g h : Heap} {L d a : Addr} {o : Obj} (h1 : a ≠ L) (h2 : g.get? a = none) (h3 : h.get? a = some o) (h4 : a ≠ d) : (a, o) ∈ rest g h L d :=
  List.mem_filter.mpr ⟨mem_allNews h1 h2 h3, decide_eq_true h4⟩
theorem news_all {g h : Heap} {L : Addr} : News g L h (allNews g h L) := fun p hp => let ⟨a, b, c⟩ := of_mem_allNews hp; ⟨c, a, b⟩
theorem news_at {g h : Heap} {L d : Addr} {o : Obj} (h1 : d ≠ L) (h2 : g.get? d = none) (h3 : h.get? d = some o) : News g L h ((d, o) :: rest g h L d) := fun p hp => by
  rcases List.mem_cons.mp hp with rfl | hp
  · exact ⟨h3, h1, h2⟩
  · exact news_all p (List.mem_filter.mp hp).1
/-- behind a rule that changed d alone: all else but the frame is kept -/
theorem kept_of_news {g h h' : Heap} {L d : Addr} {m : Str → Option Value} (k : ∀ b o, g.get? b = some o → h.get? b = some o) (F : Fr g L h' m) (N : News g L h' (rest g h L d)) :
    ∀ b o, b ≠ L → b ≠ d → h.get? b = some o → h'.get? b = some o := fun b o h1 h2 e => by
  cases q : g.get? b with
  | some u =>
    have := k b u q
    rw [e] at this; cases this
    exact F.keep b _ q
  | none => exact (N (b, o) (mem_rest h1 q e h2)).1
end L2

namespace L2
open PySem PySem.Spec PyProof.Rows

/-- the module's facts, over the base: the heap at the law's entry without what is tracked there -/
structure Mod (K : PySem.W.Frag) (mg : Str → Option Value) (base : Heap) : Prop where
  kin : K.In base
  glob : base.Ns mainGlobals mg
  blt : ∃ mb, base.Ns builtinsNs mb ∧ ∀ x : Str, x ≠ "__name__" → mb x = bootBuiltins x
  nolimit : base.NoLimit

/-- the context: a def's body (or a comprehension's block) running. base: fixed through the whole law; s₀, H₀: the entry; outer: the frames whose slots others may change (a def's callers); stack: all frames that run;
   ex: iterators that were made ahead of the entry and are walked here (a comprehension's); fn: the names whose cells were made at the entry (a def: all; a comprehension's block: its own); calm: not within an except suite; pn: pins that every state bears; xe: what is wanted of an exception that leaves the code -/
structure Cx where
  prog : Program
  w : World
  K : PySem.W.Frag
  mg : Str → Option Value
  base : Heap
  A : Around
  N : List Str
  s₀ : Shared
  H₀ : Hp
  env : Env
  outer : List Env
  stack : List Env
  ex : List Addr
  fn : Str → Bool
  calm : Bool
  pn : List (Addr × Obj)
  xe : Value → Shared → Prop
/-- the callers' frames -/
def frs (l : List Env) : List Addr := l.filterMap (·.frame)
abbrev Cx.fs (X : Cx) : List Addr := frs X.outer

def Vis (sc : Scope) (x : Str) : Prop := sc.names.lookup x = some .local ∨ sc.names.lookup x = some .cell ∨ sc.names.lookup x = some .free
def Loc (sc : Scope) (x : Str) : Prop := sc.names.lookup x = some .local ∨ sc.names.lookup x = some .cell
def Look (env : Env) (h : Heap) (m : Str → Option Value) (x : Str) (u : Value) : Prop :=
  (env.kindOf x = some .local ∧ m x = some u) ∨ ((env.kindOf x = some .cell ∨ env.kindOf x = some .free) ∧ ∃ c, env.cells.lookup x = some c ∧ h.IsCell c (some u))

structure Cx.Ok (X : Cx) : Prop where
  mod : Mod X.K X.mg X.base
  kind : X.env.scope.kind = .function
  glob : X.env.globals = mainGlobals
  blt : X.env.builtins = builtinsNs
  above : X.s₀.heap.objs.size ≤ X.env.locals
  inj : ∀ x y c, X.env.cells.lookup x = some c → X.env.cells.lookup y = some c → x = y
  has : ∀ x, (X.env.kindOf x = some .cell ∨ X.env.kindOf x = some .free) → ∃ c, X.env.cells.lookup x = some c
  cab : ∀ x c, X.fn x = true → X.env.cells.lookup x = some c → X.s₀.heap.objs.size ≤ c
  hd : X.calm = true → X.A.handled = none
  frames : X.A.frames = some X.stack
  stk : X.stack = X.outer ∨ (X.stack = X.env :: X.outer ∧ X.env.frame = some X.env.locals)
  exf : ∀ b ∈ X.ex, b ≠ X.env.locals ∧ ∀ x c, X.env.cells.lookup x = some c → c ≠ b
  bs : ∀ b o, X.base.get? b = some o → X.s₀.heap.get? b = some o ∧ X.H₀ b = none
  bsz : X.base.objs.size ≤ X.s₀.heap.objs.size
  noex : ∀ b o, X.base.get? b = some o → b ∉ X.ex
  exfs : ∀ b ∈ X.ex, b ∉ X.fs
  funs : X.s₀.heap.FunFrames X.base X.outer
  frf : ∀ b ∈ X.fs, X.H₀ b = none

structure Inv (X : Cx) (pins : List (Addr × Obj)) (σ : List (Option V)) (H : Hp) (s : Shared) : Prop where
  ok : X.Ok
  os : s.os = X.s₀.os
  bare : AllBare s.gens
  base : Un X.fs X.ex X.H₀ H X.s₀.heap s.heap
  loc : ∃ m, s.heap.Ns X.env.locals m ∧ ∀ (i : Nat) (x : Str) (v : V), X.N[i]? = some x → σ[i]? = some (some v) → Vis X.env.scope x → ∃ u, RelV v u ∧ Look X.env s.heap m x u
  cell : ∀ x c, X.env.cells.lookup x = some c → ∃ v, s.heap.IsCell c v
  free : H X.env.locals = none
  freeC : ∀ x c, X.env.cells.lookup x = some c → H c = none ∨ (X.fn x = false ∧ ∃ o u, H c = some (.frz o u))
  pin : ∀ p ∈ X.pn ++ pins, s.heap.get? p.1 = some p.2 ∧ H p.1 = none ∧ p.1 ≠ X.env.locals ∧ p.1 ∉ X.fs ∧ ∀ v, p.2.data ≠ .cell v
  hok : HOk X.prog X.w H s.heap
  len : σ.length = X.N.length

section
variable {X : Cx} {pins : List (Addr × Obj)} {σ : List (Option V)} {H H' : Hp} {s : Shared} {h' : Heap}

theorem Cx.Ok.nofr (ok : X.Ok) {b : Addr} {o : Obj} (e : X.base.get? b = some o) : b ∉ X.fs := fun hb => by
  have := (ok.funs.mem hb).1
  rw [e] at this; cases this
theorem Inv.bs (I : Inv X pins σ H s) : ∀ b o, X.base.get? b = some o → s.heap.get? b = some o ∧ H b = none := fun b o e =>
  ⟨I.base.keep b o (I.ok.bs b o e).1 (I.ok.bs b o e).2 (I.ok.nofr e) (I.ok.noex b o e), I.base.free b o (I.ok.bs b o e).1 (I.ok.bs b o e).2 (I.ok.noex b o e)⟩
theorem Inv.bk (I : Inv X pins σ H s) : ∀ b o, X.base.get? b = some o → s.heap.get? b = some o := fun b o e => (I.bs b o e).1
theorem Inv.mod (I : Inv X pins σ H s) : Mod X.K X.mg X.base := I.ok.mod
theorem Inv.kIn (I : Inv X pins σ H s) : X.K.In s.heap := I.ok.mod.kin.keeps I.bk
theorem Inv.nolimit (I : Inv X pins σ H s) : s.heap.NoLimit := I.ok.mod.nolimit.keeps I.bk
/-- the frame over the base: for OpenK's rules (K.In X.base is I.mod.kin) -/
theorem Inv.fr (I : Inv X pins σ H s) : ∃ m, Fr X.base X.env.locals s.heap m :=
  let ⟨m, hn, _⟩ := I.loc
  ⟨m, hn, I.bk, Nat.le_trans I.ok.bsz I.ok.above⟩
theorem Inv.lt (I : Inv X pins σ H s) : X.env.locals < s.heap.objs.size := let ⟨_, hn, _⟩ := I.loc; hn.lt
theorem Inv.sz (I : Inv X pins σ H s) : X.s₀.heap.objs.size ≤ s.heap.objs.size := Nat.le_trans I.ok.above (Nat.le_of_lt I.lt)
theorem Inv.nofs (I : Inv X pins σ H s) {a : Addr} (h : s.heap.objs.size ≤ a) : a ∉ X.fs := fun hb => by
  obtain ⟨_, o, ho, _⟩ := I.ok.funs.mem hb
  exact absurd (Nat.lt_of_lt_of_le (Heap.lt_size ho) (Nat.le_trans I.sz h)) (Nat.lt_irrefl _)
theorem Inv.cne (I : Inv X pins σ H s) : ∀ x c, X.env.cells.lookup x = some c → c ≠ X.env.locals := fun x c e z => by
  obtain ⟨v, o, ho, hd⟩ := I.cell x c e
  obtain ⟨m, ⟨o', es, ep, ho', hd', _⟩, _⟩ := I.loc
  rw [z, ho'] at ho; cases ho; rw [hd'] at hd; cases hd
theorem Inv.funs (I : Inv X pins σ H s) : s.heap.FunFrames X.base X.outer := by
  have all : ∀ (l : List Env), (∀ b ∈ frs l, b ∈ X.fs) → X.s₀.heap.FunFrames X.base l → s.heap.FunFrames X.base l := by
    intro l
    induction l with
    | nil => intro _ _; trivial
    | cons env r ih =>
      intro hs hl
      obtain ⟨hk, ⟨L, o, hf, hn, ho, hd⟩, hr⟩ := hl
      have hL : L ∈ X.fs := hs L (by unfold frs; rw [List.filterMap_cons, hf]; exact List.mem_cons_self)
      obtain ⟨sl, e⟩ := I.base.slot L o ho (I.ok.frf L hL) hL fun z => I.ok.exfs L z hL
      exact ⟨hk, ⟨L, _, hf, hn, e, hd⟩, ih (fun b hb => hs b (by unfold frs; rw [List.filterMap_cons, hf]; exact List.mem_cons_of_mem _ hb)) hr⟩
  exact all X.outer (fun _ hb => hb) I.ok.funs

/-- the frames that run, for a call -/
theorem Inv.stack (I : Inv X pins σ H s) : s.heap.FunFrames X.base X.stack := by
  rcases I.ok.stk with e | ⟨e, hf⟩
  · rw [e]; exact I.funs
  · rw [e]
    obtain ⟨m, hn, _⟩ := I.loc
    refine .cons (by rw [I.ok.kind]; decide) hf hn ?_ I.funs
    exact Heap.get?_none_of_le (Nat.le_trans I.ok.bsz I.ok.above)
theorem Inv.stkSub (I : Inv X pins σ H s) : ∀ b ∈ frs X.stack, b ∈ X.env.locals :: X.fs := fun b hb => by
  rcases I.ok.stk with e | ⟨e, hf⟩
  · rw [e] at hb; exact List.mem_cons_of_mem _ hb
  · rw [e] at hb
    unfold frs at hb
    rw [List.filterMap_cons, hf] at hb
    exact hb
theorem Inv.stkFree (I : Inv X pins σ H s) : ∀ b ∈ frs X.stack, H b = none := fun b hb => by
  rcases List.mem_cons.mp (I.stkSub b hb) with e | hb
  · rw [e]; exact I.free
  · obtain ⟨_, o, ho, _⟩ := I.ok.funs.mem hb
    exact I.base.free b o ho (I.ok.frf b hb) fun z => I.ok.exfs b z hb

/-- THE STEP: the untracked objects but the frame and the records at ch are kept (the callers' frames up to slots), the frame's map is kept, the new abstract heap is held -/
theorem Inv.step {g' : Array GenState} {t' : Nat} {d' : Drawn} {ch : List Addr} (I : Inv X pins σ H s)
    (hch : ∀ b ∈ ch, (b ∈ X.ex ∨ X.s₀.heap.objs.size ≤ b) ∧ b ≠ X.env.locals ∧ (∀ x c, X.env.cells.lookup x = some c → c ≠ b) ∧ ∀ p ∈ X.pn ++ pins, p.1 ≠ b)
    (keep : ∀ b o, b ≠ X.env.locals → b ∉ X.fs → b ∉ ch → s.heap.get? b = some o → H b = none → h'.get? b = some o)
    (slot : ∀ b o, b ≠ X.env.locals → b ∈ X.fs → b ∉ ch → s.heap.get? b = some o → H b = none → ∃ sl, h'.get? b = some { o with slots := sl }) (free : ∀ b o, b ∉ ch → s.heap.get? b = some o → H b = none → H' b = none)
    (there : ∀ b o, b ∉ ch → s.heap.get? b = some o → ∃ o', h'.get? b = some o')
    (tups : ∀ b xs, H b = some (.tup xs) → H' b = some (.tup xs)) (frzs : ∀ b o u, H b = some (.frz o u) → H' b = some (.frz o u)) (tbls : ∀ b ps, H b = some (.tbl ps) → ∃ more, H' b = some (.tbl (ps ++ more)))
    (ns : ∀ m, s.heap.Ns X.env.locals m → h'.Ns X.env.locals m) (hok : HOk X.prog X.w H' h') (hg : AllBare g') :
    Inv X pins σ H' { s with heap := h', gens := g', drawn := d', toks := t' } := by
  have neL : ∀ b o, X.s₀.heap.get? b = some o → b ≠ X.env.locals := fun b o e => Nat.ne_of_lt (Nat.lt_of_lt_of_le (Heap.lt_size e) I.ok.above)
  have neC : ∀ b o, X.s₀.heap.get? b = some o → b ∉ X.ex → b ∉ ch := fun b o e hx hb => by
    rcases (hch b hb).1 with z | z
    · exact hx z
    · exact absurd (Nat.lt_of_lt_of_le (Heap.lt_size e) z) (Nat.lt_irrefl _)
  have cellK : ∀ x c, X.env.cells.lookup x = some c → ∀ v, s.heap.IsCell c v → h'.IsCell c v := fun x c e v ⟨o, ho, hd⟩ => by
    have nch : c ∉ ch := fun z => (hch c z).2.2.1 x c e rfl
    rcases I.freeC x c e with fc | ⟨_, of, uf, fc⟩
    · by_cases hc : c ∈ X.fs
      · obtain ⟨sl, q⟩ := slot c o (I.cne x c e) hc nch ho fc
        exact ⟨_, q, hd⟩
      · exact ⟨o, keep c o (I.cne x c e) hc nch ho fc, hd⟩
    · obtain ⟨e1, _⟩ := I.hok c _ fc
      obtain ⟨e2, _⟩ := hok c _ (frzs c _ _ fc)
      rw [ho] at e1; cases e1
      exact ⟨o, e2, hd⟩
  refine ⟨I.ok, I.os, hg, ⟨fun b o e n hb hx => ?_, fun b o e n hb hx => ?_, fun b o e n hx => ?_, fun b o e hx => ?_, fun b xs e => tups b xs (I.base.tups b xs e), fun b o xs e => frzs b o xs (I.base.frzs b o xs e), fun b ps e => ?_⟩, ?_, fun x c e => ?_, ?_, fun x c e => ?_, fun p hp => ?_, hok, I.len⟩
  · exact keep b o (neL b o e) hb (neC b o e hx) (I.base.keep b o e n hb hx) (I.base.free b o e n hx)
  · obtain ⟨sl, e1⟩ := I.base.slot b o e n hb hx
    obtain ⟨sl', e2⟩ := slot b _ (neL b o e) hb (neC b o e hx) e1 (I.base.free b o e n hx)
    exact ⟨sl', e2⟩
  · obtain ⟨o', e1⟩ := I.base.there b o e hx
    exact free b o' (neC b o e hx) e1 (I.base.free b o e n hx)
  · obtain ⟨o', e1⟩ := I.base.there b o e hx
    exact there b o' (neC b o e hx) e1
  · obtain ⟨m1, e1⟩ := I.base.tbls b ps e
    obtain ⟨m2, e2⟩ := tbls b _ e1
    exact ⟨m1 ++ m2, by rw [e2, Array.append_assoc]⟩
  · obtain ⟨m, hn, hl⟩ := I.loc
    refine ⟨m, ns m hn, fun i x v e1 e2 e3 => ?_⟩
    obtain ⟨u, r, l⟩ := hl i x v e1 e2 e3
    refine ⟨u, r, ?_⟩
    rcases l with l | ⟨k, c, e, z⟩
    · exact .inl l
    · exact .inr ⟨k, c, e, cellK x c e _ z⟩
  · obtain ⟨v, z⟩ := I.cell x c e
    exact ⟨v, cellK x c e v z⟩
  · obtain ⟨m, ⟨o, _, _, ho, _⟩, _⟩ := I.loc
    exact free _ o (fun z => (hch _ z).2.1 rfl) ho I.free
  · obtain ⟨v, o, ho, hd⟩ := I.cell x c e
    rcases I.freeC x c e with fc | ⟨hf, of, uf, fc⟩
    · exact .inl (free c o (fun z => (hch c z).2.2.1 x c e rfl) ho fc)
    · exact .inr ⟨hf, of, uf, frzs c _ _ fc⟩
  · obtain ⟨e, n, ne, nf, d⟩ := I.pin p hp
    have nch : p.1 ∉ ch := fun z => (hch p.1 z).2.2.2 p hp rfl
    exact ⟨keep p.1 p.2 ne nf nch e n, free p.1 p.2 nch e n, ne, nf, d⟩
/-- .. where the frame's own object is kept too -/
theorem Inv.un {t' : Nat} (I : Inv X pins σ H s) (u : Un X.fs [] H H' s.heap h') (hok : HOk X.prog X.w H' h') : Inv X pins σ H' { s with heap := h', toks := t' } := by
  obtain ⟨m, ⟨o, es, ep, ho, r⟩, _⟩ := id I.loc
  obtain ⟨sl, hL⟩ := u.any ho I.free (by simp)
  exact I.step (g' := s.gens) (d' := s.drawn) (ch := []) (fun _ z => nomatch z) (fun b o _ hb _ e n => u.keep b o e n hb (by simp)) (fun b o _ hb _ e n => u.slot b o e n hb (by simp)) (fun b o _ e n => u.free b o e n (by simp)) (fun b o _ e => u.there b o e (by simp)) u.tups u.frzs u.tbls (fun m' hm => by
    obtain ⟨o', es', ep', ho', r'⟩ := hm
    rw [ho] at ho'; cases ho'
    exact ⟨_, es', ep', hL, r'⟩) hok I.bare
/-- behind a call (or a comprehension's block): the slots of this frame may have changed too, the records at ch may have turned -/
theorem Inv.call {g' : Array GenState} {t' : Nat} {d' : Drawn} {ch : List Addr} (I : Inv X pins σ H s) (u : Un (frs X.stack) ch H H' s.heap h') (hok : HOk X.prog X.w H' h') (hg : AllBare g')
    (hch : ∀ b ∈ ch, (b ∈ X.ex ∨ X.s₀.heap.objs.size ≤ b) ∧ b ≠ X.env.locals ∧ (∀ x c, X.env.cells.lookup x = some c → c ≠ b) ∧ ∀ p ∈ X.pn ++ pins, p.1 ≠ b) :
    Inv X pins σ H' { s with heap := h', gens := g', drawn := d', toks := t' } := by
  obtain ⟨m, ⟨o, es, ep, ho, r⟩, _⟩ := id I.loc
  obtain ⟨sl, hL⟩ := u.any ho I.free fun z => (hch _ z).2.1 rfl
  exact I.step (ch := ch) hch (fun b o hL hb hc e n => u.keep b o e n (fun z => (List.mem_cons.mp (I.stkSub b z)).elim hL hb) hc) (fun b o _ _ hc e n => u.any e n hc) (fun b o hc e n => u.free b o e n hc) (fun b o hc e => u.there b o e hc) u.tups u.frzs u.tbls (fun m' hm => by
    obtain ⟨o', es', ep', ho', r'⟩ := hm
    rw [ho] at ho'; cases ho'
    exact ⟨_, es', ep', hL, r'⟩) hok hg
/-- an untracked record of ours (an iterator) has turned -/
theorem Inv.turned {t' : Nat} {it : Addr} (I : Inv X pins σ H s) (k : ∀ b o, b ≠ it → s.heap.get? b = some o → h'.get? b = some o) (hn : H it = none) (hL : it ≠ X.env.locals)
    (h1 : it ∈ X.ex ∨ X.s₀.heap.objs.size ≤ it) (h2 : ∀ x c, X.env.cells.lookup x = some c → c ≠ it) (h3 : ∀ p ∈ X.pn ++ pins, p.1 ≠ it) : Inv X pins σ H { s with heap := h', toks := t' } := by
  have nit : ∀ b u, H b = some u → b ≠ it := fun b u e z => by rw [z, hn] at e; cases e
  refine I.step (g' := s.gens) (d' := s.drawn) (ch := [it]) (fun b hb => ?_) (fun b o _ _ hc e _ => k b o (fun z => hc (by simp [z])) e) (fun b o _ _ hc e _ => ⟨o.slots, k b o (fun z => hc (by simp [z])) e⟩) (fun _ _ _ _ n => n)
    (fun b o hc e => ⟨o, k b o (fun z => hc (by simp [z])) e⟩) (fun _ _ e => e) (fun _ _ _ e => e) (fun b ps e => ⟨#[], by rw [e]; simp⟩) (fun m hm => ?_) (fun b u e => ?_) I.bare
  · have e : b = it := by simpa using hb
    subst e
    exact ⟨h1, hL, h2, h3⟩
  · obtain ⟨o, es, ep, ho, r⟩ := hm
    exact ⟨o, es, ep, k _ o (Ne.symm hL) ho, r⟩
  · refine (I.hok b u e).stay (fun c v hc q => k c v ?_ q) (fun _ q => q) fun _ _ q => q
    rcases hc with z | z
    · rw [z]; exact nit b u e
    · exact nit c _ z
theorem Inv.tok (I : Inv X pins σ H s) (t : Nat) : Inv X pins σ H { s with toks := t } := I.un (h' := s.heap) (t' := t) Un.refl I.hok
/-- all objects kept -/
theorem Inv.kept {t' : Nat} (I : Inv X pins σ H s) (k : ∀ b u, s.heap.get? b = some u → h'.get? b = some u) : Inv X pins σ H { s with heap := h', toks := t' } := I.un (Un.kept k) (I.hok.kept k)
/-- a new object laid and tracked -/
theorem Inv.laid {a : Addr} {o : HO} {t' : Nat} (I : Inv X pins σ H s) (k : ∀ b u, s.heap.get? b = some u → h'.get? b = some u) (hp : s.heap.objs.size ≤ a) (new : ObjOk X.prog X.w (upd H a o) h' a o) :
    Inv X pins σ (upd H a o) { s with heap := h', toks := t' } := I.un (Un.laid k hp (I.hok.fresh hp)) (I.hok.laid k hp new)
/-- an object written -/
theorem Inv.write {x e : Addr} {o : HO} {t' : Nat} (I : Inv X pins σ H s) (mu : Mut (H x)) (he : e = x ∨ H e = some (.own x)) (k : ∀ b u, b ≠ e → s.heap.get? b = some u → h'.get? b = some u) (heo : ∃ u, h'.get? e = some u)
    (new : ObjOk X.prog X.w (upd H x o) h' x o) : Inv X pins σ (upd H x o) { s with heap := h', toks := t' } := I.un (Un.write mu he k heo) (I.hok.write mu he k heo new)
/-- forgetting slots, pins -/
theorem Inv.weak {σ' : List (Option V)} (I : Inv X pins σ H s) (hl : σ'.length = σ.length) (w : ∀ (i : Nat) v, σ'[i]? = some (some v) → σ[i]? = some (some v)) : Inv X pins σ' H s :=
  ⟨I.ok, I.os, I.bare, I.base, let ⟨m, hn, hl'⟩ := I.loc; ⟨m, hn, fun i x v e1 e2 e3 => hl' i x v e1 (w i v e2) e3⟩, I.cell, I.free, I.freeC, I.pin, I.hok, hl.trans I.len⟩
theorem Inv.pins_of {pins' : List (Addr × Obj)} (I : Inv X pins σ H s) (h : ∀ p ∈ pins', s.heap.get? p.1 = some p.2 ∧ H p.1 = none ∧ p.1 ≠ X.env.locals ∧ p.1 ∉ X.fs ∧ ∀ v, p.2.data ≠ .cell v) : Inv X pins' σ H s :=
  ⟨I.ok, I.os, I.bare, I.base, I.loc, I.cell, I.free, I.freeC, fun p hp => (List.mem_append.mp hp).elim (fun z => I.pin p (List.mem_append_left _ z)) (h p), I.hok, I.len⟩

theorem nodup_ix {N : List Str} (hN : N.Nodup) {i j : Nat} {x : Str} (a : N[i]? = some x) (b : N[j]? = some x) : i = j := by
  obtain ⟨h1, e1⟩ := List.getElem?_eq_some_iff.mp a
  obtain ⟨h2, e2⟩ := List.getElem?_eq_some_iff.mp b
  exact (List.getElem_inj hN).mp (e1.trans e2.symm)

/-- a name is stored; what changed -/
theorem store_ok2 {M : Model} {A : Around} {E : Value → Shared → Prop} {i : Nat} {x : Str} {v : V} {u : Value} {Q : Unit → Shared → Prop} (I : Inv X pins σ H s) (hN : X.N.Nodup) (hi : X.N[i]? = some x) (hx : Loc X.env.scope x) (r : RelV v u)
    (h : ∀ s', Inv X pins (σ.set i (some v)) H s' → (∃ a, Heap.SameBut a s.heap s'.heap ∧ (a = X.env.locals ∨ X.env.cells.lookup x = some a)) → Q () s') (hf : X.fn x = true ∨ X.env.scope.names.lookup x = some .local := by first | exact .inl rfl | exact .inr rfl | assumption) : wpAny M A (storeName X.env x u) Q E s := by
  obtain ⟨m, hn, hl⟩ := id I.loc
  have hcls : (X.env.scope.kind == .class || (X.env.scope.kind == .module && X.env.locals != X.env.globals)) = false := by rw [I.ok.kind]; rfl
  have hiσ : i < σ.length := by rw [I.len]; exact (List.getElem?_eq_some_iff.mp hi).1
  have cne := I.cne
  have tracked : ∀ {a : Addr} {h' : Heap}, (∃ o, s.heap.get? a = some o ∧ H a = none) → Heap.SameBut a s.heap h' → HOk X.prog X.w H h' := fun {a h'} ha hs b ob e => by
    obtain ⟨_, _, hfree⟩ := ha
    refine (I.hok b ob e).stay (fun c w' hc q => (hs.2 c ?_).trans q) (fun _ q => q) fun _ _ q => q
    rintro rfl
    rcases hc with rfl | hc
    · rw [hfree] at e; cases e
    · rw [hfree] at hc; cases hc
  rcases hx with hk | hk
  · refine wpAny_storeName_local hk hn (fun h' hn' hs => ?_) hcls
    obtain ⟨oL, _, _, hoL, _⟩ := id hn
    refine h _ ⟨I.ok, I.os, I.bare, ⟨fun b o e n hb hx => ?_, fun b o e n hb hx => ?_, I.base.free, fun b o e hx => ?_, I.base.tups, I.base.frzs, I.base.tbls⟩, ⟨_, hn', fun j y v' e1 e2 e3 => ?_⟩, fun y c e => ?_, I.free, I.freeC, fun p hp => ?_, tracked ⟨oL, hoL, I.free⟩ hs, by simpa using I.len⟩ ⟨_, hs, .inl rfl⟩
    · exact (hs.2 b (Nat.ne_of_lt (Nat.lt_of_lt_of_le (Heap.lt_size e) I.ok.above))).trans (I.base.keep b o e n hb hx)
    · obtain ⟨sl, e1⟩ := I.base.slot b o e n hb hx
      exact ⟨sl, (hs.2 b (Nat.ne_of_lt (Nat.lt_of_lt_of_le (Heap.lt_size e) I.ok.above))).trans e1⟩
    · obtain ⟨o', e1⟩ := I.base.there b o e hx
      exact ⟨o', (hs.2 b (Nat.ne_of_lt (Nat.lt_of_lt_of_le (Heap.lt_size e) I.ok.above))).trans e1⟩
    · by_cases hj : j = i
      · subst hj
        rw [hi] at e1; cases e1
        rw [List.getElem?_set_self hiσ] at e2
        cases e2
        exact ⟨u, r, .inl ⟨hk, by simp⟩⟩
      · rw [List.getElem?_set_ne (Ne.symm hj)] at e2
        obtain ⟨u', r', q⟩ := hl j y v' e1 e2 e3
        refine ⟨u', r', ?_⟩
        rcases q with ⟨k, e⟩ | ⟨k, c, e, z⟩
        · refine .inl ⟨k, ?_⟩
          have : y ≠ x := fun e => hj (nodup_ix hN e1 (e ▸ hi))
          simp [this, e]
        · exact .inr ⟨k, c, e, z.sameBut hs (cne y c e)⟩
    · obtain ⟨w', z⟩ := I.cell y c e
      exact ⟨w', z.sameBut hs (cne y c e)⟩
    · obtain ⟨e, n, ne, nf, d⟩ := I.pin p hp
      exact ⟨(hs.2 p.1 ne).trans e, n, ne, nf, d⟩
  · have hfn : X.fn x = true := by
      rcases hf with z | z
      · exact z
      · rw [z] at hk; cases hk
    obtain ⟨c, hc⟩ := I.ok.has x (.inl hk)
    obtain ⟨w', z⟩ := I.cell x c hc
    refine wpAny_storeName_cell I.ok.kind hk hc z (fun h' hc' hs => ?_)
    obtain ⟨oc, hoc, hocd⟩ := id z
    refine h { s with heap := h' } ⟨I.ok, I.os, I.bare, ⟨fun b o e n hb hx => ?_, fun b o e n hb hx => ?_, I.base.free, fun b o e hx => ?_, I.base.tups, I.base.frzs, I.base.tbls⟩, ⟨m, hn.sameBut hs (Ne.symm (cne x c hc)), fun j y v' e1 e2 e3 => ?_⟩, fun y c' e => ?_, I.free, I.freeC, fun p hp => ?_, tracked ⟨oc, hoc, (I.freeC x c hc).elim id fun z => absurd (hfn.symm.trans z.1) (by decide)⟩ hs, by simpa using I.len⟩ ⟨c, hs, .inr hc⟩
    · exact (hs.2 b (Nat.ne_of_lt (Nat.lt_of_lt_of_le (Heap.lt_size e) (I.ok.cab x c hfn hc)))).trans (I.base.keep b o e n hb hx)
    · obtain ⟨sl, e1⟩ := I.base.slot b o e n hb hx
      exact ⟨sl, (hs.2 b (Nat.ne_of_lt (Nat.lt_of_lt_of_le (Heap.lt_size e) (I.ok.cab x c hfn hc)))).trans e1⟩
    · obtain ⟨o', e1⟩ := I.base.there b o e hx
      exact ⟨o', (hs.2 b (Nat.ne_of_lt (Nat.lt_of_lt_of_le (Heap.lt_size e) (I.ok.cab x c hfn hc)))).trans e1⟩
    · by_cases hj : j = i
      · subst hj
        rw [hi] at e1; cases e1
        rw [List.getElem?_set_self hiσ] at e2
        cases e2
        exact ⟨u, r, .inr ⟨.inl hk, c, hc, hc'⟩⟩
      · rw [List.getElem?_set_ne (Ne.symm hj)] at e2
        obtain ⟨u', r', q⟩ := hl j y v' e1 e2 e3
        refine ⟨u', r', ?_⟩
        rcases q with q | ⟨k, c', e, z'⟩
        · exact .inl q
        · refine .inr ⟨k, c', e, z'.sameBut hs ?_⟩
          rintro rfl
          exact hj (nodup_ix hN e1 (I.ok.inj _ _ _ e hc ▸ hi))
    · by_cases hcc : c' = c
      · subst hcc; exact ⟨_, hc'⟩
      · obtain ⟨w2, z2⟩ := I.cell y c' e
        exact ⟨w2, z2.sameBut hs hcc⟩
    · obtain ⟨e, n, ne, nf, d⟩ := I.pin p hp
      refine ⟨(hs.2 p.1 ?_).trans e, n, ne, nf, d⟩
      intro q
      rw [q, hoc] at e
      have q' : oc = p.2 := Option.some.inj e
      exact d w' (by rw [← q']; exact hocd)
theorem store_ok {M : Model} {A : Around} {E : Value → Shared → Prop} {i : Nat} {x : Str} {v : V} {u : Value} {Q : Unit → Shared → Prop} (I : Inv X pins σ H s) (hN : X.N.Nodup) (hi : X.N[i]? = some x) (hx : Loc X.env.scope x) (r : RelV v u)
    (h : ∀ s', Inv X pins (σ.set i (some v)) H s' → Q () s') (hf : X.fn x = true ∨ X.env.scope.names.lookup x = some .local := by first | exact .inl rfl | exact .inr rfl | assumption) : wpAny M A (storeName X.env x u) Q E s :=
  store_ok2 I hN hi hx r (fun s' I' _ => h s' I') hf
/-- behind a call or a block, the state as it is -/
theorem Inv.call' {s' : Shared} {ch : List Addr} (I : Inv X pins σ H s) (ho : s'.os = s.os) (u : Un (frs X.stack) ch H H' s.heap s'.heap) (hok : HOk X.prog X.w H' s'.heap) (hg : AllBare s'.gens)
    (hch : ∀ b ∈ ch, (b ∈ X.ex ∨ X.s₀.heap.objs.size ≤ b) ∧ b ≠ X.env.locals ∧ (∀ x c, X.env.cells.lookup x = some c → c ≠ b) ∧ ∀ p ∈ X.pn ++ pins, p.1 ≠ b) : Inv X pins σ H' s' := by
  obtain ⟨h', g', d', t', o'⟩ := s'
  have e : o' = s.os := ho
  subst e
  exact I.call (g' := g') (t' := t') (d' := d') u hok hg hch
end

/-! ### the judgements -/
/-- an exception: its class, its own dict's address (where it has one), the abstract heap behind it -/
abbrev XK := Value → Option Addr → Hp → Prop
abbrev St := List (Option V)
abbrev VK := V → Hp → Prop
/-- an expression's reading; a test's; an argument list's -/
abbrev TE := St → Hp → VK → Prop
abbrev TT := St → Hp → (Bool → Hp → Prop) → Prop
abbrev TA := St → Hp → (List V → Hp → Prop) → Prop
/-- what is wanted behind a statement -/
structure Ends where
  nx : St → Hp → Prop
  rt : VK
  bk : St → Hp → Prop := fun _ _ => False
  ct : St → Hp → Prop := fun _ _ => False
abbrev TS := Ends → St → Hp → Prop

def EP (X : Cx) (pins : List (Addr × Obj)) (σ : St) (Q : VK) (u : Value) (s' : Shared) : Prop := ∃ v H', Inv X pins σ H' s' ∧ RelV v u ∧ Q v H'
def TP (X : Cx) (pins : List (Addr × Obj)) (σ : St) (Q : Bool → Hp → Prop) (b : Bool) (s' : Shared) : Prop := ∃ H', Inv X pins σ H' s' ∧ Q b H'
def AP (X : Cx) (pins : List (Addr × Obj)) (σ : St) (Q : List V → Hp → Prop) (us : List Value) (s' : Shared) : Prop := ∃ vs H', Inv X pins σ H' s' ∧ Vals vs us ∧ Q vs H'
def SP (X : Cx) (pins : List (Addr × Obj)) (D : Ends) (f : Flow) (s' : Shared) : Prop :=
  match f with
  | .next => ∃ σ' H', Inv X pins σ' H' s' ∧ D.nx σ' H'
  | .brk => ∃ σ' H', Inv X pins σ' H' s' ∧ D.bk σ' H'
  | .cont => ∃ σ' H', Inv X pins σ' H' s' ∧ D.ct σ' H'
  | .ret u => ∃ v σ' H', Inv X pins σ' H' s' ∧ RelV v u ∧ D.rt v H'

def PE (X : Cx) (e : Expr) (t : TE) : Prop :=
  ∀ (pins : List (Addr × Obj)) (s : Shared) (σ : St) (H : Hp) (Q : VK), Inv X pins σ H s → t σ H Q → wpAny (model X.prog X.w) X.A (eval e X.env) (EP X pins σ Q) X.xe s
def PT (X : Cx) (e : Expr) (t : TT) : Prop :=
  ∀ (pins : List (Addr × Obj)) (s : Shared) (σ : St) (H : Hp) (Q : Bool → Hp → Prop), Inv X pins σ H s → t σ H Q → wpAny (model X.prog X.w) X.A (isTrue e X.env (eval e X.env)) (TP X pins σ Q) X.xe s
/-- a test whatever its 'whole' is (and, or) -/
def PW (X : Cx) (e : Expr) (t : TT) : Prop :=
  ∀ (whole : Sem Value) (pins : List (Addr × Obj)) (s : Shared) (σ : St) (H : Hp) (Q : Bool → Hp → Prop), Inv X pins σ H s → t σ H Q → wpAny (model X.prog X.w) X.A (isTrue e X.env whole) (TP X pins σ Q) X.xe s
theorem PW.pt {X : Cx} {e : Expr} {t : TT} (h : PW X e t) : PT X e t := h _
/-- an argument list (no star), from the left -/
def PA (X : Cx) (es : List Expr) (t : TA) : Prop :=
  ∀ (pos : Pos) (pins : List (Addr × Obj)) (s : Shared) (σ : St) (H : Hp) (Q : List V → Hp → Prop), Inv X pins σ H s → t σ H Q → wpAny (model X.prog X.w) X.A (spliced (backTo pos (starEach es X.env))) (AP X pins σ Q) X.xe s
def PS (X : Cx) (st : Stmt) (t : TS) : Prop :=
  ∀ (pins : List (Addr × Obj)) (s : Shared) (σ : St) (H : Hp) (D : Ends), Inv X pins σ H s → t D σ H → wpAny (model X.prog X.w) X.A (exec st X.env) (SP X pins D) X.xe s
def PSs (X : Cx) (st : List Stmt) (t : TS) : Prop :=
  ∀ (pins : List (Addr × Obj)) (s : Shared) (σ : St) (H : Hp) (D : Ends), Inv X pins σ H s → t D σ H → wpAny (model X.prog X.w) X.A (execs st X.env) (SP X pins D) X.xe s
/-- weaken the end -/
theorem thn {α : Type} {t : Sem α} {Q Q' : α → Shared → Prop} {M : Model} {A : Around} {E : Value → Shared → Prop} {s : Shared} (h : wpAny M A t Q E s) (hQ : ∀ a s, Q a s → Q' a s) : wpAny M A t Q' E s := wpAny_mono h hQ fun _ _ x => x
end L2

namespace L2
open PySem PySem.Spec PyProof.Rows
section
variable {X : Cx}

/-- two expressions in a row -/
theorem bin {a b : Expr} {ta tb : TE} (ha : PE X a ta) (hb : PE X b tb) {pins : List (Addr × Obj)} {s : Shared} {σ : St} {H : Hp} {R : V → V → Hp → Prop} (I : Inv X pins σ H s) (h : ta σ H fun x H1 => tb σ H1 fun y H2 => R x y H2)
    {α : Type} {Q : α → Shared → Prop} {f : Value → Value → Sem α}
    (hf : ∀ v u s2 x y H2, Inv X pins σ H2 s2 → RelV x v → RelV y u → R x y H2 → wpAny (model X.prog X.w) X.A (f v u) Q X.xe s2) :
    wpAny (model X.prog X.w) X.A (eval a X.env) (fun v s₁ => wpAny (model X.prog X.w) X.A (eval b X.env) (fun u s₂ => wpAny (model X.prog X.w) X.A (f v u) Q X.xe s₂) X.xe s₁) X.xe s := by
  refine thn (ha pins s σ H _ I h) fun v s1 ⟨x, H1, I1, r1, q1⟩ => ?_
  refine thn (hb pins s1 σ H1 _ I1 q1) fun u s2 ⟨y, H2, I2, r2, q2⟩ => ?_
  exact hf v u s2 x y H2 I2 r1 r2 q2

/-! ### names and constants -/
def tVar (i : Nat) : TE := fun σ H Q => ∃ v, σ[i]? = some (some v) ∧ Q v H
def tC (v : V) : TE := fun _ H Q => Q v H
theorem pe_var {i : Nat} {x : Str} {pos : Pos} (hN : X.N[i]? = some x) (hv : Vis X.env.scope x) (hd : (x == ("__debug__" : Str)) = false := by decide) (hcd : (x == ("__classdict__" : Str)) = false := by decide) : PE X (.Name x pos) (tVar i) := by
  intro pins s σ H Q I h
  obtain ⟨v, e, h⟩ := h
  obtain ⟨m, hn, hl⟩ := I.loc
  obtain ⟨u, r, l⟩ := hl i x v hN e hv
  have fin : EP X pins σ Q u s := ⟨v, H, I, r, h⟩
  rcases l with ⟨hk, hm⟩ | ⟨hk, c, hc, hcell⟩
  · exact wpAny_Name (wpAny_loadName_local I.ok.kind hk hn hm fin) hd
  · rcases hk with hk | hk
    · exact wpAny_Name (wpAny_loadName_cell I.ok.kind hk hc hcell fin) hd
    · exact wpAny_Name (wpAny_loadName_free I.ok.kind hk hc hcell fin hcd) hd
theorem pe_int {i j pos} : PE X (.Constant (.int i) j pos) (tC (.int i)) := fun _ _ _ H _ I h => wpAny_Constant_int ⟨.int i, H, I.tok _, ⟨_, rfl⟩, h⟩
theorem pe_bl {b j pos} : PE X (.Constant (.bool b) j pos) (tC (.bl b)) := fun _ _ _ H _ I h => Constant_bool ⟨.bl b, H, I, rfl, h⟩
theorem pe_non {j pos} : PE X (.Constant .none j pos) (tC .non) := fun _ _ _ H _ I h => Constant_none ⟨.non, H, I, rfl, h⟩
theorem pe_str {x j pos} : PE X (.Constant (.str x) j pos) (tC (.str x)) := fun _ _ _ H _ I h => Calls.Constant_str ⟨.str x, H, I.tok _, ⟨_, rfl⟩, h⟩

/-- a global name of the def -/
def Gl (X : Cx) (x : Str) : Prop := X.env.kindOf x = some .globalImplicit
theorem ld_glob {E : Value → Shared → Prop} {pins : List (Addr × Obj)} {s : Shared} {σ : St} {H : Hp} {x : Str} {u : Value} {pos : Pos} {Q : Value → Shared → Prop} (I : Inv X pins σ H s) (hg : Gl X x) (hm : X.mg x = some u) (h : Q u s)
    (hd : (x == ("__debug__" : Str)) = false := by decide) : wpAny (model X.prog X.w) X.A (eval (.Name x pos) X.env) Q E s :=
  Calls.Name_function_global I.ok.kind hg (Calls.loadGlobal_global (by rw [I.ok.glob]; exact I.mod.glob.keeps I.bk) hm h) hd
theorem ld_blt {E : Value → Shared → Prop} {pins : List (Addr × Obj)} {s : Shared} {σ : St} {H : Hp} {x : Str} {u : Value} {pos : Pos} {Q : Value → Shared → Prop} (I : Inv X pins σ H s) (hg : Gl X x) (hm : X.mg x = none) (hv : bootBuiltins x = some u) (h : Q u s)
    (hn : x ≠ "__name__" := by decide) (hd : (x == ("__debug__" : Str)) = false := by decide) : wpAny (model X.prog X.w) X.A (eval (.Name x pos) X.env) Q E s := by
  obtain ⟨mb, h1, h2⟩ := I.mod.blt
  exact Calls.Name_function_global I.ok.kind hg (Calls.loadGlobal_builtin (by rw [I.ok.glob]; exact I.mod.glob.keeps I.bk) hm (by rw [I.ok.blt]; exact h1.keeps I.bk) ((h2 x hn).trans hv) h) hd
/-- a module's constant, a class, a function, as a value -/
theorem pe_glob {x : Str} {v : V} {u : Value} {pos : Pos} (hg : Gl X x) (hm : X.mg x = some u) (r : RelV v u) (hd : (x == ("__debug__" : Str)) = false := by decide) : PE X (.Name x pos) (tC v) :=
  fun _ _ _ H _ I h => ld_glob I hg hm ⟨v, H, I, r, h⟩ hd
theorem pe_bltn {x : Str} {v : V} {u : Value} {pos : Pos} (hg : Gl X x) (hm : X.mg x = none) (hv : bootBuiltins x = some u) (r : RelV v u) (hn : x ≠ "__name__" := by decide) (hd : (x == ("__debug__" : Str)) = false := by decide) : PE X (.Name x pos) (tC v) :=
  fun _ _ _ H _ I h => ld_blt I hg hm hv ⟨v, H, I, r, h⟩ hn hd

/-! ### arithmetic -/
/-- two ints -/
def t2I (ta tb : TE) (k : Int → Int → Hp → Prop) : St → Hp → Prop := fun σ H => ta σ H fun x H1 => tb σ H1 fun y H2 => ∃ i j, x = .int i ∧ y = .int j ∧ k i j H2
def tAdd (ta tb : TE) : TE := fun σ H Q => t2I ta tb (fun i j H2 => Q (.int (i + j)) H2) σ H
def tSub (ta tb : TE) : TE := fun σ H Q => t2I ta tb (fun i j H2 => Q (.int (i - j)) H2) σ H
/-- the left factor below 2^64 -/
def tMul (ta tb : TE) : TE := fun σ H Q => t2I ta tb (fun i j H2 => (-(2 ^ 64) < i ∧ i < 2 ^ 64) ∧ Q (.int (i * j)) H2) σ H
variable {a b : Expr} {ta tb : TE} {pos : Pos}
theorem pe_add (ha : PE X a ta) (hb : PE X b tb) : PE X (.BinOp a .Add b pos) (tAdd ta tb) := by
  intro pins s σ H Q I h
  refine wpAny_BinOp (bin ha hb I h fun v u s2 x y H2 I2 rx ry q => ?_)
  obtain ⟨i, j, rfl, rfl, q⟩ := q
  obtain ⟨t, rfl⟩ := rx
  obtain ⟨t', rfl⟩ := ry
  exact add_int ⟨.int _, H2, I2.tok _, ⟨_, rfl⟩, q⟩
theorem pe_sub (ha : PE X a ta) (hb : PE X b tb) : PE X (.BinOp a .Sub b pos) (tSub ta tb) := by
  intro pins s σ H Q I h
  refine wpAny_BinOp (bin ha hb I h fun v u s2 x y H2 I2 rx ry q => ?_)
  obtain ⟨i, j, rfl, rfl, q⟩ := q
  obtain ⟨t, rfl⟩ := rx
  obtain ⟨t', rfl⟩ := ry
  exact sub_int ⟨.int _, H2, I2.tok _, ⟨_, rfl⟩, q⟩
theorem pe_mul (ha : PE X a ta) (hb : PE X b tb) : PE X (.BinOp a .Mult b pos) (tMul ta tb) := by
  intro pins s σ H Q I h
  refine wpAny_BinOp (bin ha hb I h fun v u s2 x y H2 I2 rx ry q => ?_)
  obtain ⟨i, j, rfl, rfl, ⟨q1, q2⟩, q⟩ := q
  obtain ⟨t, rfl⟩ := rx
  obtain ⟨t', rfl⟩ := ry
  exact mul_int ⟨.int _, H2, I2.tok _, ⟨_, rfl⟩, q⟩ (.of_left (intBits_le_64 q1 q2))

/-! ### comparisons -/
def PC (X : Cx) (op : CmpOp) (a b : Expr) (t : TE) : Prop :=
  ∀ (pins : List (Addr × Obj)) (s : Shared) (σ : St) (H : Hp) (Q : VK), Inv X pins σ H s → t σ H Q →
    wpAny (model X.prog X.w) X.A (eval a X.env) (fun v s₁ => wpAny (model X.prog X.w) X.A (eval b X.env) (fun u s₂ => wpAny (model X.prog X.w) X.A (compareOp op v u) (EP X pins σ Q) X.xe s₂) X.xe s₁) X.xe s
theorem nobehind (b : Expr) {op : CmpOp} (h : op ≠ .In) (h2 : op ≠ .NotIn) : behindInMarks op b = false := by
  have e1 : (op == CmpOp.In) = false := by cases op <;> first | rfl | exact absurd rfl h
  have e2 : (op == CmpOp.NotIn) = false := by cases op <;> first | rfl | exact absurd rfl h2
  cases b <;> simp [behindInMarks, e1, e2]
def tCmp (p : Int → Int → Bool) (ta tb : TE) : TE := fun σ H Q => t2I ta tb (fun i j H2 => Q (.bl (p i j)) H2) σ H
abbrev tLt : TE → TE → TE := tCmp fun i j => decide (i < j)
abbrev tLe : TE → TE → TE := tCmp fun i j => decide (i ≤ j)
abbrev tGt : TE → TE → TE := tCmp fun i j => decide (j < i)
abbrev tGe : TE → TE → TE := tCmp fun i j => decide (j ≤ i)
abbrev tEqI : TE → TE → TE := tCmp fun i j => decide (i = j)
abbrev tNeI : TE → TE → TE := tCmp fun i j => !decide (i = j)
/-- a comparison of two ints, by its rule -/
theorem pc_int {op : CmpOp} {p : Int → Int → Bool} (ha : PE X a ta) (hb : PE X b tb)
    (rule : ∀ (i j : Int) (t u : Tok) (Q : Value → Shared → Prop) (s : Shared), Q (.bool (p i j)) s → wpAny (model X.prog X.w) X.A (compareOp op (.int i t) (.int j u)) Q X.xe s) : PC X op a b (tCmp p ta tb) := by
  intro pins s σ H Q I h
  refine bin ha hb I h fun v u s2 x y H2 I2 rx ry q => ?_
  obtain ⟨i, j, rfl, rfl, q⟩ := q
  obtain ⟨t, rfl⟩ := rx
  obtain ⟨t', rfl⟩ := ry
  exact rule i j t t' _ s2 ⟨.bl _, H2, I2, rfl, q⟩
theorem pc_lt (ha : PE X a ta) (hb : PE X b tb) : PC X .Lt a b (tLt ta tb) := pc_int ha hb fun _ _ _ _ _ _ h => lt_int h
theorem pc_le (ha : PE X a ta) (hb : PE X b tb) : PC X .LtE a b (tLe ta tb) := pc_int ha hb fun _ _ _ _ _ _ h => le_int h
theorem pc_gt (ha : PE X a ta) (hb : PE X b tb) : PC X .Gt a b (tGt ta tb) := pc_int ha hb fun _ _ _ _ _ _ h => gt_int h
theorem pc_ge (ha : PE X a ta) (hb : PE X b tb) : PC X .GtE a b (tGe ta tb) := pc_int ha hb fun _ _ _ _ _ _ h => ge_int h
theorem pc_eqI (ha : PE X a ta) (hb : PE X b tb) : PC X .Eq a b (tEqI ta tb) := pc_int ha hb fun _ _ _ _ _ _ h => eq_int (by rw [Bool.beq_eq_decide_eq]; exact h)
theorem pc_neI (ha : PE X a ta) (hb : PE X b tb) : PC X .NotEq a b (tNeI ta tb) := pc_int ha hb fun _ _ _ _ _ _ h => ne_int (by rw [bne, Bool.beq_eq_decide_eq]; exact h)
/-- is None -/
def tIsN (ta : TE) : TE := fun σ H Q => ta σ H fun x H1 => Q (.bl (decide (x = .non))) H1
def tNotN (ta : TE) : TE := fun σ H Q => ta σ H fun x H1 => Q (.bl (!decide (x = .non))) H1
theorem RelV.none_iff {x : V} {v : Value} (r : RelV x v) : (v == Value.none) = decide (x = .non) := by
  cases x with
  | non => cases r; rfl
  | bl _ => cases r; rfl
  | int _ => obtain ⟨t, rfl⟩ := r; rfl
  | str _ => obtain ⟨t, rfl⟩ := r; rfl
  | byt _ => obtain ⟨t, rfl⟩ := r; rfl
  | flt _ => obtain ⟨t, rfl⟩ := r; rfl
  | ref _ => cases r; rfl
  | ty _ => cases r; rfl
theorem pc_isN {j pos'} (ha : PE X a ta) : PC X .Is a (.Constant .none j pos') (tIsN ta) := by
  intro pins s σ H Q I h
  refine thn (ha pins s σ H _ I h) fun v s1 ⟨x, H1, I1, r1, q1⟩ => ?_
  exact Constant_none (is_none_gen ⟨.bl _, H1, I1, by rw [r1.none_iff]; rfl, q1⟩)
theorem pc_notN {j pos'} (ha : PE X a ta) : PC X .IsNot a (.Constant .none j pos') (tNotN ta) := by
  intro pins s σ H Q I h
  refine thn (ha pins s σ H _ I h) fun v s1 ⟨x, H1, I1, r1, q1⟩ => ?_
  exact Constant_none (isnot_none_gen ⟨.bl _, H1, I1, by rw [r1.none_iff]; rfl, q1⟩)
/-- a comparison as a value, as a test -/
def tB (t : TE) : TT := fun σ H Q => t σ H fun x H1 => ∃ c, x = .bl c ∧ Q c H1
theorem pe_cmp {op : CmpOp} {t : TE} (h : PC X op a b t) (h1 : behindInMarks op b = false := by first | exact nobehind _ (by decide) (by decide) | rfl) : PE X (.Compare a [op] [b] pos) t := fun pins s σ H Q I hw => wpAny_Compare1 (h pins s σ H Q I hw) h1
theorem pt_cmp {op : CmpOp} {t : TE} (h : PC X op a b t) (h1 : behindInMarks op b = false := by first | exact nobehind _ (by decide) (by decide) | rfl) : PT X (.Compare a [op] [b] pos) (tB t) := by
  intro pins s σ H Q I hw
  refine wpAny_isTrue_Compare1 (thn (h pins s σ H _ I hw) fun v s1 h1 => thn h1 fun u s2 h2 => thn h2 fun c s3 ⟨x, H1, I1, r1, q1⟩ => ?_) h1
  obtain ⟨d, rfl, q⟩ := q1
  cases r1
  exact wpAny_truthy_bool ⟨H1, I1, q⟩
/-- an expression whose value is a bool, as a test -/
theorem pt_val {e : Expr} {t : TE} (h : PE X e t) (he : ∀ whole, isTrue e X.env whole = (do let v ← whole; standAt e.pos; holding [v] (truthy v)) := by intro _; rfl) : PT X e (tB t) := by
  intro pins s σ H Q I hw
  refine isTrue_plain (thn (h pins s σ H _ I hw) fun v s1 ⟨x, H1, I1, r1, q1⟩ => ?_) (he _)
  obtain ⟨d, rfl, q⟩ := q1
  cases r1
  exact wpAny_truthy_bool ⟨H1, I1, q⟩

/-! ### and, or, not -/
variable {tA tB' : TT} {rest : List Expr}
def tAnd (t u : TT) : TT := fun σ H Q => t σ H fun c H1 => if c = true then u σ H1 Q else Q false H1
def tOr (t u : TT) : TT := fun σ H Q => t σ H fun c H1 => if c = true then Q true H1 else u σ H1 Q
def tNot (t : TT) : TT := fun σ H Q => t σ H fun c H1 => Q (!c) H1
theorem pw_and1 (ha : PT X a tA) : PW X (.BoolOp .And [a] pos) tA := by
  intro wh pins s σ H Q I h
  refine isTrue_and (thn (ha pins s σ H Q I h) fun c s1 e => ?_)
  cases c with
  | true => exact isTrue_and_nil e
  | false => exact e
theorem pw_or1 (ha : PT X a tA) : PW X (.BoolOp .Or [a] pos) tA := by
  intro wh pins s σ H Q I h
  refine isTrue_or (thn (ha pins s σ H Q I h) fun c s1 e => ?_)
  cases c with
  | false => exact isTrue_or_nil e
  | true => exact e
theorem pw_and (ha : PT X a tA) (hb : PW X (.BoolOp .And (b :: rest) pos) tB') : PW X (.BoolOp .And (a :: b :: rest) pos) (tAnd tA tB') := by
  intro wh pins s σ H Q I h
  refine isTrue_and (thn (ha pins s σ H _ I h) fun c s1 ⟨H1, I1, q1⟩ => ?_)
  cases c with
  | true => exact hb wh pins s1 σ H1 Q I1 q1
  | false => exact ⟨H1, I1, q1⟩
theorem pw_or (ha : PT X a tA) (hb : PW X (.BoolOp .Or (b :: rest) pos) tB') : PW X (.BoolOp .Or (a :: b :: rest) pos) (tOr tA tB') := by
  intro wh pins s σ H Q I h
  refine isTrue_or (thn (ha pins s σ H _ I h) fun c s1 ⟨H1, I1, q1⟩ => ?_)
  cases c with
  | true => exact ⟨H1, I1, q1⟩
  | false => exact hb wh pins s1 σ H1 Q I1 q1
theorem pt_not (ha : PT X a tA) : PT X (.UnaryOp .Not a pos) (tNot tA) := by
  intro pins s σ H Q I h
  exact isTrue_not (ha pins s σ H (fun c H1 => Q (!c) H1) I h)
/-- .. as values (bools) -/
def tAndV (ta tb : TE) : TE := fun σ H Q => ta σ H fun x H1 => ∃ c, x = .bl c ∧ if c = true then tb σ H1 Q else Q (.bl false) H1
def tOrV (ta tb : TE) : TE := fun σ H Q => ta σ H fun x H1 => ∃ c, x = .bl c ∧ if c = true then Q (.bl true) H1 else tb σ H1 Q
def tNotV (ta : TE) : TE := fun σ H Q => ta σ H fun x H1 => ∃ c, x = .bl c ∧ Q (.bl (!c)) H1
theorem pe_one {op} {t : TE} (h : PE X a t) : PE X (.BoolOp op [a] pos) t := fun pins s σ H Q I hw => BoolOp_one (h pins s σ H Q I hw)
theorem pe_and (ha : PE X a ta) (hb : PE X (.BoolOp .And (b :: rest) pos) tb) : PE X (.BoolOp .And (a :: b :: rest) pos) (tAndV ta tb) := by
  intro pins s σ H Q I h
  refine BoolOp_and (thn (ha pins s σ H _ I h) fun v s1 ⟨x, H1, I1, r1, q1⟩ => ?_)
  obtain ⟨c, rfl, q1⟩ := q1
  cases r1
  refine wpAny_truthy_bool ?_
  cases c with
  | true => exact hb pins s1 σ H1 Q I1 q1
  | false => exact ⟨.bl false, H1, I1, rfl, q1⟩
theorem pe_or (ha : PE X a ta) (hb : PE X (.BoolOp .Or (b :: rest) pos) tb) : PE X (.BoolOp .Or (a :: b :: rest) pos) (tOrV ta tb) := by
  intro pins s σ H Q I h
  refine BoolOp_or (thn (ha pins s σ H _ I h) fun v s1 ⟨x, H1, I1, r1, q1⟩ => ?_)
  obtain ⟨c, rfl, q1⟩ := q1
  cases r1
  refine wpAny_truthy_bool ?_
  cases c with
  | false => exact hb pins s1 σ H1 Q I1 q1
  | true => exact ⟨.bl true, H1, I1, rfl, q1⟩
theorem pe_not (ha : PE X a ta) : PE X (.UnaryOp .Not a pos) (tNotV ta) := by
  intro pins s σ H Q I h
  refine UnaryOp_ (thn (ha pins s σ H _ I h) fun v s1 ⟨x, H1, I1, r1, q1⟩ => ?_)
  obtain ⟨c, rfl, q1⟩ := q1
  cases r1
  exact not_of (wpAny_truthy_bool ⟨.bl (!c), H1, I1, rfl, q1⟩)
/-- a if t else b -/
def tIf (t : TT) (ta tb : TE) : TE := fun σ H Q => t σ H fun c H1 => if c = true then ta σ H1 Q else tb σ H1 Q
theorem pe_ifExp {c : Expr} (hc : PT X c tA) (ha : PE X a ta) (hb : PE X b tb) : PE X (.IfExp c a b pos) (tIf tA ta tb) := by
  intro pins s σ H Q I h
  refine wpAny_IfExp (thn (hc pins s σ H _ I h) fun d s1 ⟨H1, I1, q1⟩ => ?_)
  cases d with
  | true => exact ha pins s1 σ H1 Q I1 q1
  | false => exact hb pins s1 σ H1 Q I1 q1
end
end L2

namespace L2
open PySem PySem.Spec PyProof.Rows

/-! ### a list, a tuple that is read: tracked, frozen, or an object of the module -/
def SqL (K : PySem.W.Frag) (H : Hp) (a : Addr) (xs : List V) : Prop :=
  Rd H a (.lst xs) ∨
    ∃ (o : Obj) (its : Array Value) (n : Nat), K.lookup a = some o ∧ o.cls = .type "list" ∧ o.dict = none ∧ o.data = .seq its n ∧ its.size ≤ sizeLine ∧ Vals xs its.toList
def SqT (K : PySem.W.Frag) (H : Hp) (a : Addr) (xs : List V) : Prop :=
  Rd H a (.tup xs) ∨
    ∃ (o : Obj) (its : Array Value) (n : Nat), K.lookup a = some o ∧ o.cls = .type "tuple" ∧ o.data = .seq its n ∧ its.size ≤ sizeLine ∧ Vals xs its.toList
def absV : Value → Option V
  | .none => some .non
  | .bool b => some (.bl b)
  | .int i _ => some (.int i)
  | .str x _ => some (.str x)
  | .bytes b _ => some (.byt b)
  | .float b _ => some (.flt b)
  | .ref a => some (.ref a)
  | .type n => some (.ty n)
  | _ => none
theorem RelV.abs {x : V} {u : Value} (r : RelV x u) : absV u = some x := by
  cases x with
  | non => cases r; rfl
  | bl _ => cases r; rfl
  | int _ => obtain ⟨t, rfl⟩ := r; rfl
  | str _ => obtain ⟨t, rfl⟩ := r; rfl
  | byt _ => obtain ⟨t, rfl⟩ := r; rfl
  | flt _ => obtain ⟨t, rfl⟩ := r; rfl
  | ref _ => cases r; rfl
  | ty _ => cases r; rfl
theorem RelV.inj {x y : V} {u : Value} (r : RelV x u) (q : RelV y u) : x = y := Option.some.inj (r.abs.symm.trans q.abs)
theorem Vals.inj : ∀ {xs ys : List V} {us : List Value}, Vals xs us → Vals ys us → xs = ys
  | _, _, _, .nil, .nil => rfl
  | _, _, _, .cons r t, .cons r' t' => by rw [r.inj r', Vals.inj t t']
section
variable {X : Cx} {pins : List (Addr × Obj)} {σ : St} {H : Hp} {s : Shared} {a : Addr} {xs ys : List V}
theorem SqL.of {K : PySem.W.Frag} (h : H a = some (.lst xs)) : SqL K H a xs := .inl (.inl h)
theorem SqT.of {K : PySem.W.Frag} (h : H a = some (.tup xs)) : SqT K H a xs := .inl (.inl h)
theorem Inv.list (I : Inv X pins σ H s) (h : SqL X.K H a xs) : ∃ its : List Value, Vals xs its ∧ PlainL s.heap a its.toArray ∧ xs.length ≤ sizeLine := by
  rcases h with h | ⟨o, its, n, hk, hc, hd, hs, hz, r⟩
  · obtain ⟨z, its, n, r, e⟩ := h.ok I.hok
    exact ⟨its, r, ⟨_, n, e, rfl, rfl, rfl⟩, z⟩
  · refine ⟨its.toList, r, ⟨o, n, I.kIn a o hk, hc, hd, by simpa using hs⟩, ?_⟩
    have e := r.length
    simp only [Array.length_toList] at e
    omega
theorem Inv.tuple (I : Inv X pins σ H s) (h : SqT X.K H a xs) : ∃ its : List Value, Vals xs its ∧ IsTup s.heap a its.toArray ∧ xs.length ≤ sizeLine := by
  rcases h with h | ⟨o, its, n, hk, hc, hs, hz, r⟩
  · obtain ⟨z, its, r, p⟩ := h.ok I.hok
    exact ⟨its, r, p, z⟩
  · refine ⟨its.toList, r, ⟨o, I.kIn a o hk, hc, n, by simpa using hs⟩, ?_⟩
    have e := r.length
    simp only [Array.length_toList] at e
    omega
theorem Inv.list_inj (I : Inv X pins σ H s) (h : SqL X.K H a xs) (h' : SqL X.K H a ys) : xs = ys := by
  obtain ⟨its, r, ⟨o, n, e, _, _, d⟩, _⟩ := I.list h
  obtain ⟨its', r', ⟨o', n', e', _, _, d'⟩, _⟩ := I.list h'
  rw [e] at e'; cases e'
  rw [d] at d'
  injection d' with d1 _
  have : its = its' := by simpa using congrArg Array.toList d1
  subst this
  exact r.inj r'
theorem Inv.tuple_inj (I : Inv X pins σ H s) (h : SqT X.K H a xs) (h' : SqT X.K H a ys) : xs = ys := by
  obtain ⟨its, r, ⟨o, e, _, n, d⟩, _⟩ := I.tuple h
  obtain ⟨its', r', ⟨o', e', _, n', d'⟩, _⟩ := I.tuple h'
  rw [e] at e'; cases e'
  rw [d] at d'
  injection d' with d1 _
  have : its = its' := by simpa using congrArg Array.toList d1
  subst this
  exact r.inj r'
end

/-! ### another wish about exceptions -/
abbrev Cx.wish (X : Cx) (E : Value → Shared → Prop) : Cx := { X with xe := E }
/-- no exception leaves -/
abbrev Cx.nox (X : Cx) : Cx := X.wish fun _ _ => False
theorem Cx.Ok.wish {X : Cx} (ok : X.Ok) (E : Value → Shared → Prop) : (X.wish E).Ok :=
  ⟨ok.mod, ok.kind, ok.glob, ok.blt, ok.above, ok.inj, ok.has, ok.cab, ok.hd, ok.frames, ok.stk, ok.exf, ok.bs, ok.bsz, ok.noex, ok.exfs, ok.funs, ok.frf⟩
theorem Cx.Ok.unwish {X : Cx} {E : Value → Shared → Prop} (ok : (X.wish E).Ok) : X.Ok :=
  ⟨ok.mod, ok.kind, ok.glob, ok.blt, ok.above, ok.inj, ok.has, ok.cab, ok.hd, ok.frames, ok.stk, ok.exf, ok.bs, ok.bsz, ok.noex, ok.exfs, ok.funs, ok.frf⟩
section
variable {X : Cx} {pins : List (Addr × Obj)} {σ : St} {H : Hp} {s : Shared} {E : Value → Shared → Prop}
theorem Inv.wish (I : Inv X pins σ H s) (E : Value → Shared → Prop) : Inv (X.wish E) pins σ H s := ⟨I.ok.wish E, I.os, I.bare, I.base, I.loc, I.cell, I.free, I.freeC, I.pin, I.hok, I.len⟩
theorem Inv.unwish (I : Inv (X.wish E) pins σ H s) : Inv X pins σ H s := ⟨I.ok.unwish, I.os, I.bare, I.base, I.loc, I.cell, I.free, I.freeC, I.pin, I.hok, I.len⟩
theorem SP.unwish {D : Ends} {f : Flow} {s' : Shared} (h : SP (X.wish E) pins D f s') : SP X pins D f s' := by
  cases f with
  | next => obtain ⟨σ', H', I, q⟩ := h; exact ⟨σ', H', I.unwish, q⟩
  | brk => obtain ⟨σ', H', I, q⟩ := h; exact ⟨σ', H', I.unwish, q⟩
  | cont => obtain ⟨σ', H', I, q⟩ := h; exact ⟨σ', H', I.unwish, q⟩
  | ret u => obtain ⟨v, σ', H', I, r, q⟩ := h; exact ⟨v, σ', H', I.unwish, r, q⟩
theorem PE.nox {e : Expr} {t : TE} (h : PE X.nox e t) : PE X e t := fun pins s σ H Q I hw =>
  wpAny_mono (h pins s σ H Q (I.wish _) hw) (fun _ _ ⟨v, H', I', r, q⟩ => ⟨v, H', I'.unwish, r, q⟩) fun _ _ z => False.elim z
theorem PT.nox {e : Expr} {t : TT} (h : PT X.nox e t) : PT X e t := fun pins s σ H Q I hw =>
  wpAny_mono (h pins s σ H Q (I.wish _) hw) (fun _ _ ⟨H', I', q⟩ => ⟨H', I'.unwish, q⟩) fun _ _ z => False.elim z
theorem PSs.nox {st : List Stmt} {t : TS} (h : PSs X.nox st t) : PSs X st t := fun pins s σ H D I hw =>
  wpAny_mono (h pins s σ H D (I.wish _) hw) (fun _ _ q => q.unwish) fun _ _ z => False.elim z
end

/-! ### blocks and small statements -/
section
variable {X : Cx} {st : Stmt} {rest : List Stmt} {t u : TS} {e : Expr} {te : TE} {pos : Pos}
def tNext : TS := fun D σ H => D.nx σ H
def tSeq (t u : TS) : TS := fun D σ H => t { D with nx := u D } σ H
theorem pss_nil : PSs X [] tNext := fun _ _ σ H _ I h => wpAny_execs_nil ⟨σ, H, I, h⟩
theorem pss_cons (h1 : PS X st t) (h2 : PSs X rest u) : PSs X (st :: rest) (tSeq t u) := by
  intro pins s σ H D I h
  refine wpAny_execs_cons (thn (h1 pins s σ H { D with nx := u D } I h) fun f s1 q => ?_)
  cases f with
  | next =>
    obtain ⟨σ', H', I', q⟩ := q
    exact h2 pins s1 σ' H' D I' q
  | ret v => exact q
  | brk => exact q
  | cont => exact q
theorem pss_one (h1 : PS X st t) : PSs X [st] t := by
  intro pins s σ H D I h
  refine wpAny_execs_cons (thn (h1 pins s σ H D I h) fun f s1 q => ?_)
  cases f with
  | next => exact wpAny_execs_nil q
  | ret v => exact q
  | brk => exact q
  | cont => exact q
def tBreak : TS := fun D σ H => D.bk σ H
def tCont : TS := fun D σ H => D.ct σ H
theorem ps_pass : PS X (.Pass pos) tNext := fun _ _ σ H _ I h => wpAny_Pass ⟨σ, H, I, h⟩
theorem ps_break : PS X (.Break pos) tBreak := fun _ _ σ H _ I h => wpAny_Break ⟨σ, H, I, h⟩
theorem ps_continue : PS X (.Continue pos) tCont := fun _ _ σ H _ I h => wpAny_Continue ⟨σ, H, I, h⟩
/-- in a def's body nothing is shown -/
theorem Inv.quiet {pins : List (Addr × Obj)} {σ : St} {H : Hp} {s : Shared} (I : Inv X pins σ H s) : interactive X.env = false := by simp [interactive, I.ok.kind]
/-- a docstring -/
theorem ps_doc {x j pos pos'} : PS X (.Expr (.Constant (.str x) j pos) pos') tNext := fun _ s σ H _ I h => wpAny_Expr (Calls.Constant_str (show SP X _ _ .next { s with toks := s.toks + 1 } from ⟨σ, H, I.tok _, h⟩)) I.quiet
/-- an expression whose value is dropped -/
def tDrop (te : TE) : TS := fun D σ H => te σ H fun _ H1 => D.nx σ H1
theorem ps_expr (he : PE X e te) (hs : swapsWith e none pos.line X.env = pure false := by rfl) : PS X (.Expr e pos) (tDrop te) := by
  intro pins s σ H D I h
  exact wpAny_Expr_any (thn (he pins s σ H _ I h) fun v s1 ⟨x, H1, I1, r1, q1⟩ => ⟨σ, H1, I1, q1⟩) I.quiet hs
def tRet (te : TE) : TS := fun D σ H => te σ H D.rt
theorem ps_ret (he : PE X e te) : PS X (.Return (some e) pos) (tRet te) := by
  intro pins s σ H D I h
  exact wpAny_Return_some (thn (he pins s σ H _ I h) fun v s1 ⟨x, H1, I1, r1, q1⟩ => ⟨x, σ, H1, I1, r1, q1⟩)
def tRetN : TS := fun D _ H => D.rt .non H
theorem ps_retN : PS X (.Return none pos) tRetN := fun _ _ σ H _ I h => wpAny_Return_none ⟨.non, σ, H, I, rfl, h⟩
def tIfS (c : TT) (t u : TS) : TS := fun D σ H => c σ H fun b H1 => if b = true then t D σ H1 else u D σ H1
theorem ps_if {c : Expr} {a b : List Stmt} {tc : TT} (hc : PT X c tc) (ha : PSs X a t) (hb : PSs X b u) : PS X (.If c a b pos) (tIfS tc t u) := by
  intro pins s σ H D I h
  refine wpAny_If (thn (hc pins s σ H _ I h) fun d s1 ⟨H1, I1, q1⟩ => ?_)
  cases d with
  | true => exact ha pins s1 σ H1 D I1 q1
  | false => exact hb pins s1 σ H1 D I1 q1
/-- code that the proof never comes to -/
def tNever : TS := fun _ _ _ => False
theorem ps_never : PS X st tNever := fun _ _ _ _ _ _ h => h.elim
theorem pss_never {sts : List Stmt} : PSs X sts tNever := fun _ _ _ _ _ _ h => h.elim
end

/-! ### targets -/
abbrev TG := V → St → Hp → (St → Hp → Prop) → Prop
abbrev TGs := List V → St → Hp → (St → Hp → Prop) → Prop
def PG (X : Cx) (target : Expr) (t : TG) : Prop :=
  ∀ (pins : List (Addr × Obj)) (s : Shared) (σ : St) (H : Hp) (v : V) (u : Value) (Q : St → Hp → Prop), Inv X pins σ H s → RelV v u → t v σ H Q →
    wpAny (model X.prog X.w) X.A (assign target X.env u) (fun _ s' => ∃ σ' H', Inv X pins σ' H' s' ∧ Q σ' H') X.xe s
/-- several targets, one after another -/
def PGs (X : Cx) (ts : List Expr) (t : TGs) : Prop :=
  ∀ (pins : List (Addr × Obj)) (s : Shared) (σ : St) (H : Hp) (vs : List V) (us : List Value) (Q : St → Hp → Prop), Inv X pins σ H s → Vals vs us → t vs σ H Q →
    wpAny (model X.prog X.w) X.A (assignInOrder ((assignEach ts X.env).map (·.2)) us) (fun _ s' => ∃ σ' H', Inv X pins σ' H' s' ∧ Q σ' H') X.xe s
/-- o[i] = v, by values -/
abbrev TSet := V → V → V → Hp → (Hp → Prop) → Prop
def PSet (X : Cx) (t : TSet) : Prop :=
  ∀ (pins : List (Addr × Obj)) (s : Shared) (σ : St) (H : Hp) (o i v : V) (ov iv u : Value) (Q : Hp → Prop), Inv X pins σ H s → RelV o ov → RelV i iv → RelV v u → t o i v H Q →
    wpAny (model X.prog X.w) X.A (setItem ov iv u) (fun _ s' => ∃ H', Inv X pins σ H' s' ∧ Q H') X.xe s
/-- a op= b, by values -/
abbrev TIp := V → V → Hp → VK → Prop
def PIp (X : Cx) (op : Operator) (t : TIp) : Prop :=
  ∀ (pins : List (Addr × Obj)) (s : Shared) (σ : St) (H : Hp) (x y : V) (v u : Value) (Q : VK), Inv X pins σ H s → RelV x v → RelV y u → t x y H Q →
    wpAny (model X.prog X.w) X.A (inplaceOp op v u) (EP X pins σ Q) X.xe s
section
variable {X : Cx} {pos : Pos}
def gName (i : Nat) : TG := fun v σ H Q => Q (σ.set i (some v)) H
theorem pg_name {i : Nat} {x : Str} (hN : X.N.Nodup) (hi : X.N[i]? = some x) (hx : Loc X.env.scope x) (hf : X.fn x = true ∨ X.env.scope.names.lookup x = some .local := by first | exact .inl rfl | exact .inr rfl | assumption) : PG X (.Name x pos) (gName i) := by
  intro pins s σ H v u Q I r h
  exact wpAny_assign_Name (store_ok I hN hi hx r (fun s' I' => ⟨_, H, I', h⟩) hf)
def gNil : TGs := fun vs σ H Q => vs = [] ∧ Q σ H
def gCons (t : TG) (u : TGs) : TGs := fun vs σ H Q => ∃ v r, vs = v :: r ∧ t v σ H fun σ' H' => u r σ' H' Q
theorem pgs_nil : PGs X [] gNil := by
  intro pins s σ H vs us Q I r h
  obtain ⟨e, h⟩ := h
  subst e
  cases r
  exact assignInOrder_nil ⟨σ, H, I, h⟩
theorem pgs_cons {e : Expr} {es : List Expr} {t : TG} {u : TGs} (h1 : PG X e t) (h2 : PGs X es u)
    (hs : (assignEach (e :: es) X.env).map (·.2) = assign e X.env :: (assignEach es X.env).map (·.2) := by rfl) : PGs X (e :: es) (gCons t u) := by
  intro pins s σ H vs us Q I r h
  obtain ⟨v, vr, e1, h⟩ := h
  subst e1
  cases r with
  | cons r rr =>
    rw [hs]
    refine assignInOrder_cons (thn (h1 pins s σ H _ _ _ I r h) fun _ s1 ⟨σ1, H1, I1, q1⟩ => ?_)
    exact h2 pins s1 σ1 H1 _ _ Q I1 rr q1
/-- (a, b, ..) = a tuple of that length -/
def gTup (K : PySem.W.Frag) (n : Nat) (t : TGs) : TG := fun v σ H Q => ∃ a xs, v = .ref a ∧ SqT K H a xs ∧ xs.length = n ∧ t xs σ H Q
theorem pg_tup {es : List Expr} {k : Nat} {t : TGs} {n : Nat} (hc : X.calm = true) (h : PGs X es t)
    (hn : (assignEach es X.env).length = n := by rfl) (hst : (assignEach es X.env).findIdx? (·.1) = none := by rfl) : PG X (.Tuple es k pos) (gTup X.K n t) := by
  intro pins s σ H v u Q I r hw
  obtain ⟨a, xs, e1, hq, hl, hw⟩ := hw
  subst e1
  cases r
  obtain ⟨its, rv, ht, hz⟩ := I.tuple hq
  refine assign_Tuple_tuple (I.ok.hd hc) ht (by simp [hn, ← hl, rv.length]) hst fun h' hx => ?_
  have I1 : Inv X pins σ H { s with heap := h' } := I.kept (t' := s.toks) fun b o e => hx b o (Nat.ne_of_lt (Heap.lt_size e)) e
  exact h pins _ σ H xs _ Q I1 (by simpa using rv) hw
/-- o[i] = .. -/
def gSub (to ti : TE) (t : TSet) : TG := fun v σ H Q => to σ H fun o H1 => ti σ H1 fun i H2 => t o i v H2 fun H3 => Q σ H3
theorem pg_sub {o i : Expr} {to ti : TE} {t : TSet} (ho : PE X o to) (hi : PE X i ti) (hs : PSet X t)
    (ha : ∀ v, assign (.Subscript o i pos) X.env v = (do
      let ov ← holding [v] (eval o X.env)
      let iv ← holding [v, ov] (eval i X.env)
      standAt pos
      holding [v, ov, iv] (setItem ov iv v)
      release [v, ov, iv] []) := by intro _; rfl) : PG X (.Subscript o i pos) (gSub to ti t) := by
  intro pins s σ H v u Q I r h
  rw [ha]
  refine wpAny_bind (wpAny_holding (thn (ho pins s σ H _ I h) fun ov s1 ⟨x, H1, I1, r1, q1⟩ => ?_))
  refine wpAny_bind (wpAny_holding (thn (hi pins s1 σ H1 _ I1 q1) fun iv s2 ⟨y, H2, I2, r2, q2⟩ => ?_))
  refine wpAny_bind (wpAny_standAt (wpAny_bind (wpAny_holding (thn (hs pins s2 σ H2 x y v ov iv u _ I2 r1 r2 r q2) fun _ s3 ⟨H3, I3, q3⟩ => ?_))))
  exact wpAny_release ⟨σ, H3, I3, q3⟩
/-- target = value -/
def tAsg (te : TE) (g : TG) : TS := fun D σ H => te σ H fun x H1 => g x σ H1 D.nx
theorem ps_asg {tg e : Expr} {te : TE} {g : TG} (he : PE X e te) (hg : PG X tg g) (hs : swapsWithSole [tg] e pos.line X.env = pure false := by rfl) (hw : swappedStores [tg] e X.env = pure none := by rfl)
    (h1 : (assignEach [tg] X.env).map (·.2) = [assign tg X.env] := by rfl) : PS X (.Assign [tg] e pos) (tAsg te g) := by
  intro pins s σ H D I h
  refine wpAny_Assign_stores (thn (he pins s σ H _ I h) fun v s1 ⟨x, H1, I1, r1, q1⟩ => ?_) hs hw
  rw [h1]
  exact thn (hg pins s1 σ H1 x v _ I1 r1 q1) fun _ s2 q => q
/-- name = value -/
theorem ps_set {i : Nat} {x : Str} {e : Expr} {te : TE} {pos' : Pos} (hN : X.N.Nodup) (hi : X.N[i]? = some x) (hx : Loc X.env.scope x) (he : PE X e te) (hs : swapsWith e (some (.Name x pos')) pos.line X.env = pure false := by rfl) (hf : X.fn x = true ∨ X.env.scope.names.lookup x = some .local := by first | exact .inl rfl | exact .inr rfl | assumption) :
    PS X (.Assign [.Name x pos'] e pos) (tAsg te (gName i)) := by
  intro pins s σ H D I h
  refine wpAny_Assign_Name (thn (he pins s σ H _ I h) fun v s1 ⟨y, H1, I1, r1, q1⟩ => ?_) hs
  exact store_ok I1 hN hi hx r1 (fun s2 I2 => ⟨_, H1, I2, q1⟩) hf
/-- a, b = x, y with plain local names: stored from the right; the pair itself is not tracked (the opening rows as in PyProof/Rows/TupAssign.lean:23) -/
def tPar (i j : Nat) (ta : TA) : TS := fun D σ H => ta σ H fun vs H1 => ∃ v w, vs = [v, w] ∧ D.nx ((σ.set i (some v)).set j (some w)) H1
theorem ps_par {i j : Nat} {x y : Str} {a b : Expr} {ta : TA} {px py pt : Pos} {kt k2 pt2} (hc : X.calm = true) (hN : X.N.Nodup) (hi : X.N[i]? = some x) (hj : X.N[j]? = some y) (hij : i ≠ j)
    (hx : X.env.scope.names.lookup x = some .local) (hy : X.env.scope.names.lookup y = some .local) (ha : PA X [a, b] ta)
    (hw : swappedStores [.Tuple [.Name x px, .Name y py] kt pt] (.Tuple [a, b] k2 pt2) X.env = pure (some [x, y]))
    (hs : swapsWithSole [.Tuple [.Name x px, .Name y py] kt pt] (.Tuple [a, b] k2 pt2) pos.line X.env = pure false := by rfl) :
    PS X (.Assign [.Tuple [.Name x px, .Name y py] kt pt] (.Tuple [a, b] k2 pt2) pos) (tPar i j ta) := by
  intro pins s σ H D I h
  rw [exec_Assign_arm]
  refine wpAny_bind (wpAny_standAt ?_)
  rw [hs]
  refine wpAny_bind (wpAny_pure ?_)
  rw [if_neg (by decide)]
  refine wpAny_bind (Tuple_ (thn (ha _ pins s σ H _ I h) fun us s1 ⟨vs, H1, I1, r1, q1⟩ => ?_))
  obtain ⟨v, w, e1, q1⟩ := q1
  subst e1
  obtain ⟨u1, u2, rfl, rv, rw'⟩ : ∃ u1 u2, us = [u1, u2] ∧ RelV v u1 ∧ RelV w u2 := by
    cases r1 with
    | cons p q =>
      cases q with
      | cons p' q' =>
        cases q'
        exact ⟨_, _, rfl, p, p'⟩
  refine wpAny_newObj_type ?_ (by show 2 ≤ sizeLine; decide)
  have I2 : Inv X pins σ H1 { s1 with heap := s1.heap.push { cls := .type "tuple", data := .seq [u1, u2].toArray } } := I1.kept (t' := s1.toks) fun b o e => Heap.get?_push_of_some _ e
  rw [hw]
  refine wpAny_bind (wpAny_pure ?_)
  show wpAny (model X.prog X.w) X.A (do rule "assign.swapped-stores"; let items ← unpackItems (.ref s1.heap.objs.size) 2 none; assignInOrder [fun v => bindName X.env y v, fun v => bindName X.env x v] items.reverse; pure Flow.next) _ _ _
  refine wpAny_bind (wpAny_rule (wpAny_bind (unpackItems_tuple (items := #[u1, u2]) (I.ok.hd hc) (IsTup.new s1.heap _) fun h' hx' => ?_)))
  have I3 := I2.kept (h' := h') (t' := s1.toks) fun b o e => hx' b o (Nat.ne_of_lt (Heap.lt_size e)) e
  show wpAny _ _ (assignInOrder [fun v => bindName X.env y v, fun v => bindName X.env x v] [u2, u1] >>= fun _ => pure Flow.next) _ _ _
  refine wpAny_bind (assignInOrder_cons (wpAny_bindName (store_ok I3 hN hj (.inl hy) rw' (fun s2 I4 => ?_) (.inr hy))))
  refine assignInOrder_cons (wpAny_bindName (store_ok I4 hN hi (.inl hx) rv (fun s3 I5 => assignInOrder_nil (wpAny_pure ?_)) (.inr hx)))
  rw [List.set_comm _ _ (Ne.symm hij)] at I5
  exact ⟨_, H1, I5, q1⟩
/-- name op= e -/
def tAug (i : Nat) (te : TE) (ti : TIp) : TS := fun D σ H => ∃ x, σ[i]? = some (some x) ∧ te σ H fun y H1 => ti x y H1 fun z H2 => D.nx (σ.set i (some z)) H2
theorem ps_aug {i : Nat} {x : Str} {e : Expr} {te : TE} {op : Operator} {ti : TIp} {pos' : Pos} (hN : X.N.Nodup) (hi : X.N[i]? = some x) (hx : Loc X.env.scope x) (he : PE X e te) (ho : PIp X op ti) (hf : X.fn x = true ∨ X.env.scope.names.lookup x = some .local := by first | exact .inl rfl | exact .inr rfl | assumption) :
    PS X (.AugAssign (.Name x pos') op e pos) (tAug i te ti) := by
  intro pins s σ H D I h
  obtain ⟨v, e1, h⟩ := h
  obtain ⟨m, hn, hl⟩ := I.loc
  have vis : Vis X.env.scope x := by rcases hx with k | k; exact .inl k; exact .inr (.inl k)
  obtain ⟨u, r, l⟩ := hl i x v hi e1 vis
  refine wpAny_AugAssign_Name ?_
  have go : wpAny (model X.prog X.w) X.A (eval e X.env) (fun w s₂ => wpAny (model X.prog X.w) X.A (inplaceOp op u w) (fun r s₃ => wpAny (model X.prog X.w) X.A (storeName X.env x r) (fun _ => SP X pins D .next) X.xe s₃) X.xe s₂) X.xe s := by
    refine thn (he pins s σ H _ I h) fun w s1 ⟨y, H1, I1, r1, q1⟩ => ?_
    refine thn (ho pins s1 σ H1 v y u w _ I1 r r1 q1) fun z s2 ⟨zv, H2, I2, r2, q2⟩ => ?_
    exact store_ok I2 hN hi hx r2 (fun s3 I3 => ⟨_, H2, I3, q2⟩) hf
  rcases l with ⟨hk, hm⟩ | ⟨hk, c, hc, hcell⟩
  · exact wpAny_loadName_local I.ok.kind hk hn hm go
  · rcases hk with hk | hk
    · exact wpAny_loadName_cell I.ok.kind hk hc hcell go
    · rcases hx with k | k
      · have : X.env.scope.names.lookup x = some .free := hk
        rw [k] at this; cases this
      · have : X.env.scope.names.lookup x = some .free := hk
        rw [k] at this; cases this
/-- o[i] op= e -/
def tAugS (to ti te : TE) (tget : V → V → Hp → VK → Prop) (tip : TIp) (tset : TSet) : TS := fun D σ H => to σ H fun o H1 => ti σ H1 fun i H2 => tget o i H2 fun x H3 => te σ H3 fun y H4 => tip x y H4 fun z H5 => tset o i z H5 fun H6 => D.nx σ H6
/-- o[i], by values -/
def PGet (X : Cx) (t : V → V → Hp → VK → Prop) : Prop :=
  ∀ (pins : List (Addr × Obj)) (s : Shared) (σ : St) (H : Hp) (o i : V) (ov iv : Value) (Q : VK), Inv X pins σ H s → RelV o ov → RelV i iv → t o i H Q →
    wpAny (model X.prog X.w) X.A (getItem ov iv) (EP X pins σ Q) X.xe s
theorem ps_augS {o i e : Expr} {to ti te : TE} {tget : V → V → Hp → VK → Prop} {tip : TIp} {tset : TSet} {op : Operator} {tpos : Pos} (ho : PE X o to) (hi : PE X i ti) (hg : PGet X tget) (he : PE X e te) (hp : PIp X op tip) (hs : PSet X tset)
    (ha : ∀ ov iv new, augStore i ov iv new = (do holding [new, ov, iv] (setItem ov iv new); release [new, ov, iv] []; pure .next) := by intros; rfl) : PS X (.AugAssign (.Subscript o i tpos) op e pos) (tAugS to ti te tget tip tset) := by
  intro pins s σ H D I h
  refine wpAny_AugAssign_SubscriptAny (thn (ho pins s σ H _ I h) fun ov s1 ⟨x1, H1, I1, r1, q1⟩ => ?_) ha
  refine thn (hi pins s1 σ H1 _ I1 q1) fun iv s2 ⟨x2, H2, I2, r2, q2⟩ => ?_
  refine thn (hg pins s2 σ H2 x1 x2 ov iv _ I2 r1 r2 q2) fun old s3 ⟨x3, H3, I3, r3, q3⟩ => ?_
  refine thn (he pins s3 σ H3 _ I3 q3) fun v s4 ⟨x4, H4, I4, r4, q4⟩ => ?_
  refine thn (hp pins s4 σ H4 x3 x4 old v _ I4 r3 r4 q4) fun new s5 ⟨x5, H5, I5, r5, q5⟩ => ?_
  exact thn (hs pins s5 σ H5 x1 x2 x5 ov iv new _ I5 r1 r2 r5 q5) fun _ s6 ⟨H6, I6, q6⟩ => ⟨σ, H6, I6, q6⟩
/-- ints -/
def ipI (f : Int → Int → Int) : TIp := fun x y H Q => ∃ i j, x = .int i ∧ y = .int j ∧ Q (.int (f i j)) H
theorem ip_add : PIp X .Add (ipI fun i j => i + j) := by
  intro pins s σ H x y v u Q I r1 r2 h
  obtain ⟨i, j, e1, e2, q⟩ := h
  subst e1; subst e2
  obtain ⟨t, rfl⟩ := r1
  obtain ⟨t', rfl⟩ := r2
  exact iadd_int ⟨.int _, H, I.tok _, ⟨_, rfl⟩, q⟩
theorem ip_sub : PIp X .Sub (ipI fun i j => i - j) := by
  intro pins s σ H x y v u Q I r1 r2 h
  obtain ⟨i, j, e1, e2, q⟩ := h
  subst e1; subst e2
  obtain ⟨t, rfl⟩ := r1
  obtain ⟨t', rfl⟩ := r2
  exact isub_int ⟨.int _, H, I.tok _, ⟨_, rfl⟩, q⟩
end

/-! ### while -/
section
variable {X : Cx} {pos : Pos}
/-- the invariant W with its measure -/
def tWhile (c : TT) (tb : TS) : TS := fun D σ H => ∃ W : Nat → St → Hp → Prop, (∃ m, W m σ H) ∧ ∀ m σ H, W m σ H →
  c σ H fun b H1 => if b = true then ∃ N : St → Hp → Prop, (∀ σ' H', N σ' H' → ∃ m', m' < m ∧ W m' σ' H') ∧ tb { D with nx := N, ct := N, bk := D.nx } σ H1 else D.nx σ H1
theorem ps_while {c : Expr} {body : List Stmt} {tc : TT} {tb : TS} (hp : PassesOwn (model X.prog X.w) X.A X.env X.xe) (hc : PT X c tc) (hb : PSs X body tb) : PS X (.While c body [] pos) (tWhile tc tb) := by
  intro pins s σ H D I h
  obtain ⟨W, ⟨m0, w0⟩, turn⟩ := h
  refine wpAny_While (codeAny_whileLoop (fun n s' => ∃ σ' H', Inv X pins σ' H' s' ∧ W n σ' H') ?_ m0 ⟨σ, H, I, w0⟩)
  rintro n s1 ⟨σ1, H1, I1, w1⟩
  refine wpAny_passesOwn hp (thn (hc pins s1 σ1 H1 _ I1 (turn n σ1 H1 w1)) fun b s2 ⟨H2, I2, q2⟩ => ?_)
  cases b with
  | true =>
    obtain ⟨N, hN, q2⟩ := q2
    rw [if_pos rfl]
    refine wpAny_passesOwn hp (thn (hb pins s2 σ1 H2 _ I2 q2) fun f s3 q3 => ?_)
    cases f with
    | next =>
      obtain ⟨σ3, H3, I3, n3⟩ := q3
      obtain ⟨m', hm, w3⟩ := hN σ3 H3 n3
      exact ⟨m', hm, σ3, H3, I3, w3⟩
    | cont =>
      obtain ⟨σ3, H3, I3, n3⟩ := q3
      obtain ⟨m', hm, w3⟩ := hN σ3 H3 n3
      exact ⟨m', hm, σ3, H3, I3, w3⟩
    | brk => exact q3
    | ret v => exact q3
  | false =>
    rw [if_neg Bool.false_ne_true]
    exact wpAny_execs_nil ⟨σ1, H2, I2, q2⟩
end

/-! ### what a loop or a comprehension walks -/
/-- at turn i: it yields x (the heap may grow), or it stops -/
structure It where
  go : Nat → Hp → Prop
  yld : Nat → Hp → V → Hp → Prop
  stop : Nat → Hp → Prop
/-- the iterator's own objects may turn: they are not the frame's, not pinned, younger than the entry (or a comprehension's own) -/
def FpOk (X : Cx) (pins : List (Addr × Obj)) (H : Hp) (b : Addr) : Prop :=
  H b = none ∧ b ≠ X.env.locals ∧ b ∉ X.fs ∧ (b ∈ X.ex ∨ X.s₀.heap.objs.size ≤ b) ∧ (∀ x c, X.env.cells.lookup x = some c → c ≠ b) ∧ ∀ p ∈ X.pn ++ pins, p.1 ≠ b
theorem Inv.fpOk {X : Cx} {pins : List (Addr × Obj)} {σ : St} {H H' : Hp} {s : Shared} {b : Addr} (I : Inv X pins σ H s) (hb : s.heap.objs.size ≤ b) (hn : H' b = none) : FpOk X pins H' b := by
  refine ⟨hn, Nat.ne_of_gt (Nat.lt_of_lt_of_le I.lt hb), I.nofs hb, .inr (Nat.le_trans I.sz hb), fun x c e z => ?_, fun p hp z => ?_⟩
  · obtain ⟨v, q⟩ := I.cell x c e
    exact absurd (Nat.lt_of_lt_of_le q.lt (by rw [z]; exact hb)) (Nat.lt_irrefl _)
  · exact absurd (Nat.lt_of_lt_of_le (Heap.lt_size (I.pin p hp).1) (by rw [z]; exact hb)) (Nat.lt_irrefl _)
structure Turn (P : Program) (w : World) (K : PySem.W.Frag) (tg : Expr) (J : It) (fp : List Addr) (it : Addr) (tn : Nat → Heap → Prop) : Prop where
  mem : it ∈ fp
  obj : ∀ i h, tn i h → ∀ b ∈ fp, ∃ o, h.get? b = some o ∧ ∀ v, o.data ≠ .cell v
  keep : ∀ i h h', tn i h → (∀ b ∈ fp, ∀ o, h.get? b = some o → h'.get? b = some o) → tn i h'
  item : ∀ (X : Cx), X.prog = P → X.w = w → X.K = K → X.calm = true → ∀ (i : Nat) (pins : List (Addr × Obj)) (s : Shared) (σ : St) (H : Hp) (E : Value → Shared → Prop), Inv X pins σ H s → (∀ b ∈ fp, FpOk X pins H b) → tn i s.heap → J.go i H →
    wpAny (model P w) X.A (pyNext (.ref it)) (fun r s1 => ∃ u, r = some u ∧
      wpAny (model P w) X.A (letOwnedTupleGo tg (.ref it) u) (fun _ s2 => ∃ x H', Inv X pins σ H' s2 ∧ RelV x u ∧ J.yld i H x H' ∧ tn (i + 1) s2.heap ∧ ∀ b ∈ fp, H' b = none) E s1) E s
  done : ∀ (X : Cx), X.prog = P → X.w = w → X.K = K → X.calm = true → ∀ (i : Nat) (pins : List (Addr × Obj)) (s : Shared) (σ : St) (H : Hp) (E : Value → Shared → Prop), Inv X pins σ H s → (∀ b ∈ fp, FpOk X pins H b) → tn i s.heap → J.stop i H →
    wpAny (model P w) X.A (pyNext (.ref it)) (fun r s1 => r = none ∧ Inv X pins σ H s1) E s
  self : ∀ (A : Around) (i : Nat) (s : Shared) (Q : Value → Shared → Prop) (E : Value → Shared → Prop), tn i s.heap → Q (.ref it) s → wpAny (model P w) A (pyIter (.ref it)) Q E s
abbrev TI := St → Hp → (It → Hp → Prop) → Prop
/-- an iterator has come -/
def PIE (X : Cx) (pins : List (Addr × Obj)) (σ : St) (tg : Expr) (R : It → Hp → Prop) (itv : Value) (s2 : Shared) : Prop :=
  ∃ (it : Addr) (fp : List Addr) (tn : Nat → Heap → Prop) (J : It) (H' : Hp), itv = .ref it ∧ Inv X pins σ H' s2 ∧ Turn X.prog X.w X.K tg J fp it tn ∧ tn 0 s2.heap ∧ (∀ b ∈ fp, FpOk X pins H' b) ∧ R J H'
def PI (X : Cx) (tg iter : Expr) (wi : TI) : Prop :=
  ∀ (pins : List (Addr × Obj)) (s : Shared) (σ : St) (H : Hp) (R : It → Hp → Prop), Inv X pins σ H s → wi σ H R →
    wpAny (model X.prog X.w) X.A (eval iter X.env) (fun v s1 => wpAny (model X.prog X.w) X.A (pyIter v) (PIE X pins σ tg R) X.xe s1) X.xe s

/-- the step ahead of the store is nothing for an iterator that keeps no tuple -/
theorem go_of {M : Model} {A : Around} {E : Value → Shared → Prop} {s : Shared} {tg : Expr} {it : Addr} {u : Value} {o : Obj} {n : String} {vs : Array Value} {Q : Unit → Shared → Prop} (ho : s.heap.get? it = some o) (hc : o.cls = .type n) (hd : o.data = .fields vs)
    (hn : ["enumerate", "zip", "dict_itemiterator", "dict_reverseitemiterator", "odict_iterator", "itertools.zip_longest", "itertools.pairwise"].contains n = false) (hQ : Q () s) : wpAny M A (letOwnedTupleGo tg (.ref it) u) Q E s := by
  unfold letOwnedTupleGo
  cases tg <;> first
    | exact wpAny_pure hQ
    | (cases u <;> first
        | exact wpAny_pure hQ
        | (refine wpAny_bind (wpAny_load ho ?_)
           rw [hc, hd]
           show wpAny M A (if (["enumerate", "zip", "dict_itemiterator", "dict_reverseitemiterator", "odict_iterator", "itertools.zip_longest", "itertools.pairwise"].contains n && vs[0]? == some (rawInt _)) = true then _ else _) Q E s
           rw [if_neg (by intro h; rw [hn, Bool.false_and] at h; cases h)]
           exact wpAny_pure hQ))

/-- the list at a, as it stands at each turn (a loop may append to it) -/
def Itl (K : PySem.W.Frag) (a : Addr) : It :=
  ⟨fun i H => ∃ xs x, SqL K H a xs ∧ xs[i]? = some x, fun i H x H' => H' = H ∧ ∀ xs, SqL K H a xs → xs[i]? = some x, fun i H => ∃ xs, SqL K H a xs ∧ xs.length ≤ i⟩
def Itt (K : PySem.W.Frag) (a : Addr) : It :=
  ⟨fun i H => ∃ xs x, SqT K H a xs ∧ xs[i]? = some x, fun i H x H' => H' = H ∧ ∀ xs, SqT K H a xs → xs[i]? = some x, fun i H => ∃ xs, SqT K H a xs ∧ xs.length ≤ i⟩
/-- lo, lo + 1, .. (n of them) -/
def Itr (lo : Int) (n : Nat) : It := ⟨fun i _ => i < n, fun i H x H' => H' = H ∧ x = .int (lo + i), fun i _ => n ≤ i⟩
theorem turn_list {P : Program} {w : World} {K : PySem.W.Frag} {tg : Expr} (a it : Addr) : Turn P w K tg (Itl K a) [it] it (fun i h => h.IsListIter it a i) where
  mem := by simp
  obj := fun i h st b hb => by
    have e : b = it := by simpa using hb
    subst e
    obtain ⟨o, e, c, d⟩ := st
    exact ⟨o, e, fun v z => by rw [d] at z; cases z⟩
  keep := fun i h h' st k => st.at fun o e => k it (by simp) o e
  item := by
    intro X hP hw hK hc i pins s σ H E I hf st hg
    subst hP hw hK
    obtain ⟨xs, x, hq, hx⟩ := hg
    obtain ⟨its, rv, p, hz⟩ := I.list hq
    obtain ⟨u, hu, ru⟩ := rv.get hx
    obtain ⟨f0, f1, f2, f3, f4, f5⟩ := hf it (by simp)
    refine wpAny_pyNext_list_item st p.isList (x := u) (by simpa using hu) fun h' st' sb => ?_
    have I1 : Inv X pins σ H { s with heap := h' } := I.turned (t' := s.toks) (fun b o hb e => (sb.2 b hb).trans e) f0 f1 f3 f4 f5
    obtain ⟨o, e, c, d⟩ := id st'
    exact ⟨u, rfl, go_of (s := { s with heap := h' }) e c d (by decide) ⟨x, H, I1, ru, ⟨rfl, fun ys hy => by rw [I.list_inj hy hq]; exact hx⟩, st', fun b hb => (hf b hb).1⟩⟩
  done := by
    intro X hP hw hK hc i pins s σ H E I hf st hg
    subst hP hw hK
    obtain ⟨xs, hq, hx⟩ := hg
    obtain ⟨its, rv, p, hz⟩ := I.list hq
    obtain ⟨f0, f1, f2, f3, f4, f5⟩ := hf it (by simp)
    have hl := rv.length
    exact wpAny_pyNext_list_end (I.ok.hd hc) st p.isList (by simp; omega) fun h' eb => ⟨rfl, I.turned (t' := s.toks) (fun b o hb e => eb b o hb e) f0 f1 f3 f4 f5⟩
  self := fun _ _ _ _ _ st h => wpAny_pyIter_listiter st h
theorem turn_tuple {P : Program} {w : World} {K : PySem.W.Frag} {tg : Expr} (a it : Addr) : Turn P w K tg (Itt K a) [it] it (fun i h => h.IsTupleIter it a i) where
  mem := by simp
  obj := fun i h st b hb => by
    have e : b = it := by simpa using hb
    subst e
    obtain ⟨o, e, c, d⟩ := st
    exact ⟨o, e, fun v z => by rw [d] at z; cases z⟩
  keep := fun i h h' st k => st.at fun o e => k it (by simp) o e
  item := by
    intro X hP hw hK hc i pins s σ H E I hf st hg
    subst hP hw hK
    obtain ⟨xs, x, hq, hx⟩ := hg
    obtain ⟨its, rv, p, hz⟩ := I.tuple hq
    obtain ⟨u, hu, ru⟩ := rv.get hx
    obtain ⟨f0, f1, f2, f3, f4, f5⟩ := hf it (by simp)
    refine wpAny_pyNext_tuple_item st (show s.heap.IsTuple a its.toArray from p) (x := u) (by simpa using hu) fun h' st' sb => ?_
    have I1 : Inv X pins σ H { s with heap := h' } := I.turned (t' := s.toks) (fun b o hb e => (sb.2 b hb).trans e) f0 f1 f3 f4 f5
    obtain ⟨o, e, c, d⟩ := id st'
    exact ⟨u, rfl, go_of (s := { s with heap := h' }) e c d (by decide) ⟨x, H, I1, ru, ⟨rfl, fun ys hy => by rw [I.tuple_inj hy hq]; exact hx⟩, st', fun b hb => (hf b hb).1⟩⟩
  done := by
    intro X hP hw hK hc i pins s σ H E I hf st hg
    subst hP hw hK
    obtain ⟨xs, hq, hx⟩ := hg
    obtain ⟨its, rv, p, hz⟩ := I.tuple hq
    obtain ⟨f0, f1, f2, f3, f4, f5⟩ := hf it (by simp)
    have hl := rv.length
    exact wpAny_pyNext_tuple_end (I.ok.hd hc) st (show s.heap.IsTuple a its.toArray from p) (by simp; omega) fun h' eb => ⟨rfl, I.turned (t' := s.toks) (fun b o hb e => eb b o hb e) f0 f1 f3 f4 f5⟩
  self := fun _ _ _ _ _ st h => wpAny_pyIter_tupleiter st h
theorem turn_range {P : Program} {w : World} {K : PySem.W.Frag} {tg : Expr} (it : Addr) (lo : Int) (n : Nat) : Turn P w K tg (Itr lo n) [it] it (fun i h => IsRangeIter h it (lo + (i : Nat) * 1) ((n : Int) - (i : Nat)) 1) where
  mem := by simp
  obj := fun i h st b hb => by
    have e : b = it := by simpa using hb
    subst e
    exact ⟨_, st, fun v z => by
      have z' : Data.fields _ = Data.cell v := z
      cases z'⟩
  keep := fun i h h' st k => k it (by simp) _ st
  item := by
    intro X hP hw hK hc i pins s σ H E I hf st hg
    subst hP hw hK
    obtain ⟨f0, f1, f2, f3, f4, f5⟩ := hf it (by simp)
    have W := Walks.range (prog := X.prog) (w := X.w) (I.ok.hd hc) it lo 1 n
    refine W.item i s _ _ hg st fun v h' tk hv st' kk => ?_
    obtain ⟨t, rfl⟩ := hv
    have I1 : Inv X pins σ H { s with heap := h', toks := tk } := I.turned (fun b o hb e => kk b o (by simpa using hb) e) f0 f1 f3 f4 f5
    refine ⟨_, rfl, go_of (s := { s with heap := h', toks := tk }) (n := "range_iterator") st' rfl rfl (by decide) ⟨.int (lo + i), H, I1, ⟨t, ?_⟩, ⟨rfl, rfl⟩, st', fun b hb => (hf b hb).1⟩⟩
    rw [Int.mul_one]
  done := by
    intro X hP hw hK hc i pins s σ H E I hf st hg
    subst hP hw hK
    obtain ⟨f0, f1, f2, f3, f4, f5⟩ := hf it (by simp)
    exact wpAny_pyNext_range_end (I.ok.hd hc) st (by have : n ≤ i := hg; omega) fun h' eb => ⟨rfl, I.turned (t' := s.toks) (fun b o hb e => eb b o hb e) f0 f1 f3 f4 f5⟩
  self := fun _ _ _ _ _ st h => wpAny_pyIter_rangeiter st h
end L2

namespace L2
open PySem PySem.Spec PyProof.Rows
section
variable {X : Cx} {tg : Expr}
def iList (K : PySem.W.Frag) (tl : TE) : TI := fun σ H R => tl σ H fun x H1 => ∃ a, x = .ref a ∧ (∃ xs, SqL K H1 a xs) ∧ R (Itl K a) H1
def iTup (K : PySem.W.Frag) (tl : TE) : TI := fun σ H R => tl σ H fun x H1 => ∃ a, x = .ref a ∧ (∃ xs, SqT K H1 a xs) ∧ R (Itt K a) H1
theorem pi_list {l : Expr} {tl : TE} (hl : PE X l tl) : PI X tg l (iList X.K tl) := by
  intro pins s σ H R I h
  refine thn (hl pins s σ H _ I h) fun v s1 ⟨x, H1, I1, r1, q1⟩ => ?_
  obtain ⟨a, e, ⟨xs, hq⟩, q⟩ := q1
  subst e
  cases r1
  obtain ⟨its, rv, p, hz⟩ := I1.list hq
  refine wpAny_pyIter_list p.isList ?_
  refine ⟨s1.heap.objs.size, [s1.heap.objs.size], _, _, H1, rfl, I1.kept (t' := s1.toks) fun b o e => Heap.get?_push_of_some _ e, turn_list a _, ⟨_, Heap.get?_push_size _ rfl, rfl, rfl⟩, fun b hb => ?_, q⟩
  have e : b = s1.heap.objs.size := by simpa using hb
  subst e
  exact I1.fpOk (Nat.le_refl _) (I1.hok.fresh (Nat.le_refl _))
theorem pi_tup {l : Expr} {tl : TE} (hl : PE X l tl) : PI X tg l (iTup X.K tl) := by
  intro pins s σ H R I h
  refine thn (hl pins s σ H _ I h) fun v s1 ⟨x, H1, I1, r1, q1⟩ => ?_
  obtain ⟨a, e, ⟨xs, hq⟩, q⟩ := q1
  subst e
  cases r1
  obtain ⟨its, rv, p, hz⟩ := I1.tuple hq
  refine wpAny_pyIter_tuple (show s1.heap.IsTuple a its.toArray from p) ?_
  refine ⟨s1.heap.objs.size, [s1.heap.objs.size], _, _, H1, rfl, I1.kept (t' := s1.toks) fun b o e => Heap.get?_push_of_some _ e, turn_tuple a _, ⟨_, Heap.get?_push_size _ rfl, rfl, rfl⟩, fun b hb => ?_, q⟩
  have e : b = s1.heap.objs.size := by simpa using hb
  subst e
  exact I1.fpOk (Nat.le_refl _) (I1.hok.fresh (Nat.le_refl _))
/-- a range object just made, walked -/
theorem range_it {pins : List (Addr × Obj)} {σ : St} {H : Hp} {s : Shared} {R : It → Hp → Prop} {E : Value → Shared → Prop} {lo hi : Int} {t u v : Tok} {tk : Nat} (I : Inv X pins σ H s) (h1 : -(2 ^ 62) ≤ lo) (h2 : lo < 2 ^ 62) (h3 : -(2 ^ 62) ≤ hi) (h4 : hi < 2 ^ 62)
    (q : R (Itr lo (hi - lo).toNat) H) : wpAny (model X.prog X.w) X.A (pyIter (.ref s.heap.objs.size)) (PIE X pins σ tg R) E { s with heap := s.heap.push { cls := .type "range", data := .fields #[.int lo t, .int hi u, .int 1 v] }, toks := tk } := by
  refine wpAny_pyIter_range (IsRange.new ..) (small_one h1 h2 h3 h4) ?_
  have I1 : Inv X pins σ H { s with heap := s.heap.push { cls := .type "range", data := .fields #[.int lo t, .int hi u, .int 1 v] }, toks := tk } := I.kept fun b o e => Heap.get?_push_of_some _ e
  refine ⟨(s.heap.push { cls := .type "range", data := .fields #[.int lo t, .int hi u, .int 1 v] }).objs.size, [(s.heap.push { cls := .type "range", data := .fields #[.int lo t, .int hi u, .int 1 v] }).objs.size], _, _, H, rfl,
    I1.kept (t' := tk) fun b o e => Heap.get?_push_of_some _ e, turn_range _ lo (hi - lo).toNat, ?_, fun b hb => ?_, q⟩
  · have e1 : lo + ((0 : Nat) : Int) * 1 = lo := by simp
    have e2 : (((hi - lo).toNat : Nat) : Int) - ((0 : Nat) : Int) = Builtin.Range.rangeSize lo hi 1 := by rw [rangeSize_one]; split <;> omega
    show IsRangeIter _ _ (lo + ((0 : Nat) : Int) * 1) ((((hi - lo).toNat : Nat) : Int) - ((0 : Nat) : Int)) 1
    rw [e1, e2]
    exact Heap.get?_push_size _ rfl
  · have e : b = (s.heap.push { cls := .type "range", data := .fields #[.int lo t, .int hi u, .int 1 v] }).objs.size := by simpa using hb
    subst e
    exact I1.fpOk (Nat.le_refl _) (I1.hok.fresh (Nat.le_refl _))
def iRng1 (ta : TA) : TI := fun σ H R => ta σ H fun vs H1 => ∃ j : Int, vs = [.int j] ∧ -(2 ^ 62) ≤ j ∧ j < 2 ^ 62 ∧ R (Itr 0 j.toNat) H1
def iRng2 (ta : TA) : TI := fun σ H R => ta σ H fun vs H1 => ∃ i j : Int, vs = [.int i, .int j] ∧ (-(2 ^ 62) ≤ i ∧ i < 2 ^ 62 ∧ -(2 ^ 62) ≤ j ∧ j < 2 ^ 62) ∧ R (Itr i (j - i).toNat) H1
theorem pi_range1 {a : Expr} {ta : TA} {p pos : Pos} (hg : Gl X "range") (hm : X.mg "range" = none) (ha : PA X [a] ta) (hs : starEach [a] X.env = [(false, eval a X.env)] := by rfl) : PI X tg (.Call (.Name "range" p) [a] [] pos) (iRng1 ta) := by
  intro pins s σ H R I h
  refine Call_ (ld_blt I hg hm boot_range (PyProof.Rows.callWith_type1 (thn (ha pos pins s σ H _ I h) fun us s1 ⟨vs, H1, I1, r1, q1⟩ => ?_) hs rfl))
  obtain ⟨j, e, q1, q2, q⟩ := q1
  subst e
  cases r1 with
  | cons r rr =>
    cases rr
    obtain ⟨t, rfl⟩ := r
    exact call_range_1 (range_it I1 (by omega) (by omega) q1 q2 (by simpa using q))
theorem pi_range2 {a b : Expr} {ta : TA} {p pos : Pos} (hg : Gl X "range") (hm : X.mg "range" = none) (ha : PA X [a, b] ta) (hs : starEach [a, b] X.env = [(false, eval a X.env), (false, eval b X.env)] := by rfl) (hs2 : starEach [b] X.env = [(false, eval b X.env)] := by rfl) :
    PI X tg (.Call (.Name "range" p) [a, b] [] pos) (iRng2 ta) := by
  intro pins s σ H R I h
  refine Call_ (ld_blt I hg hm boot_range (PyProof.Rows.callWith_type1 (thn (ha pos pins s σ H _ I h) fun us s1 ⟨vs, H1, I1, r1, q1⟩ => ?_) (by rw [hs, hs2]) (by rw [hs2]; rfl)))
  obtain ⟨i, j, e, ⟨q1, q2, q3, q4⟩, q⟩ := q1
  subst e
  cases r1 with
  | cons r rr =>
    cases rr with
    | cons r' rr =>
      cases rr
      obtain ⟨t, rfl⟩ := r
      obtain ⟨t', rfl⟩ := r'
      exact call_range_2 (range_it I1 q1 q2 q3 q4 q)

/-! ### for -/
/-- W: the invariant by the turn and a measure; N: what the body is to reach -/
def tFor (wi : TI) (g : TG) (tb : TS) : TS := fun D σ H => wi σ H fun J H1 => ∃ W : Nat → Nat → St → Hp → Prop, (∃ m, W 0 m σ H1) ∧ ∀ i m σ H, W i m σ H →
  (J.stop i H ∧ D.nx σ H) ∨ (J.go i H ∧ ∃ N : St → Hp → Prop, (∀ σ' H', N σ' H' → ∃ m', m' < m ∧ W (i + 1) m' σ' H') ∧ ∀ x H', J.yld i H x H' → g x σ H' fun σ2 H2 => tb { D with nx := N, ct := N, bk := D.nx } σ2 H2)
/-- the records at fp as they stand -/
def pinsAt (fp : List Addr) (h : Heap) : List (Addr × Obj) := fp.filterMap fun b => (h.get? b).map fun o => (b, o)
theorem mem_pinsAt {fp : List Addr} {h : Heap} {b : Addr} {o : Obj} (hb : b ∈ fp) (e : h.get? b = some o) : (b, o) ∈ pinsAt fp h := List.mem_filterMap.mpr ⟨b, hb, by rw [e]; rfl⟩
theorem of_pinsAt {fp : List Addr} {h : Heap} {p : Addr × Obj} (hp : p ∈ pinsAt fp h) : p.1 ∈ fp ∧ h.get? p.1 = some p.2 := by
  obtain ⟨b, hb, e⟩ := List.mem_filterMap.mp hp
  cases q : h.get? b with
  | none => rw [q] at e; cases e
  | some o =>
    rw [q] at e
    have e' : (b, o) = p := Option.some.inj e
    subst e'
    exact ⟨hb, q⟩
theorem Inv.pinned {pins : List (Addr × Obj)} {σ : St} {H : Hp} {s : Shared} {fp : List Addr} (I : Inv X pins σ H s) (hf : ∀ b ∈ fp, FpOk X pins H b) (ho : ∀ b ∈ fp, ∃ o, s.heap.get? b = some o ∧ ∀ v, o.data ≠ .cell v) : Inv X (pins ++ pinsAt fp s.heap) σ H s :=
  I.pins_of fun p hp => (List.mem_append.mp hp).elim (fun z => I.pin p (List.mem_append_right _ z)) fun z => by
    obtain ⟨hb, e⟩ := of_pinsAt z
    obtain ⟨f0, f1, f2, _⟩ := hf p.1 hb
    obtain ⟨o, e', d⟩ := ho p.1 hb
    rw [e] at e'; cases e'
    exact ⟨e, f0, f1, f2, d⟩
theorem Inv.unpinned {pins pl : List (Addr × Obj)} {σ : St} {H : Hp} {s : Shared} (I : Inv X (pins ++ pl) σ H s) : Inv X pins σ H s := I.pins_of fun p hp => I.pin p (List.mem_append_right _ (List.mem_append_left _ hp))
theorem ps_for {iter : Expr} {body : List Stmt} {wi : TI} {g : TG} {tb : TS} {pos : Pos} (hp : PassesOwn (model X.prog X.w) X.A X.env X.xe) (hc : X.calm = true) (hi : PI X tg iter wi) (hg : PG X tg g) (hb : PSs X body tb)
    (hs : ∀ x, foldedSetIterable iter X.env x = pure x := by intro _; rfl) : PS X (.For tg iter body [] pos) (tFor wi g tb) := by
  intro pins s σ H D I h
  refine wpAny_For (thn (hi pins s σ H _ I h) fun v s1 h1 => thn h1 fun itv s2 h2 => ?_) hs
  obtain ⟨it, fp, tn, J, H2, e, I2, T, st2, f2, W, ⟨m0, w0⟩, turn⟩ := h2
  subst e
  -- what stays true of the iterator's objects through the loop
  have stat : ∀ {H' : Hp}, (∀ b ∈ fp, H' b = none) → ∀ b ∈ fp, FpOk X pins H' b := fun hn b hb => ⟨hn b hb, (f2 b hb).2⟩
  refine codeAny_forLoop_any (fun n s' => ∃ i σ' H', Inv X pins σ' H' s' ∧ tn i s'.heap ∧ (∀ b ∈ fp, H' b = none) ∧ W i n σ' H') ?_ m0 ⟨0, σ, H2, I2, st2, fun b hb => (f2 b hb).1, w0⟩
  rintro n s3 ⟨i, σ3, H3, I3, st3, fr3, w3⟩
  rcases turn i n σ3 H3 w3 with ⟨stop, qn⟩ | ⟨go, N, hN, step⟩
  · refine wpAny_passesOwn hp (thn (T.done X rfl rfl rfl hc i pins s3 σ3 H3 X.xe I3 (stat fr3) st3 stop) fun r s4 ⟨hr, I4⟩ => ?_)
    subst hr
    exact wpAny_execs_nil ⟨σ3, H3, I4, qn⟩
  · refine wpAny_passesOwn hp (thn (T.item X rfl rfl rfl hc i pins s3 σ3 H3 X.xe I3 (stat fr3) st3 go) fun r s4 ⟨u, hr, h4⟩ => ?_)
    subst hr
    refine wpAny_passesOwn hp (thn h4 fun _ s5 ⟨x, H5, I5, r5, y5, st5, fr5⟩ => ?_)
    have I5' := I5.pinned (stat fr5) (T.obj _ _ st5)
    refine wpAny_passesOwn hp (thn (hg _ s5 σ3 H5 x u _ I5' r5 (step x H5 y5)) fun _ s6 ⟨σ6, H6, I6, q6⟩ => ?_)
    refine wpAny_passesOwn hp (thn (hb _ s6 σ6 H6 _ I6 q6) fun f s7 q7 => ?_)
    have again : ∀ {σ7 : St} {H7 : Hp}, Inv X (pins ++ pinsAt fp s5.heap) σ7 H7 s7 → N σ7 H7 → ∃ m, m < n ∧ ∃ i σ' H', Inv X pins σ' H' s7 ∧ tn i s7.heap ∧ (∀ b ∈ fp, H' b = none) ∧ W i m σ' H' := fun {σ7 H7} I7 n7 => by
      obtain ⟨m', hm, w7⟩ := hN σ7 H7 n7
      refine ⟨m', hm, i + 1, σ7, H7, I7.unpinned, T.keep _ _ _ st5 fun b hb o e => (I7.pin (b, o) (List.mem_append_right _ (List.mem_append_right _ (mem_pinsAt hb e)))).1, fun b hb => ?_, w7⟩
      obtain ⟨o, e, d⟩ := T.obj _ _ st5 b hb
      exact (I7.pin (b, o) (List.mem_append_right _ (List.mem_append_right _ (mem_pinsAt hb e)))).2.1
    cases f with
    | next => obtain ⟨σ7, H7, I7, n7⟩ := q7; exact again I7 n7
    | cont => obtain ⟨σ7, H7, I7, n7⟩ := q7; exact again I7 n7
    | brk => obtain ⟨σ7, H7, I7, q7⟩ := q7; exact ⟨σ7, H7, I7.unpinned, q7⟩
    | ret v => obtain ⟨x7, σ7, H7, I7, r7, q7⟩ := q7; exact ⟨x7, σ7, H7, I7.unpinned, r7, q7⟩
end

/-! ### the forms one uses -/
/-- over a list that the body leaves as it is -/
theorem for_list {K : PySem.W.Frag} {a : Addr} {xs : List V} {g : TG} {tb : TS} {D : Ends} {σ : St} {H : Hp} (Pv : Nat → St → Hp → Prop) (h0 : Pv 0 σ H) (hl : ∀ i σ H, i ≤ xs.length → Pv i σ H → SqL K H a xs)
    (hs : ∀ i x σ H, xs[i]? = some x → Pv i σ H → g x σ H fun σ2 H2 => tb { D with nx := Pv (i + 1), ct := Pv (i + 1), bk := D.nx } σ2 H2) (hd : ∀ σ H, Pv xs.length σ H → D.nx σ H) :
    ∃ W : Nat → Nat → St → Hp → Prop, (∃ m, W 0 m σ H) ∧ ∀ i m σ H, W i m σ H →
      ((Itl K a).stop i H ∧ D.nx σ H) ∨ ((Itl K a).go i H ∧ ∃ N : St → Hp → Prop, (∀ σ' H', N σ' H' → ∃ m', m' < m ∧ W (i + 1) m' σ' H') ∧ ∀ x H', (Itl K a).yld i H x H' → g x σ H' fun σ2 H2 => tb { D with nx := N, ct := N, bk := D.nx } σ2 H2) := by
  refine ⟨fun i m σ H => m = xs.length - i ∧ i ≤ xs.length ∧ Pv i σ H, ⟨xs.length, by simp, Nat.zero_le _, h0⟩, ?_⟩
  rintro i m σ H ⟨rfl, hi, p⟩
  have q := hl i σ H hi p
  by_cases hlt : i < xs.length
  · refine .inr ⟨⟨xs, xs[i], q, by simp [hlt]⟩, Pv (i + 1), fun σ' H' p' => ⟨xs.length - (i + 1), by omega, rfl, hlt, p'⟩, fun x H' y => ?_⟩
    obtain ⟨e, y⟩ := y
    subst e
    exact hs i x σ _ (y xs q) p
  · have e : i = xs.length := by omega
    subst e
    exact .inl ⟨⟨xs, q, Nat.le_refl _⟩, hd σ H p⟩
theorem for_tup {K : PySem.W.Frag} {a : Addr} {xs : List V} {g : TG} {tb : TS} {D : Ends} {σ : St} {H : Hp} (Pv : Nat → St → Hp → Prop) (h0 : Pv 0 σ H) (hl : ∀ i σ H, i ≤ xs.length → Pv i σ H → SqT K H a xs)
    (hs : ∀ i x σ H, xs[i]? = some x → Pv i σ H → g x σ H fun σ2 H2 => tb { D with nx := Pv (i + 1), ct := Pv (i + 1), bk := D.nx } σ2 H2) (hd : ∀ σ H, Pv xs.length σ H → D.nx σ H) :
    ∃ W : Nat → Nat → St → Hp → Prop, (∃ m, W 0 m σ H) ∧ ∀ i m σ H, W i m σ H →
      ((Itt K a).stop i H ∧ D.nx σ H) ∨ ((Itt K a).go i H ∧ ∃ N : St → Hp → Prop, (∀ σ' H', N σ' H' → ∃ m', m' < m ∧ W (i + 1) m' σ' H') ∧ ∀ x H', (Itt K a).yld i H x H' → g x σ H' fun σ2 H2 => tb { D with nx := N, ct := N, bk := D.nx } σ2 H2) := by
  refine ⟨fun i m σ H => m = xs.length - i ∧ i ≤ xs.length ∧ Pv i σ H, ⟨xs.length, by simp, Nat.zero_le _, h0⟩, ?_⟩
  rintro i m σ H ⟨rfl, hi, p⟩
  have q := hl i σ H hi p
  by_cases hlt : i < xs.length
  · refine .inr ⟨⟨xs, xs[i], q, by simp [hlt]⟩, Pv (i + 1), fun σ' H' p' => ⟨xs.length - (i + 1), by omega, rfl, hlt, p'⟩, fun x H' y => ?_⟩
    obtain ⟨e, y⟩ := y
    subst e
    exact hs i x σ _ (y xs q) p
  · have e : i = xs.length := by omega
    subst e
    exact .inl ⟨⟨xs, q, Nat.le_refl _⟩, hd σ H p⟩
theorem for_range {lo : Int} {n : Nat} {g : TG} {tb : TS} {D : Ends} {σ : St} {H : Hp} (Pv : Nat → St → Hp → Prop) (h0 : Pv 0 σ H)
    (hs : ∀ i σ H, i < n → Pv i σ H → g (.int (lo + i)) σ H fun σ2 H2 => tb { D with nx := Pv (i + 1), ct := Pv (i + 1), bk := D.nx } σ2 H2) (hd : ∀ σ H, Pv n σ H → D.nx σ H) :
    ∃ W : Nat → Nat → St → Hp → Prop, (∃ m, W 0 m σ H) ∧ ∀ i m σ H, W i m σ H →
      ((Itr lo n).stop i H ∧ D.nx σ H) ∨ ((Itr lo n).go i H ∧ ∃ N : St → Hp → Prop, (∀ σ' H', N σ' H' → ∃ m', m' < m ∧ W (i + 1) m' σ' H') ∧ ∀ x H', (Itr lo n).yld i H x H' → g x σ H' fun σ2 H2 => tb { D with nx := N, ct := N, bk := D.nx } σ2 H2) := by
  refine ⟨fun i m σ H => m = n - i ∧ i ≤ n ∧ Pv i σ H, ⟨n, by simp, Nat.zero_le _, h0⟩, ?_⟩
  rintro i m σ H ⟨rfl, hi, p⟩
  by_cases hlt : i < n
  · refine .inr ⟨hlt, Pv (i + 1), fun σ' H' p' => ⟨n - (i + 1), by omega, rfl, hlt, p'⟩, fun x H' y => ?_⟩
    obtain ⟨e, y⟩ := y
    subst e y
    exact hs i σ _ hlt p
  · have e : i = n := by omega
    subst e
    exact .inl ⟨Nat.le_refl _, hd σ H p⟩
/-- while, by a word and a measure of the state -/
theorem while_by {c : TT} {tb : TS} {D : Ends} {σ : St} {H : Hp} (Pv : St → Hp → Prop) (μ : St → Hp → Nat) (h0 : Pv σ H)
    (hs : ∀ σ H, Pv σ H → c σ H fun b H1 => if b = true then tb { D with nx := fun σ' H' => Pv σ' H' ∧ μ σ' H' < μ σ H, ct := fun σ' H' => Pv σ' H' ∧ μ σ' H' < μ σ H, bk := D.nx } σ H1 else D.nx σ H1)
    (mono : ∀ σ H Q Q', (∀ b H1, Q b H1 → Q' b H1) → c σ H Q → c σ H Q') : tWhile c tb D σ H := by
  refine ⟨fun m σ H => m = μ σ H ∧ Pv σ H, ⟨_, rfl, h0⟩, ?_⟩
  rintro m σ H ⟨rfl, p⟩
  refine mono σ H _ _ (fun b H1 q => ?_) (hs σ H p)
  cases b with
  | true => exact ⟨_, fun σ' H' ⟨p', l⟩ => ⟨_, l, rfl, p'⟩, q⟩
  | false => exact q
end L2

namespace L2
open PySem PySem.Spec PyProof.Rows

abbrev R2 := V → V → Hp → VK → Prop
/-- a two-place operation on values: f is binaryOp op, inplaceOp op or compareOp op -/
def OpR (X : Cx) (f : Value → Value → Sem Value) (r : R2) : Prop :=
  ∀ (pins : List (Addr × Obj)) (s : Shared) (σ : St) (H : Hp) (x y : V) (v u : Value) (Q : VK), Inv X pins σ H s → RelV x v → RelV y u → r x y H Q →
    wpAny (model X.prog X.w) X.A (f v u) (EP X pins σ Q) X.xe s
/-- a one-place operation -/
def UnR (X : Cx) (f : Value → Sem Value) (r : V → Hp → VK → Prop) : Prop :=
  ∀ (pins : List (Addr × Obj)) (s : Shared) (σ : St) (H : Hp) (x : V) (v : Value) (Q : VK), Inv X pins σ H s → RelV x v → r x H Q →
    wpAny (model X.prog X.w) X.A (f v) (EP X pins σ Q) X.xe s
/-- a call of a value that is known (a builtin, a type) with values -/
def CallR (X : Cx) (f : Value) (r : List V → Hp → VK → Prop) : Prop :=
  ∀ (pins : List (Addr × Obj)) (s : Shared) (σ : St) (H : Hp) (xs : List V) (us : List Value) (Q : VK), Inv X pins σ H s → Vals xs us → r xs H Q →
    wpAny (model X.prog X.w) X.A (call f us) (EP X pins σ Q) X.xe s
/-- a value's truth -/
def TruR (X : Cx) (r : V → Hp → (Bool → Hp → Prop) → Prop) : Prop :=
  ∀ (pins : List (Addr × Obj)) (s : Shared) (σ : St) (H : Hp) (x : V) (v : Value) (Q : Bool → Hp → Prop), Inv X pins σ H s → RelV x v → r x H Q →
    wpAny (model X.prog X.w) X.A (truthy v) (TP X pins σ Q) X.xe s

def tOp (r : R2) (ta tb : TE) : TE := fun σ H Q => ta σ H fun x H1 => tb σ H1 fun y H2 => r x y H2 Q
def tUn (r : V → Hp → VK → Prop) (ta : TE) : TE := fun σ H Q => ta σ H fun x H1 => r x H1 Q
/-- ints in, under C, and a value out -/
def rI (C : Int → Int → Prop) (g : Int → Int → V) : R2 := fun x y H Q => ∃ i j, x = .int i ∧ y = .int j ∧ C i j ∧ Q (g i j) H
def rI0 (g : Int → Int → V) : R2 := fun x y H Q => ∃ i j, x = .int i ∧ y = .int j ∧ Q (g i j) H
def rU (g : Int → V) : V → Hp → VK → Prop := fun x H Q => ∃ i, x = .int i ∧ Q (g i) H

section
variable {X : Cx} {a b c : Expr} {ta tb tc : TE} {pos : Pos}

theorem binT (ha : PE X a ta) (hb : PE X b tb) {pins : List (Addr × Obj)} {s : Shared} {σ : St} {H : Hp} {R : V → V → Hp → Prop} (I : Inv X pins σ H s)
    (h : ta σ H fun x H1 => tb σ H1 fun y H2 => R x y H2) {Q : Value → Shared → Prop} {f : Value → Value → Sem Value}
    (hf : ∀ v u s2 x y H2, Inv X pins σ H2 s2 → RelV x v → RelV y u → R x y H2 → wpAny (model X.prog X.w) X.A (f v u) Q X.xe s2) :
    wpAny (model X.prog X.w) X.A (eval a X.env) (fun v s₁ => wpAny (model X.prog X.w) X.A (eval b X.env) (fun u s₂ => wpAny (model X.prog X.w) X.A (f v u) Q X.xe s₂) X.xe s₁) X.xe s := by
  refine thn (ha pins s σ H _ I h) fun v s1 ⟨x, H1, I1, r1, q1⟩ => ?_
  refine thn (hb pins s1 σ H1 _ I1 q1) fun u s2 ⟨y, H2, I2, r2, q2⟩ => ?_
  exact hf v u s2 x y H2 I2 r1 r2 q2

theorem pe_op {op : Operator} {r : R2} (ho : OpR X (binaryOp op) r) (ha : PE X a ta) (hb : PE X b tb) : PE X (.BinOp a op b pos) (tOp r ta tb) := by
  intro pins s σ H Q I h
  exact wpAny_BinOp (binT ha hb I h fun v u s2 x y H2 I2 rx ry q => ho pins s2 σ H2 x y v u Q I2 rx ry q)
theorem pe_un {op : UnaryOp} {r : V → Hp → VK → Prop} (ho : UnR X (unaryOp op) r) (ha : PE X a ta) : PE X (.UnaryOp op a pos) (tUn r ta) := by
  intro pins s σ H Q I h
  exact UnaryOp_ (thn (ha pins s σ H _ I h) fun v s1 ⟨x, H1, I1, r1, q1⟩ => ho pins s1 σ H1 x v Q I1 r1 q1)
/-- a op= e at a name: the name's slot i -/
theorem augR {op : Operator} {r : R2} (ho : OpR X (inplaceOp op) r) {pins : List (Addr × Obj)} {s : Shared} {σ : St} {H : Hp} {x y : V} {v u : Value} {Q : VK} (I : Inv X pins σ H s)
    (rx : RelV x v) (ry : RelV y u) (q : r x y H Q) : wpAny (model X.prog X.w) X.A (inplaceOp op v u) (EP X pins σ Q) X.xe s := ho pins s σ H x y v u Q I rx ry q

/-! ### ints -/
theorem opI {f : Value → Value → Sem Value} {C : Int → Int → Prop} {g : Int → Int → Int}
    (rule : ∀ (i j : Int) (t u : Tok) (s : Shared) (Q : Value → Shared → Prop) (E : Value → Shared → Prop), C i j → Q (.int (g i j) s.toks) { s with toks := s.toks + 1 } → wpAny (model X.prog X.w) X.A (f (.int i t) (.int j u)) Q E s) :
    OpR X f (rI C fun i j => .int (g i j)) := by
  intro pins s σ H x y v u Q I rx ry h
  obtain ⟨i, j, rfl, rfl, hc, q⟩ := h
  obtain ⟨t, rfl⟩ := rx
  obtain ⟨t', rfl⟩ := ry
  exact rule i j t t' s _ _ hc ⟨.int (g i j), H, I.tok _, ⟨_, rfl⟩, q⟩
theorem opI0 {f : Value → Value → Sem Value} {g : Int → Int → Int}
    (rule : ∀ (i j : Int) (t u : Tok) (s : Shared) (Q : Value → Shared → Prop) (E : Value → Shared → Prop), Q (.int (g i j) s.toks) { s with toks := s.toks + 1 } → wpAny (model X.prog X.w) X.A (f (.int i t) (.int j u)) Q E s) :
    OpR X f (rI0 fun i j => .int (g i j)) := by
  intro pins s σ H x y v u Q I rx ry h
  obtain ⟨i, j, rfl, rfl, q⟩ := h
  obtain ⟨t, rfl⟩ := rx
  obtain ⟨t', rfl⟩ := ry
  exact rule i j t t' s _ _ ⟨.int (g i j), H, I.tok _, ⟨_, rfl⟩, q⟩
theorem opB0 {f : Value → Value → Sem Value} {g : Int → Int → Bool}
    (rule : ∀ (i j : Int) (t u : Tok) (s : Shared) (Q : Value → Shared → Prop) (E : Value → Shared → Prop), Q (.bool (g i j)) s → wpAny (model X.prog X.w) X.A (f (.int i t) (.int j u)) Q E s) :
    OpR X f (rI0 fun i j => .bl (g i j)) := by
  intro pins s σ H x y v u Q I rx ry h
  obtain ⟨i, j, rfl, rfl, q⟩ := h
  obtain ⟨t, rfl⟩ := rx
  obtain ⟨t', rfl⟩ := ry
  exact rule i j t t' s _ _ ⟨.bl (g i j), H, I, rfl, q⟩

def CDiv (i j : Int) : Prop := 0 < j ∧ j < 1073741824
def CDivN (i j : Int) : Prop := j ≠ 0 ∧ j.natAbs < 1073741824
def CPow (i j : Int) : Prop := 0 ≤ j ∧ j ≤ 1000000 ∧ i.natAbs < 2 ^ 64
def CMul (i j : Int) : Prop := (-(2 ^ 64) < i ∧ i < 2 ^ 64) ∨ (-(2 ^ 64) < j ∧ j < 2 ^ 64)
theorem CMul.ok {i j : Int} (h : CMul i j) : IntMulOk i j := by
  rcases h with ⟨h1, h2⟩ | ⟨h1, h2⟩
  · exact .of_left (intBits_le_64 h1 h2)
  · exact .of_right (intBits_le_64 h1 h2)
theorem two_pow_nn (k : Nat) : (0 : Int) ≤ 2 ^ k := by
  rw [two_pow_cast]
  exact Int.natCast_nonneg _

theorem op_add : OpR X (binaryOp .Add) (rI0 fun i j => .int (i + j)) := opI0 fun _ _ _ _ _ _ _ q => add_int q
theorem op_sub : OpR X (binaryOp .Sub) (rI0 fun i j => .int (i - j)) := opI0 fun _ _ _ _ _ _ _ q => sub_int q
theorem op_mul : OpR X (binaryOp .Mult) (rI CMul fun i j => .int (i * j)) := opI fun _ _ _ _ _ _ _ hc q => mul_int q hc.ok
/-- // by a positive divisor -/
theorem op_fdiv : OpR X (binaryOp .FloorDiv) (rI CDiv fun i j => .int (i / j)) := opI fun i j _ _ _ _ _ hc q => by
  have h1 : (0 : Int) < j := hc.1
  have h2 : j < 1073741824 := hc.2
  exact floordiv_int (by omega) (by rw [Int.fdiv_eq_ediv_of_nonneg i (by omega)]; exact q) (.inl (PyProof.noPylong_small (by omega)))
theorem op_fdivN : OpR X (binaryOp .FloorDiv) (rI CDivN fun i j => .int (i.fdiv j)) := opI fun _ _ _ _ _ _ _ hc q => floordiv_int hc.1 q (.inl (PyProof.noPylong_small hc.2))
/-- % by a positive divisor of any size -/
theorem op_mod : OpR X (binaryOp .Mod) (rI (fun _ j => 0 < j) fun i j => .int (i % j)) := opI fun i j _ _ _ _ _ hc q => by
  have h1 : (0 : Int) < j := hc
  exact mod_int' (by omega) (by rw [Int.fmod_eq_emod_of_nonneg i (by omega)]; exact q)
theorem op_modN : OpR X (binaryOp .Mod) (rI (fun _ j => j ≠ 0) fun i j => .int (i.fmod j)) := opI fun _ _ _ _ _ _ _ hc q => mod_int' hc q
theorem op_pow : OpR X (binaryOp .Pow) (rI CPow fun i j => .int (i ^ j.toNat)) := opI fun _ _ _ _ _ _ _ hc q => pow_int_small hc.1 hc.2.1 hc.2.2 q
theorem op_shl : OpR X (binaryOp .LShift) (rI CPow fun i j => .int (i * 2 ^ j.toNat)) := opI fun _ _ _ _ _ _ _ hc q => lshift_int_small hc.1 hc.2.1 hc.2.2 q
theorem op_shr : OpR X (binaryOp .RShift) (rI (fun _ j => 0 ≤ j) fun i j => .int (i / 2 ^ j.toNat)) := opI fun i j _ _ _ _ _ hc q =>
  rshift_int hc (by rw [Int.fdiv_eq_ediv_of_nonneg i (two_pow_nn _)]; exact q)
theorem op_and : OpR X (binaryOp .BitAnd) (rI0 fun i j => .int (Builtin.bitAnd i j)) := opI0 fun _ _ _ _ _ _ _ q => and_int q
theorem op_or : OpR X (binaryOp .BitOr) (rI0 fun i j => .int (Builtin.bitOr i j)) := opI0 fun _ _ _ _ _ _ _ q => or_int q
theorem op_xor : OpR X (binaryOp .BitXor) (rI0 fun i j => .int (Builtin.bitXor i j)) := opI0 fun _ _ _ _ _ _ _ q => xor_int q

theorem iop_add : OpR X (inplaceOp .Add) (rI0 fun i j => .int (i + j)) := opI0 fun _ _ _ _ _ _ _ q => iadd_int q
theorem iop_sub : OpR X (inplaceOp .Sub) (rI0 fun i j => .int (i - j)) := opI0 fun _ _ _ _ _ _ _ q => isub_int q
theorem iop_mul : OpR X (inplaceOp .Mult) (rI CMul fun i j => .int (i * j)) := opI fun _ _ _ _ _ _ _ hc q => imul_int q hc.ok
theorem iop_fdiv : OpR X (inplaceOp .FloorDiv) (rI CDiv fun i j => .int (i / j)) := opI fun i j _ _ _ _ _ hc q => by
  have h1 : (0 : Int) < j := hc.1
  have h2 : j < 1073741824 := hc.2
  exact ifloordiv_int (by omega) (by rw [Int.fdiv_eq_ediv_of_nonneg i (by omega)]; exact q) (.inl (PyProof.noPylong_small (by omega)))
theorem iop_mod : OpR X (inplaceOp .Mod) (rI (fun _ j => 0 < j) fun i j => .int (i % j)) := opI fun i j _ _ _ _ _ hc q => by
  have h1 : (0 : Int) < j := hc
  exact imod_int (by omega) (by rw [Int.fmod_eq_emod_of_nonneg i (by omega)]; exact q)
theorem iop_shl : OpR X (inplaceOp .LShift) (rI CPow fun i j => .int (i * 2 ^ j.toNat)) := opI fun _ _ _ _ _ _ _ hc q => ilshift_int_small hc.1 hc.2.1 hc.2.2 q
theorem iop_shr : OpR X (inplaceOp .RShift) (rI (fun _ j => 0 ≤ j) fun i j => .int (i / 2 ^ j.toNat)) := opI fun i j _ _ _ _ _ hc q =>
  irshift_int hc (by rw [Int.fdiv_eq_ediv_of_nonneg i (two_pow_nn _)]; exact q)
theorem iop_and : OpR X (inplaceOp .BitAnd) (rI0 fun i j => .int (Builtin.bitAnd i j)) := opI0 fun _ _ _ _ _ _ _ q => iand_int q
theorem iop_or : OpR X (inplaceOp .BitOr) (rI0 fun i j => .int (Builtin.bitOr i j)) := opI0 fun _ _ _ _ _ _ _ q => ior_int q
theorem iop_xor : OpR X (inplaceOp .BitXor) (rI0 fun i j => .int (Builtin.bitXor i j)) := opI0 fun _ _ _ _ _ _ _ q => ixor_int q

theorem unI {f : Value → Sem Value} {g : Int → Int}
    (rule : ∀ (i : Int) (t : Tok) (s : Shared) (Q : Value → Shared → Prop) (E : Value → Shared → Prop), Q (.int (g i) s.toks) { s with toks := s.toks + 1 } → wpAny (model X.prog X.w) X.A (f (.int i t)) Q E s) :
    UnR X f (rU fun i => .int (g i)) := by
  intro pins s σ H x v Q I rx h
  obtain ⟨i, rfl, q⟩ := h
  obtain ⟨t, rfl⟩ := rx
  exact rule i t s _ _ ⟨.int (g i), H, I.tok _, ⟨_, rfl⟩, q⟩
theorem un_neg : UnR X (unaryOp .USub) (rU fun i => .int (-i)) := unI fun _ _ _ _ _ q => neg_int q
theorem un_inv : UnR X (unaryOp .Invert) (rU fun i => .int (Builtin.bitNot i)) := unI fun _ _ _ _ _ q => invert_int q

/-! ### bools among ints: n += (a < b) -/
theorem op_add_ib : OpR X (binaryOp .Add) (fun x y H Q => ∃ i k, x = .int i ∧ y = .bl k ∧ Q (.int (i + b2i k)) H) := by
  intro pins s σ H x y v u Q I rx ry h
  obtain ⟨i, k, rfl, rfl, q⟩ := h
  obtain ⟨t, rfl⟩ := rx
  cases ry
  exact add_int_bool ⟨.int (i + b2i k), H, I.tok _, ⟨_, rfl⟩, q⟩
end

/-! ### comparisons -/
/-- the scalars that == tells apart as data does -/
def scal : V → V → Bool
  | .non, .non => true | .non, .int _ => true | .int _, .non => true | .non, .bl _ => true | .bl _, .non => true | .non, .str _ => true | .str _, .non => true
  | .int _, .int _ => true | .bl _, .bl _ => true | .str _, .str _ => true | .byt _, .byt _ => true
  | .int _, .str _ => true | .str _, .int _ => true | .bl _, .str _ => true | .str _, .bl _ => true
  | _, _ => false
def rEq : R2 := fun x y H Q => scal x y = true ∧ Q (.bl (decide (x = y))) H
def rNe : R2 := fun x y H Q => scal x y = true ∧ Q (.bl (!decide (x = y))) H

theorem dec_int {i j : Int} : decide (V.int i = V.int j) = (i == j) := by
  rw [Bool.eq_iff_iff]
  simp
theorem dec_bl {i j : Bool} : decide (V.bl i = V.bl j) = (i == j) := by
  rw [Bool.eq_iff_iff]
  simp
theorem dec_str {i j : Str} : decide (V.str i = V.str j) = (i == j) := by
  rw [Bool.eq_iff_iff]
  simp
theorem dec_byt {i j : Array UInt8} : decide (V.byt i = V.byt j) = (i.toList == j.toList) := by
  rw [Bool.eq_iff_iff]
  cases i
  cases j
  simp

section
variable {X : Cx} {a b c : Expr} {ta tb tc : TE} {pos : Pos}
theorem fin_bl {pins : List (Addr × Obj)} {σ : St} {H : Hp} {s : Shared} {Q : VK} {k k' : Bool} (I : Inv X pins σ H s) (q : Q (.bl k) H) (e : k = k') : EP X pins σ Q (.bool k') s := by
  subst e
  exact ⟨.bl k, H, I, rfl, q⟩
theorem op_eq : OpR X (compareOp .Eq) rEq := by
  intro pins s σ H x y v u Q I rx ry h
  obtain ⟨hs, q⟩ := h
  cases x with
  | non =>
    cases rx
    cases y with
    | non => cases ry; exact PySem.EqNone.eq_none_none (fin_bl I q (by simp))
    | bl j => cases ry; exact PySem.EqNone.eq_none_bool (fin_bl I q (by simp))
    | int j => obtain ⟨t', rfl⟩ := ry; exact PySem.EqNone.eq_none_int (fin_bl I q (by simp))
    | str j => obtain ⟨t', rfl⟩ := ry; exact PySem.EqNone.eq_none_str (fin_bl I q (by simp))
    | _ => exact absurd (show false = true from hs) Bool.false_ne_true
  | bl i =>
    cases rx
    cases y with
    | non => cases ry; exact PySem.EqNone.eq_bool_none (fin_bl I q (by simp))
    | bl j => cases ry; exact eq_bool (fin_bl I q dec_bl)
    | str j => obtain ⟨t', rfl⟩ := ry; exact PySem.EqMixed.eq_bool_str (fin_bl I q (by simp))
    | _ => exact absurd (show false = true from hs) Bool.false_ne_true
  | int i =>
    obtain ⟨t, rfl⟩ := rx
    cases y with
    | non => cases ry; exact PySem.EqNone.eq_int_none (fin_bl I q (by simp))
    | int j => obtain ⟨t', rfl⟩ := ry; exact eq_int (fin_bl I q dec_int)
    | str j => obtain ⟨t', rfl⟩ := ry; exact PySem.EqMixed.eq_int_str (fin_bl I q (by simp))
    | _ => exact absurd (show false = true from hs) Bool.false_ne_true
  | str i =>
    obtain ⟨t, rfl⟩ := rx
    cases y with
    | non => cases ry; exact PySem.EqNone.eq_str_none (fin_bl I q (by simp))
    | bl j => cases ry; exact PySem.EqMixed.eq_str_bool (fin_bl I q (by simp))
    | int j => obtain ⟨t', rfl⟩ := ry; exact PySem.EqMixed.eq_str_int (fin_bl I q (by simp))
    | str j => obtain ⟨t', rfl⟩ := ry; exact eq_str (fin_bl I q dec_str)
    | _ => exact absurd (show false = true from hs) Bool.false_ne_true
  | byt i =>
    obtain ⟨t, rfl⟩ := rx
    cases y with
    | byt j => obtain ⟨t', rfl⟩ := ry; exact PySem.W.eq_bytes (fin_bl I q dec_byt)
    | _ => exact absurd (show false = true from hs) Bool.false_ne_true
  | _ => cases y <;> exact absurd (show false = true from hs) Bool.false_ne_true
theorem op_ne : OpR X (compareOp .NotEq) rNe := by
  intro pins s σ H x y v u Q I rx ry h
  obtain ⟨hs, q⟩ := h
  cases x with
  | non =>
    cases rx
    cases y with
    | non => cases ry; exact PySem.EqNone.ne_none_none (fin_bl I q (by simp))
    | bl j => cases ry; exact PySem.EqNone.ne_none_bool (fin_bl I q (by simp))
    | int j => obtain ⟨t', rfl⟩ := ry; exact PySem.EqNone.ne_none_int (fin_bl I q (by simp))
    | str j => obtain ⟨t', rfl⟩ := ry; exact PySem.EqNone.ne_none_str (fin_bl I q (by simp))
    | _ => exact absurd (show false = true from hs) Bool.false_ne_true
  | bl i =>
    cases rx
    cases y with
    | non => cases ry; exact PySem.EqNone.ne_bool_none (fin_bl I q (by simp))
    | bl j => cases ry; exact ne_bool (fin_bl I q (congrArg not dec_bl))
    | str j => obtain ⟨t', rfl⟩ := ry; exact PySem.EqMixed.ne_bool_str (fin_bl I q (by simp))
    | _ => exact absurd (show false = true from hs) Bool.false_ne_true
  | int i =>
    obtain ⟨t, rfl⟩ := rx
    cases y with
    | non => cases ry; exact PySem.EqNone.ne_int_none (fin_bl I q (by simp))
    | int j => obtain ⟨t', rfl⟩ := ry; exact ne_int (fin_bl I q (congrArg not dec_int))
    | str j => obtain ⟨t', rfl⟩ := ry; exact PySem.EqMixed.ne_int_str (fin_bl I q (by simp))
    | _ => exact absurd (show false = true from hs) Bool.false_ne_true
  | str i =>
    obtain ⟨t, rfl⟩ := rx
    cases y with
    | non => cases ry; exact PySem.EqNone.ne_str_none (fin_bl I q (by simp))
    | bl j => cases ry; exact PySem.EqMixed.ne_str_bool (fin_bl I q (by simp))
    | int j => obtain ⟨t', rfl⟩ := ry; exact PySem.EqMixed.ne_str_int (fin_bl I q (by simp))
    | str j => obtain ⟨t', rfl⟩ := ry; exact ne_str (fin_bl I q (congrArg not dec_str))
    | _ => exact absurd (show false = true from hs) Bool.false_ne_true
  | byt i =>
    obtain ⟨t, rfl⟩ := rx
    cases y with
    | byt j => obtain ⟨t', rfl⟩ := ry; exact PySem.W.ne_bytes (fin_bl I q (congrArg not dec_byt))
    | _ => exact absurd (show false = true from hs) Bool.false_ne_true
  | _ => cases y <;> exact absurd (show false = true from hs) Bool.false_ne_true

theorem op_lt : OpR X (compareOp .Lt) (rI0 fun i j => .bl (decide (i < j))) := opB0 fun _ _ _ _ _ _ _ q => lt_int q
theorem op_le : OpR X (compareOp .LtE) (rI0 fun i j => .bl (decide (i ≤ j))) := opB0 fun _ _ _ _ _ _ _ q => le_int q
theorem op_gt : OpR X (compareOp .Gt) (rI0 fun i j => .bl (decide (j < i))) := opB0 fun _ _ _ _ _ _ _ q => gt_int q
theorem op_ge : OpR X (compareOp .GtE) (rI0 fun i j => .bl (decide (j ≤ i))) := opB0 fun _ _ _ _ _ _ _ q => ge_int q
theorem op_lt_str : OpR X (compareOp .Lt) (fun x y H Q => ∃ i j, x = .str i ∧ y = .str j ∧ Q (.bl (decide (i.cps.toList < j.cps.toList))) H) := by
  intro pins s σ H x y v u Q I rx ry h
  obtain ⟨i, j, rfl, rfl, q⟩ := h
  obtain ⟨t, rfl⟩ := rx
  obtain ⟨t', rfl⟩ := ry
  exact lt_str (fin_bl I q rfl)
/-- the one string within the other -/
theorem op_in_str : OpR X (compareOp .In) (fun x y H Q => ∃ i j, x = .str i ∧ y = .str j ∧ Q (.bl (!(Builtin.Str.occurrences j i 0 j.length 1).isEmpty)) H) := by
  intro pins s σ H x y v u Q I rx ry h
  obtain ⟨i, j, rfl, rfl, q⟩ := h
  obtain ⟨t, rfl⟩ := rx
  obtain ⟨t', rfl⟩ := ry
  exact in_str (fin_bl I q rfl)

/-- is None, is not None: the right side a value none -/
theorem op_isN : OpR X (compareOp .Is) (fun x y H Q => y = .non ∧ Q (.bl (decide (x = .non))) H) := by
  intro pins s σ H x y v u Q I rx ry h
  obtain ⟨rfl, q⟩ := h
  cases ry
  refine is_none_gen (fin_bl I q ?_)
  cases x <;> first
    | (cases rx; rfl)
    | (obtain ⟨t, rfl⟩ := rx; rfl)
theorem op_notN : OpR X (compareOp .IsNot) (fun x y H Q => y = .non ∧ Q (.bl (!decide (x = .non))) H) := by
  intro pins s σ H x y v u Q I rx ry h
  obtain ⟨rfl, q⟩ := h
  cases ry
  refine isnot_none_gen (fin_bl I q ?_)
  cases x <;> first
    | (cases rx; rfl)
    | (obtain ⟨t, rfl⟩ := rx; rfl)

theorem op_notin_str : OpR X (compareOp .NotIn) (fun x y H Q => ∃ i j, x = .str i ∧ y = .str j ∧ Q (.bl (!(!(Builtin.Str.occurrences j i 0 j.length 1).isEmpty))) H) := by
  intro pins s σ H x y v u Q I rx ry h
  obtain ⟨i, j, rfl, rfl, q⟩ := h
  obtain ⟨t, rfl⟩ := rx
  obtain ⟨t', rfl⟩ := ry
  exact notIn_str (fin_bl I q rfl)
/-- is, is not of two objects that are tracked lists or instances -/
def isObj : HO → Bool
  | .lst _ => true
  | .ins _ _ _ => true
  | _ => false
theorem obj_there {pins : List (Addr × Obj)} {s : Shared} {σ : St} {H : Hp} {a : Addr} {o : HO} (I : Inv X pins σ H s) (h : H a = some o) (p : isObj o = true) : ∃ ob, s.heap.get? a = some ob ∧ ob.cls ≠ .type "tuple" := by
  cases o with
  | lst xs =>
    obtain ⟨_, its, n, _, e⟩ : xs.length ≤ sizeLine ∧ ∃ (its : List Value) (n : Nat), Vals xs its ∧ s.heap.get? a = some { cls := .type "list", data := .seq its.toArray n } := I.hok a _ h
    exact ⟨_, e, (by show Value.type "list" ≠ .type "tuple"; decide +kernel)⟩
  | ins C dx fs =>
    have x := I.hok a _ h
    obtain ⟨_, _, _, e, _⟩ := x
    exact ⟨_, e, (by show Value.ref C ≠ .type "tuple"; exact fun z => by cases z)⟩
  | _ => exact absurd (show false = true from p) Bool.false_ne_true
theorem op_is_ref : OpR X (compareOp .Is) (fun x y H Q => ∃ a b oa ob, x = .ref a ∧ y = .ref b ∧ H a = some oa ∧ isObj oa = true ∧ H b = some ob ∧ isObj ob = true ∧ Q (.bl (decide (a = b))) H) := by
  intro pins s σ H x y v u Q I rx ry h
  obtain ⟨a, b, oa, ob, rfl, rfl, ha, pa, hb, pb, q⟩ := h
  cases rx
  cases ry
  obtain ⟨o1, e1, n1⟩ := obj_there I ha pa
  obtain ⟨o2, e2, _⟩ := obj_there I hb pb
  by_cases z : a = b
  · subst z
    exact wpAny_is_ref_self (fin_bl I q (by simp))
  · exact wpAny_is_ref_other z e1 e2 n1 (fin_bl I q (by simp [z]))
theorem op_isnot_ref : OpR X (compareOp .IsNot) (fun x y H Q => ∃ a b oa ob, x = .ref a ∧ y = .ref b ∧ H a = some oa ∧ isObj oa = true ∧ H b = some ob ∧ isObj ob = true ∧ Q (.bl (!decide (a = b))) H) := by
  intro pins s σ H x y v u Q I rx ry h
  obtain ⟨a, b, oa, ob, rfl, rfl, ha, pa, hb, pb, q⟩ := h
  cases rx
  cases ry
  obtain ⟨o1, e1, n1⟩ := obj_there I ha pa
  obtain ⟨o2, e2, _⟩ := obj_there I hb pb
  by_cases z : a = b
  · subst z
    exact wpAny_isNot_ref_self (fin_bl I q (by simp))
  · exact wpAny_isNot_ref_other z e1 e2 n1 (fin_bl I q (by simp [z]))

/-- two rules for one operation: by cases -/
theorem OpR.or {f : Value → Value → Sem Value} {r r' : R2} (h : OpR X f r) (h' : OpR X f r') : OpR X f (fun x y H Q => r x y H Q ∨ r' x y H Q) := by
  intro pins s σ H x y v u Q I rx ry q
  rcases q with q | q
  · exact h pins s σ H x y v u Q I rx ry q
  · exact h' pins s σ H x y v u Q I rx ry q

theorem nomark (b : Expr) {op : CmpOp} (h : op ≠ .In := by decide) (h2 : op ≠ .NotIn := by decide) : behindInMarks op b = false := by
  have e1 : (op == CmpOp.In) = false := by cases op <;> first | rfl | exact absurd rfl h
  have e2 : (op == CmpOp.NotIn) = false := by cases op <;> first | rfl | exact absurd rfl h2
  cases b <;> simp [behindInMarks, e1, e2]
/-- a comparison as a value; hm: nomark b, or (for in, not in) by with_unfolding_all rfl -/
theorem pe_cmpR {op : CmpOp} {r : R2} (ho : OpR X (compareOp op) r) (ha : PE X a ta) (hb : PE X b tb) (hm : behindInMarks op b = false) : PE X (.Compare a [op] [b] pos) (tOp r ta tb) := by
  intro pins s σ H Q I h
  exact wpAny_Compare1 (binT ha hb I h fun v u s2 x y H2 I2 rx ry q => ho pins s2 σ H2 x y v u Q I2 rx ry q) hm
/-- a reading of a value as a test -/
def tTest (t : TE) : TT := fun σ H Q => t σ H fun x H' => ∃ k, x = .bl k ∧ Q k H'
theorem pt_cmpR {op : CmpOp} {r : R2} (ho : OpR X (compareOp op) r) (ha : PE X a ta) (hb : PE X b tb) (hm : behindInMarks op b = false) : PT X (.Compare a [op] [b] pos) (tTest (tOp r ta tb)) := by
  intro pins s σ H Q I h
  refine wpAny_isTrue_Compare1 (thn (ha pins s σ H _ I h) fun v s1 ⟨x, H1, I1, r1, q1⟩ => thn (hb pins s1 σ H1 _ I1 q1) fun u s2 ⟨y, H2, I2, r2, q2⟩ =>
    thn (ho pins s2 σ H2 x y v u _ I2 r1 r2 q2) fun c s3 ⟨z, H3, I3, r3, k, e, q3⟩ => ?_) hm
  subst e
  cases r3
  exact wpAny_truthy_bool ⟨H3, I3, q3⟩
/-- a op1 b op2 c -/
def tChain (r r' : R2) (ta tb tc : TE) : TE := fun σ H Q => ta σ H fun x H1 => tb σ H1 fun y H2 => r x y H2 fun z H3 => ∃ k, z = .bl k ∧
  (if k = true then tc σ H3 fun w' H4 => r' y w' H4 Q else Q (.bl false) H3)
theorem pe_chain {op op' : CmpOp} {r r' : R2} (ho : OpR X (compareOp op) r) (ho' : OpR X (compareOp op') r') (ha : PE X a ta) (hb : PE X b tb) (hc : PE X c tc)
    (hm : lastMarks [op, op'] [b, c] = false := by with_unfolding_all rfl) : PE X (.Compare a [op, op'] [b, c] pos) (tChain r r' ta tb tc) := by
  intro pins s σ H Q I h
  refine Compare_chain (thn (ha pins s σ H _ I h) fun v s1 ⟨x, H1, I1, r1, q1⟩ => chain_link (thn (hb pins s1 σ H1 _ I1 q1) fun u s2 ⟨y, H2, I2, r2, q2⟩ =>
    thn (ho pins s2 σ H2 x y v u _ I2 r1 r2 q2) fun d s3 ⟨z, H3, I3, r3, k, e, q3⟩ => ?_)) hm
  subst e
  cases r3
  refine wpAny_truthy_bool ?_
  cases k with
  | false => exact ite_ff ⟨.bl false, H3, I3, rfl, q3⟩
  | true => exact ite_tt (chain_last (thn (hc pins s3 σ H3 _ I3 q3) fun w' s4 ⟨z', H4, I4, r4, q4⟩ => ho' pins s4 σ H4 y z' u w' Q I4 r2 r4 q4))
theorem pt_chain {op op' : CmpOp} {r r' : R2} (ho : OpR X (compareOp op) r) (ho' : OpR X (compareOp op') r') (ha : PE X a ta) (hb : PE X b tb) (hc : PE X c tc)
    (hm : lastMarks [op, op'] [b, c] = false := by with_unfolding_all rfl) : PT X (.Compare a [op, op'] [b, c] pos) (tTest (tChain r r' ta tb tc)) := by
  intro pins s σ H Q I h
  refine isTrue_chain (thn (ha pins s σ H _ I h) fun v s1 ⟨x, H1, I1, r1, q1⟩ => test_link (thn (hb pins s1 σ H1 _ I1 q1) fun u s2 ⟨y, H2, I2, r2, q2⟩ =>
    thn (ho pins s2 σ H2 x y v u _ I2 r1 r2 q2) fun d s3 ⟨z, H3, I3, r3, k, e, q3⟩ => ?_)) hm
  subst e
  cases r3
  refine wpAny_truthy_bool ?_
  cases k with
  | false =>
    obtain ⟨k', e', q'⟩ := q3
    cases e'
    exact ite_ff ⟨H3, I3, q'⟩
  | true =>
    refine ite_tt (test_last (thn (hc pins s3 σ H3 _ I3 q3) fun w' s4 ⟨z', H4, I4, r4, q4⟩ => thn (ho' pins s4 σ H4 y z' u w' _ I4 r2 r4 q4) fun d' s5 ⟨z2, H5, I5, r5, k2, e2, q5⟩ => ?_))
    subst e2
    cases r5
    exact wpAny_truthy_bool ⟨H5, I5, q5⟩

/-! ### truth -/
/-- a value's truth by the abstract heap -/
def TruV (K : PySem.W.Frag) (x : V) (H : Hp) (k : Bool) : Prop :=
  match x with
  | .non => k = false
  | .bl b => k = b
  | .int i => k = (i != 0)
  | .str y => y.length ≤ sizeLine ∧ k = ((y.length : Int) != 0)
  | .byt y => y.size ≤ sizeLine ∧ k = ((y.size : Int) != 0)
  | .ref p => (∃ xs, SqL K H p xs ∧ k = !xs.isEmpty) ∨ (∃ xs, SqT K H p xs ∧ k = !xs.isEmpty) ∨ ∃ kvs, H p = some (.dK kvs) ∧ k = !kvs.isEmpty
  | _ => False
theorem isEmpty_kv {κ : Type} {kvs : List (κ × V)} {vs : List (κ × Value)} (r : KV kvs vs) : (!vs.isEmpty) = !kvs.isEmpty := by
  cases r <;> rfl
theorem isEmpty_of {xs : List V} {its : List Value} (r : Vals xs its) : (!its.toArray.isEmpty) = !xs.isEmpty := by
  cases r <;> simp
theorem line63 : (sizeLine : Nat) < 2 ^ 63 := by rw [sizeLine_eq]; decide
theorem tru_ok : TruR X (fun x H Q => ∃ k, TruV X.K x H k ∧ Q k H) := by
  intro pins s σ H x v Q I rx h
  obtain ⟨k, e, q⟩ := h
  have hl := line63
  have hs : sizeLine = 16777216 := sizeLine_eq
  cases x with
  | non =>
    cases rx
    have e' : k = false := e
    subst e'
    exact truthy_none ⟨H, I, q⟩
  | bl b =>
    cases rx
    have e' : k = b := e
    subst e'
    exact wpAny_truthy_bool ⟨H, I, q⟩
  | int i =>
    obtain ⟨t, rfl⟩ := rx
    have e' : k = (i != 0) := e
    subst e'
    exact PySem.P.truthy_int ⟨H, I, q⟩
  | str y =>
    obtain ⟨t, rfl⟩ := rx
    obtain ⟨hy, e'⟩ : y.length ≤ sizeLine ∧ k = ((y.length : Int) != 0) := e
    subst e'
    exact PySem.P.truthy_str (by omega) ⟨H, I.tok _, q⟩
  | byt y =>
    obtain ⟨t, rfl⟩ := rx
    obtain ⟨hy, e'⟩ : y.size ≤ sizeLine ∧ k = ((y.size : Int) != 0) := e
    subst e'
    exact PySem.W.truthy_bytes (by omega) ⟨H, I.tok _, q⟩
  | ref p =>
    cases rx
    have e' : (∃ xs, SqL X.K H p xs ∧ k = !xs.isEmpty) ∨ (∃ xs, SqT X.K H p xs ∧ k = !xs.isEmpty) ∨ ∃ kvs, H p = some (.dK kvs) ∧ k = !kvs.isEmpty := e
    rcases e' with ⟨xs, hx, e'⟩ | ⟨xs, hx, e'⟩ | ⟨kvs, hx, e'⟩
    · subst e'
      obtain ⟨its, r, pl, hz⟩ := I.list hx
      have hlen := r.length
      exact wpAny_truthy_list pl.isList (by simp only [List.size_toArray]; omega) ⟨H, I.tok _, by rw [isEmpty_of r]; exact q⟩
    · subst e'
      obtain ⟨its, r, pl, hz⟩ := I.tuple hx
      have hlen := r.length
      exact truthy_tuple pl (by simp only [List.size_toArray]; omega) ⟨H, I.tok _, by rw [isEmpty_of r]; exact q⟩
    · subst e'
      obtain ⟨hz, hS, vs, r, m⟩ : kvs.length ≤ sizeLine ∧ (p == sysModules) = false ∧ ∃ vs, KV kvs vs ∧ s.heap.DictOf (mixKind X.prog X.w) p vs := I.hok p _ hx
      have hlen : kvs.length = vs.length := Paired.length r
      exact wpAny_truthy_dict hS m (by omega) ⟨H, I.tok _, by rw [isEmpty_kv r]; exact q⟩
  | _ => exact (show False from e).elim
/-- any expression whose test is its value's truth (a name, a call, a subscript, a field ..: he by fun _ => rfl) -/
theorem pt_truth (ha : PE X a ta) (he : ∀ whole, isTrue a X.env whole = (do let v ← whole; standAt a.pos; holding [v] (truthy v))) :
    PT X a (fun σ H Q => ta σ H fun x H' => ∃ k, TruV X.K x H' k ∧ Q k H') := by
  intro pins s σ H Q I h
  exact isTrue_plain (thn (ha pins s σ H _ I h) fun v s1 ⟨x, H1, I1, r1, q1⟩ => tru_ok pins s1 σ H1 x v Q I1 r1 q1) (he _)

/-! ### strs and bytes -/
theorem pe_byt {x : List UInt8} {k : Nat} : PE X (.Constant (.bytes x) k pos) (fun _ H Q => Q (.byt x.toArray) H) := fun _ _ _ H _ I h => PySem.W.Constant_bytes ⟨.byt x.toArray, H, I.tok _, ⟨_, rfl⟩, h⟩
theorem op_add_str : OpR X (binaryOp .Add) (fun x y H Q => ∃ i j, x = .str i ∧ y = .str j ∧ i.length + j.length ≤ sizeLine ∧ Q (.str (i ++ j)) H) := by
  intro pins s σ H x y v u Q I rx ry h
  obtain ⟨i, j, rfl, rfl, hz, q⟩ := h
  obtain ⟨t, rfl⟩ := rx
  obtain ⟨t', rfl⟩ := ry
  exact add_str (fun t' tk => ⟨.str (i ++ j), H, I.tok _, ⟨_, rfl⟩, q⟩) hz
theorem iop_add_str : OpR X (inplaceOp .Add) (fun x y H Q => ∃ i j, x = .str i ∧ y = .str j ∧ i.length + j.length ≤ sizeLine ∧ Q (.str (i ++ j)) H) := by
  intro pins s σ H x y v u Q I rx ry h
  obtain ⟨i, j, rfl, rfl, hz, q⟩ := h
  obtain ⟨t, rfl⟩ := rx
  obtain ⟨t', rfl⟩ := ry
  exact iadd_str (fun t' tk => ⟨.str (i ++ j), H, I.tok _, ⟨_, rfl⟩, q⟩) hz
theorem op_add_byt : OpR X (binaryOp .Add) (fun x y H Q => ∃ i j, x = .byt i ∧ y = .byt j ∧ i.size + j.size ≤ 16777216 ∧ Q (.byt (i ++ j)) H) := by
  intro pins s σ H x y v u Q I rx ry h
  obtain ⟨i, j, rfl, rfl, hz, q⟩ := h
  obtain ⟨t, rfl⟩ := rx
  obtain ⟨t', rfl⟩ := ry
  exact PySem.W.KBy.add_bytes hz (fun t' tk => ⟨.byt (i ++ j), H, I.tok _, ⟨_, rfl⟩, q⟩)

def PlainIxT (b : Expr) : Prop := ∀ o i, subscripted b false o i = operate [o, i] (getItem o i)
/-- s[i], 0 ≤ i < len -/
theorem pe_item_str (ha : PE X a ta) (hb : PE X b tb) (hs : PlainIxT b) :
    PE X (.Subscript a b pos) (tOp (fun x y H Q => ∃ z i c, x = .str z ∧ y = .int i ∧ 0 ≤ i ∧ i < 2 ^ 63 ∧ i < z.length ∧ z.cps[i.toNat]? = some c ∧ Q (.str ⟨#[c]⟩) H) ta tb) := by
  intro pins s σ H Q I h
  refine Subscript_ (binT ha hb I h fun v u s2 x y H2 I2 rx ry q => ?_)
  obtain ⟨z, i, c, rfl, rfl, h0, h63, h1, hc, q⟩ := q
  obtain ⟨t, rfl⟩ := rx
  obtain ⟨t', rfl⟩ := ry
  have e : seqIndex? i z.length = some i.toNat := PySem.StrLaws.seqIndex_nonneg h0 h1
  exact tail_any (typeIs_str s2 z t) slot_str_getitem.lookup (getItem_str (c := c) (by
    have e1 : decide (i < -(2 ^ 63 : Int)) = false := decide_eq_false (by omega)
    have e2 : decide (i ≥ 2 ^ 63) = false := decide_eq_false (by omega)
    rw [e1, e2] <;> rfl) (by rw [e]; exact hc) ⟨.str ⟨#[c]⟩, H2, I2.tok _, ⟨_, rfl⟩, q⟩) (hs _ _)
/-- b[i], 0 ≤ i < len -/
theorem pe_item_byt (ha : PE X a ta) (hb : PE X b tb) (hs : PlainIxT b) :
    PE X (.Subscript a b pos) (tOp (fun x y H Q => ∃ (z : List UInt8) (i : Int), x = .byt z.toArray ∧ y = .int i ∧ z.length ≤ sizeLine ∧ 0 ≤ i ∧ i < z.length ∧ Q (.int ((z.getD i.toNat 0).toNat : Nat)) H) ta tb) := by
  intro pins s σ H Q I h
  refine Subscript_ (binT ha hb I h fun v u s2 x y H2 I2 rx ry q => ?_)
  obtain ⟨z, i, rfl, rfl, hz, h0, h1, q⟩ := q
  obtain ⟨t, rfl⟩ := rx
  obtain ⟨t', rfl⟩ := ry
  have hl : sizeLine = 16777216 := sizeLine_eq
  exact tail_any (PySem.W.typeIs_bytes s2 z.toArray t) PySem.W.FB.slot_bytes_getitem.lookup (PySem.W.getItem_bytes (by omega) h0 h1 ⟨.int ((z.getD i.toNat 0).toNat : Nat), H2, I2.tok _, ⟨_, rfl⟩, q⟩) (hs _ _)

/-! ### scalar builtins, by CallR -/
theorem vals1 {x : V} {us : List Value} (r : Vals [x] us) : ∃ u, us = [u] ∧ RelV x u := by
  cases r with
  | cons r1 r2 => cases r2; exact ⟨_, rfl, r1⟩
theorem vals2 {x y : V} {us : List Value} (r : Vals [x, y] us) : ∃ u w', us = [u, w'] ∧ RelV x u ∧ RelV y w' := by
  cases r with
  | cons r1 r2 =>
    cases r2 with
    | cons r3 r4 => cases r4; exact ⟨_, _, rfl, r1, r3⟩
theorem call_abs : CallR X (.builtin "abs") (fun xs H Q => ∃ i, xs = [.int i] ∧ Q (.int (if i < 0 then -i else i)) H) := by
  intro pins s σ H xs us Q I r h
  obtain ⟨i, rfl, q⟩ := h
  obtain ⟨u, rfl, t, rfl⟩ := vals1 r
  exact call_abs_int fun u tk => ⟨.int (if i < 0 then -i else i), H, I.tok _, ⟨_, rfl⟩, q⟩
theorem call_max2 (hc : X.calm = true) : CallR X (.builtin "max") (fun xs H Q => ∃ i j, xs = [.int i, .int j] ∧ Q (.int (if j > i then j else i)) H) := by
  intro pins s σ H xs us Q I r h
  obtain ⟨i, j, rfl, q⟩ := h
  obtain ⟨u, w', rfl, ⟨t, rfl⟩, ⟨t', rfl⟩⟩ := vals2 r
  refine max_two_ints (I.ok.hd hc) fun h' tk k => ⟨_, H, I.kept k, ?_, q⟩
  by_cases hj : j > i
  · rw [if_pos hj, if_pos hj]; exact ⟨_, rfl⟩
  · rw [if_neg hj, if_neg hj]; exact ⟨_, rfl⟩
theorem call_min2 (hc : X.calm = true) : CallR X (.builtin "min") (fun xs H Q => ∃ i j, xs = [.int i, .int j] ∧ Q (.int (if j < i then j else i)) H) := by
  intro pins s σ H xs us Q I r h
  obtain ⟨i, j, rfl, q⟩ := h
  obtain ⟨u, w', rfl, ⟨t, rfl⟩, ⟨t', rfl⟩⟩ := vals2 r
  refine min_two_ints (I.ok.hd hc) fun h' tk k => ⟨_, H, I.kept k, ?_, q⟩
  by_cases hj : j < i
  · rw [if_pos hj, if_pos hj]; exact ⟨_, rfl⟩
  · rw [if_neg hj, if_neg hj]; exact ⟨_, rfl⟩
theorem call_int1 : CallR X (.type "int") (fun xs H Q => (∃ i, xs = [.int i] ∧ Q (.int i) H) ∨ ∃ k, xs = [.bl k] ∧ Q (.int (if k then 1 else 0)) H) := by
  intro pins s σ H xs us Q I r h
  rcases h with ⟨i, rfl, q⟩ | ⟨k, rfl, q⟩
  · obtain ⟨u, rfl, t, rfl⟩ := vals1 r
    exact call_int_int ⟨.int i, H, I, ⟨_, rfl⟩, q⟩
  · obtain ⟨u, rfl, r1⟩ := vals1 r
    cases r1
    exact call_int_bool ⟨.int (if k then 1 else 0), H, I.tok _, ⟨_, rfl⟩, q⟩
theorem call_bool1 : CallR X (.type "bool") (fun xs H Q => (∃ i, xs = [.int i] ∧ Q (.bl (i != 0)) H) ∨ ∃ k, xs = [.bl k] ∧ Q (.bl k) H) := by
  intro pins s σ H xs us Q I r h
  rcases h with ⟨i, rfl, q⟩ | ⟨k, rfl, q⟩
  · obtain ⟨u, rfl, t, rfl⟩ := vals1 r
    exact call_bool_int ⟨.bl (i != 0), H, I, rfl, q⟩
  · obtain ⟨u, rfl, r1⟩ := vals1 r
    cases r1
    exact call_bool_bool ⟨.bl k, H, I, rfl, q⟩
theorem call_str_int : CallR X (.type "str") (fun xs H Q => ∃ i, xs = [.int i] ∧ i.natAbs.log2 < 1920 ∧ Q (.str (toString i)) H) := by
  intro pins s σ H xs us Q I r h
  obtain ⟨i, rfl, hz, q⟩ := h
  obtain ⟨u, rfl, t, rfl⟩ := vals1 r
  exact PySem.P.str_of_int hz ⟨.str _, H, I.tok _, ⟨_, rfl⟩, q⟩
theorem call_ord : CallR X (.builtin "ord") (fun xs H Q => ∃ x, xs = [.str x] ∧ x.length = 1 ∧ Q (.int (x.cps.getD 0 0 : Nat)) H) := by
  intro pins s σ H xs us Q I r h
  obtain ⟨x, rfl, hz, q⟩ := h
  obtain ⟨u, rfl, t, rfl⟩ := vals1 r
  exact ord_of_one hz ⟨.int _, H, I.tok _, ⟨_, rfl⟩, q⟩
theorem call_chr : CallR X (.builtin "chr") (fun xs H Q => ∃ i, xs = [.int i] ∧ 0 ≤ i ∧ i ≤ 1114111 ∧ Q (.str ⟨#[i.toNat]⟩) H) := by
  intro pins s σ H xs us Q I r h
  obtain ⟨i, rfl, h0, h1, q⟩ := h
  obtain ⟨u, rfl, t, rfl⟩ := vals1 r
  exact chr_of_range h0 h1 ⟨.str _, H, I.tok _, ⟨_, rfl⟩, q⟩
/-- len of a str, a bytes, a list, a tuple -/
def LenV (K : PySem.W.Frag) (x : V) (H : Hp) (n : Nat) : Prop :=
  match x with
  | .str y => y.length ≤ sizeLine ∧ n = y.length
  | .byt y => y.size ≤ sizeLine ∧ n = y.size
  | .ref p => (∃ xs, SqL K H p xs ∧ n = xs.length) ∨ ∃ xs, SqT K H p xs ∧ n = xs.length
  | _ => False
theorem call_len : CallR X (.builtin "len") (fun xs H Q => ∃ x n, xs = [x] ∧ LenV X.K x H n ∧ Q (.int n) H) := by
  intro pins s σ H xs us Q I r h
  obtain ⟨x, n, rfl, e, q⟩ := h
  obtain ⟨u, rfl, rx⟩ := vals1 r
  have hl := line63
  have hs : sizeLine = 16777216 := sizeLine_eq
  cases x with
  | str y =>
    obtain ⟨t, rfl⟩ := rx
    obtain ⟨hy, e'⟩ : y.length ≤ sizeLine ∧ n = y.length := e
    subst e'
    exact len_str (by omega) ⟨.int _, H, I.tok _, ⟨_, rfl⟩, q⟩
  | byt y =>
    obtain ⟨t, rfl⟩ := rx
    obtain ⟨hy, e'⟩ : y.size ≤ sizeLine ∧ n = y.size := e
    subst e'
    exact PySem.W.len_bytes (by omega) ⟨.int _, H, I.tok _, ⟨_, rfl⟩, q⟩
  | ref p =>
    cases rx
    have e' : (∃ xs, SqL X.K H p xs ∧ n = xs.length) ∨ ∃ xs, SqT X.K H p xs ∧ n = xs.length := e
    rcases e' with ⟨xs, hx, e'⟩ | ⟨xs, hx, e'⟩
    · subst e'
      obtain ⟨its, r', pl, hz⟩ := I.list hx
      have hlen := r'.length
      exact Calls.call_len_list pl.isList (by simp only [List.size_toArray]; omega) ⟨.int xs.length, H, I.tok _, ⟨_, by simp only [List.size_toArray]; rw [hlen]⟩, q⟩
    · subst e'
      obtain ⟨its, r', pl, hz⟩ := I.tuple hx
      have hlen := r'.length
      exact len_tuple pl (by simp only [List.size_toArray]; omega) ⟨.int xs.length, H, I.tok _, ⟨_, by simp only [List.size_toArray]; rw [hlen]⟩, q⟩
  | _ => exact (show False from e).elim
/-- divmod: a new tuple -/
theorem call_divmod : CallR X (.builtin "divmod") (fun xs H Q => ∃ i j, xs = [.int i, .int j] ∧ CDiv i j ∧ ∀ p, H p = none → Q (.ref p) (upd H p (.tup [.int (i / j), .int (i % j)]))) := by
  intro pins s σ H xs us Q I r h
  obtain ⟨i, j, rfl, ⟨h1, h2⟩, q⟩ := h
  obtain ⟨u, w', rfl, ⟨t, rfl⟩, ⟨t', rfl⟩⟩ := vals2 r
  refine divmod_int (by omega) ?_ (.inl (PyProof.noPylong_small (by omega)))
  rw [Int.fdiv_eq_ediv_of_nonneg i (by omega), Int.fmod_eq_emod_of_nonneg i (by omega)]
  have hn : H s.heap.objs.size = none := I.hok.fresh (Nat.le_refl _)
  refine ⟨.ref s.heap.objs.size, _, ?_, rfl, q _ hn⟩
  refine I.laid (fun b o e => Heap.get?_push_of_some _ e) (Nat.le_refl _) ⟨by simp only [List.length_cons, List.length_nil]; rw [sizeLine_eq]; decide, [.int (i / j) s.toks, .int (i % j) (s.toks + 1)], .cons ⟨_, rfl⟩ (.cons ⟨_, rfl⟩ .nil), ?_⟩
  exact ⟨_, Heap.get?_push_size s.heap rfl, rfl, 0, rfl⟩
end
end L2

namespace L2
open PySem PySem.Spec PyProof.Rows

/-! ### an instance, its attributes a map -/
structure ObjM (h : Heap) (x dx C : Addr) (mA : Str → Option Value) : Prop where
  obj : h.get? x = some (PySem.W.instObj C dx)
  ns : h.Ns1 dx mA
  ne : dx ≠ x

theorem lookIn_ns {h : Heap} {dx : Addr} {mA : Str → Option Value} (n : h.Ns1 dx mA) : ∃ od, h.get? dx = some od ∧ ∀ name, PySem.W.lookIn name od = some (mA name) := by
  obtain ⟨o, es, ep, ho, hd, hk, _, hm⟩ := n
  refine ⟨o, ho, fun name => ?_⟩
  have e := hm name
  unfold nsFind findBy at e
  rw [← Array.find?_toList] at e
  unfold PySem.W.lookIn
  rw [hd]
  dsimp only
  split
  · rename_i y q
    rw [q] at e
    exact congrArg some e
  · rename_i q
    rw [q] at e
    have a : es.toList.any (·.refKey) = false := by
      rw [List.any_eq_false]
      intro y hy
      obtain ⟨z, t, hkey⟩ := hk y (Array.mem_toList_iff.mp hy)
      simp [DictEntry.refKey, hkey]
    have a' : ¬ es.toList.any (·.refKey) = true := by rw [a]; exact Bool.false_ne_true
    rw [if_neg a']
    exact congrArg some e

theorem ObjM.look {h : Heap} {x dx C : Addr} {mA : Str → Option Value} (I : ObjM h x dx C mA) : ∃ od, PySem.W.InstAt h x (PySem.W.instObj C dx) C (some od) ∧ ∀ name, PySem.W.lookIn name od = some (mA name) :=
  let ⟨od, ho, hl⟩ := lookIn_ns I.ns
  ⟨od, ⟨I.obj, rfl, rfl, ho⟩, hl⟩

section
variable {prog : Program} {w : World} {A : Around} {E : Value → Shared → Prop} {s : Shared} {K : PySem.W.Frag} {x dx C f : Addr} {mA : Str → Option Value} {name : Str} {v : Value}

theorem get_map {expr : Bool} {Q : Value → Shared → Prop} (X : K.In s.heap) (I : ObjM s.heap x dx C mA) (hg : PySem.W.plainGet K C name = true) (hh : PySem.W.hasDictIn K C = true)
    (ha : PySem.W.findIn K (.ref C) name = some none) (hv : mA name = some v) (hv' : PySem.W.handedIn v = true) (h : Q v { s with toks := s.toks + 1 }) :
    wpAny (model prog w) A (getAttr (.ref x) name expr) Q E s := by
  obtain ⟨od, J, hl⟩ := I.look
  exact PySem.W.get_value X J (PySem.W.plainGet_of hg).1 (PySem.W.findObj_own hh ha rfl (by rw [hl, hv])) hv' h

theorem get_const {expr : Bool} {a : Value} {Q : Value → Shared → Prop} (X : K.In s.heap) (I : ObjM s.heap x dx C mA) (hg : PySem.W.plainGet K C name = true) (hh : PySem.W.hasDictIn K C = true)
    (ha : PySem.W.findIn K (.ref C) name = some (some a)) (hn : PySem.W.specialIn K a "__get__" = some none) (hc : PySem.W.copiedNames.contains name = false) (hv : mA name = none) (hv' : PySem.W.handedIn a = true)
    (h : Q a { s with toks := s.toks + 1 }) : wpAny (model prog w) A (getAttr (.ref x) name expr) Q E s := by
  obtain ⟨od, J, hl⟩ := I.look
  exact PySem.W.get_value X J (PySem.W.plainGet_of hg).1 (PySem.W.findObj_cls hh ha hn hv' hc (by rw [hl, hv])) hv' h

theorem get_meth {pl : Sem Bool} {Q : Value × List Value → Shared → Prop} (X : K.In s.heap) (I : ObjM s.heap x dx C mA) (hg : PySem.W.plainGet K C name = true)
    (hf : PySem.W.findIn K (.ref C) name = some (some (.ref f))) (ht : PySem.W.isFn K (.ref f) = true) (hv : mA name = none) (h : Q (.ref f, [.ref x]) s) :
    wpAny (model prog w) A (getMethod (.ref x) name pl) Q E s := by
  obtain ⟨od, J, hl⟩ := I.look
  exact PySem.W.method_fn X J (PySem.W.plainGet_of hg).1 (PySem.W.plainGet_of hg).2 hf (beq_iff_eq.mp ht) (by show (PySem.W.lookIn name od).map (·.isSome) = some false; rw [hl, hv]; rfl) h

theorem set_map {ns : List Str} {Q : Unit → Shared → Prop} (X : K.In s.heap) (I : ObjM s.heap x dx C mA)
    (hs : PySem.W.findIn K (.ref C) "__setattr__" = some (some (.builtin "object.__setattr__"))) (hp : PySem.W.plainOver K C = true) (ht : PySem.W.takerIn K C name = some none) (hh : PySem.W.hasDictIn K C = true)
    (hw : PySem.Within mA ns) (hsz : ns.length ≤ sizeLine)
    (h : ∀ h', ObjM h' x dx C (fun y => if y = name then some v else mA y) → Heap.SameBut dx s.heap h' → Q () { s with heap := h', toks := s.toks + 2 }) :
    wpAny (model prog w) A (setAttr (.ref x) name v) Q E s := by
  obtain ⟨od, J, hl⟩ := I.look
  refine PySem.W.set_plain X J hs (PySem.W.osa_open (s := { s with toks := s.toks + 1 }) (r := none) X J hp ht fun b => ?_)
  obtain ⟨cd, hc, hd'⟩ := PySem.W.any_some hh
  have hx : s.heap.get? x = some ⟨.ref C, some dx, .plain, #[]⟩ := I.obj
  refine wpAny_bind (wpAny_pure (wpAny_bind (wpAny_bind (wpAny_loadPart hx (wpAny_bind (PySem.W.Looks.here (s := { s with toks := s.toks + 1 }) (PySem.W.looks_clsIn X hc) ?_))))))
  rw [hd']
  refine wpAny_pure (a := some dx) (wpAny_bind (wpAny_pure (wpAny_bind ?_)))
  refine wpAny_nsSet1 (s := { s with toks := s.toks + 1 }) I.ns fun h' hn2 hs2 => ?_
  obtain ⟨oD, esD, epD, hoD, hdD, hcD⟩ := hn2.count (PySem.Within.cons name v hw)
  refine wpAny_bind (wpAny_lookBehind hoD (by rw [hdD]; exact pastItsLine_dict (Nat.le_trans hcD (by rw [List.length_cons]; omega))) ?_)
  exact wpAny_pure (h _ ⟨(hs2.2 _ (Ne.symm I.ne)).trans I.obj, hn2, I.ne⟩ hs2)

/-- C(..): the dict at the heap's end, the instance behind it; then its __init__ -/
theorem make_map {R : Result → Shared → Prop} {vs : List Value} {kw : List (Str × Value)} (X : K.In s.heap) (hm : PySem.W.makesIn K C = true)
    (hi : PySem.W.findIn K (.ref C) "__init__" = some (some (.ref f))) (hf : PySem.W.typeIn K (.ref f) = some (.type "function"))
    (h : codeAny (model prog w) (A.under (.builtin "type.__call__" ⟨.ref C :: vs, kw⟩)) (.call (.ref f) ⟨.ref (s.heap.objs.size + 1) :: vs, kw⟩) (PySem.W.InitBack (s.heap.objs.size + 1) R)
      { s with heap := (s.heap.push PySem.W.emptyDict).push (PySem.W.instObj C s.heap.objs.size) }) :
    codeAny (model prog w) A (.call (.ref C) ⟨vs, kw⟩) R s := by
  obtain ⟨hh, g, d, t, os⟩ := s
  exact PySem.W.make_core (PySem.W.makes_of X hm) (PySem.W.looks_findIn X hi) (fun self => PySem.W.bind_fn X self hf) (.inl rfl) h
/-- C() where there is no __init__ but object's -/
theorem make_map0 {R : Result → Shared → Prop} (X : K.In s.heap) (hm : PySem.W.makesIn K C = true)
    (hi : PySem.W.findIn K (.ref C) "__init__" = some (some (.builtin "object.__init__")))
    (hb : ∀ self, PySem.W.Looks (model prog w) s.heap (bindSpecial (.builtin "object.__init__") self) (.builtin "object.__init__", [self]))
    (h : codeAny (model prog w) (A.under (.builtin "type.__call__" ⟨[.ref C], []⟩)) (.call (.builtin "object.__init__") ⟨[.ref (s.heap.objs.size + 1)], []⟩) (PySem.W.InitBack (s.heap.objs.size + 1) R)
      { s with heap := (s.heap.push PySem.W.emptyDict).push (PySem.W.instObj C s.heap.objs.size) }) :
    codeAny (model prog w) A (.call (.ref C) ⟨[], []⟩) R s := by
  obtain ⟨hh, g, d, t, os⟩ := s
  exact PySem.W.make_core (PySem.W.makes_of X hm) (PySem.W.looks_findIn X hi) hb (.inr ⟨rfl, rfl⟩) h
end

/-! ### the attributes as a list of pairs -/
def putF (f : Str) (v : V) : List (Str × V) → List (Str × V)
  | [] => [(f, v)]
  | (g, x) :: r => if g = f then (g, v) :: r else (g, x) :: putF f v r
theorem lookup_putF (f g : Str) (v : V) : ∀ fs : List (Str × V), (putF f v fs).lookup g = if g = f then some v else fs.lookup g
  | [] => by
    show List.lookup g [(f, v)] = _
    by_cases h : g = f
    · have hb : (g == f) = true := beq_iff_eq.mpr h
      simp only [List.lookup, hb, if_pos h]
    · have hb : (g == f) = false := beq_eq_false_iff_ne.mpr h
      simp only [List.lookup, hb, if_neg h]
  | (k, x) :: r => by
    have ih := lookup_putF f g v r
    rw [show putF f v ((k, x) :: r) = (if k = f then (k, v) :: r else (k, x) :: putF f v r) from rfl]
    by_cases hk : k = f
    · rw [if_pos hk]
      by_cases h : g = k
      · have hb : (g == k) = true := beq_iff_eq.mpr h
        simp only [List.lookup, hb, if_pos (h.trans hk)]
      · have hb : (g == k) = false := beq_eq_false_iff_ne.mpr h
        simp only [List.lookup, hb, if_neg (fun e : g = f => h (e.trans hk.symm))]
    · rw [if_neg hk]
      by_cases h : g = k
      · have hb : (g == k) = true := beq_iff_eq.mpr h
        simp only [List.lookup, hb, if_neg (fun e : g = f => hk (h.symm.trans e))]
      · have hb : (g == k) = false := beq_eq_false_iff_ne.mpr h
        simp only [List.lookup, hb]
        exact ih
theorem keys_putF (f : Str) (v : V) : ∀ fs : List (Str × V), f ∈ (putF f v fs).map (·.1) ∧ ∀ g, g ∈ fs.map (·.1) → g ∈ (putF f v fs).map (·.1)
  | [] => ⟨by simp [putF], fun g h => by simp at h⟩
  | (k, x) :: r => by
    obtain ⟨i1, i2⟩ := keys_putF f v r
    rw [show putF f v ((k, x) :: r) = (if k = f then (k, v) :: r else (k, x) :: putF f v r) from rfl]
    by_cases hk : k = f
    · rw [if_pos hk]
      subst hk
      exact ⟨by simp, fun g h => by simpa using h⟩
    · rw [if_neg hk]
      refine ⟨?_, fun g h => ?_⟩
      · rw [List.map_cons]
        exact List.mem_cons_of_mem _ i1
      · rw [List.map_cons] at h ⊢
        rcases List.mem_cons.mp h with e | e
        · exact List.mem_cons.mpr (.inl e)
        · exact List.mem_cons_of_mem _ (i2 g e)
theorem length_putF (f : Str) (v : V) : ∀ fs : List (Str × V), (putF f v fs).length ≤ fs.length + 1
  | [] => by simp [putF]
  | (k, x) :: r => by
    have ih := length_putF f v r
    rw [show putF f v ((k, x) :: r) = (if k = f then (k, v) :: r else (k, x) :: putF f v r) from rfl]
    by_cases hk : k = f
    · rw [if_pos hk, List.length_cons, List.length_cons]; omega
    · rw [if_neg hk, List.length_cons, List.length_cons]; omega

theorem RelO.some_of {v : V} {o : Option Value} (r : RelO (some v) o) : ∃ u, o = some u ∧ RelV v u := by
  cases o with
  | none => exact (show False from r).elim
  | some u => exact ⟨u, rfl, r⟩
theorem RelO.none_of {o : Option Value} (r : RelO none o) : o = none := by
  cases o with
  | none => rfl
  | some u => exact (show False from r).elim
theorem handed_of {v : V} {u : Value} (r : RelV v u) : PySem.W.handedIn u = true := by
  cases v with
  | non => cases (show u = Value.none from r); rfl
  | bl b => cases (show u = Value.bool b from r); rfl
  | int i => obtain ⟨t, e⟩ := (show ∃ t, u = Value.int i t from r); cases e; rfl
  | str x => obtain ⟨t, e⟩ := (show ∃ t, u = Value.str x t from r); cases e; rfl
  | byt b => obtain ⟨t, e⟩ := (show ∃ t, u = Value.bytes b t from r); cases e; rfl
  | flt b => obtain ⟨t, e⟩ := (show ∃ t, u = Value.float b t from r); cases e; rfl
  | ref a => cases (show u = Value.ref a from r); rfl
  | ty n => cases (show u = Value.type n from r); rfl

section
variable {P : Program} {w : World} {H H' : Hp} {h h' : Heap} {a C dx : Addr} {fs fs' : List (Str × V)}
theorem ins_get (hok : HOk P w H h) (e : H a = some (.ins C dx fs)) : ∃ mA, ObjM h a dx C mA ∧ (∀ f, RelO (fs.lookup f) (mA f)) ∧ PySem.Within mA (fs.map (·.1)) ∧ fs.length ≤ 1000 ∧ H dx = some (.own a) := by
  obtain ⟨d, z, ne, ob, mA, n, r, q⟩ := (show ObjOk P w H h a (.ins C dx fs) from hok a _ e)
  exact ⟨mA, ⟨ob, n, ne⟩, r, q, z, d⟩
end

/-! ### what of the text a class must have -/
structure Cls (K : PySem.W.Frag) (C : Addr) : Prop where
  pg : PySem.W.plainGet K C Str.empty = true
  hd : PySem.W.hasDictIn K C = true
  po : PySem.W.plainOver K C = true
  sa : PySem.W.findIn K (.ref C) "__setattr__" = some (some (.builtin "object.__setattr__"))
theorem Cls.get {K : PySem.W.Frag} {C : Addr} (c : Cls K C) (f : Str) : PySem.W.plainGet K C f = true := c.pg
/-- no class of it has the name -/
def NoAttr (K : PySem.W.Frag) (C : Addr) (f : Str) : Prop := PySem.W.findIn K (.ref C) f = some none
theorem NoAttr.taker {K : PySem.W.Frag} {C : Addr} {f : Str} (n : NoAttr K C f) : PySem.W.takerIn K C f = some none := by
  unfold PySem.W.takerIn
  rw [show PySem.W.findIn K (.ref C) f = some none from n]
  rfl
/-- a constant of the class -/
structure Con (K : PySem.W.Frag) (C : Addr) (f : Str) (v : V) (u : Value) : Prop where
  at_ : PySem.W.findIn K (.ref C) f = some (some u)
  rel : RelV v u
  get : PySem.W.specialIn K u "__get__" = some none
  cp : PySem.W.copiedNames.contains f = false
/-- a method: a plain def of the class or of one above it -/
structure Meth (K : PySem.W.Frag) (C : Addr) (m : Str) (f : Addr) : Prop where
  at_ : PySem.W.findIn K (.ref C) m = some (some (.ref f))
  fn : PySem.W.isFn K (.ref f) = true
  kp : PySem.W.keepIn K (.ref f) = true

section
variable {X : Cx} {pins : List (Addr × Obj)} {σ : St} {H : Hp} {s : Shared} {a C dx : Addr} {fs : List (Str × V)} {f : Str} {v : V} {A : Around} {E : Value → Shared → Prop}

theorem getattr_ok {b : Bool} {Q : Value → Shared → Prop} (I : Inv X pins σ H s) (e : H a = some (.ins C dx fs)) (c : Cls X.K C) (n : NoAttr X.K C f) (l : fs.lookup f = some v)
    (h : ∀ u s', Inv X pins σ H s' → RelV v u → Q u s') : wpAny (model X.prog X.w) A (getAttr (.ref a) f b) Q E s := by
  obtain ⟨mA, O, r, _, _, _⟩ := ins_get I.hok e
  obtain ⟨u, hu, ru⟩ := RelO.some_of (v := v) (o := mA f) (by rw [← l]; exact r f)
  exact get_map I.kIn O (c.get f) c.hd n hu (handed_of ru) (h u _ (I.tok _) ru)

theorem getcon_ok {b : Bool} {u : Value} {Q : Value → Shared → Prop} (I : Inv X pins σ H s) (e : H a = some (.ins C dx fs)) (c : Cls X.K C) (k : Con X.K C f v u) (l : fs.lookup f = none)
    (h : ∀ s', Inv X pins σ H s' → Q u s') : wpAny (model X.prog X.w) A (getAttr (.ref a) f b) Q E s := by
  obtain ⟨mA, O, r, _, _, _⟩ := ins_get I.hok e
  have hn : mA f = none := RelO.none_of (by rw [← l]; exact r f)
  exact get_const I.kIn O (c.get f) c.hd k.at_ k.get k.cp hn (handed_of k.rel) (h _ (I.tok _))

theorem getmeth_ok {m : Str} {g : Addr} {pl : Sem Bool} {Q : Value × List Value → Shared → Prop} (I : Inv X pins σ H s) (e : H a = some (.ins C dx fs)) (c : Cls X.K C) (k : Meth X.K C m g) (l : fs.lookup m = none)
    (h : Q (.ref g, [.ref a]) s) : wpAny (model X.prog X.w) A (getMethod (.ref a) m pl) Q E s := by
  obtain ⟨mA, O, r, _, _, _⟩ := ins_get I.hok e
  have hn : mA m = none := RelO.none_of (by rw [← l]; exact r m)
  exact get_meth I.kIn O (c.get m) k.at_ k.fn hn h

theorem setattr_ok {y : V} {u : Value} {Q : Unit → Shared → Prop} (I : Inv X pins σ H s) (e : H a = some (.ins C dx fs)) (c : Cls X.K C) (n : NoAttr X.K C f) (hl : fs.length < 1000) (ry : RelV y u)
    (h : ∀ s', Inv X pins σ (upd H a (.ins C dx (putF f y fs))) s' → Q () s') : wpAny (model X.prog X.w) A (setAttr (.ref a) f u) Q E s := by
  obtain ⟨mA, O, r, wi, _, ho⟩ := ins_get I.hok e
  have hz : (fs.map (·.1)).length ≤ sizeLine := by rw [List.length_map, sizeLine_eq]; omega
  refine set_map I.kIn O c.sa c.po n.taker c.hd wi hz fun h' O' sb => h _ ?_
  have hd : ∃ o, h'.get? dx = some o := let ⟨o, _, _, e', _⟩ := O'.ns; ⟨o, e'⟩
  refine I.write (x := a) (e := dx) (by rw [e]; exact True.intro) (.inr ho) (fun b q hb z => (sb.2 b hb).trans z) hd ?_
  refine ⟨by rw [upd_ne O.ne]; exact ho, ?_, O.ne, O'.obj, _, O'.ns, fun g => ?_, fun g hg => ?_⟩
  · have := length_putF f y fs; omega
  · show RelO ((putF f y fs).lookup g) (if g = f then some u else mA g)
    rw [lookup_putF]
    by_cases q : g = f
    · rw [if_pos q, if_pos q]; exact ry
    · rw [if_neg q, if_neg q]; exact r g
  · by_cases q : g = f
    · rw [q]; exact (keys_putF f y fs).1
    · refine (keys_putF f y fs).2 g (wi g fun z => hg ?_)
      show (if g = f then some u else mA g) = none
      rw [if_neg q]; exact z

/-- a new instance, tracked, without attributes -/
theorem Inv.made (I : Inv X pins σ H s) : Inv X pins σ (upd (upd H s.heap.objs.size (.own (s.heap.objs.size + 1))) (s.heap.objs.size + 1) (.ins C s.heap.objs.size []))
    { s with heap := (s.heap.push PySem.W.emptyDict).push (PySem.W.instObj C s.heap.objs.size) } := by
  have e1 : (s.heap.push PySem.W.emptyDict).get? s.heap.objs.size = some PySem.W.emptyDict := Heap.get?_push_size s.heap rfl
  have e2 : ((s.heap.push PySem.W.emptyDict).push (PySem.W.instObj C s.heap.objs.size)).get? (s.heap.objs.size + 1) = some (PySem.W.instObj C s.heap.objs.size) := by
    have := Heap.get?_push_size (s.heap.push PySem.W.emptyDict) (o := PySem.W.instObj C s.heap.objs.size) rfl
    rwa [Heap.size_push] at this
  have e3 : (s.heap.push PySem.W.emptyDict).Ns s.heap.objs.size (fun _ => none) := ⟨PySem.W.emptyDict, #[], _, e1, rfl, (fun e he => absurd he (by simp)), fun _ => rfl⟩
  have I1 := I.laid (a := s.heap.objs.size) (o := .own (s.heap.objs.size + 1)) (h' := s.heap.push PySem.W.emptyDict) (t' := s.toks) (fun b u q => Heap.get?_push_of_some _ q) (Nat.le_refl _) ⟨_, e1⟩
  refine I1.laid (a := s.heap.objs.size + 1) (o := .ins C s.heap.objs.size []) (t' := s.toks) (fun b u q => Heap.get?_push_of_some _ q) (Nat.le_of_eq (Heap.size_push _ _)) ?_
  have ne : s.heap.objs.size ≠ s.heap.objs.size + 1 := Nat.ne_of_lt (Nat.lt_succ_self _)
  refine ⟨by rw [upd_ne ne, upd_same], Nat.zero_le _, ne, e2, fun _ => none, (Heap.Ns1.of_empty e3).at fun o q => Heap.get?_push_of_some _ q, fun _ => True.intro, fun y hy => absurd rfl hy⟩

/-- e.f where nothing but the object is asked: through attributeBase (super) and the last hold -/
theorem attr_of {prog : Program} {w : World} {env : Env} {e : Expr} {f : Str} {pos : Pos} {s : Shared} {Q : Value → Shared → Prop} (hb : attributeBase e f env (eval e env) = eval e env)
    (h : wpAny (model prog w) A (eval e env) (fun o s₁ => wpAny (model prog w) A (getAttr o f true) Q E s₁) E s) : wpAny (model prog w) A (eval (.Attribute e f pos) env) Q E s :=
  Attribute_any_ h (by rw [arm_eval_Attribute, hb])
end

/-! ### readings and rules -/
/-- e.f, an attribute of the instance -/
def tFld (K : PySem.W.Frag) (ta : TE) (f : Str) : TE := fun σ H Q => ta σ H fun x H1 => ∃ a C dx fs v, x = .ref a ∧ H1 a = some (.ins C dx fs) ∧ Cls K C ∧ NoAttr K C f ∧ fs.lookup f = some v ∧ Q v H1
/-- e.f, a constant of the class -/
def tCon (K : PySem.W.Frag) (ta : TE) (f : Str) : TE := fun σ H Q => ta σ H fun x H1 => ∃ a C dx fs v u, x = .ref a ∧ H1 a = some (.ins C dx fs) ∧ Cls K C ∧ Con K C f v u ∧ fs.lookup f = none ∧ Q v H1
/-- e.f = value -/
def sFld (K : PySem.W.Frag) (ta tv : TE) (f : Str) : TS := fun D σ H => tv σ H fun y H1 => ta σ H1 fun x H2 => ∃ a C dx fs, x = .ref a ∧ H2 a = some (.ins C dx fs) ∧ Cls K C ∧ NoAttr K C f ∧ fs.length < 1000 ∧
  D.nx σ (upd H2 a (.ins C dx (putF f y fs)))
/-- an augmented operator on two values -/
def InOp (X : Cx) (op : Operator) (rd : V → V → Hp → VK → Prop) : Prop :=
  ∀ (pins : List (Addr × Obj)) (s : Shared) (σ : St) (H : Hp) (x y : V) (u v : Value) (Q : VK), Inv X pins σ H s → RelV x u → RelV y v → rd x y H Q → wpAny (model X.prog X.w) X.A (inplaceOp op u v) (EP X pins σ Q) X.xe s
/-- e.f op= value -/
def sFldAug (K : PySem.W.Frag) (ta tv : TE) (rd : V → V → Hp → VK → Prop) (f : Str) : TS := fun D σ H => ta σ H fun x H1 => ∃ a C dx fs v, x = .ref a ∧ H1 a = some (.ins C dx fs) ∧ Cls K C ∧ NoAttr K C f ∧ fs.lookup f = some v ∧
  tv σ H1 fun y H2 => rd v y H2 fun z H3 => ∃ dx' fs', H3 a = some (.ins C dx' fs') ∧ fs'.length < 1000 ∧ D.nx σ (upd H3 a (.ins C dx' (putF f z fs')))

section
variable {X : Cx} {o e value : Expr} {f : Str} {pos pos' tpos : Pos} {ta tv : TE}
theorem pe_fld (he : PE X e ta) (hb : attributeBase e f X.env (eval e X.env) = eval e X.env) : PE X (.Attribute e f pos) (tFld X.K ta f) := by
  intro pins s σ H Q I h
  refine attr_of hb (thn (he pins s σ H _ I h) fun u s1 ⟨x, H1, I1, rx, a, C, dx, fs, v, ex, ea, c, n, l, q⟩ => ?_)
  subst ex
  obtain rfl : u = Value.ref a := rx
  exact getattr_ok I1 ea c n l fun u' s2 I2 ru => ⟨v, H1, I2, ru, q⟩
theorem pe_con (he : PE X e ta) (hb : attributeBase e f X.env (eval e X.env) = eval e X.env) : PE X (.Attribute e f pos) (tCon X.K ta f) := by
  intro pins s σ H Q I h
  refine attr_of hb (thn (he pins s σ H _ I h) fun u s1 ⟨x, H1, I1, rx, a, C, dx, fs, v, u0, ex, ea, c, k, l, q⟩ => ?_)
  subst ex
  obtain rfl : u = Value.ref a := rx
  exact getcon_ok I1 ea c k l fun s2 I2 => ⟨v, H1, I2, k.rel, q⟩
theorem ps_fld (ha : PE X o ta) (hv : PE X value tv) (hs : swapsWith value (some (.Attribute o f pos')) pos.line X.env = pure false) : PS X (.Assign [.Attribute o f pos'] value pos) (sFld X.K ta tv f) := by
  intro pins s σ H D I h
  refine plainObj_wpAny_Assign_Attribute (thn (hv pins s σ H _ I h) fun u s1 ⟨y, H1, I1, ry, q⟩ => thn (ha pins s1 σ H1 _ I1 q) fun ov s2 ⟨x, H2, I2, rx, a, C, dx, fs, ex, ea, c, n, l, q2⟩ => ?_) hs
  subst ex
  obtain rfl : ov = Value.ref a := rx
  exact setattr_ok I2 ea c n l ry fun s3 I3 => ⟨σ, _, I3, q2⟩
theorem ps_fldaug {op : Operator} {rd : V → V → Hp → VK → Prop} (ha : PE X o ta) (hv : PE X value tv) (hop : InOp X op rd) : PS X (.AugAssign (.Attribute o f tpos) op value pos) (sFldAug X.K ta tv rd f) := by
  intro pins s σ H D I h
  refine wpAny_AugAssign_AttributeAny (thn (ha pins s σ H _ I h) fun ov s1 ⟨x, H1, I1, rx, a, C, dx, fs, v, ex, ea, c, n, l, q⟩ => ?_)
  subst ex
  obtain rfl : ov = Value.ref a := rx
  refine getattr_ok I1 ea c n l fun u s2 I2 ru => thn (hv pins s2 σ H1 _ I2 q) fun w3 s3 ⟨y, H2, I3, ry, q3⟩ => thn (hop pins s3 σ H2 v y u w3 _ I3 ru ry q3) fun w4 s4 ⟨z, H3, I4, rz, dx', fs', ea', l', q4⟩ => ?_
  exact setattr_ok I4 ea' c n l' rz fun s5 I5 => ⟨σ, _, I5, q4⟩
def rAdd : V → V → Hp → VK → Prop := fun x y H Q => ∃ i j, x = .int i ∧ y = .int j ∧ Q (.int (i + j)) H
def rSub : V → V → Hp → VK → Prop := fun x y H Q => ∃ i j, x = .int i ∧ y = .int j ∧ Q (.int (i - j)) H
theorem in_add : InOp X .Add rAdd := by
  rintro pins s σ H x y u v Q I rx ry ⟨i, j, rfl, rfl, q⟩
  obtain ⟨t, rfl⟩ := (show ∃ t, u = Value.int i t from rx)
  obtain ⟨t', rfl⟩ := (show ∃ t', v = Value.int j t' from ry)
  exact PyProof.Rows.iadd_int ⟨.int (i + j), H, I.tok _, ⟨_, rfl⟩, q⟩
theorem in_sub : InOp X .Sub rSub := by
  rintro pins s σ H x y u v Q I rx ry ⟨i, j, rfl, rfl, q⟩
  obtain ⟨t, rfl⟩ := (show ∃ t, u = Value.int i t from rx)
  obtain ⟨t', rfl⟩ := (show ∃ t', v = Value.int j t' from ry)
  exact PyProof.Rows.isub_int ⟨.int (i - j), H, I.tok _, ⟨_, rfl⟩, q⟩

/-- what is between an instance and its method: the tree of a method call -/
theorem methcall_of {pl : Sem Bool} {m : Str} {apos : Pos} {args : List Expr} {pins : List (Addr × Obj)} {s : Shared} {σ : St} {H : Hp} {Q : Value → Shared → Prop} {te : TE} (he : PE X e te) (I : Inv X pins σ H s)
    (h : te σ H fun x H1 => ∃ a C dx fs g, x = .ref a ∧ H1 a = some (.ins C dx fs) ∧ Cls X.K C ∧ Meth X.K C m g ∧ fs.lookup m = none ∧
      ∀ s1, Inv X pins σ H1 s1 → wpAny (model X.prog X.w) X.A (callWith pos (.ref g) [.ref a] (backTo pos (starEach args X.env)) (backToKw pos (keywordEach [] X.env))) Q X.xe s1)
    (ht : eval (.Call (.Attribute e m apos) args [] pos) X.env = (do
      let ov ← eval e X.env
      standAt apos.atName
      let (f, first) ← holding [ov] (getMethod ov m pl)
      callWith pos f first (backTo pos (starEach args X.env)) (backToKw pos (keywordEach [] X.env)))) :
    wpAny (model X.prog X.w) X.A (eval (.Call (.Attribute e m apos) args [] pos) X.env) Q X.xe s := by
  refine PySem.W.methodCall_KW (pl := pl) (thn (he pins s σ H _ I h) fun u s1 ⟨x, H1, I1, rx, a, C, dx, fs, g, ex, ea, c, k, l, q⟩ => ?_) ht
  subst ex
  obtain rfl : u = Value.ref a := rx
  exact getmeth_ok I1 ea c k l (q s1 I1)
end

/-! ### isinstance -/
section
variable {X : Cx} {pins : List (Addr × Obj)} {σ : St} {H : Hp} {s : Shared} {A : Around} {E : Value → Shared → Prop} {Q : Value → Shared → Prop} {c : Value} {b : Bool}
/-- the type of a value, as the fragment's deciders take it; for an instance its class -/
inductive TyOf (K : PySem.W.Frag) (H : Hp) : V → Value → Prop where
  | non : TyOf K H .non (.type "NoneType")
  | bl (x : Bool) : TyOf K H (.bl x) (.type "bool")
  | int (i : Int) : TyOf K H (.int i) (.type "int")
  | str (x : Str) : TyOf K H (.str x) (.type "str")
  | flt (x : UInt64) : TyOf K H (.flt x) (.type "float")
  | lst {a : Addr} {xs : List V} (e : H a = some (.lst xs)) : TyOf K H (.ref a) (.type "list")
  | frz {a : Addr} {o : Obj} {xs : List V} (e : H a = some (.frz o (.lst xs))) : TyOf K H (.ref a) (.type "list")
  | tup {a : Addr} {xs : List V} (e : H a = some (.tup xs)) : TyOf K H (.ref a) (.type "tuple")
  | dK {a : Addr} {kvs : List (Key × V)} (e : H a = some (.dK kvs)) : TyOf K H (.ref a) (.type "dict")
  | dT {a : Addr} {kvs : List (List Key × V)} (e : H a = some (.dT kvs)) : TyOf K H (.ref a) (.type "dict")
  | ins {a C dx : Addr} {fs : List (Str × V)} (e : H a = some (.ins C dx fs)) (cl : Cls K C) (ha : PySem.W.findIn K (.ref C) "__class__" = some (some (.builtin "object.__class__")))
      (hn : PySem.W.specialIn K (.builtin "object.__class__") "__get__" = some (some (.builtin "getset_descriptor.__get__"))) (htk : PySem.W.takesIn K (.builtin "object.__class__") = some true)
      (hm : PySem.W.mroIn K C (.type "object") = some true) : TyOf K H (.ref a) (.ref C)
/-- isinstance(x, c) for one class c, a built-in or an own one: kitOne's answer -/
theorem isinst_ok {x : V} {u t : Value} (I : Inv X pins σ H s) (rx : RelV x u) (ty : TyOf X.K H x t) (e : PySem.W.kitOne X.K t c = some b) (h : ∀ tk, Q (.bool b) { s with toks := tk }) :
    wpAny (model X.prog X.w) A (call (.builtin "isinstance") [u, c]) Q E s := by
  cases ty with
  | non => cases (show u = Value.none from rx); exact PySem.W.kia_one PySem.W.kitx_none I.kIn True.intro e (fun z => nomatch z) h
  | bl y => cases (show u = Value.bool y from rx); exact PySem.W.kia_one PySem.W.kitx_bool I.kIn True.intro e (fun z => nomatch z) h
  | int i => obtain ⟨t, q⟩ := (show ∃ t, u = Value.int i t from rx); cases q; exact PySem.W.kia_one PySem.W.kitx_int I.kIn True.intro e (fun z => nomatch z) h
  | str y => obtain ⟨t, q⟩ := (show ∃ t, u = Value.str y t from rx); cases q; exact PySem.W.kia_one PySem.W.kitx_str I.kIn True.intro e (fun z => nomatch z) h
  | flt y => obtain ⟨t, q⟩ := (show ∃ t, u = Value.float y t from rx); cases q; exact PySem.W.kia_one PySem.W.kitx_float I.kIn True.intro e (fun z => nomatch z) h
  | @lst a xs ea =>
    cases (show u = Value.ref a from rx)
    obtain ⟨_, _, n, _, h1⟩ := (show ObjOk X.prog X.w H s.heap a (.lst xs) from I.hok a _ ea)
    exact PySem.W.kia_one PySem.W.kitx_list I.kIn ⟨_, h1, rfl⟩ e (fun z => nomatch z) h
  | @frz a ob xs ea =>
    cases (show u = Value.ref a from rx)
    obtain ⟨_, _, _, n, _, h1⟩ := (show ObjOk X.prog X.w H s.heap a (.frz ob (.lst xs)) from I.hok a _ ea)
    exact PySem.W.kia_one PySem.W.kitx_list I.kIn ⟨_, h1, rfl⟩ e (fun z => nomatch z) h
  | @tup a xs ea =>
    cases (show u = Value.ref a from rx)
    obtain ⟨_, _, _, p⟩ := (show ObjOk X.prog X.w H s.heap a (.tup xs) from I.hok a _ ea)
    obtain ⟨o, h1, h2, _⟩ := p
    exact PySem.W.kia_one PySem.W.kitx_tuple I.kIn ⟨o, h1, h2⟩ e (fun z => nomatch z) h
  | @dK a kvs ea =>
    cases (show u = Value.ref a from rx)
    obtain ⟨_, _, vs, _, p⟩ := (show ObjOk X.prog X.w H s.heap a (.dK kvs) from I.hok a _ ea)
    obtain ⟨o, es, ep, h1, h2, _⟩ := p
    exact PySem.W.kia_one PySem.W.kitx_dict I.kIn ⟨o, h1, h2.1⟩ e (fun z => nomatch z) h
  | @dT a kvs ea =>
    cases (show u = Value.ref a from rx)
    obtain ⟨_, _, xs, _, o, es, ep, h1, h2, _⟩ := (show ObjOk X.prog X.w H s.heap a (.dT kvs) from I.hok a _ ea)
    exact PySem.W.kia_one PySem.W.kitx_dict I.kIn ⟨o, h1, h2.1⟩ e (fun z => nomatch z) h
  | @ins a C dx fs ea cl ha hn htk hm =>
    cases (show u = Value.ref a from rx)
    obtain ⟨mA, O, _⟩ := ins_get I.hok ea
    obtain ⟨od, J, _⟩ := O.look
    exact PySem.W.kia_one (PySem.W.kitx_own (cl.get _) cl.hd ha hn htk hm) I.kIn J e (fun z => nomatch z) h
end
end L2

namespace L2
open PySem PySem.Spec PyProof.Rows

/-! ### room -/
structure Room (k : Nat) (A : Around) : Prop where
  hd : A.handled = none
  dp : A.depth + 3 * k + 5 < recursionLimit
  un : A.units + 16 * k + 200 < cLine
theorem Room.mono {j k : Nat} {A : Around} (r : Room k A) (h : j ≤ k) : Room j A := ⟨r.hd, by have := r.dp; omega, by have := r.un; omega⟩
theorem Room.deeper {k : Nat} {A : Around} (r : Room (k + 1) A) (env : Env) : Room k (A.deeper env) :=
  ⟨r.hd, by have := r.dp; show A.depth + 1 + 3 * k + 5 < _; omega, by have := r.un; show A.units + 3 + 16 * k + 200 < _; omega⟩
theorem Room.in1 {k : Nat} {A : Around} (r : Room (k + 1) A) : Room k A.in1 :=
  ⟨r.hd, by have := r.dp; show A.depth + 3 * k + 5 < _; omega, by have := r.un; show A.units + 1 + 16 * k + 200 < _; omega⟩
theorem make_depth {A : Around} {C : Addr} {us : List Value} {kw : List (Str × Value)} : (A.under (.builtin "type.__call__" ⟨.ref C :: us, kw⟩)).depth = A.depth + 1 := by
  first | rfl | simp [Around.under, Code.weight, Code.isCreation, Code.isGuard, Code.isCaller, Code.frames, Code.isFrame, guardIds]
theorem make_units {A : Around} {C : Addr} {us : List Value} {kw : List (Str × Value)} : (A.under (.builtin "type.__call__" ⟨.ref C :: us, kw⟩)).units = A.units + 1 := by
  first | rfl | simp [Around.under, Code.cUnits, Code.frames, Code.isFrame]
theorem Room.make {k : Nat} {A : Around} (r : Room (k + 1) A) (C : Addr) (us : List Value) (kw : List (Str × Value)) : Room k (A.under (.builtin "type.__call__" ⟨.ref C :: us, kw⟩)) :=
  ⟨r.hd, by have := r.dp; rw [make_depth]; omega, by have := r.un; rw [make_units]; omega⟩
theorem Room.depth {k : Nat} {A : Around} (r : Room k A) : A.depth < recursionLimit := by have := r.dp; omega
theorem Room.units {k : Nat} {A : Around} (r : Room k A) : A.units + 64 < cLine := by have := r.un; omega
theorem Room.units0 {k : Nat} {A : Around} (r : Room k A) : A.units < cLine := by have := r.un; omega

/-! ### argument lists and displays -/
def tNil : TA := fun _ H Q => Q [] H
def tCons (ta : TE) (tr : TA) : TA := fun σ H Q => ta σ H fun x H1 => tr σ H1 fun xs H2 => Q (x :: xs) H2
section
variable {X : Cx} {e : Expr} {es : List Expr} {te : TE} {t : TA} {pos : Pos}
theorem pa_nil : PA X [] tNil := fun _ _ _ _ H Q I h => Calls.spliced_nil ⟨[], H, I, .nil, h⟩
theorem pa_cons (ha : PE X e te) (hr : PA X es t) (hs : starEach (e :: es) X.env = (false, eval e X.env) :: starEach es X.env := by rfl) : PA X (e :: es) (tCons te t) := by
  intro pos pins s σ H Q I h
  rw [hs]
  show wpAny _ _ (spliced ((false, eval e X.env) :: backTo pos (starEach es X.env))) _ _ s
  refine Calls.spliced_cons (thn (ha pins s σ H _ I h) fun u s1 ⟨x, H1, I1, r1, q1⟩ => ?_)
  exact thn (hr pos pins s1 σ H1 _ I1 q1) fun us s2 ⟨xs, H2, I2, r2, q2⟩ => ⟨x :: xs, H2, I2, .cons r1 r2, q2⟩

/-- a tuple, a list of written items -/
def tTup (t : TA) : TE := fun σ H Q => t σ H fun xs H1 => xs.length ≤ sizeLine ∧ ∀ p, H1 p = none → Q (.ref p) (upd H1 p (.tup xs))
def tLst (t : TA) : TE := fun σ H Q => t σ H fun xs H1 => xs.length ≤ sizeLine ∧ ∀ p, H1 p = none → Q (.ref p) (upd H1 p (.lst xs))
theorem pe_tup {x1} (h : PA X es t) : PE X (.Tuple es x1 pos) (tTup t) := by
  intro pins s σ H Q I hq
  refine wpAny_Tuple_spliced (thn (h pos pins s σ H _ I hq) fun us s1 ⟨xs, H1, I1, r, z, q⟩ => ⟨by rw [← r.length]; exact z, ?_⟩)
  have hf : H1 s1.heap.objs.size = none := I1.hok.fresh (Nat.le_refl _)
  refine ⟨.ref s1.heap.objs.size, upd H1 s1.heap.objs.size (.tup xs), I1.laid (t' := s1.toks) (fun b u e => Heap.get?_push_of_some _ e) (Nat.le_refl _) ?_, rfl, q _ hf⟩
  exact ⟨z, us, r, ⟨_, Heap.get?_push_size _ rfl, rfl, _, rfl⟩⟩
theorem pe_lst (h : PA X es t) : PE X (.List es pos) (tLst t) := by
  intro pins s σ H Q I hq
  refine wpAny_List_spliced (thn (h pos pins s σ H _ I hq) fun us s1 ⟨xs, H1, I1, r, z, q⟩ => ⟨by rw [← r.length]; exact z, ?_⟩)
  have hf : H1 s1.heap.objs.size = none := I1.hok.fresh (Nat.le_refl _)
  refine ⟨.ref s1.heap.objs.size, upd H1 s1.heap.objs.size (.lst xs), I1.laid (t' := s1.toks) (fun b u e => Heap.get?_push_of_some _ e) (Nat.le_refl _) ?_, rfl, q _ hf⟩
  exact ⟨z, us, 0, r, Heap.get?_push_size _ rfl⟩
end

/-! ### what a def promises -/
/-- a def's promise: the bound arguments in the parameters' order, the heap, the wanted end, the wanted exception -/
abbrev Sp := List V → Hp → VK → XK → Prop
/-- how an exception lies behind a call (file 08 gives it): the callers' frames, abstract heap and state ahead of the call, the wish, the exception, the state -/
abbrev CXT := List Env → Hp → Shared → XK → Value → Shared → Prop

/-- the state at a call -/
structure Env0 (P : Program) (w : World) (K : PySem.W.Frag) (mg : Str → Option Value) (base : Heap) (A : Around) (outer : List Env) (s : Shared) (H : Hp) : Prop where
  frames : A.frames = some outer
  mod : Mod K mg base
  bs : ∀ b o, base.get? b = some o → s.heap.get? b = some o ∧ H b = none
  bsz : base.objs.size ≤ s.heap.objs.size
  funs : s.heap.FunFrames base outer
  frf : ∀ b ∈ frs outer, H b = none
  hok : HOk P w H s.heap
  bare : AllBare s.gens
/-- a call's end -/
def CE (outer : List Env) (P : Program) (w : World) (H : Hp) (s : Shared) (Q : VK) (u : Value) (s' : Shared) : Prop :=
  ∃ v H', s'.os = s.os ∧ AllBare s'.gens ∧ Un (frs outer) [] H H' s.heap s'.heap ∧ HOk P w H' s'.heap ∧ RelV v u ∧ Q v H'
def CR (CX : CXT) (outer : List Env) (P : Program) (w : World) (H : Hp) (s : Shared) (Q : VK) (E : XK) (r : Result) (s' : Shared) : Prop :=
  match r with
  | .ok (.ret u) => CE outer P w H s Q u s'
  | .ok _ => False
  | .error e => CX outer H s E e s'
structure FnOk (P : Program) (w : World) (K : PySem.W.Frag) (mg : Str → Option Value) (base : Heap) (CX : CXT) (k : Nat) (f : Addr) (fd : FuncData) (ps : List Str) (sp : Sp) : Prop where
  len : ∀ vs H Q E, sp vs H Q E → vs.length = ps.length
  run : ∀ (A : Around) (outer : List Env) (s : Shared) (H : Hp) (args : Args) (us : List Value) (vs : List V) (Q : VK) (E : XK), Room k A → Env0 P w K mg base A outer s H → BindsTo s fd args (ps.zip us) → Vals vs us → sp vs H Q E →
    codeAny (model P w) A (.call (.ref f) args) (CR CX outer P w H s Q E) s
theorem FnOk.mono {P : Program} {w : World} {K : PySem.W.Frag} {mg : Str → Option Value} {base : Heap} {CX : CXT} {j k : Nat} {f : Addr} {fd : FuncData} {ps : List Str} {sp : Sp} (F : FnOk P w K mg base CX j f fd ps sp) (h : j ≤ k) :
    FnOk P w K mg base CX k f fd ps sp := ⟨F.len, fun A outer s H args us vs Q E hr => F.run A outer s H args us vs Q E (hr.mono h)⟩
/-- a weaker promise -/
theorem FnOk.imp {P : Program} {w : World} {K : PySem.W.Frag} {mg : Str → Option Value} {base : Heap} {CX : CXT} {k : Nat} {f : Addr} {fd : FuncData} {ps : List Str} {sp sp' : Sp} (F : FnOk P w K mg base CX k f fd ps sp)
    (h : ∀ vs H Q E, sp' vs H Q E → sp vs H Q E) : FnOk P w K mg base CX k f fd ps sp' :=
  ⟨fun vs H Q E q => F.len vs H Q E (h _ _ _ _ q), fun A outer s H args us vs Q E hr he hb hv hs => F.run A outer s H args us vs Q E hr he hb hv (h _ _ _ _ hs)⟩

theorem Env0.make {P : Program} {w : World} {K : PySem.W.Frag} {mg : Str → Option Value} {base : Heap} {A : Around} {outer : List Env} {s : Shared} {H : Hp} (e : Env0 P w K mg base A outer s H) (C : Addr) (us : List Value) (kw : List (Str × Value)) :
    Env0 P w K mg base (A.under (.builtin "type.__call__" ⟨.ref C :: us, kw⟩)) outer s H := ⟨by first | exact e.frames | (simpa [Around.under, Code.envs, Code.isFrame, pushEnvs] using e.frames), e.mod, e.bs, e.bsz, e.funs, e.frf, e.hok, e.bare⟩
theorem Env0.in1 {P : Program} {w : World} {K : PySem.W.Frag} {mg : Str → Option Value} {base : Heap} {A : Around} {outer : List Env} {s : Shared} {H : Hp} (e : Env0 P w K mg base A outer s H) :
    Env0 P w K mg base A.in1 outer s H := ⟨e.frames, e.mod, e.bs, e.bsz, e.funs, e.frf, e.hok, e.bare⟩

section
variable {X : Cx} {pins : List (Addr × Obj)} {σ : St} {H : Hp} {s s' : Shared}
/-- from a body: what a callee wants -/
theorem Inv.env0 (I : Inv X pins σ H s) : Env0 X.prog X.w X.K X.mg X.base X.A X.stack s H :=
  ⟨I.ok.frames, I.ok.mod, I.bs, Nat.le_trans I.ok.bsz I.sz, I.stack, I.stkFree, I.hok, I.bare⟩
/-- behind a call -/
theorem Inv.after {Q : VK} {u : Value} (I : Inv X pins σ H s) (h : CE X.stack X.prog X.w H s Q u s') : EP X pins σ Q u s' := by
  obtain ⟨v, H', os, bare, un, hok, r, q⟩ := h
  obtain ⟨hh, g, d, t, os'⟩ := s'
  obtain rfl : os' = s.os := os
  exact ⟨v, H', I.call (h' := hh) (g' := g) (d' := d) (t' := t) (ch := []) un hok bare (fun b z => absurd z (by simp)), r, q⟩
end

/-! ### calls -/
/-- f(..): the written arguments, then the defaults dvs; E: what is wanted of an exception -/
def tCall (sp : Sp) (dvs : List V) (E : XK) (t : TA) : TE := fun σ H Q => t σ H fun vs H1 => sp (vs ++ dvs) H1 Q E
/-- o.m(..) of an instance of the class at C -/
def tMeth (C : Addr) (m : Str) (sp : Sp) (dvs : List V) (E : XK) (ta : TE) (t : TA) : TE := fun σ H Q => ta σ H fun x H1 => ∃ a dx fs, x = .ref a ∧ H1 a = some (.ins C dx fs) ∧ fs.lookup m = none ∧
  t σ H1 fun vs H2 => sp (x :: (vs ++ dvs)) H2 Q E
/-- C(..): a new instance and its dict, then __init__ -/
def tMake (C : Addr) (sp : Sp) (dvs : List V) (E : XK) (t : TA) : TE := fun σ H Q => t σ H fun vs H1 => ∀ x dx, H1 x = none → H1 dx = none → dx ≠ x →
  sp (.ref x :: (vs ++ dvs)) (upd (upd H1 dx (.own x)) x (.ins C dx [])) (fun v H2 => v = .non ∧ Q (.ref x) H2) E

/-- how the parameters are bound: us the positional arguments, kw the keywords' values by name, ds the defaults that fill up -/
def Binds (K : PySem.W.Frag) (fd : FuncData) (ps : List Str) (ds : List Value) : Prop :=
  ∀ (s : Shared) (us : List Value), K.In s.heap → (us ++ ds).length = ps.length → BindsTo s fd ⟨us, []⟩ (ps.zip (us ++ ds))
/-- every parameter is given -/
theorem Binds.all {K : PySem.W.Frag} {fd : FuncData} {ps : List Str} (h : ∀ us : List Value, us.length = ps.length → bindArgs fd ⟨us, []⟩ = pure (ps.zip us)) : Binds K fd ps [] := fun s us _ hl => by
  rw [List.append_nil] at hl ⊢
  exact .of_eq (h us hl)

/-- an exception of a callee reaches what this body wants of exceptions -/
def Passes (CX : CXT) (X : Cx) (E : XK) : Prop := ∀ (pins : List (Addr × Obj)) (σ : St) (H : Hp) (s : Shared) (e : Value) (s' : Shared), Inv X pins σ H s → CX X.stack H s E e s' → X.xe e s'

section
variable {X : Cx} {CX : CXT} {k : Nat} {f C : Addr} {fd : FuncData} {ps : List Str} {sp : Sp} {dvs : List V} {ds : List Value} {E : XK} {x m : Str} {p pos apos : Pos} {e o : Expr} {es : List Expr} {ta : TE} {t : TA}

/-- the callee runs -/
theorem run_fn {pins : List (Addr × Obj)} {σ : St} {H : Hp} {s : Shared} {Q : VK} {us : List Value} {vs : List V} (F : FnOk X.prog X.w X.K X.mg X.base CX k f fd ps sp) (hr : Room k X.A) (hb : Binds X.K fd ps ds) (hd : Vals dvs ds) (hx : Passes CX X E)
    (I : Inv X pins σ H s) (r : Vals vs us) (h : sp (vs ++ dvs) H Q E) : wpAny (model X.prog X.w) X.A (call (.ref f) us) (EP X pins σ Q) X.xe s := by
  have r2 : Vals (vs ++ dvs) (us ++ ds) := r.append hd
  have hl : (us ++ ds).length = ps.length := by rw [← r2.length]; exact F.len _ _ _ _ h
  refine wpAny_call (codeAny_mono (F.run X.A X.stack s H ⟨us, []⟩ (us ++ ds) (vs ++ dvs) Q E hr I.env0 (hb s us I.kIn hl) r2 h) fun r s' hq => ?_)
  cases r with
  | error e => exact hx pins σ H s e s' I hq
  | ok fl =>
    cases fl with
    | ret u => exact I.after hq
    | next => exact False.elim hq
    | brk => exact False.elim hq
    | cont => exact False.elim hq

theorem pe_call (F : FnOk X.prog X.w X.K X.mg X.base CX k f fd ps sp) (hr : Room k X.A) (hg : Gl X x) (hm : X.mg x = some (.ref f)) (hk : PySem.W.keepIn X.K (.ref f) = true) (hb : Binds X.K fd ps ds) (hd : Vals dvs ds) (hx : Passes CX X E)
    (ha : PA X (e :: es) t) (hdb : (x == ("__debug__" : Str)) = false := by decide) (he : starEach (e :: es) X.env = (false, eval e X.env) :: starEach es X.env := by rfl) (hpl : (backTo pos (starEach es X.env)).any (·.1) = false := by rfl) :
    PE X (.Call (.Name x p) (e :: es) [] pos) (tCall sp dvs E t) := by
  intro pins s σ H Q I h
  refine wpAny_Call_Name_kw (ld_glob I hg hm ?_ hdb)
  refine PySem.W.callWith_K (h₀ := X.base) I.ok.mod.kin hk (thn (ha pos pins s σ H _ I h) fun us s1 ⟨vs, H1, I1, r, q⟩ => ⟨I1.kIn, ?_⟩) he hpl
  exact run_fn F hr hb hd hx I1 r q
theorem pe_call0 (F : FnOk X.prog X.w X.K X.mg X.base CX k f fd ps sp) (hr : Room k X.A) (hg : Gl X x) (hm : X.mg x = some (.ref f)) (hk : PySem.W.keepIn X.K (.ref f) = true) (hb : Binds X.K fd ps ds) (hd : Vals dvs ds) (hx : Passes CX X E)
    (hdb : (x == ("__debug__" : Str)) = false := by decide) : PE X (.Call (.Name x p) [] [] pos) (tCall sp dvs E tNil) := by
  intro pins s σ H Q I h
  refine wpAny_Call_Name_kw (ld_glob I hg hm ?_ hdb)
  exact PySem.W.callWith_K0 I.kIn hk (run_fn (us := []) F hr hb hd hx I .nil h)

/-- o.m(e, ..) -/
theorem pe_meth {pl : Sem Bool} (he : PE X o ta) (c : Cls X.K C) (hm : Meth X.K C m f) (F : FnOk X.prog X.w X.K X.mg X.base CX k f fd ps sp) (hr : Room k X.A) (hb : Binds X.K fd ps ds) (hd : Vals dvs ds) (hx : Passes CX X E) (ha : PA X (e :: es) t)
    (hst : starEach (e :: es) X.env = (false, eval e X.env) :: starEach es X.env := by rfl) (hpl : (backTo pos (starEach es X.env)).any (·.1) = false := by rfl)
    (ht : eval (.Call (.Attribute o m apos) (e :: es) [] pos) X.env = (do
      let ov ← eval o X.env
      standAt apos.atName
      let (f, first) ← holding [ov] (getMethod ov m pl)
      callWith pos f first (backTo pos (starEach (e :: es) X.env)) (backToKw pos (keywordEach [] X.env))) := by rfl) :
    PE X (.Call (.Attribute o m apos) (e :: es) [] pos) (tMeth C m sp dvs E ta t) := by
  intro pins s σ H Q I h
  refine PySem.W.methodCall_KW (pl := pl) (thn (he pins s σ H _ I h) fun u s1 ⟨x, H1, I1, rx, a, dx, fs, ex, ea, l, q⟩ => ?_) ht
  subst ex
  obtain rfl : u = Value.ref a := rx
  refine getmeth_ok I1 ea c hm l ?_
  refine PySem.W.callWith_K (first := [.ref a]) (h₀ := X.base) I.ok.mod.kin hm.kp (thn (ha pos pins s1 σ H1 _ I1 q) fun us s2 ⟨vs, H2, I2, r, q2⟩ => ⟨I2.kIn, ?_⟩) hst hpl
  exact run_fn (us := .ref a :: us) (vs := .ref a :: vs) F hr hb hd hx I2 (.cons rfl r) q2
/-- o.m() -/
theorem pe_meth0 {pl : Sem Bool} (he : PE X o ta) (c : Cls X.K C) (hm : Meth X.K C m f) (F : FnOk X.prog X.w X.K X.mg X.base CX k f fd ps sp) (hr : Room k X.A) (hb : Binds X.K fd ps ds) (hd : Vals dvs ds) (hx : Passes CX X E)
    (ht : eval (.Call (.Attribute o m apos) [] [] pos) X.env = (do
      let ov ← eval o X.env
      standAt apos.atName
      let (f, first) ← holding [ov] (getMethod ov m pl)
      callWith pos f first (backTo pos (starEach [] X.env)) (backToKw pos (keywordEach [] X.env))) := by rfl) :
    PE X (.Call (.Attribute o m apos) [] [] pos) (tMeth C m sp dvs E ta tNil) := by
  intro pins s σ H Q I h
  refine PySem.W.methodCall_KW (pl := pl) (thn (he pins s σ H _ I h) fun u s1 ⟨x, H1, I1, rx, a, dx, fs, ex, ea, l, q⟩ => ?_) ht
  subst ex
  obtain rfl : u = Value.ref a := rx
  refine getmeth_ok I1 ea c hm l ?_
  exact PySem.W.callWith_K0 (first := [.ref a]) I1.kIn hm.kp (run_fn (us := [.ref a]) (vs := [.ref a]) F hr hb hd hx I1 (.cons rfl .nil) q)

/-- what a class must have to be made -/
structure Mk (K : PySem.W.Frag) (C f : Addr) : Prop where
  makes : PySem.W.makesIn K C = true
  init : PySem.W.findIn K (.ref C) "__init__" = some (some (.ref f))
  fn : PySem.W.isFn K (.ref f) = true
  kp : PySem.W.keepIn K (.ref C) = true

theorem run_make {pins : List (Addr × Obj)} {σ : St} {H : Hp} {s : Shared} {Q : VK} {us : List Value} {vs : List V} (M : Mk X.K C f) (F : FnOk X.prog X.w X.K X.mg X.base CX k f fd ps sp) (hr : Room (k + 1) X.A) (hb : Binds X.K fd ps ds) (hd : Vals dvs ds)
    (hx : Passes CX X E) (I : Inv X pins σ H s) (r : Vals vs us)
    (h : ∀ x dx, H x = none → H dx = none → dx ≠ x → sp (.ref x :: (vs ++ dvs)) (upd (upd H dx (.own x)) x (.ins C dx [])) (fun v H2 => v = .non ∧ Q (.ref x) H2) E) :
    wpAny (model X.prog X.w) X.A (call (.ref C) us) (EP X pins σ Q) X.xe s := by
  have hq := h (s.heap.objs.size + 1) s.heap.objs.size (I.hok.fresh (Nat.le_succ _)) (I.hok.fresh (Nat.le_refl _)) (Nat.ne_of_lt (Nat.lt_succ_self _))
  have I2 := Inv.made (C := C) I
  have r2 : Vals (V.ref (s.heap.objs.size + 1) :: (vs ++ dvs)) (Value.ref (s.heap.objs.size + 1) :: (us ++ ds)) := .cons rfl (r.append hd)
  have hl : (Value.ref (s.heap.objs.size + 1) :: us ++ ds).length = ps.length := by
    have e := r2.length
    rw [F.len _ _ _ _ hq] at e
    exact e.symm
  refine wpAny_call (make_map (f := f) I.kIn M.makes M.init (beq_iff_eq.mp M.fn) (codeAny_mono (F.run _ X.stack _ _ ⟨Value.ref (s.heap.objs.size + 1) :: us, []⟩ (Value.ref (s.heap.objs.size + 1) :: (us ++ ds)) _ _ E (hr.make C us [])
    (I2.env0.make C us []) (hb _ (Value.ref (s.heap.objs.size + 1) :: us) I2.kIn hl) r2 hq) fun r s' hq' => ?_))
  cases r with
  | error e => exact hx pins σ _ _ e s' I2 hq'
  | ok fl =>
    cases fl with
    | ret u =>
      obtain ⟨v, H', I3, rv, ev, q3⟩ := I2.after hq'
      subst ev
      exact ⟨rv, ⟨V.ref (s.heap.objs.size + 1), H', I3, rfl, q3⟩⟩
    | next => exact False.elim hq'
    | brk => exact False.elim hq'
    | cont => exact False.elim hq'
theorem pe_make (M : Mk X.K C f) (F : FnOk X.prog X.w X.K X.mg X.base CX k f fd ps sp) (hr : Room (k + 1) X.A) (hg : Gl X x) (hm : X.mg x = some (.ref C)) (hb : Binds X.K fd ps ds) (hd : Vals dvs ds) (hx : Passes CX X E)
    (ha : PA X (e :: es) t) (hdb : (x == ("__debug__" : Str)) = false := by decide) (he : starEach (e :: es) X.env = (false, eval e X.env) :: starEach es X.env := by rfl) (hpl : (backTo pos (starEach es X.env)).any (·.1) = false := by rfl) :
    PE X (.Call (.Name x p) (e :: es) [] pos) (tMake C sp dvs E t) := by
  intro pins s σ H Q I h
  refine wpAny_Call_Name_kw (ld_glob I hg hm ?_ hdb)
  refine PySem.W.callWith_K (h₀ := X.base) I.ok.mod.kin M.kp (thn (ha pos pins s σ H _ I h) fun us s1 ⟨vs, H1, I1, r, q⟩ => ⟨I1.kIn, ?_⟩) he hpl
  exact run_make M F hr hb hd hx I1 r q
theorem pe_make0 (M : Mk X.K C f) (F : FnOk X.prog X.w X.K X.mg X.base CX k f fd ps sp) (hr : Room (k + 1) X.A) (hg : Gl X x) (hm : X.mg x = some (.ref C)) (hb : Binds X.K fd ps ds) (hd : Vals dvs ds) (hx : Passes CX X E)
    (hdb : (x == ("__debug__" : Str)) = false := by decide) : PE X (.Call (.Name x p) [] [] pos) (tMake C sp dvs E tNil) := by
  intro pins s σ H Q I h
  refine wpAny_Call_Name_kw (ld_glob I hg hm ?_ hdb)
  exact PySem.W.callWith_K0 I.kIn M.kp (run_make (us := []) M F hr hb hd hx I .nil h)
end

/-! ### keywords -/
/-- the values of the keywords, from the left -/
def PK (X : Cx) (kws : List Keyword) (t : TA) : Prop :=
  ∀ (pos : Pos) (pins : List (Addr × Obj)) (s : Shared) (σ : St) (H : Hp) (Q : List V → Hp → Prop), Inv X pins σ H s → t σ H Q → wpAny (model X.prog X.w) X.A (evalAll ((backToKw pos (keywordEach kws X.env)).map (·.2))) (AP X pins σ Q) X.xe s
section
variable {X : Cx} {CX : CXT} {k : Nat} {f C : Addr} {fd : FuncData} {ps ks : List Str} {sp : Sp} {E : XK} {x m : Str} {p pos apos kpos : Pos} {e o : Expr} {es : List Expr} {kws : List Keyword} {te ta : TE} {t tk : TA} {nm : Option Str}
theorem pk_nil : PK X [] tNil := fun _ _ _ _ H Q I h => wpAny_evalAll_nil ⟨[], H, I, .nil, h⟩
theorem pk_cons (ha : PE X e te) (hr : PK X kws t) : PK X (⟨nm, e, kpos⟩ :: kws) (tCons te t) := by
  intro pos pins s σ H Q I h
  show wpAny _ _ (evalAll ((do let v ← eval e X.env; standAt pos; pure v) :: (backToKw pos (keywordEach kws X.env)).map (·.2))) _ _ s
  refine wpAny_evalAll_cons (wpAny_bind (thn (ha pins s σ H _ I h) fun u s1 ⟨x, H1, I1, r1, q1⟩ => wpAny_bind (wpAny_standAt (wpAny_pure ?_))))
  exact thn (hr pos pins s1 σ H1 _ I1 q1) fun us s2 ⟨xs, H2, I2, r2, q2⟩ => ⟨x :: xs, H2, I2, .cons r1 r2, q2⟩

/-- how a call with keywords binds: g puts the positional values us and the keywords' values ws (names ks) in the parameters' order, defaults among them -/
structure KBinds (K : PySem.W.Frag) (fd : FuncData) (ps ks : List Str) (g : List Value → List Value → List Value) (gV : List V → List V → List V) : Prop where
  to : ∀ (s : Shared) (us ws : List Value), K.In s.heap → (g us ws).length = ps.length → BindsTo s fd ⟨us, ks.zip ws⟩ (ps.zip (g us ws))
  rel : ∀ {vs : List V} {us : List Value} {zs : List V} {ws : List Value}, Vals vs us → Vals zs ws → Vals (gV vs zs) (g us ws)
def tCallK (sp : Sp) (gV : List V → List V → List V) (E : XK) (t tk : TA) : TE := fun σ H Q => t σ H fun vs H1 => tk σ H1 fun zs H2 => sp (gV vs zs) H2 Q E
variable {g : List Value → List Value → List Value} {gV : List V → List V → List V}
theorem run_fnk {pins : List (Addr × Obj)} {σ : St} {H : Hp} {s : Shared} {Q : VK} {us ws : List Value} {vs zs : List V} (F : FnOk X.prog X.w X.K X.mg X.base CX k f fd ps sp) (hr : Room k X.A) (hb : KBinds X.K fd ps ks g gV) (hx : Passes CX X E)
    (I : Inv X pins σ H s) (r : Vals vs us) (rz : Vals zs ws) (h : sp (gV vs zs) H Q E) : wpAny (model X.prog X.w) X.A (call (.ref f) us (ks.zip ws)) (EP X pins σ Q) X.xe s := by
  have r2 := hb.rel r rz
  have hl : (g us ws).length = ps.length := by rw [← r2.length]; exact F.len _ _ _ _ h
  refine wpAny_call (codeAny_mono (F.run X.A X.stack s H ⟨us, ks.zip ws⟩ (g us ws) (gV vs zs) Q E hr I.env0 (hb.to s us ws I.kIn hl) r2 h) fun r s' hq => ?_)
  cases r with
  | error e => exact hx pins σ H s e s' I hq
  | ok fl =>
    cases fl with
    | ret u => exact I.after hq
    | next => exact False.elim hq
    | brk => exact False.elim hq
    | cont => exact False.elim hq
/-- f(e, .., k = v, ..) -/
theorem pe_callK (F : FnOk X.prog X.w X.K X.mg X.base CX k f fd ps sp) (hr : Room k X.A) (hg : Gl X x) (hm : X.mg x = some (.ref f)) (hk : PySem.W.keepIn X.K (.ref f) = true) (hb : KBinds X.K fd ps ks g gV) (hx : Passes CX X E)
    (ha : PA X (e :: es) t) (hkw : PK X kws tk) (hall : (backToKw pos (keywordEach kws X.env)).all (·.1.isSome) = true := by rfl) (hks : (backToKw pos (keywordEach kws X.env)).filterMap (·.1) = ks := by rfl)
    (hdb : (x == ("__debug__" : Str)) = false := by decide) (he : starEach (e :: es) X.env = (false, eval e X.env) :: starEach es X.env := by rfl)
    (hpl : ((backTo pos (starEach (e :: es) X.env)).any (·.1) || (backToKw pos (keywordEach kws X.env)).any (·.1.isNone)) = false := by rfl) :
    PE X (.Call (.Name x p) (e :: es) kws pos) (tCallK sp gV E t tk) := by
  intro pins s σ H Q I h
  refine wpAny_Call_Name_kw (ld_glob I hg hm ?_ hdb)
  refine PySem.W.callWith_KW (h₀ := X.base) I.ok.mod.kin hk hall (thn (ha pos pins s σ H _ I h) fun us s1 ⟨vs, H1, I1, r, q⟩ => ?_) hpl he
  refine thn (hkw pos pins s1 σ H1 _ I1 q) fun ws s2 ⟨zs, H2, I2, rz, q2⟩ => ⟨I2.kIn, ?_⟩
  rw [hks]
  exact run_fnk F hr hb hx I2 r rz q2
end

/-! ### a def's body keeps its promise -/
/-- names: the parameters first -/
structure FnScope (N P : List Str) (sc : Scope) : Prop where
  kind : sc.kind = .function
  co : sc.isCoroutine = false
  gen : sc.isGenerator = false
  nd : N.Nodup
  pre : N.take P.length = P
  par : ∀ x ∈ P, sc.names.lookup x = some .local ∨ sc.names.lookup x = some .cell
  nofree : ∀ y ∈ sc.names, y.2 ≠ .free

theorem bindL_out {kindOf : Str → Option NameKind} {x : Str} : ∀ {binds : List (Str × Value)} {m : Str → Option Value}, (∀ v, (x, v) ∉ binds) → bindL kindOf binds m x = m x
  | [], _, _ => rfl
  | (n, v) :: r, m, h => by
    unfold bindL
    rw [bindL_out fun w hw => h w (List.mem_cons_of_mem _ hw)]
    split
    · have : x ≠ n := by rintro rfl; exact h v List.mem_cons_self
      simp [this]
    · rfl
theorem bindC_out {kindOf : Str → Option NameKind} {x : Str} : ∀ {binds : List (Str × Value)} {m : Str → Option Value}, (∀ v, (x, v) ∉ binds) → bindC kindOf binds m x = m x
  | [], _, _ => rfl
  | (n, v) :: r, m, h => by
    unfold bindC
    rw [bindC_out fun w hw => h w (List.mem_cons_of_mem _ hw)]
    split
    · rfl
    · have : x ≠ n := by rintro rfl; exact h v List.mem_cons_self
      simp [this]
theorem bindL_get {kindOf : Str → Option NameKind} {x : Str} {v : Value} : ∀ {P : List Str} {vs : List Value} {i : Nat} {m : Str → Option Value}, P.Nodup → P[i]? = some x → vs[i]? = some v → kindOf x = some .local →
    bindL kindOf (P.zip vs) m x = some v
  | [], _, _, _, _, h, _, _ => by simp at h
  | _ :: _, [], _, _, _, _, h, _ => by simp at h
  | p :: P, w :: vs, 0, m, nd, h1, h2, hk => by
    simp at h1 h2; subst h1; subst h2
    show bindL kindOf ((p, w) :: P.zip vs) m p = _
    unfold bindL
    rw [bindL_out fun v hv => (List.nodup_cons.mp nd).1 (List.of_mem_zip hv).1, if_pos hk]
    simp
  | p :: P, w :: vs, i + 1, m, nd, h1, h2, hk => by
    show bindL kindOf ((p, w) :: P.zip vs) m x = _
    unfold bindL
    exact bindL_get (i := i) (List.nodup_cons.mp nd).2 (by simpa using h1) (by simpa using h2) hk
theorem bindC_get {kindOf : Str → Option NameKind} {x : Str} {v : Value} : ∀ {P : List Str} {vs : List Value} {i : Nat} {m : Str → Option Value}, P.Nodup → P[i]? = some x → vs[i]? = some v → kindOf x ≠ some .local →
    bindC kindOf (P.zip vs) m x = some v
  | [], _, _, _, _, h, _, _ => by simp at h
  | _ :: _, [], _, _, _, _, h, _ => by simp at h
  | p :: P, w :: vs, 0, m, nd, h1, h2, hk => by
    simp at h1 h2; subst h1; subst h2
    show bindC kindOf ((p, w) :: P.zip vs) m p = _
    unfold bindC
    rw [bindC_out fun v hv => (List.nodup_cons.mp nd).1 (List.of_mem_zip hv).1, if_neg hk]
    simp
  | p :: P, w :: vs, i + 1, m, nd, h1, h2, hk => by
    show bindC kindOf ((p, w) :: P.zip vs) m x = _
    unfold bindC
    exact bindC_get (i := i) (List.nodup_cons.mp nd).2 (by simpa using h1) (by simpa using h2) hk

/-- the names' values at the entry -/
def start (N : List Str) (vs : List V) : St := vs.map some ++ List.replicate (N.length - vs.length) none

/-- the context of a def's body, at its entry; an exception leaves the frame, then lies as CX says -/
def cxOf (CX : CXT) (P : Program) (w : World) (K : PySem.W.Frag) (mg : Str → Option Value) (base : Heap) (N : List Str) (qual : Str) (scope : Scope) (f : Addr) (cd : Value) (A : Around) (outer : List Env) (s : Shared) (H : Hp) (E : XK) : Cx where
  prog := P
  w := w
  K := K
  mg := mg
  base := base
  A := A.deeper (envOfC qual scope s.heap.objs.size f cd)
  N := N
  s₀ := s
  H₀ := H
  env := envOfC qual scope s.heap.objs.size f cd
  outer := outer
  stack := envOfC qual scope s.heap.objs.size f cd :: outer
  ex := []
  calm := true
  fn := fun _ => true
  pn := []
  xe := fun e s' => wpAny (model P w) (A.deeper (envOfC qual scope s.heap.objs.size f cd)) (leaving (envOfC qual scope s.heap.objs.size f cd) e) (fun _ s'' => CX outer H s E e s'') (fun e' s'' => CX outer H s E e' s'') s'

theorem cell_has {sc : Scope} {n : Nat} {x : Str} (h : sc.names.lookup x = some .cell) : ∃ c, (cellsFrom n sc.names []).lookup x = some c := by
  have q := PySem.W.cellsFrom_some sc.names n [] (.inl h)
  exact Option.isSome_iff_exists.mp q

theorem inv_start {CX : CXT} {P : Program} {w : World} {K : PySem.W.Frag} {mg : Str → Option Value} {base : Heap} {N ps : List Str} {qual : Str} {scope : Scope} {f : Addr} {cd : Value} {A : Around} {outer : List Env} {s s1 : Shared} {H : Hp} {E : XK} {us : List Value} {vs : List V}
    (S : FnScope N ps scope) (hd : A.handled = none) (e0 : Env0 P w K mg base A outer s H) (hl : vs.length = ps.length) (r : Vals vs us)
    (x : InCallC s s.heap.objs.size (bindL (envOfC qual scope s.heap.objs.size f cd).kindOf (ps.zip us) fun _ => none) (cellsFrom (s.heap.objs.size + 1) scope.names []) (bindC (envOfC qual scope s.heap.objs.size f cd).kindOf (ps.zip us) fun _ => none) s1) :
    Inv (cxOf CX P w K mg base N qual scope f cd A outer s H E) [] (start N vs) H s1 := by
  have hpl : ps.length ≤ N.length := by have := congrArg List.length S.pre; rw [List.length_take] at this; omega
  obtain ⟨h1, tk, rfl, hk⟩ := x.done
  have noA : ∀ b : Addr, b ∉ (cxOf CX P w K mg base N qual scope f cd A outer s H E).ex := fun b z => absurd (show b ∈ ([] : List Addr) from z) (by simp)
  refine ⟨⟨e0.mod, S.kind, rfl, rfl, Nat.le_refl _, fun y z c h1 h2 => ?_, fun y hy => ?_, fun y c _ h => ?_, fun _ => hd, Around.frames_deeper e0.frames, .inr ⟨rfl, rfl⟩, fun b z => absurd z (noA b), e0.bs, e0.bsz, fun b _ _ => noA b, fun b z => absurd z (noA b), e0.funs, e0.frf⟩,
    rfl, e0.bare, Un.kept hk, ⟨_, x.toInCall.ns, fun i y v h1 h2 h3 => ?_⟩, fun y c h => ⟨_, x.cell y c h⟩, e0.hok.fresh (Nat.le_refl _), fun y c h => ?_, fun p hp => absurd (show p ∈ ([] : List (Addr × Obj)) from hp) (by simp), e0.hok.kept hk, ?_⟩
  · exact name_of_addr x.apart (PySem.mem_of_lookup h1) (PySem.mem_of_lookup h2)
  · have hy : scope.names.lookup y = some .cell ∨ scope.names.lookup y = some .free := hy
    rcases hy with hy | hy
    · exact cell_has hy
    · exact absurd rfl (S.nofree _ (PySem.mem_of_lookup hy))
  · exact Nat.le_of_lt (x.above y c (PySem.mem_of_lookup h))
  · have hi : i < vs.length := by
      unfold start at h2
      by_cases hi : i < vs.length
      · exact hi
      · rw [List.getElem?_append_right (by simpa using hi)] at h2
        rw [List.getElem?_replicate] at h2
        split at h2 <;> cases h2
    have ha : vs[i]? = some v := by
      unfold start at h2
      rw [List.getElem?_append_left (by simpa using hi), List.getElem?_map] at h2
      cases e : vs[i]? with
      | none => rw [e] at h2; cases h2
      | some a => rw [e] at h2; cases h2; rfl
    obtain ⟨u, hu, rv⟩ := r.get ha
    have hp : ps[i]? = some y := by
      rw [← S.pre, List.getElem?_take_of_lt (by omega)]; exact h1
    have ndP : ps.Nodup := by rw [← S.pre]; exact S.nd.sublist (List.take_sublist _ _)
    refine ⟨u, rv, ?_⟩
    rcases S.par y (List.mem_of_getElem? hp) with k | k
    · exact .inl ⟨k, bindL_get ndP hp hu k⟩
    · obtain ⟨c, e⟩ := cell_has (n := s.heap.objs.size + 1) k
      refine .inr ⟨.inl k, c, e, ?_⟩
      have q := x.cell y c e
      rw [bindC_get ndP hp hu (by show scope.names.lookup y ≠ _; rw [k]; decide)] at q
      exact q
  · exact .inl (e0.hok.fresh (Nat.le_of_lt (x.above y c (PySem.mem_of_lookup h))))
  · unfold start
    show _ = N.length
    rw [List.length_append, List.length_map, List.length_replicate]
    omega

/-- THE RULE: a def (or a method) of the text, by its body. The body's reading t is chosen for each entry; it is run at the parameters' values -/
theorem fn_of {CX : CXT} {P : Program} {w : World} {K : PySem.W.Frag} {mg : Str → Option Value} {base : Heap} {k : Nat} {f : Addr} {name qual : Str} {params : Arguments} {body : List Stmt} {scope : Scope} {dV kV doc pm cdv ct oc : Value} {an od : Option Addr}
    {osl : Array (Option Value)} {N ps : List Str} {sp : Sp} (lk : K.lookup f = some ⟨oc, od, .func (PySem.W.fnOf name qual params body scope dV kV doc pm an cdv ct), osl⟩) (hcd : PySem.W.codeIn K cdv qual = true) (S : FnScope N ps scope)
    (len : ∀ vs H Q E, sp vs H Q E → vs.length = ps.length)
    (hbody : ∀ (A : Around) (outer : List Env) (s : Shared) (H : Hp) (vs : List V) (Q : VK) (E : XK), Room k (A.deeper (envOfC qual scope s.heap.objs.size f cdv)) → sp vs H Q E →
      ∃ t, PSs (cxOf CX P w K mg base N qual scope f cdv A outer s H E) body t ∧ t { nx := fun _ H' => Q .non H', rt := Q } (start N vs) H) :
    FnOk P w K mg base CX (k + 1) f (PySem.W.fnOf name qual params body scope dV kV doc pm an cdv ct) ps sp := by
  refine ⟨len, fun A outer s H args us vs Q E hr e0 hb r hsp => ?_⟩
  have hl := len _ _ _ _ hsp
  have KX : K.In s.heap := e0.mod.kin.keeps fun b o e => (e0.bs b o e).1
  have lim : s.heap.NoLimit := e0.mod.nolimit.keeps fun b o e => (e0.bs b o e).1
  have hkind : ∀ y ∈ ps.zip us, scope.names.lookup y.1 = some .local ∨ (scope.names.lookup y.1 = some .cell ∧ ((cellsFrom (s.heap.objs.size + 1) scope.names []).lookup y.1).isSome = true) := fun ⟨n, v⟩ hy => by
    rcases S.par n (List.of_mem_zip hy).1 with q | q
    · exact .inl q
    · exact .inr ⟨q, PySem.W.cellsFrom_some _ _ _ (.inl q)⟩
  refine codeAny_call_function hr.depth (KX _ _ lk) rfl S.co S.gen rfl (PySem.W.codeRec_of KX hcd) (hb _ _ _ _ ?_)
  refine wpAny_newFunctionEnv_cells S.kind hkind fun env he s1 x => ?_
  subst he
  refine ⟨lim.keeps x.toInCall.keep, codeAny_func ?_⟩
  obtain ⟨t, ht, hq⟩ := hbody A outer s H vs Q E (hr.deeper _) hsp
  have I : Inv (cxOf CX P w K mg base N qual scope f cdv A outer s H E) [] (start N vs) H s1 := inv_start S hr.hd e0 hl r x
  refine wpAny_mono (ht [] s1 (start N vs) H _ I hq) (fun fl s' hs => ?_) fun e s' hs => hs
  have fin : ∀ {σ' : St} {H' : Hp} {v : V} {u : Value}, Inv (cxOf CX P w K mg base N qual scope f cdv A outer s H E) [] σ' H' s' → RelV v u → Q v H' → CE outer P w H s Q u s' :=
    fun {σ' H' v u} J rv q => ⟨v, H', J.os, J.bare, J.base, J.hok, rv, q⟩
  cases fl with
  | ret u =>
    obtain ⟨v, σ', H', J, rv, q⟩ := hs
    exact fin J rv q
  | next =>
    obtain ⟨σ', H', J, q⟩ := hs
    exact fin (v := V.non) (u := Value.none) J rfl q
  | brk =>
    obtain ⟨_, _, _, q⟩ := hs
    exact False.elim q
  | cont =>
    obtain ⟨_, _, _, q⟩ := hs
    exact False.elim q
end L2

namespace L2
open PySem PySem.Spec PyProof.Rows
section
variable {X : Cx} {x : Str} {p pos : Pos} {e : Expr} {es : List Expr} {t : TA} {id T : String} {r : List V → Hp → VK → Prop}

def tCB (r : List V → Hp → VK → Prop) (t : TA) : TE := fun σ H Q => t σ H fun vs H1 => r vs H1 Q
/-- f(e, ..), f a built-in function -/
theorem pe_callB (hc : CallR X (.builtin id) r) (hg : Gl X x) (hm : X.mg x = none) (hv : bootBuiltins x = some (.builtin id)) (ha : PA X (e :: es) t) (hn : x ≠ "__name__" := by decide) (hdb : (x == ("__debug__" : Str)) = false := by decide)
    (he : starEach (e :: es) X.env = (false, eval e X.env) :: starEach es X.env := by rfl) (hpl : (backTo pos (starEach es X.env)).any (·.1) = false := by rfl) : PE X (.Call (.Name x p) (e :: es) [] pos) (tCB r t) := by
  intro pins s σ H Q I h
  refine wpAny_Call_Name_kw (ld_blt I hg hm hv ?_ hn hdb)
  exact PyProof.Rows.callWith_builtin1 (thn (ha pos pins s σ H _ I h) fun us s1 ⟨vs, H1, I1, r1, q1⟩ => hc pins s1 σ H1 vs us Q I1 r1 q1) he hpl
/-- T(e, ..), T a built-in type -/
theorem pe_callTy (hc : CallR X (.type T) r) (hg : Gl X x) (hm : X.mg x = none) (hv : bootBuiltins x = some (.type T)) (ha : PA X (e :: es) t) (hn : x ≠ "__name__" := by decide) (hdb : (x == ("__debug__" : Str)) = false := by decide)
    (he : starEach (e :: es) X.env = (false, eval e X.env) :: starEach es X.env := by rfl) (hpl : (backTo pos (starEach es X.env)).any (·.1) = false := by rfl) : PE X (.Call (.Name x p) (e :: es) [] pos) (tCB r t) := by
  intro pins s σ H Q I h
  refine wpAny_Call_Name_kw (ld_blt I hg hm hv ?_ hn hdb)
  exact PyProof.Rows.callWith_type1 (thn (ha pos pins s σ H _ I h) fun us s1 ⟨vs, H1, I1, r1, q1⟩ => hc pins s1 σ H1 vs us Q I1 r1 q1) he hpl
/-- T() -/
theorem pe_callTy0 (hc : CallR X (.type T) r) (hg : Gl X x) (hm : X.mg x = none) (hv : bootBuiltins x = some (.type T)) (hn : x ≠ "__name__" := by decide) (hdb : (x == ("__debug__" : Str)) = false := by decide) :
    PE X (.Call (.Name x p) [] [] pos) (tCB r tNil) := by
  intro pins s σ H Q I h
  refine wpAny_Call_Name_kw (ld_blt I hg hm hv ?_ hn hdb)
  exact PyProof.Rows.callWith_type0 (hc pins s σ H [] [] Q I .nil h)
end
end L2

namespace HT
open PySem PyProof.Rows

/-- t < u of tuples of ints -/
def lexLt : List Int → List Int → Bool
  | [], [] => false
  | [], _ :: _ => true
  | _ :: _, [] => false
  | x :: xs, y :: ys => if x = y then lexLt xs ys else decide (x < y)
theorem lexLt_cons (x y : Int) (xs ys : List Int) : lexLt (x :: xs) (y :: ys) = if x = y then lexLt xs ys else decide (x < y) := rfl
theorem lexLt_nil_nil : lexLt [] [] = false := rfl
theorem lexLt_nil_cons (y : Int) (ys : List Int) : lexLt [] (y :: ys) = true := rfl
theorem lexLt_cons_nil (x : Int) (xs : List Int) : lexLt (x :: xs) [] = false := rfl

theorem eqAt_int (A : Around) (s : Shared) (a : Int) (t : Tok) (c : Int) (u : Tok) : ∃ e, SeqAt.EqAt A s (.int a t) (.int c u) e ∧ (e = true ↔ a = c) :=
  ⟨(a == c), SeqAt.EqAt.int_int a t c u, by simp⟩
theorem rcLt_int (A : Around) (s : Shared) (a : Int) (t : Tok) (c : Int) (u : Tok) (prog : Program) (w : World) (E : Value → Shared → Prop) (Q : Value → Shared → Prop) (h : Q (.bool (decide (a < c))) s) :
    wpAny (model prog w) A (richCompare .Lt (.int a t) (.int c u)) Q E s :=
  (PyProof.Rows.lt_int h : wpAny (model prog w) A (compareOp .Lt (.int a t) (.int c u)) Q E s)

section
open PySem.SeqAt
open PySem.AutoSeq1 (wpAny_loadPart')
open PySem.MeetsSeq PySem.MeetsSeq2 PySem.MeetsSeq3

theorem tuple_lt_ints (l b : Addr) (items items2 : Array Value) (n n2 : Nat) (dd dd2 : Option Addr) (sl sl2 : Array (Option Value)) (ns ms : List Int) (hi : IntsAre items.toList ns) (hj : IntsAre items2.toList ms) :
    Meets (Builtin.«tuple.__lt__» ⟨[.ref l, .ref b], []⟩)
      (fun _ R s => s.heap.get? l = some { cls := .type "tuple", dict := dd, data := .seq items n, slots := sl } ∧ s.heap.get? b = some { cls := .type "tuple", dict := dd2, data := .seq items2 n2, slots := sl2 } ∧
        R (.ok (.ret (.bool (lexLt ns ms)))) s) :=
  .of_wp fun prog w A R s h => by
    obtain ⟨hp, g, d, tk, os⟩ := s; obtain ⟨hl, hb, h⟩ := h
    have f2 := AutoSeq1.sub_tuple_tuple
    have z1 : items.size = ns.length := by rw [← hi.length]; simp
    have z2 : items2.size = ms.length := by rw [← hj.length]; simp
    wp_walk using wpAny_loadPart' hl, wpAny_loadPart' hb, wpAny_forIn_list _ (fun rest b s' => b.1 = none ∧ s' = ⟨hp, g, d, tk, os⟩ ∧ ∃ (vs ws : List Value) (ns' ms' : List Int), rest = vs.zip ws ∧
      IntsAre vs ns' ∧ IntsAre ws ms' ∧ ns'.length + items2.size = ms'.length + items.size ∧ R (.ok (.ret (.bool (lexLt ns' ms')))) ⟨hp, g, d, tk, os⟩) _
    case turn =>
      rintro ⟨y, x⟩ rest b s' ⟨hb', rfl, vs, ws, ns', ms', hz, hvi, hwi, hlen, hR⟩
      cases hvi with
      | nil => rw [List.zip_nil_left] at hz; cases hz
      | cons a t hvi' =>
        cases hwi with
        | nil => rw [List.zip_nil_right] at hz; cases hz
        | cons c u hwi' =>
          rw [List.zip_cons_cons] at hz
          injection hz with hyx hrest
          injection hyx with hy hx
          subst hy hx
          rw [lexLt_cons] at hR
          simp only [List.length_cons] at hlen
          obtain ⟨e, he, hiff⟩ := eqAt_int A.in1 ⟨hp, g, d, tk, os⟩ a t c u
          refine wpAny_bind (he prog w _ _ ?_)
          cases e with
          | true =>
            rw [if_pos (hiff.mp rfl)] at hR
            wp_walk
            exact ⟨rfl, rfl, _, _, _, _, hrest, hvi', hwi', by omega, hR⟩
          | false =>
            rw [if_neg (fun q => absurd (hiff.mpr q) Bool.false_ne_true)] at hR
            have hri := rcLt_int A.in1 ⟨hp, g, d, tk, os⟩ a t c u prog w
            wp_walk using hri
            exact ⟨_, rfl, by simpa using hR⟩
    case fin =>
      rintro ⟨b1, b2⟩ s' ⟨hb', rfl, vs, ws, ns', ms', hz, hvi, hwi, hlen, hR⟩
      simp only at hb'
      subst hb'
      have hv : lexLt ns' ms' = decide (items.size < items2.size) := by
        cases hvi with
        | nil =>
          cases hwi with
          | nil =>
            simp only [List.length_nil] at hlen
            rw [lexLt_nil_nil]
            exact (decide_eq_false (by omega)).symm
          | cons c u hw =>
            simp only [List.length_nil, List.length_cons] at hlen
            rw [lexLt_nil_cons]
            exact (decide_eq_true (by omega)).symm
        | cons a t hv =>
          cases hwi with
          | nil =>
            simp only [List.length_nil, List.length_cons] at hlen
            rw [lexLt_cons_nil]
            exact (decide_eq_false (by omega)).symm
          | cons c u hw =>
            rw [List.zip_cons_cons] at hz
            cases hz
      rw [hv] at hR
      wp_walk
      exact ⟨_, rfl, by simpa [Builtin.Tuple.tupleCompareSizes] using hR⟩
    case h =>
      exact ⟨rfl, rfl, items.toList, items2.toList, ns, ms, rfl, hi, hj, by omega, h⟩
end

section
variable {prog : Program} {w : World} {A : Around} {E : Value → Shared → Prop} {s : Shared}

theorem lt_tupInts {l b : Addr} {items items2 : Array Value} {ns ms : List Int} {Q : Value → Shared → Prop} (hl : IsTup s.heap l items) (hb : IsTup s.heap b items2) (hi : IntsAre items.toList ns) (hj : IntsAre items2.toList ms)
    (hu : A.units < cLine) (h : Q (.bool (lexLt ns ms)) s) : wpAny (model prog w) A (compareOp .Lt (.ref l) (.ref b)) Q E s := by
  obtain ⟨⟨cls, dd, data, sl⟩, ho, hc, n, hd⟩ := id hl
  obtain ⟨⟨cls2, dd2, data2, sl2⟩, ho2, hc2, n2, hd2⟩ := id hb
  simp only at hc hd hc2 hd2
  subst hc hd hc2 hd2
  exact richCompare_meets_room (op := .Lt) ⟨_, ho, rfl⟩ ⟨_, ho2, rfl⟩ PySem.F.slot_tuple_lt PySem.F.entry_tuple_lt (PySem.F.args_tuple_lt_2 _ _) (tuple_lt_ints l b items items2 n n2 dd dd2 sl sl2 ns ms hi hj)
    ⟨ho, ho2, show Value.bool (lexLt ns ms) ≠ Value.notImplemented ∧ Q (.bool (lexLt ns ms)) s from ⟨(fun x => nomatch x), h⟩⟩ hu

/-- t + u, t not empty -/
theorem cat_tup {t b : Addr} {vs ws : List Value} {Q : Value → Shared → Prop} (ht : IsTup s.heap t vs.toArray) (hb : IsTup s.heap b ws.toArray) (hv : vs ≠ [])
    (h1 : ws = [] → Q (.ref t) s) (h2 : ws ≠ [] → Q (.ref s.heap.objs.size) { s with heap := s.heap.push { cls := .type "tuple", data := .seq (vs ++ ws).toArray } })
    (hsz : vs.length + ws.length ≤ sizeLine) : wpAny (model prog w) A (binaryOp .Add (.ref t) (.ref b)) Q E s := by
  obtain ⟨⟨cls, dd, data, sl⟩, ho, hc, n, hd⟩ := id ht
  obtain ⟨⟨cls2, dd2, data2, sl2⟩, ho2, hc2, n2, hd2⟩ := id hb
  simp only at hc hd hc2 hd2
  subst hc hd hc2 hd2
  have e : vs.toArray ++ ws.toArray = (vs ++ ws).toArray := by simp
  by_cases hw : ws = []
  · exact concat_meets ⟨_, ho, rfl⟩ ⟨_, ho2, rfl⟩ noFill_tuple_add seq_tuple_add PySem.F.slot_tuple_add PySem.F.entry_tuple_add (PySem.F.args_tuple_add_2 _ _)
      (tuple_addW1 t b vs.toArray ws.toArray n n2 dd dd2 sl sl2 (by simpa using hv) (by simp [hw])) ⟨ho, ho2, h1 hw⟩
  · refine concat_meets ⟨_, ho, rfl⟩ ⟨_, ho2, rfl⟩ noFill_tuple_add seq_tuple_add PySem.F.slot_tuple_add PySem.F.entry_tuple_add (PySem.F.args_tuple_add_2 _ _)
      (tuple_addW2 t b vs.toArray ws.toArray n n2 dd dd2 sl sl2 (by simpa using hv) (by simpa using hw) (by rw [List.size_toArray, List.size_toArray]; exact hsz)) ⟨ho, ho2, ?_⟩
    rw [e]
    exact h2 hw

/-! ### t[a:b], not the whole -/
/-- a slice's bound as a place among n (d where it is left out) -/
def sIx (n d : Nat) : Option Int → Nat
  | none => d
  | some v => if v < 0 then (v + (n : Int)).toNat else min v.toNat n
theorem sIx_none (n d : Nat) : sIx n d none = d := rfl
theorem sIx_nat (n d k : Nat) : sIx n d (some (k : Int)) = min k n := by
  show (if (k : Int) < 0 then ((k : Int) + (n : Int)).toNat else min (k : Int).toNat n) = min k n
  rw [if_neg (by omega), Int.toNat_natCast]
theorem sIx_le (n d : Nat) (hd : d ≤ n) (o : Option Int) : sIx n d o ≤ n := by
  cases o with
  | none => exact hd
  | some v =>
    show (if v < 0 then (v + (n : Int)).toNat else min v.toNat n) ≤ n
    by_cases hv : v < 0
    · rw [if_pos hv]; omega
    · rw [if_neg hv]; exact Nat.min_le_right _ _
theorem clip_eq (v : Int) (n d : Nat) : (if v < 0 then max (v + (n : Int)) 0 else min v (n : Int)) = ((sIx n d (some v) : Nat) : Int) := by
  show (if v < 0 then max (v + (n : Int)) 0 else min v (n : Int)) = (((if v < 0 then (v + (n : Int)).toNat else min v.toNat n) : Nat) : Int)
  by_cases hv : v < 0
  · simp only [if_pos hv]; omega
  · simp only [if_neg hv]; omega
theorem adjust_gen (lo hi : Option Int) (n : Nat) : Builtin.Slice.sliceAdjust lo hi 1 (n : Int) = (((sIx n 0 lo : Nat) : Int), ((sIx n n hi : Nat) : Int)) := by
  have h1 : ¬ ((1 : Int) < 0) := by omega
  unfold Builtin.Slice.sliceAdjust
  simp only [h1, if_false]
  refine Prod.ext ?_ ?_
  · cases lo with
    | none => rfl
    | some v => exact clip_eq v n 0
  · cases hi with
    | none => rfl
    | some v => exact clip_eq v n n
theorem places_gen (i j : Nat) : Builtin.Slice.slicePlaces (i : Int) (j : Int) 1 = j - i := by
  unfold Builtin.Slice.slicePlaces
  have h1 : (1 : Int) > 0 := by omega
  simp only [h1, if_true, Int.ediv_one]
  split <;> omega
theorem slicePart_ {v : Value} {o : Option Int} {Q : Option Int → Shared → Prop} (p : IsPart v o) (h : Q o s) : wpAny (model prog w) A (Builtin.Slice.slicePartIndex v) Q E s := by
  cases p with
  | none => exact slicePart_none h
  | int i t => exact slicePart_int h
theorem sliceApplied_gen {sl : Addr} {vl vu : Value} {lo hi : Option Int} {n : Nat} {Q : Int × Int × Nat → Shared → Prop} (hs : s.heap.IsSliceOf sl vl vu .none) (pl : IsPart vl lo) (pu : IsPart vu hi)
    (h : Q (((sIx n 0 lo : Nat) : Int), 1, sIx n n hi - sIx n 0 lo) s) : wpAny (model prog w) A (Builtin.Slice.sliceApplied (.ref sl) (pure (n : Int))) Q E s := by
  obtain ⟨os, hos, hcs, hds⟩ := id hs
  unfold Builtin.Slice.sliceApplied Builtin.Slice.sliceFields
  refine wpAny_bind (wpAny_bind (wpAny_field hos hds (x := vl) rfl (wpAny_bind (wpAny_field hos hds (x := vu) rfl (wpAny_bind (wpAny_field hos hds (x := .none) rfl (wpAny_pure ?_)))))))
  refine wpAny_bind (slicePart_none ?_)
  show wpAny _ _ (if ((1 : Int) == 0) = true then _ else _) _ _ s
  rw [if_neg (by decide)]
  refine wpAny_bind (slicePart_ pl (wpAny_bind (slicePart_ pu (wpAny_bind (wpAny_pure ?_)))))
  show wpAny _ _ (match Builtin.Slice.sliceAdjust lo hi 1 (n : Int) with | (lo, hi) => pure (lo, (1 : Int), Builtin.Slice.slicePlaces lo hi 1)) _ _ s
  rw [adjust_gen lo hi n]
  show wpAny _ _ (pure (((sIx n 0 lo : Nat) : Int), (1 : Int), Builtin.Slice.slicePlaces ((sIx n 0 lo : Nat) : Int) ((sIx n n hi : Nat) : Int) 1)) _ _ s
  rw [places_gen]
  exact wpAny_pure h
theorem pick_gen (xs : Array Value) (i k : Nat) : ((List.range k).filterMap fun (m : Nat) => xs[((i : Int) + (m : Int) * 1).toNat]?).toArray = ((xs.toList.drop i).take k).toArray := by
  have e : (fun (m : Nat) => xs[((i : Int) + (m : Int) * 1).toNat]?) = fun m => xs[i + m]? := by
    funext m
    have : ((i : Int) + (m : Int) * 1).toNat = i + m := by omega
    rw [this]
  rw [e]
  have := pick_run xs i k
  rw [List.filterMap_map] at this
  have e2 : ((fun x => xs[x]?) ∘ fun x => i + x) = fun m => xs[i + m]? := rfl
  rw [e2] at this
  rw [this]

theorem getItem_tuple_cut {t sl : Addr} {items : Array Value} {vl vu : Value} {lo hi : Option Int} {Q : Value → Shared → Prop} (ht : IsTup s.heap t items) (hs : s.heap.IsSliceOf sl vl vu .none) (pl : IsPart vl lo) (pu : IsPart vu hi)
    (hw : ¬ (sIx items.size 0 lo = 0 ∧ sIx items.size items.size hi = items.size))
    (h : Q (.ref s.heap.objs.size) { s with heap := s.heap.push { cls := .type "tuple", data := .seq ((items.toList.drop (sIx items.size 0 lo)).take (sIx items.size items.size hi - sIx items.size 0 lo)).toArray } })
    (hsz : items.size ≤ sizeLine) : wpAny (model prog w) A (getItem (.ref t) (.ref sl)) Q E s := by
  have htake : sizeOk (.seq ((items.toList.drop (sIx items.size 0 lo)).take (sIx items.size items.size hi - sIx items.size 0 lo)).toArray) := by
    show ((items.toList.drop (sIx items.size 0 lo)).take (sIx items.size items.size hi - sIx items.size 0 lo)).toArray.size ≤ sizeLine
    rw [List.size_toArray, List.length_take, List.length_drop, Array.length_toList]
    omega
  have hj : sIx items.size items.size hi ≤ items.size := sIx_le _ _ (Nat.le_refl _) hi
  obtain ⟨os, hos, hcs, hds⟩ := id hs
  have hTs : s.TypeIs (.ref sl) "slice" := ⟨os, hos, hcs⟩
  unfold getItem
  try with_reducible refine wpAny_holding ?_
  first | refine wpAny_bind (wpAny_pure ?_) | skip
  refine wpAny_bind (wpAny_sequenceKey ht.typeIs (by decide) ?_)
  refine wpAny_bind (wpAny_callSpecial?_slot (name := Str.ofString "__getitem__") ht.typeIs PyProof.Rows.slot_tuple_getitem
    (wpAny_call_entry PyProof.Rows.slot_tuple_getitem ht.typeIs entry_tuple_getitem ?_ (args_tuple_getitem _ _)))
  show wpAny _ _ (Builtin.Tuple.tupleItemsOf (.ref t) >>= _) _ _ s
  refine wpAny_bind (tupleItemsOf_ ht ?_)
  refine wpAny_bind (wpAny_typeOf hTs ?_)
  rw [if_pos (by decide)]
  refine wpAny_bind (sliceApplied_gen hs pl pu ?_)
  have hno : ¬ ((((sIx items.size 0 lo : Nat) : Int) == 0 && (1 : Int) == 1 && (sIx items.size items.size hi - sIx items.size 0 lo) == items.size) = true) := by
    intro q
    rw [Bool.and_eq_true, Bool.and_eq_true] at q
    have q1 : ((sIx items.size 0 lo : Nat) : Int) = 0 := eq_of_beq q.1.1
    have q2 : sIx items.size items.size hi - sIx items.size 0 lo = items.size := eq_of_beq q.2
    exact hw ⟨by omega, by omega⟩
  show wpAny _ _ (if (((sIx items.size 0 lo : Nat) : Int) == 0 && (1 : Int) == 1 && (sIx items.size items.size hi - sIx items.size 0 lo) == items.size) = true then _ else _) _ _ s
  rw [if_neg hno, pick_gen]
  first
    | exact wpAny_bind (m := Builtin.Tuple.tupleExact _) (wpAny_newObj_type (wpAny_pure ⟨_, rfl, wpAny_pure h⟩) htake)
    | exact wpAny_bind (m := Builtin.Tuple.tupleExact _) (wpAny_newObj_type (wpAny_bind (wpAny_pure (wpAny_pure ⟨_, rfl, wpAny_pure h⟩))) htake)
    | exact wpAny_bind (wpAny_bind (m := Builtin.Tuple.tupleExact _) (wpAny_newObj_type (wpAny_pure (wpAny_pure ⟨_, rfl, wpAny_pure h⟩)) htake))
    | exact wpAny_bind (wpAny_bind (m := Builtin.Tuple.tupleExact _) (wpAny_newObj_type (wpAny_pure ⟨_, rfl, wpAny_pure h⟩) htake))
end
end HT

namespace L2
open PySem PySem.Spec PyProof.Rows

/-! ### the parts of a slice -/
abbrev TO := St → Hp → (Option Int → Hp → Prop) → Prop
/-- a slice's part (left out, or an int) -/
def PO (X : Cx) (e : Option Expr) (t : TO) : Prop :=
  ∀ (pins : List (Addr × Obj)) (s : Shared) (σ : St) (H : Hp) (Q : Option Int → Hp → Prop), Inv X pins σ H s → t σ H Q →
    wpAny (model X.prog X.w) X.A (evalPart e X.env) (fun u s' => ∃ o H', Inv X pins σ H' s' ∧ IsPart u o ∧ Q o H') X.xe s
def tNoPart : TO := fun _ H Q => Q none H
def tPart (t : TE) : TO := fun σ H Q => t σ H fun x H1 => ∃ i, x = .int i ∧ Q (some i) H1

theorem intsAre_of {ns : List Int} : ∀ {us : List Value}, Vals (ns.map V.int) us → IntsAre us ns := by
  induction ns with
  | nil => intro us r; rw [List.map_nil] at r; cases r; exact .nil
  | cons n ns ih =>
    intro us r
    rw [List.map_cons] at r
    cases r with
    | cons r1 r2 =>
      obtain ⟨t, e⟩ := r1
      subst e
      exact .cons n t (ih r2)

section
variable {X : Cx} {e : Expr} {te : TE} {lo hi : Option Expr} {tl th : TO} {pos p2 : Pos}

theorem po_none : PO X none tNoPart := by
  intro pins s σ H Q I h
  rw [evalPart_none]
  exact wpAny_pure ⟨none, H, I, .none, h⟩
theorem po_some (h : PE X e te) : PO X (some e) (tPart te) := by
  intro pins s σ H Q I hw
  rw [evalPart_some]
  refine thn (h pins s σ H _ I hw) fun u s1 ⟨x, H1, I1, r1, q1⟩ => ?_
  obtain ⟨i, rfl, q⟩ := q1
  obtain ⟨t, rfl⟩ := r1
  exact ⟨some i, H1, I1, .int i t, q⟩

/-- what a slice of a value is, by values: the slice object stands at sl -/
def SlR (X : Cx) (r : V → Option Int → Option Int → Hp → VK → Prop) : Prop :=
  ∀ (pins : List (Addr × Obj)) (s : Shared) (σ : St) (H : Hp) (x : V) (v vl vu : Value) (lo hi : Option Int) (sl : Addr) (Q : VK), Inv X pins σ H s → RelV x v → s.heap.IsSliceOf sl vl vu .none → IsPart vl lo → IsPart vu hi → r x lo hi H Q →
    ∃ T id, typeLookup (.type T) "__getitem__" = pure (some (.builtin id)) ∧ s.TypeIs v T ∧ wpAny (model X.prog X.w) X.A (getItem v (.ref sl)) (EP X pins σ Q) X.xe s
theorem SlR.or {r r' : V → Option Int → Option Int → Hp → VK → Prop} (h : SlR X r) (h' : SlR X r') : SlR X (fun x lo hi H Q => r x lo hi H Q ∨ r' x lo hi H Q) := by
  intro pins s σ H x v vl vu lo hi sl Q I rx hs pl pu q
  rcases q with q | q
  · exact h pins s σ H x v vl vu lo hi sl Q I rx hs pl pu q
  · exact h' pins s σ H x v vl vu lo hi sl Q I rx hs pl pu q
def tSl (r : V → Option Int → Option Int → Hp → VK → Prop) (te : TE) (tl th : TO) : TE := fun σ H Q => te σ H fun x H1 => tl σ H1 fun l H2 => th σ H2 fun u H3 => r x l u H3 Q
/-- a[lo:hi], any a -/
theorem pe_slice {r : V → Option Int → Option Int → Hp → VK → Prop} (hr : SlR X r) (he : PE X e te) (hl : PO X lo tl) (hu : PO X hi th) : PE X (.Subscript e (.Slice lo hi none p2) pos) (tSl r te tl th) := by
  intro pins s σ H Q I h
  refine Subscript_ (thn (he pins s σ H _ I h) fun v s1 ⟨x, H1, I1, r1, q1⟩ => ?_)
  refine wpAny_Slice (thn (hl pins s1 σ H1 _ I1 q1) fun vl s2 ⟨l, H2, I2, pl, q2⟩ => thn (hu pins s2 σ H2 _ I2 q2) fun vu s3 ⟨u, H3, I3, pu, q3⟩ => ?_)
  rw [evalPart_none]
  refine wpAny_pure ?_
  have I4 : Inv X pins σ H3 { s3 with heap := s3.heap.push { cls := .type "slice", data := .fields #[vl, vu, .none] } } := I3.kept (t' := s3.toks) fun b ob q => Heap.get?_push_of_some _ q
  obtain ⟨T, id, hT, ht, hg⟩ := hr pins { s3 with heap := s3.heap.push { cls := .type "slice", data := .fields #[vl, vu, .none] } } σ H3 x v vl vu l u s3.heap.objs.size Q I4 r1 (Heap.IsSliceOf.new ..) pl pu q3
  show wpAny (model X.prog X.w) X.A (subscriptTail e (.Slice lo hi none p2) v (.ref s3.heap.objs.size)) (EP X pins σ Q) X.xe { s3 with heap := s3.heap.push { cls := .type "slice", data := .fields #[vl, vu, .none] } }
  exact tail_any (ops := [.ref s3.heap.objs.size, v]) ht hT hg (by with_unfolding_all rfl)

/-- the items of xs[lo:hi] -/
def cutV (xs : List V) (lo hi : Option Int) : List V := (xs.drop (HT.sIx xs.length 0 lo)).take (HT.sIx xs.length xs.length hi - HT.sIx xs.length 0 lo)
theorem cutV_length (xs : List V) (lo hi : Option Int) : (cutV xs lo hi).length ≤ xs.length := by
  unfold cutV
  rw [List.length_take, List.length_drop]
  omega
/-- t[lo:hi], not the whole of it (the whole would be t itself) -/
def rSlT (K : PySem.W.Frag) : V → Option Int → Option Int → Hp → VK → Prop := fun x lo hi H Q => ∃ a xs, x = .ref a ∧ SqT K H a xs ∧
  ¬ (HT.sIx xs.length 0 lo = 0 ∧ HT.sIx xs.length xs.length hi = xs.length) ∧ ∀ p, H p = none → Q (.ref p) (upd H p (.tup (cutV xs lo hi)))
theorem sl_tup : SlR X (rSlT X.K) := by
  intro pins s σ H x v vl vu lo hi sl Q I rx hs pl pu h
  obtain ⟨a, xs, rfl, hx, hw, q⟩ := h
  cases rx
  obtain ⟨its, r, ht, hz⟩ := I.tuple hx
  have hlen : its.toArray.size = xs.length := by rw [List.size_toArray]; exact r.length.symm
  refine ⟨"tuple", _, PyProof.Rows.slot_tuple_getitem.lookup, ht.typeIs, ?_⟩
  refine HT.getItem_tuple_cut ht hs pl pu (by rw [hlen]; exact hw) ?_ (by rw [hlen]; exact hz)
  rw [hlen]
  refine ⟨.ref s.heap.objs.size, _, I.laid (t' := s.toks) (o := .tup (cutV xs lo hi)) (fun b ob q => Heap.get?_push_of_some _ q) (Nat.le_refl _) ?_, rfl, q _ (I.hok.fresh (Nat.le_refl _))⟩
  exact ⟨Nat.le_trans (cutV_length xs lo hi) hz, _, (r.drop (HT.sIx xs.length 0 lo)).take (HT.sIx xs.length xs.length hi - HT.sIx xs.length 0 lo), IsTup.new _ _⟩

/-! ### t < u, t + u -/
def rLtT (K : PySem.W.Frag) : R2 := fun x y H Q => ∃ a b ns ms, x = .ref a ∧ y = .ref b ∧ SqT K H a (ns.map V.int) ∧ SqT K H b (ms.map V.int) ∧ Q (.bl (HT.lexLt ns ms)) H
theorem op_ltT (hu : X.A.units < cLine) : OpR X (compareOp .Lt) (rLtT X.K) := by
  intro pins s σ H x y v u Q I rx ry h
  obtain ⟨a, b, ns, ms, rfl, rfl, ha, hb, q⟩ := h
  cases rx
  cases ry
  obtain ⟨its, r1, p1, _⟩ := I.tuple ha
  obtain ⟨its2, r2, p2, _⟩ := I.tuple hb
  have i1 : IntsAre its.toArray.toList ns := intsAre_of r1
  have i2 : IntsAre its2.toArray.toList ms := intsAre_of r2
  exact HT.lt_tupInts p1 p2 i1 i2 hu ⟨.bl (HT.lexLt ns ms), H, I, rfl, q⟩
/-- t + u, t not empty: u empty gives t itself -/
def rCatT (K : PySem.W.Frag) : R2 := fun x y H Q => ∃ a b xs ys, x = .ref a ∧ y = .ref b ∧ SqT K H a xs ∧ SqT K H b ys ∧ xs ≠ [] ∧ xs.length + ys.length ≤ sizeLine ∧
  (ys = [] → Q (.ref a) H) ∧ (ys ≠ [] → ∀ p, H p = none → Q (.ref p) (upd H p (.tup (xs ++ ys))))
theorem Vals.nil_iff {xs : List V} {us : List Value} (r : Vals xs us) : us = [] ↔ xs = [] := by
  cases r with
  | nil => simp
  | cons _ _ => simp
theorem op_catT : OpR X (binaryOp .Add) (rCatT X.K) := by
  intro pins s σ H x y v u Q I rx ry h
  obtain ⟨a, b, xs, ys, rfl, rfl, ha, hb, hx, hz, q1, q2⟩ := h
  cases rx
  cases ry
  obtain ⟨its, r1, p1, _⟩ := I.tuple ha
  obtain ⟨its2, r2, p2, _⟩ := I.tuple hb
  refine HT.cat_tup p1 p2 (fun z => hx (r1.nil_iff.mp z)) (fun z => ⟨.ref a, H, I, rfl, q1 (r2.nil_iff.mp z)⟩) (fun z => ?_) (by rw [← r1.length, ← r2.length]; exact hz)
  refine ⟨.ref s.heap.objs.size, _, I.laid (t' := s.toks) (o := .tup (xs ++ ys)) (fun b ob q => Heap.get?_push_of_some _ q) (Nat.le_refl _) ?_, rfl, q2 (fun w => z (r2.nil_iff.mpr w)) _ (I.hok.fresh (Nat.le_refl _))⟩
  exact ⟨by rw [List.length_append]; exact hz, _, r1.append r2, IsTup.new _ _⟩
/-- tuple(t) -/
theorem call_tupleT : CallR X (.type "tuple") (fun xs H Q => ∃ a ys, xs = [.ref a] ∧ SqT X.K H a ys ∧ Q (.ref a) H) := by
  intro pins s σ H xs us Q I r h
  obtain ⟨a, ys, rfl, ha, q⟩ := h
  obtain ⟨u, rfl, ru⟩ := vals1 r
  cases ru
  obtain ⟨its, _, p1, _⟩ := I.tuple ha
  exact call_tuple_same (items := its.toArray) p1 ⟨.ref a, H, I, rfl, q⟩
end
end L2

namespace L2
open PySem PySem.Spec PyProof.Rows

/-! ### places -/
/-- the place that an index of any sign means -/
def ixN (n : Nat) (i : Int) : Option Nat := if 0 ≤ i then (if i < n then some i.toNat else none) else if -(n : Int) ≤ i then some (i + n).toNat else none
def atI {α : Type} (xs : List α) (i : Int) : Option α := (ixN xs.length i).bind fun j => xs[j]?
theorem ixN_seq {n : Nat} {i : Int} {j : Nat} (h : ixN n i = some j) : seqIndex? i n = some j ∧ j < n ∧ -(n : Int) ≤ i ∧ i < n := by
  unfold ixN at h
  by_cases h0 : 0 ≤ i
  · rw [if_pos h0] at h
    by_cases h1 : i < n
    · rw [if_pos h1] at h
      have e : i.toNat = j := Option.some.inj h
      exact ⟨by rw [seqIndex_of h0 h1, e], by omega, by omega, h1⟩
    · rw [if_neg h1] at h; cases h
  · rw [if_neg h0] at h
    by_cases h1 : -(n : Int) ≤ i
    · rw [if_pos h1] at h
      have e : (i + n).toNat = j := Option.some.inj h
      exact ⟨by rw [seqIndex_neg (by omega) h1, e], by omega, h1, by omega⟩
    · rw [if_neg h1] at h; cases h
theorem atI_get {α : Type} {xs : List α} {i : Int} {v : α} (h : atI xs i = some v) : ∃ j, seqIndex? i xs.length = some j ∧ xs[j]? = some v ∧ j < xs.length ∧ -(xs.length : Int) ≤ i ∧ i < xs.length := by
  unfold atI at h
  cases e : ixN xs.length i with
  | none => rw [e] at h; cases h
  | some j =>
    rw [e] at h
    obtain ⟨h1, h2, h3, h4⟩ := ixN_seq e
    exact ⟨j, h1, h, h2, h3, h4⟩
theorem atI_nat {α : Type} {xs : List α} {j : Nat} {v : α} (h : xs[j]? = some v) : atI xs (j : Int) = some v := by
  have hj : j < xs.length := (List.getElem?_eq_some_iff.mp h).1
  have e : ixN xs.length (j : Int) = some j := by
    unfold ixN
    rw [if_pos (by omega), if_pos (by omega)]; simp
  unfold atI; rw [e]; exact h
theorem atI_last {α : Type} (xs : List α) (v : α) : atI (xs ++ [v]) (-1) = some v := by
  have hl : (xs ++ [v]).length = xs.length + 1 := by simp
  have e : ixN (xs ++ [v]).length (-1) = some xs.length := by
    unfold ixN
    rw [hl, if_neg (by decide), if_pos (by omega)]
    congr 1
    omega
  unfold atI
  rw [e]
  show (xs ++ [v])[xs.length]? = some v
  simp

/-! ### what may be subscripted -/
/-- what stands as an index of a plain subscript -/
def PlainIx (b : Expr) : Prop := ∀ o i, subscripted b false o i = operate [o, i] (getItem o i)
/-- a subscript by values -/
def IxR (X : Cx) (r : R2) : Prop :=
  ∀ (value slice : Expr) (pins : List (Addr × Obj)) (s : Shared) (σ : St) (H : Hp) (x y : V) (v u : Value) (Q : VK), Inv X pins σ H s → RelV x v → RelV y u → r x y H Q →
    subscripted slice false v u = operate [v, u] (getItem v u) → wpAny (model X.prog X.w) X.A (subscriptTail value slice v u) (EP X pins σ Q) X.xe s
/-- a call of a builtin's method by values: the receiver, the arguments -/
def MtR (X : Cx) (id : String) (r : V → List V → Hp → VK → Prop) : Prop :=
  ∀ (pins : List (Addr × Obj)) (s : Shared) (σ : St) (H : Hp) (x : V) (xs : List V) (v : Value) (us : List Value) (Q : VK), Inv X pins σ H s → RelV x v → Vals xs us → r x xs H Q →
    wpAny (model X.prog X.w) X.A (call (.builtin id) (v :: us)) (EP X pins σ Q) X.xe s
section
variable {X : Cx} {a b : Expr} {ta tb : TE} {pos : Pos}
theorem IxR.or {r r' : R2} (h : IxR X r) (h' : IxR X r') : IxR X (fun x y H Q => r x y H Q ∨ r' x y H Q) := by
  intro value slice pins s σ H x y v u Q I rx ry q hs
  rcases q with q | q
  · exact h value slice pins s σ H x y v u Q I rx ry q hs
  · exact h' value slice pins s σ H x y v u Q I rx ry q hs
theorem MtR.or {id : String} {r r' : V → List V → Hp → VK → Prop} (h : MtR X id r) (h' : MtR X id r') : MtR X id (fun x xs H Q => r x xs H Q ∨ r' x xs H Q) := by
  intro pins s σ H x xs v us Q I rx rs q
  rcases q with q | q
  · exact h pins s σ H x xs v us Q I rx rs q
  · exact h' pins s σ H x xs v us Q I rx rs q
/-- a[b] -/
theorem pe_ix {r : R2} (hr : IxR X r) (ha : PE X a ta) (hb : PE X b tb) (hs : PlainIx b) : PE X (.Subscript a b pos) (tOp r ta tb) := by
  intro pins s σ H Q I h
  exact Subscript_ (binT ha hb I h fun v u s2 x y H2 I2 rx ry q => hr a b pins s2 σ H2 x y v u Q I2 rx ry q (hs _ _))

def rIxL (K : PySem.W.Frag) : R2 := fun x y H Q => ∃ p xs i v, x = .ref p ∧ y = .int i ∧ SqL K H p xs ∧ atI xs i = some v ∧ Q v H
def rIxT (K : PySem.W.Frag) : R2 := fun x y H Q => ∃ p xs i v, x = .ref p ∧ y = .int i ∧ SqT K H p xs ∧ atI xs i = some v ∧ Q v H
def rIxS : R2 := fun x y H Q => ∃ z i c, x = .str z ∧ y = .int i ∧ z.length ≤ sizeLine ∧ atI z.cps.toList i = some c ∧ Q (.str ⟨#[c]⟩) H
theorem ix_list : IxR X (rIxL X.K) := by
  intro value slice pins s σ H x y v u Q I rx ry h hs
  obtain ⟨p, xs, i, z, rfl, rfl, hq, he, q⟩ := h
  cases rx
  obtain ⟨t, rfl⟩ := ry
  obtain ⟨its, r, pl, hz⟩ := I.list hq
  obtain ⟨j, h1, h2, h3, h4, h5⟩ := atI_get he
  obtain ⟨w, ew, rw'⟩ := r.get h2
  have hl := r.length
  have hn := line63
  have fin : EP X pins σ Q w s := ⟨z, H, I, rw', q⟩
  by_cases h0 : 0 ≤ i
  · have hj : i.toNat = j := by
      rw [seqIndex_of h0 h5] at h1
      exact Option.some.inj h1
    exact item_listR pl.isList h0 (by omega) (by rw [hj]; simpa using ew) fin hs
  · have hj : (i + (its.toArray.size : Int)).toNat = j := by
      rw [seqIndex_neg (by omega) h4] at h1
      rw [List.size_toArray, ← hl]
      exact Option.some.inj h1
    exact subscriptTail_builtinR (x := w) pl.isList.typeIs slot_list_getitem.lookup
      (wpAny_getItem_list_neg (Q := fun r s' => r = w ∧ EP X pins σ Q r s') pl.isList (by omega) (by rw [List.size_toArray] <;> omega) (by omega) (by rw [hj]; simpa using ew) ⟨rfl, fin⟩) hs
theorem ix_tup : IxR X (rIxT X.K) := by
  intro value slice pins s σ H x y v u Q I rx ry h hs
  obtain ⟨p, xs, i, z, rfl, rfl, hq, he, q⟩ := h
  cases rx
  obtain ⟨t, rfl⟩ := ry
  obtain ⟨its, r, pl, hz⟩ := I.tuple hq
  obtain ⟨j, h1, h2, h3, h4, h5⟩ := atI_get he
  obtain ⟨w, ew, rw'⟩ := r.get h2
  have hl := r.length
  have hn := line63
  have fin : EP X pins σ Q w s := ⟨z, H, I, rw', q⟩
  exact subscriptTail_builtinR (x := w) pl.typeIs slot_tuple_getitem.lookup
    (getItem_tuple (j := j) (Q := fun r s' => r = w ∧ EP X pins σ Q r s') pl (by omega) (by omega) (by rw [List.size_toArray, ← hl]; exact h1) (by simpa using ew) ⟨rfl, fin⟩) hs
theorem ix_str : IxR X rIxS := by
  intro value slice pins s σ H x y v u Q I rx ry h hs
  obtain ⟨z, i, c, rfl, rfl, hz, he, q⟩ := h
  obtain ⟨t, rfl⟩ := rx
  obtain ⟨t', rfl⟩ := ry
  obtain ⟨j, h1, h2, h3, h4, h5⟩ := atI_get he
  have hl : z.cps.toList.length = z.length := by simp [Str.length]
  rw [hl] at h1 h4 h5
  have hn := line63
  exact tail_any (typeIs_str s z t) slot_str_getitem.lookup (getItem_str (c := c) (by
    have e1 : decide (i < -(2 ^ 63 : Int)) = false := decide_eq_false (by omega)
    have e2 : decide (i ≥ 2 ^ 63) = false := decide_eq_false (by omega)
    rw [e1, e2, Bool.or_false]) (by rw [h1]; simpa using h2) ⟨.str ⟨#[c]⟩, H, I.tok _, ⟨_, rfl⟩, q⟩) hs
/-- list, tuple or str -/
def rIx (K : PySem.W.Frag) : R2 := fun x y H Q => rIxL K x y H Q ∨ rIxT K x y H Q ∨ rIxS x y H Q
theorem ix_seq : IxR X (rIx X.K) := ix_list.or (ix_tup.or ix_str)

/-! ### xs[i] = v, any sign -/
/-- the list's object behind a store -/
theorem mapSeq_set (its : List Value) (n j : Nat) (u : Value) : Obj.mapSeq (·.setIfInBounds j u) { cls := .type "list", data := .seq its.toArray n } = { cls := .type "list", data := .seq (its.set j u).toArray n } := by
  simp [Obj.mapSeq]
theorem Inv.lst {pins : List (Addr × Obj)} {σ : St} {H : Hp} {s : Shared} {p : Addr} {xs : List V} (I : Inv X pins σ H s) (h : H p = some (.lst xs)) :
    ∃ (its : List Value) (n : Nat), Vals xs its ∧ s.heap.get? p = some { cls := .type "list", data := .seq its.toArray n } ∧ xs.length ≤ sizeLine := by
  obtain ⟨z, its, n, r, e⟩ := I.hok p _ h
  exact ⟨its, n, r, e, z⟩
/-- the list at p is written by an update of its object -/
theorem Inv.lstUpd {pins : List (Addr × Obj)} {σ : St} {H : Hp} {s : Shared} {p : Addr} {xs ys : List V} {its its' : List Value} {n n' : Nat} {f : Obj → Obj} (I : Inv X pins σ H s) (h : H p = some (.lst xs))
    (ho : s.heap.get? p = some { cls := .type "list", data := .seq its.toArray n }) (hf : f { cls := .type "list", data := .seq its.toArray n } = { cls := .type "list", data := .seq its'.toArray n' }) (r : Vals ys its') (hz : ys.length ≤ sizeLine) (t : Nat) :
    Inv X pins σ (upd H p (.lst ys)) { s with heap := s.heap.update p f, toks := t } := by
  have e : (s.heap.update p f).get? p = some { cls := .type "list", data := .seq its'.toArray n' } := by
    rw [Heap.get?_update_self f ho (by rw [hf] <;> rfl), hf]
  refine I.write (x := p) (e := p) (by rw [h]; trivial) (.inl rfl) (fun b u hb q => (Heap.get?_update_other _ _ (Ne.symm hb)).trans q) ⟨_, e⟩ ?_
  exact ⟨hz, its', n', r, e⟩
def rSetL : V → V → V → Hp → (Hp → Prop) → Prop := fun o i v H Q => ∃ p xs k j, o = .ref p ∧ i = .int k ∧ H p = some (.lst xs) ∧ ixN xs.length k = some j ∧ Q (upd H p (.lst (xs.set j v)))
theorem set_list : PSet X rSetL := by
  intro pins s σ H o i v ov iv u Q I ro ri rv h
  obtain ⟨p, xs, k, j, rfl, rfl, hp, hj, q⟩ := h
  cases ro
  obtain ⟨t, rfl⟩ := ri
  obtain ⟨its, n, r, ho, hz⟩ := I.lst hp
  obtain ⟨h1, h2, h3, h4⟩ := ixN_seq hj
  have hl := r.length
  have hn := line63
  have I' : Inv X pins σ (upd H p (.lst (xs.set j v))) { s with heap := s.heap.update p (Obj.mapSeq (·.setIfInBounds j u)) } :=
    I.lstUpd hp ho (mapSeq_set its n j u) (r.set rv j) (by rw [List.length_set]; exact hz) s.toks
  by_cases h0 : 0 ≤ k
  · have hk : k.toNat = j := by
      rw [seqIndex_of h0 h4] at h1
      exact Option.some.inj h1
    exact PySem.W.ki_setAt ho h0 (by omega) (by rw [List.size_toArray, ← hl]; exact h4) (by rw [hk]; exact ⟨_, I', q⟩)
  · have hk : (k + (its.toArray.size : Int)).toNat = j := by
      rw [seqIndex_neg (by omega) h3] at h1
      rw [List.size_toArray, ← hl]
      exact Option.some.inj h1
    exact PySem.W.ki_setBack ho (by omega) (by rw [List.size_toArray, ← hl]; exact h3) (by omega) (by rw [hk]; exact ⟨_, I', q⟩)

/-! ### slices -/
theorem slice_bounds (lo hi : Option Int) (n : Nat) : (sliceBounds lo hi none n).1 = ((HT.sIx n 0 lo : Nat) : Int) ∧ (sliceBounds lo hi none n).2.1 = ((HT.sIx n n hi : Nat) : Int) ∧ (sliceBounds lo hi none n).2.2 = 1 := by
  refine ⟨?_, ?_, rfl⟩
  · cases lo with
    | none => simp [sliceBounds, HT.sIx]
    | some i =>
      simp only [sliceBounds, HT.sIx, Option.getD_none, show (1 : Int) > 0 by decide, if_true]
      by_cases h : i < 0
      · simp only [h, if_true] <;> omega
      · simp only [h, if_false] <;> omega
  · cases hi with
    | none => simp [sliceBounds, HT.sIx]
    | some i =>
      simp only [sliceBounds, HT.sIx, Option.getD_none, show (1 : Int) > 0 by decide, if_true]
      by_cases h : i < 0
      · simp only [h, if_true] <;> omega
      · simp only [h, if_false] <;> omega
theorem slicePick_cut (its : List Value) (lo hi : Option Int) : slicePick its.toArray lo hi none = ((its.drop (HT.sIx its.length 0 lo)).take (HT.sIx its.length its.length hi - HT.sIx its.length 0 lo)).toArray := by
  obtain ⟨h1, h2, h3⟩ := slice_bounds lo hi its.toArray.size
  unfold slicePick
  rw [h1, h2, h3]
  simp only [sliceRange_one, pick_run, List.size_toArray] <;> rfl
/-- xs[lo:hi] of a list: a new list -/
def rSlL (K : PySem.W.Frag) : V → Option Int → Option Int → Hp → VK → Prop := fun x lo hi H Q => ∃ a xs, x = .ref a ∧ SqL K H a xs ∧ ∀ p, H p = none → Q (.ref p) (upd H p (.lst (cutV xs lo hi)))
theorem sl_list : SlR X (rSlL X.K) := by
  intro pins s σ H x v vl vu lo hi sl Q I rx hs pl pu h
  obtain ⟨a, xs, rfl, hx, q⟩ := h
  cases rx
  obtain ⟨its, r, ht, hz⟩ := I.list hx
  have hlen := r.length
  refine ⟨"list", _, slot_list_getitem.lookup, ht.isList.typeIs, ?_⟩
  refine wpAny_getItem_list_slice ht.isList hs pl pu .none (by simp) ?_ (by rw [List.size_toArray] <;> omega)
  rw [slicePick_cut, ← hlen]
  refine ⟨.ref s.heap.objs.size, _, I.laid (t' := s.toks) (o := .lst (cutV xs lo hi)) (fun b ob q => Heap.get?_push_of_some _ q) (Nat.le_refl _) ?_, rfl, q _ (I.hok.fresh (Nat.le_refl _))⟩
  exact ⟨Nat.le_trans (cutV_length xs lo hi) hz, _, 0, (r.drop (HT.sIx xs.length 0 lo)).take (HT.sIx xs.length xs.length hi - HT.sIx xs.length 0 lo), Heap.get?_push_size _ rfl⟩

/-! ### in, not in: flat items -/
def flatV : V → Bool
  | .non => true
  | .bl _ => true
  | .int _ => true
  | .str _ => true
  | _ => false
/-- == of flat values -/
def eqV : V → V → Bool
  | .non, .non => true
  | .bl a, .bl b => a == b
  | .bl a, .int b => (if a then 1 else 0) == b
  | .int a, .bl b => a == (if b then 1 else 0)
  | .int a, .int b => a == b
  | .str a, .str b => a == b
  | _, _ => false
theorem eqAt_V {A : Around} {s : Shared} {y x : V} {u v : Value} (ry : RelV y u) (rx : RelV x v) (fy : flatV y = true) (fx : flatV x = true) : SeqAt.EqAt A s u v (eqV y x) := by
  cases y with
  | non =>
    cases ry
    cases x with
    | non => cases rx; exact SeqAt.EqAt.same _
    | bl b => cases rx; exact SeqAt.EqAt.none_bool b
    | int b => obtain ⟨t, rfl⟩ := rx; exact SeqAt.EqAt.none_int b t
    | str b => obtain ⟨t, rfl⟩ := rx; exact SeqAt.EqAt.none_str b t
    | _ => exact absurd (show false = true from fx) Bool.false_ne_true
  | bl a =>
    cases ry
    cases x with
    | non => cases rx; exact SeqAt.EqAt.bool_none a
    | bl b => cases rx; exact SeqAt.EqAt.bool_bool a b
    | int b => obtain ⟨t, rfl⟩ := rx; exact SeqAt.EqAt.bool_int a b t
    | str b => obtain ⟨t, rfl⟩ := rx; exact SeqAt.EqAt.bool_str a b t
    | _ => exact absurd (show false = true from fx) Bool.false_ne_true
  | int a =>
    obtain ⟨t', rfl⟩ := ry
    cases x with
    | non => cases rx; exact SeqAt.EqAt.int_none a t'
    | bl b => cases rx; exact SeqAt.EqAt.int_bool a t' b
    | int b => obtain ⟨t, rfl⟩ := rx; exact SeqAt.EqAt.int_int a t' b t
    | str b => obtain ⟨t, rfl⟩ := rx; exact SeqAt.EqAt.int_str a t' b t
    | _ => exact absurd (show false = true from fx) Bool.false_ne_true
  | str a =>
    obtain ⟨t', rfl⟩ := ry
    cases x with
    | non => cases rx; exact SeqAt.EqAt.str_none a t'
    | bl b => cases rx; exact SeqAt.EqAt.str_bool a t' b
    | int b => obtain ⟨t, rfl⟩ := rx; exact SeqAt.EqAt.str_int a t' b t
    | str b => obtain ⟨t, rfl⟩ := rx; exact SeqAt.EqAt.str_str a t' b t
    | _ => exact absurd (show false = true from fx) Bool.false_ne_true
  | _ => exact absurd (show false = true from fy) Bool.false_ne_true
/-- the items' answers, read off the values (a value's own answer does not lean on its token) -/
def eqU (x : V) (u : Value) : Bool := match u with
  | .none => eqV .non x
  | .bool b => eqV (.bl b) x
  | .int i _ => eqV (.int i) x
  | .str z _ => eqV (.str z) x
  | _ => false
theorem eqU_of {x y : V} {u : Value} (r : RelV y u) (f : flatV y = true) : eqU x u = eqV y x := by
  cases y with
  | non => cases r; rfl
  | bl b => cases r; rfl
  | int i => obtain ⟨t, rfl⟩ := r; rfl
  | str z => obtain ⟨t, rfl⟩ := r; rfl
  | _ => exact absurd (show false = true from f) Bool.false_ne_true
theorem any_eqU {x : V} : ∀ {xs : List V} {us : List Value}, Vals xs us → xs.all flatV = true → us.any (eqU x) = xs.any fun y => eqV y x
  | _, _, .nil, _ => rfl
  | y :: xs, u :: us, .cons r t, f => by
    rw [List.all_cons, Bool.and_eq_true] at f
    rw [List.any_cons, List.any_cons, eqU_of r f.1, any_eqU t f.2]
theorem mem_eqAt {A : Around} {s : Shared} {x : V} {v : Value} (rx : RelV x v) (fx : flatV x = true) : ∀ {xs : List V} {us : List Value}, Vals xs us → xs.all flatV = true → ∀ u ∈ us, SeqAt.EqAt A s u v (eqU x u)
  | _, _, .nil, _ => fun u hu => by cases hu
  | y :: xs, u :: us, .cons r t, f => fun u' hu => by
    rw [List.all_cons, Bool.and_eq_true] at f
    rcases List.mem_cons.mp hu with rfl | hu
    · rw [eqU_of r f.1]; exact eqAt_V r rx f.1 fx
    · exact mem_eqAt rx fx t f.2 u' hu
def inV (x : V) (xs : List V) : Bool := xs.any fun y => eqV y x
/-- x in a list or tuple of flat items -/
def rIn (K : PySem.W.Frag) (neg : Bool) : R2 := fun x y H Q => ∃ p xs, y = .ref p ∧ (SqL K H p xs ∨ SqT K H p xs) ∧ flatV x = true ∧ xs.all flatV = true ∧ Q (.bl (if neg then !inV x xs else inV x xs)) H
theorem op_in_seq : OpR X (compareOp .In) (rIn X.K false) := by
  intro pins s σ H x y v u Q I rx ry h
  obtain ⟨p, xs, rfl, hq, fx, fs, q⟩ := h
  cases ry
  rcases hq with hq | hq
  · obtain ⟨its, r, pl, hz⟩ := I.list hq
    refine SeqAt.in_listAt (eqU x) pl.isList (fun w hw => mem_eqAt rx fx r fs w (by simpa using hw)) ⟨.bl _, H, I, rfl, ?_⟩
    rw [show its.toArray.any (eqU x) = its.any (eqU x) by simp, any_eqU r fs]
    exact q
  · obtain ⟨its, r, pl, hz⟩ := I.tuple hq
    refine SeqAt.in_tupleAt (eqU x) pl (fun w hw => mem_eqAt rx fx r fs w (by simpa using hw)) ⟨.bl _, H, I, rfl, ?_⟩
    rw [show its.toArray.any (eqU x) = its.any (eqU x) by simp, any_eqU r fs]
    exact q
theorem op_notIn_seq : OpR X (compareOp .NotIn) (rIn X.K true) := by
  intro pins s σ H x y v u Q I rx ry h
  obtain ⟨p, xs, rfl, hq, fx, fs, q⟩ := h
  cases ry
  rcases hq with hq | hq
  · obtain ⟨its, r, pl, hz⟩ := I.list hq
    refine SeqAt.notIn_listAt (eqU x) pl.isList (fun w hw => mem_eqAt rx fx r fs w (by simpa using hw)) ⟨.bl _, H, I, rfl, ?_⟩
    rw [show its.toArray.any (eqU x) = its.any (eqU x) by simp, any_eqU r fs]
    exact q
  · obtain ⟨its, r, pl, hz⟩ := I.tuple hq
    refine SeqAt.notIn_tupleAt (eqU x) pl (fun w hw => mem_eqAt rx fx r fs w (by simpa using hw)) ⟨.bl _, H, I, rfl, ?_⟩
    rw [show its.toArray.any (eqU x) = its.any (eqU x) by simp, any_eqU r fs]
    exact q
theorem op_notIn_str : OpR X (compareOp .NotIn) (fun x y H Q => ∃ i j, x = .str i ∧ y = .str j ∧ Q (.bl (!(!(Builtin.Str.occurrences j i 0 j.length 1).isEmpty))) H) := by
  intro pins s σ H x y v u Q I rx ry h
  obtain ⟨i, j, rfl, rfl, q⟩ := h
  obtain ⟨t, rfl⟩ := rx
  obtain ⟨t', rfl⟩ := ry
  exact notIn_str ⟨.bl _, H, I, rfl, q⟩

/-! ### len, list(x), tuple(x) of any list or tuple that is read -/
theorem call_len_seq : CallR X (.builtin "len") (fun xs H Q => ∃ p ys, xs = [.ref p] ∧ (SqL X.K H p ys ∨ SqT X.K H p ys) ∧ Q (.int ys.length) H) := by
  intro pins s σ H xs us Q I r h
  obtain ⟨p, ys, rfl, hq, q⟩ := h
  obtain ⟨u, rfl, rx⟩ := vals1 r
  cases rx
  have hn := line63
  rcases hq with hq | hq
  · obtain ⟨its, r', pl, hz⟩ := I.list hq
    have hlen := r'.length
    exact Calls.call_len_list pl.isList (by simp only [List.size_toArray] <;> omega) ⟨.int ys.length, H, I.tok _, ⟨s.toks + 1, by rw [List.size_toArray, hlen]⟩, q⟩
  · obtain ⟨its, r', pl, hz⟩ := I.tuple hq
    have hlen := r'.length
    exact len_tuple pl (by simp only [List.size_toArray] <;> omega) ⟨.int ys.length, H, I.tok _, ⟨s.toks + 1, by rw [List.size_toArray, hlen]⟩, q⟩
theorem call_len_str : CallR X (.builtin "len") (fun xs H Q => ∃ z, xs = [.str z] ∧ z.length ≤ sizeLine ∧ Q (.int z.length) H) := by
  intro pins s σ H xs us Q I r h
  obtain ⟨z, rfl, hz, q⟩ := h
  obtain ⟨u, rfl, t, rfl⟩ := vals1 r
  have hn := line63
  exact len_str (by omega) ⟨.int z.length, H, I.tok _, ⟨_, rfl⟩, q⟩
theorem CallR.or {f : Value} {r r' : List V → Hp → VK → Prop} (h : CallR X f r) (h' : CallR X f r') : CallR X f (fun xs H Q => r xs H Q ∨ r' xs H Q) := by
  intro pins s σ H xs us Q I rs q
  rcases q with q | q
  · exact h pins s σ H xs us Q I rs q
  · exact h' pins s σ H xs us Q I rs q
theorem call_list_of : CallR X (.type "list") (fun xs H Q => ∃ p ys, xs = [.ref p] ∧ (SqL X.K H p ys ∨ SqT X.K H p ys) ∧ ∀ l, H l = none → Q (.ref l) (upd H l (.lst ys))) := by
  intro pins s σ H xs us Q I r h
  obtain ⟨p, ys, rfl, hq, q⟩ := h
  obtain ⟨u, rfl, rx⟩ := vals1 r
  cases rx
  have fin : ∀ (its : List Value), Vals ys its → ys.length ≤ sizeLine → ∀ (h' : Heap) (c' : Nat), (∀ b o', s.heap.get? b = some o' → h'.get? b = some o') →
      h'.get? s.heap.objs.size = some { cls := .type "list", dict := none, data := .seq its.toArray c', slots := #[] } → EP X pins σ Q (.ref s.heap.objs.size) { s with heap := h' } := fun its r' hz h' c' kp e =>
    ⟨.ref s.heap.objs.size, _, I.laid (t' := s.toks) kp (Nat.le_refl _) (show ObjOk X.prog X.w _ h' _ (.lst ys) from ⟨hz, its, c', r', e⟩), rfl, q _ (I.hok.fresh (Nat.le_refl _))⟩
  rcases hq with hq | hq
  · obtain ⟨its, r', pl, hz⟩ := I.list hq
    have hlen := r'.length
    obtain ⟨o, ho, hc, n, hd⟩ := pl.isList
    exact call_list_seq p (.inl rfl) ho hc hd (fun h' c' kp e => fin its r' hz h' c' kp e) (by simp only [List.size_toArray] <;> omega)
  · obtain ⟨its, r', pl, hz⟩ := I.tuple hq
    have hlen := r'.length
    obtain ⟨o, ho, hc, n, hd⟩ := pl
    exact call_list_seq p (.inr rfl) ho hc hd (fun h' c' kp e => fin its r' hz h' c' kp e) (by simp only [List.size_toArray] <;> omega)
theorem call_tuple_of : CallR X (.type "tuple") (fun xs H Q => ∃ p ys, xs = [.ref p] ∧ ((SqL X.K H p ys ∧ ∀ l, H l = none → Q (.ref l) (upd H l (.tup ys))) ∨ (SqT X.K H p ys ∧ Q (.ref p) H))) := by
  intro pins s σ H xs us Q I r h
  obtain ⟨p, ys, rfl, h⟩ := h
  obtain ⟨u, rfl, rx⟩ := vals1 r
  cases rx
  rcases h with ⟨hq, q⟩ | ⟨hq, q⟩
  · obtain ⟨its, r', pl, hz⟩ := I.list hq
    have hlen := r'.length
    refine call_tuple_list pl.isList (fun h' kp => ?_) (by simp only [List.size_toArray] <;> omega)
    have I1 : Inv X pins σ H { s with heap := h' } := I.kept (t' := s.toks) kp
    have I2 : Inv X pins σ (upd H h'.objs.size (.tup ys)) { s with heap := h'.push { cls := .type "tuple", data := .seq its.toArray } } :=
      I1.laid (t' := s.toks) (fun b o e => Heap.get?_push_of_some _ e) (Nat.le_refl _) (show ObjOk X.prog X.w _ _ _ (.tup ys) from ⟨hz, its, r', IsTup.new _ _⟩)
    exact ⟨.ref h'.objs.size, _, I2, rfl, q _ (I1.hok.fresh (Nat.le_refl _))⟩
  · obtain ⟨its, r', pl, hz⟩ := I.tuple hq
    exact call_tuple_same pl ⟨.ref p, H, I, rfl, q⟩

/-! ### the call of a builtin's method: o.m(..) -/
/-- the value is of that builtin type -/
def tyV (K : PySem.W.Frag) (T : String) (x : V) (H : Hp) : Prop := match x with
  | .str _ => T = "str"
  | .int _ => T = "int"
  | .ref p => (T = "list" ∧ ∃ xs, SqL K H p xs) ∨ (T = "tuple" ∧ ∃ o, K.lookup p = some o ∧ o.cls = .type "tuple" ∧ o.dict = none) ∨
      (T = "dict" ∧ ((∃ kvs, H p = some (.dK kvs)) ∨ ∃ kvs, H p = some (.dT kvs))) ∨ (T = "set" ∧ ∃ S n, H p = some (.set S n))
  | _ => False
theorem tyV_is {pins : List (Addr × Obj)} {σ : St} {H : Hp} {s : Shared} {T : String} {x : V} {v : Value} (I : Inv X pins σ H s) (r : RelV x v) (ty : tyV X.K T x H) :
    s.TypeIs v T ∧ ∀ a, v = .ref a → ∃ ob, s.heap.get? a = some ob ∧ ob.dict = none := by
  cases x with
  | str z =>
    obtain ⟨t, rfl⟩ := r
    cases (show T = "str" from ty)
    exact ⟨typeIs_str s z t, fun _ e => nomatch e⟩
  | int i =>
    obtain ⟨t, rfl⟩ := r
    cases (show T = "int" from ty)
    exact ⟨typeIs_int s i t, fun _ e => nomatch e⟩
  | ref p =>
    cases r
    rcases ty with ⟨rfl, xs, hq⟩ | ⟨rfl, o, hk, hc, hd⟩ | ⟨rfl, hk⟩ | ⟨rfl, S, n, hk⟩
    · obtain ⟨its, _, pl, _⟩ := I.list hq
      refine ⟨pl.isList.typeIs, fun a e => ?_⟩
      cases e
      obtain ⟨o, n, e, c, hd, _⟩ := pl
      exact ⟨o, e, hd⟩
    · refine ⟨⟨o, I.kIn p o hk, hc⟩, fun a e => ?_⟩
      cases e
      exact ⟨o, I.kIn _ o hk, hd⟩
    · have z : ∃ o, s.heap.get? p = some o ∧ o.ExactDict := by
        rcases hk with ⟨kvs, hk⟩ | ⟨kvs, hk⟩
        · obtain ⟨_, _, _, _, o, _, _, e, ex, _⟩ := I.hok p _ hk
          exact ⟨o, e, ex⟩
        · obtain ⟨_, _, _, _, o, _, _, e, ex, _⟩ := I.hok p _ hk
          exact ⟨o, e, ex⟩
      obtain ⟨o, e, ex⟩ := z
      refine ⟨⟨o, e, ex.1⟩, fun a e2 => ?_⟩
      cases e2
      exact ⟨o, e, ex.2.1⟩
    · obtain ⟨o, _, _, _, e, ex, _⟩ := I.hok p _ hk
      refine ⟨⟨o, e, ex.1⟩, fun a e2 => ?_⟩
      cases e2
      exact ⟨o, e, ex.2.1⟩
  | _ => exact False.elim ty
def tBM0 (K : PySem.W.Frag) (T : String) (r : V → List V → Hp → VK → Prop) (to : TE) : TE := fun σ H Q => to σ H fun x H1 => tyV K T x H1 ∧ r x [] H1 Q
def tBM (K : PySem.W.Frag) (T : String) (r : V → List V → Hp → VK → Prop) (to : TE) (t : TA) : TE := fun σ H Q => to σ H fun x H1 => tyV K T x H1 ∧ t σ H1 fun xs H2 => r x xs H2 Q
variable {o e : Expr} {es : List Expr} {to : TE} {t : TA} {name : Str} {apos cpos : Pos} {T id : String} {r : V → List V → Hp → VK → Prop}
theorem pe_bm0 (pa : PlainAttrs T) (slot : Slot T name id) (hty : typeOf (.builtin id) = pure (.type "method_descriptor")) (hm : MtR X id r) (ho : PE X o to)
    (hbase : attributeBase o name X.env (eval o X.env) = eval o X.env := by rfl) (hline : (apos.endLine == cpos.line) = true := by rfl) : PE X (.Call (.Attribute o name apos) [] [] cpos) (tBM0 X.K T r to) := by
  intro pins s σ H Q I h
  refine wpAny_Call_method0_late hbase hline (thn (ho pins s σ H _ I h) fun v s1 ⟨x, H1, I1, r1, ty, q1⟩ => ?_)
  obtain ⟨h1, h2⟩ := tyV_is I1 r1 ty
  exact ⟨T, id, pa, slot, hty, h1, h2, Calls.callWith_builtin rfl (PySem.evalArgs_none (hm pins s1 σ H1 x [] v [] Q I1 r1 .nil q1))⟩
theorem pe_bm (pa : PlainAttrs T) (slot : Slot T name id) (hty : typeOf (.builtin id) = pure (.type "method_descriptor")) (hm : MtR X id r) (ho : PE X o to) (ha : PA X (e :: es) t)
    (hbase : attributeBase o name X.env (eval o X.env) = eval o X.env := by rfl)
    (hfew : ((backTo cpos (starEach (e :: es) X.env)).all (fun x => !x.1) && (backToKw cpos (keywordEach [] X.env)).all (fun x => x.1.isSome)
      && decide ((e :: es).length + ([] : List Keyword).length + (if ([] : List Keyword).isEmpty then 0 else 1) < 30)) = true := by rfl)
    (hline : (apos.endLine == cpos.line) = true := by rfl) (hs : starEach (e :: es) X.env = (false, eval e X.env) :: starEach es X.env := by rfl) (hplain : (backTo cpos (starEach es X.env)).any (·.1) = false := by rfl) :
    PE X (.Call (.Attribute o name apos) (e :: es) [] cpos) (tBM X.K T r to t) := by
  intro pins s σ H Q I h
  refine wpAny_Call_method_late hbase hfew hline rfl (thn (ho pins s σ H _ I h) fun v s1 ⟨x, H1, I1, r1, ty, q1⟩ => ?_)
  obtain ⟨h1, h2⟩ := tyV_is I1 r1 ty
  refine ⟨T, id, pa, slot, hty, h1, h2, ?_⟩
  have hA := ha cpos pins s1 σ H1 _ I1 q1
  rw [hs] at hA ⊢
  refine Calls.callWith_builtin (by show (false || (backTo cpos (starEach es X.env)).any (·.1)) = false; rw [hplain] <;> rfl) (Calls.evalArgs_plain ?_)
  exact thn hA fun us s2 ⟨vs, H2, I2, r2, q2⟩ => hm pins s2 σ H2 x vs v us Q I2 r1 r2 q2
/- xs.append(e), list.index on a module's tuple .. are MtR facts of 06m -/
end
end L2

namespace L2
open PySem PySem.Spec PyProof.Rows

def MtM (X : Cx) (id : String) (r : V → List V → Hp → VK → Prop) : Prop :=
  ∀ (pins : List (Addr × Obj)) (s : Shared) (σ : St) (H : Hp) (x : V) (xs : List V) (v : Value) (us : List Value) (Q : VK), Inv X pins σ H s → RelV x v → Vals xs us → r x xs H Q →
    wpAny (model X.prog X.w) X.A (call (.builtin id) (v :: us)) (EP X pins σ Q) X.xe s

/-! ### lists of values -/
theorem Vals.one : ∀ {x : V} {us : List Value}, Vals [x] us → ∃ u, us = [u] ∧ RelV x u
  | _, _, .cons r .nil => ⟨_, rfl, r⟩
theorem Vals.two : ∀ {x y : V} {us : List Value}, Vals [x, y] us → ∃ u v, us = [u, v] ∧ RelV x u ∧ RelV y v
  | _, _, _, .cons r (.cons q .nil) => ⟨_, _, rfl, r, q⟩
theorem Vals.zero : ∀ {us : List Value}, Vals [] us → us = []
  | _, .nil => rfl
theorem Vals.dropLast {xs : List V} {us : List Value} (h : Vals xs us) : Vals xs.dropLast us.dropLast := by
  induction h with
  | nil => exact .nil
  | cons r t ih =>
    cases t with
    | nil => exact .nil
    | cons q t' => exact .cons r ih
theorem Vals.eraseIdx : ∀ {xs : List V} {us : List Value} (i : Nat), Vals xs us → Vals (xs.eraseIdx i) (us.eraseIdx i)
  | _, _, _, .nil => .nil
  | _, _, 0, .cons _ t => t
  | _, _, i + 1, .cons r t => .cons r (Vals.eraseIdx i t)
theorem Vals.reverse {xs : List V} {us : List Value} (h : Vals xs us) : Vals xs.reverse us.reverse := by
  induction h with
  | nil => exact .nil
  | cons r t ih => rw [List.reverse_cons, List.reverse_cons]; exact Vals.append ih (.cons r .nil)
theorem Vals.rep {xs : List V} {us : List Value} (h : Vals xs us) : ∀ k : Nat, Vals (List.replicate k xs).flatten (List.replicate k us).flatten
  | 0 => .nil
  | k + 1 => by
    rw [List.replicate_succ, List.replicate_succ, List.flatten_cons, List.flatten_cons]
    exact Vals.append h (Vals.rep h k)
theorem erase_last {α : Type} (l : List α) : l.eraseIdx (l.length - 1) = l.dropLast := by
  induction l with
  | nil => rfl
  | cons a r ih =>
    cases r with
    | nil => rfl
    | cons b r =>
      have e : (a :: b :: r).length - 1 = ((b :: r).length - 1) + 1 := by
        have h1 : (a :: b :: r).length = r.length + 2 := rfl
        have h2 : (b :: r).length = r.length + 1 := rfl
        omega
      rw [e, List.eraseIdx_cons_succ, ih]
      all_goals rfl
theorem len_erase {α : Type} : ∀ (l : List α) (i : Nat), (l.eraseIdx i).length ≤ l.length
  | [], _ => Nat.le_refl _
  | _ :: _, 0 => Nat.le_succ _
  | _ :: r, i + 1 => Nat.succ_le_succ (len_erase r i)
theorem foldl_rep (its : List Value) : ∀ (k : Nat) (acc : List Value),
    List.foldl (fun x1 x2 => x1 ++ x2) acc.toArray (List.replicate k its.toArray) = (acc ++ (List.replicate k its).flatten).toArray
  | 0, acc => by simp
  | k + 1, acc => by
    have e : acc.toArray ++ its.toArray = (acc ++ its).toArray := by simp
    have e2 : (acc ++ its) ++ (List.replicate k its).flatten = acc ++ (List.replicate (k + 1) its).flatten := by
      rw [List.replicate_succ, List.flatten_cons, List.append_assoc]
    rw [← e2, ← foldl_rep its k (acc ++ its), ← e, List.replicate_succ, List.foldl_cons]

section
variable {X : Cx} {pins : List (Addr × Obj)} {σ : St} {H : Hp} {s : Shared} {l b : Addr} {xs ys zs : List V}

/-! ### the two steps: a tracked list is rewritten, a new list is laid -/
theorem Inv.lset {its its' : List Value} {n : Nat} {f : Array Value → Array Value} {t' : Nat} (I : Inv X pins σ H s) (hH : H l = some (.lst xs))
    (e : s.heap.get? l = some { cls := .type "list", data := .seq its.toArray n }) (hf : f its.toArray = its'.toArray) (hv : Vals ys its') (hz : ys.length ≤ sizeLine) :
    Inv X pins σ (upd H l (.lst ys)) { s with heap := s.heap.update l (Obj.mapSeq f), toks := t' } := by
  have q := PySem.IsL.update e f
  rw [hf] at q
  refine I.write (x := l) (e := l) (by rw [hH]; exact trivial) (.inl rfl) (fun b' u hb hu => (Heap.get?_update_other s.heap (Obj.mapSeq f) (Ne.symm hb)).trans hu) ⟨_, q⟩ ?_
  exact ⟨hz, its', _, hv, q⟩
theorem Inv.lnew {its : List Value} {t' : Nat} (I : Inv X pins σ H s) (hv : Vals ys its) (hz : ys.length ≤ sizeLine) :
    Inv X pins σ (upd H s.heap.objs.size (.lst ys)) { s with heap := s.heap.push { cls := .type "list", data := .seq its.toArray }, toks := t' } :=
  I.laid (fun _ _ q => Heap.get?_push_of_some _ q) (Nat.le_refl _) ⟨hz, its, 0, hv, Heap.get?_push_size _ rfl⟩
theorem Inv.fresh (I : Inv X pins σ H s) : H s.heap.objs.size = none := I.hok.fresh (Nat.le_refl _)
theorem Inv.lstM (I : Inv X pins σ H s) (hH : H l = some (.lst xs)) : xs.length ≤ sizeLine ∧ ∃ (its : List Value) (n : Nat), Vals xs its ∧ xs.length = its.length ∧ s.heap.get? l = some { cls := .type "list", data := .seq its.toArray n } := by
  obtain ⟨z, its, n, r, e⟩ := I.hok l _ hH
  exact ⟨z, its, n, r, r.length, e⟩

theorem notLongL {n : Nat} (h : n ≤ sizeLine) : Builtin.List.listTooLong n = false := by
  unfold Builtin.List.listTooLong
  exact decide_eq_false (by omega)
end

section
variable {X : Cx}

/-! ### methods -/
def rAppend : V → List V → Hp → VK → Prop := fun x vs H Q => ∃ l xs y, x = .ref l ∧ vs = [y] ∧ H l = some (.lst xs) ∧ xs.length < sizeLine ∧ Q .non (upd H l (.lst (xs ++ [y])))
theorem mt_append : MtM X "list.append" rAppend := by
  intro pins s σ H x vs v us Q I rx rv h
  obtain ⟨l, xs, y, rfl, rfl, hH, hz, q⟩ := h
  cases rx
  obtain ⟨u, rfl, ru⟩ := rv.one
  obtain ⟨z, its, n, r, hl, e⟩ := I.lstM hH
  refine call_meets F.slot_list_append ⟨_, e, rfl⟩ F.entry_list_append (F.args_list_append_2 _ _) (PySem.list_append l its.toArray n u (by rw [List.size_toArray]; omega)) ⟨e, ?_⟩
  refine ⟨.non, _, I.lset (its' := its ++ [u]) hH e (by simp) (r.append (.cons ru .nil)) ?_, rfl, q⟩
  rw [List.length_append, List.length_singleton]
  omega

def rExtend : V → List V → Hp → VK → Prop := fun x vs H Q => ∃ l b xs zs, x = .ref l ∧ vs = [.ref b] ∧ H l = some (.lst xs) ∧ H b = some (.lst zs) ∧ xs.length + zs.length ≤ sizeLine ∧ Q .non (upd H l (.lst (xs ++ zs)))
theorem mt_extend : MtM X "list.extend" rExtend := by
  intro pins s σ H x vs v us Q I rx rv h
  obtain ⟨l, b, xs, zs, rfl, rfl, hH, hB, hz, q⟩ := h
  cases rx
  obtain ⟨u, rfl, ru⟩ := rv.one
  cases ru
  obtain ⟨z, its, n, r, hl, e⟩ := I.lstM hH
  obtain ⟨z2, its2, n2, r2, hl2, e2⟩ := I.lstM hB
  have hsz : its.toArray.size + its2.toArray.size ≤ sizeLine := by rw [List.size_toArray, List.size_toArray]; omega
  have hlong : ¬ (!its.toArray.isEmpty && Builtin.List.listTooLong (its.toArray.size + its2.toArray.size)) = true := by
    rw [notLongL hsz, Bool.and_false]
    exact Bool.false_ne_true
  refine call_meets F.slot_list_extend ⟨_, e, rfl⟩ F.entry_list_extend (F.args_list_extend_2 _ _)
    (AutoSeq1.list_extend_list_list_0 l its.toArray n b its2.toArray n2 hlong (by rw [List.size_toArray]; omega) (by omega)) ⟨e, e2, ?_⟩
  refine ⟨.non, _, I.lset (its' := its ++ its2) hH e (by simp) (r.append r2) ?_, rfl, q⟩
  rw [List.length_append]
  omega

def rPop : V → List V → Hp → VK → Prop := fun x vs H Q => ∃ l xs y, x = .ref l ∧ vs = [] ∧ H l = some (.lst xs) ∧ xs[xs.length - 1]? = some y ∧ Q y (upd H l (.lst xs.dropLast))
theorem mt_pop : MtM X "list.pop" rPop := by
  intro pins s σ H x vs v us Q I rx rv h
  obtain ⟨l, xs, y, rfl, rfl, hH, hy, q⟩ := h
  cases rx
  have hus := rv.zero
  subst hus
  obtain ⟨z, its, n, r, hl, e⟩ := I.lstM hH
  obtain ⟨u, hu, ru⟩ := r.get hy
  have hy' : its.toArray[its.toArray.size - 1]? = some u := by
    show its.toArray[its.length - 1]? = some u
    rw [← Array.getElem?_toList, ← hl]
    exact hu
  refine call_meets F.slot_list_pop ⟨_, e, rfl⟩ F.entry_list_pop (F.args_list_pop_1 _) (MeetsSeq.list_pop_last l its.toArray n u hy' (by rw [List.size_toArray]; omega)) ⟨e, ?_⟩
  refine ⟨y, _, I.lset (its' := its.dropLast) hH e ?_ r.dropLast ?_, ru, q⟩
  · show its.toArray.eraseIdxIfInBounds (its.toArray.size - 1) = its.dropLast.toArray
    rw [List.size_toArray, List.eraseIdxIfInBounds_toArray, erase_last]
  · rw [List.length_dropLast]
    omega

def rPopAt : V → List V → Hp → VK → Prop := fun x vs H Q => ∃ l xs i k y, x = .ref l ∧ vs = [.int i] ∧ H l = some (.lst xs) ∧ -(2 ^ 63) ≤ i ∧ i < 2 ^ 63 ∧ seqIndex? i xs.length = some k ∧ xs[k]? = some y ∧ Q y (upd H l (.lst (xs.eraseIdx k)))
theorem mt_popAt : MtM X "list.pop" rPopAt := by
  intro pins s σ H x vs v us Q I rx rv h
  obtain ⟨l, xs, i, k, y, rfl, rfl, hH, h1, h2, hk, hy, q⟩ := h
  cases rx
  obtain ⟨u, rfl, ru⟩ := rv.one
  obtain ⟨t, rfl⟩ := ru
  obtain ⟨z, its, n, r, hl, e⟩ := I.lstM hH
  obtain ⟨w, hw, rw'⟩ := r.get hy
  refine call_meets F.slot_list_pop ⟨_, e, rfl⟩ F.entry_list_pop (F.args_list_pop_2 _ _)
    (MeetsSeq.list_pop_at l its.toArray n i t k w (fitsIndex_both h1 h2) (by rw [List.size_toArray, ← hl]; exact hk) (by rw [← Array.getElem?_toList]; exact hw) (by rw [List.size_toArray]; omega)) ⟨e, ?_⟩
  refine ⟨y, _, I.lset (its' := its.eraseIdx k) hH e ?_ (r.eraseIdx k) ?_, rw', q⟩
  · show its.toArray.eraseIdxIfInBounds k = (its.eraseIdx k).toArray
    rw [List.eraseIdxIfInBounds_toArray]
  · have := len_erase xs k
    omega

def rReverse : V → List V → Hp → VK → Prop := fun x vs H Q => ∃ l xs, x = .ref l ∧ vs = [] ∧ H l = some (.lst xs) ∧ Q .non (upd H l (.lst xs.reverse))
theorem mt_reverse : MtM X "list.reverse" rReverse := by
  intro pins s σ H x vs v us Q I rx rv h
  obtain ⟨l, xs, rfl, rfl, hH, q⟩ := h
  cases rx
  have hus := rv.zero
  subst hus
  obtain ⟨z, its, n, r, hl, e⟩ := I.lstM hH
  refine call_meets F.slot_list_reverse ⟨_, e, rfl⟩ F.entry_list_reverse (F.args_list_reverse_1 _) (AutoSeq1.list_reverse_list_0 l its.toArray n (by rw [List.size_toArray]; omega)) ⟨e, ?_⟩
  refine ⟨.non, _, I.lset (its' := its.reverse) hH e (by simp) r.reverse ?_, rfl, q⟩
  rw [List.length_reverse]
  omega

def rClear : V → List V → Hp → VK → Prop := fun x vs H Q => ∃ l xs, x = .ref l ∧ vs = [] ∧ H l = some (.lst xs) ∧ Q .non (upd H l (.lst []))
theorem mt_clear : MtM X "list.clear" rClear := by
  intro pins s σ H x vs v us Q I rx rv h
  obtain ⟨l, xs, rfl, rfl, hH, q⟩ := h
  cases rx
  have hus := rv.zero
  subst hus
  obtain ⟨z, its, n, r, hl, e⟩ := I.lstM hH
  refine call_meets F.slot_list_clear ⟨_, e, rfl⟩ F.entry_list_clear (F.args_list_clear_1 _) (AutoSeq1.list_clear_list_0 l its.toArray n (by rw [List.size_toArray]; omega)) ⟨e, ?_⟩
  exact ⟨.non, _, I.lset (its' := []) (ys := []) hH e rfl .nil (Nat.zero_le _), rfl, q⟩

/-! ### list + list, list += list, list * int -/
def rCat : R2 := fun x y H Q => ∃ l b xs zs, x = .ref l ∧ y = .ref b ∧ H l = some (.lst xs) ∧ H b = some (.lst zs) ∧ xs.length + zs.length ≤ sizeLine ∧ ∀ p, H p = none → Q (.ref p) (upd H p (.lst (xs ++ zs)))
theorem op_cat : OpR X (binaryOp .Add) rCat := by
  intro pins s σ H x y v u Q I rx ry h
  obtain ⟨l, b, xs, zs, rfl, rfl, hH, hB, hz, q⟩ := h
  cases rx
  cases ry
  obtain ⟨z, its, n, r, hl, e⟩ := I.lstM hH
  obtain ⟨z2, its2, n2, r2, hl2, e2⟩ := I.lstM hB
  refine PySem.P.add_list e e2 ?_ (by rw [List.size_toArray, List.size_toArray]; omega)
  have ea : its.toArray ++ its2.toArray = (its ++ its2).toArray := by simp
  rw [ea]
  exact ⟨.ref _, _, I.lnew (t' := s.toks) (r.append r2) (by rw [List.length_append]; omega), rfl, q _ I.fresh⟩
/-- a list times an int (a negative one is nothing) -/
def rRep : R2 := fun x y H Q => ∃ l k xs, x = .ref l ∧ y = .int k ∧ H l = some (.lst xs) ∧ -(2 ^ 63) ≤ k ∧ k < 2 ^ 63 ∧ xs.length * k.toNat ≤ sizeLine ∧
  ∀ p, H p = none → Q (.ref p) (upd H p (.lst (List.replicate k.toNat xs).flatten))
theorem len_rep {α : Type} (xs : List α) (k : Nat) : (List.replicate k xs).flatten.length = k * xs.length := by
  induction k with
  | zero => simp
  | succ k ih => rw [List.replicate_succ, List.flatten_cons, List.length_append, ih, Nat.succ_mul, Nat.add_comm]
theorem op_rep : OpR X (binaryOp .Mult) rRep := by
  intro pins s σ H x y v u Q I rx ry h
  obtain ⟨l, k, xs, rfl, rfl, hH, h1, h2, hz, q⟩ := h
  cases rx
  obtain ⟨t, rfl⟩ := ry
  obtain ⟨z, its, n, r, hl, e⟩ := I.lstM hH
  have hlen : its.toArray.size * k.toNat ≤ sizeLine := by rw [List.size_toArray, ← hl]; exact hz
  have hcap : ¬ its.toArray.size * k.toNat > (2 ^ 63 - 1) / 8 := by
    have : (sizeLine : Nat) ≤ (2 ^ 63 - 1) / 8 := by decide
    omega
  have hfit : ¬ (!Builtin.List.listFitsIndex k) = true := by
    rw [fitsIndex_both h1 h2]
    exact Bool.false_ne_true
  have hlong : ¬ Builtin.List.listTooLong (its.toArray.size * k.toNat) = true := by
    rw [notLongL hlen]
    exact Bool.false_ne_true
  have hnew : List.foldl (fun x1 x2 => x1 ++ x2) #[] (List.replicate (if its.toArray.isEmpty = true then 0 else k.toNat) its.toArray) = (List.replicate k.toNat its).flatten.toArray := by
    have f0 : ∀ m : Nat, List.foldl (fun x1 x2 => x1 ++ x2) #[] (List.replicate m its.toArray) = (List.replicate m its).flatten.toArray := fun m => by
      have := foldl_rep its m []
      rw [List.nil_append] at this
      exact this
    rw [f0]
    cases its with
    | nil => simp
    | cons a r' => rw [if_neg (by simp)]
  refine wpAny_binaryOp_repeat_ref (T := "list") (U := "int") (by decide) ⟨_, e, rfl⟩ (fun s' => typeIs_int s' k t) noFill_list_mul F.fills_int_mul F.slot_int_rmul repeat_list F.slot_int_index.lookup
    (call_meets F.slot_int_rmul (typeIs_int s k t) F.entry_int_rmul (F.args_int_rmul_2 _ _) (int___rmul___int_list k t l its.toArray n)
      ⟨e, rfl, ⟨_, e, rfl⟩, call_meets F.slot_list_mul ⟨_, e, rfl⟩ F.entry_list_mul (F.args_list_mul_2 _ _) (AutoListH.list___mul___list_int_3 l its.toArray n k t hfit hcap hlong) ⟨e, ?_⟩⟩)
  rw [hnew]
  exact ⟨.ref _, _, I.lnew (t' := s.toks) (r.rep k.toNat) (by rw [len_rep, Nat.mul_comm]; exact hz), rfl, q _ I.fresh⟩

/-! ### del xs[i] -/
theorem del_list {pins : List (Addr × Obj)} {s : Shared} {σ : St} {H : Hp} {l : Addr} {xs : List V} {i : Int} {t : Tok} {k : Nat} {Q : Unit → Shared → Prop} (I : Inv X pins σ H s) (hH : H l = some (.lst xs))
    (h1 : -(2 ^ 63) ≤ i) (h2 : i < 2 ^ 63) (hk : seqIndex? i xs.length = some k) (h : ∀ s', Inv X pins σ (upd H l (.lst (xs.eraseIdx k))) s' → Q () s') :
    wpAny (model X.prog X.w) X.A (delItem (.ref l) (.int i t)) Q X.xe s := by
  obtain ⟨z, its, n, r, hl, e⟩ := I.lstM hH
  refine PySem.P.delItem_list (k := k) e (fitsIndex_both h1 h2) (by rw [List.size_toArray, ← hl]; exact hk) (h _ ?_) (by rw [List.size_toArray]; omega)
  refine I.lset (its' := its.eraseIdx k) (t' := s.toks) hH e ?_ (r.eraseIdx k) ?_
  · show its.toArray.eraseIdxIfInBounds k = (its.eraseIdx k).toArray
    rw [List.eraseIdxIfInBounds_toArray]
  · have := len_erase xs k
    omega
end

/-! ### xs[a:b] = ys -/
section
variable {prog : Program} {w : World} {A : Around} {E : Value → Shared → Prop} {s : Shared}
theorem splice_eq (its its2 : List Value) (a c : Nat) : its.toArray.extract 0 a ++ its2.toArray ++ its.toArray.extract c its.toArray.size = (its.take a ++ its2 ++ its.drop c).toArray := by
  apply Array.toList_inj.mp
  first
    | (simp
       exact List.take_of_length_le (by simp))
    | simp [List.take_of_length_le]
    | simp
theorem bounds_run {a c n : Nat} (hac : a ≤ c) (hc : c ≤ n) : sliceBounds (some (a : Int)) (some (c : Int)) none n = ((a : Int), (c : Int), 1) := by
  simp only [sliceBounds, Option.getD_none]
  have h1 : ¬ ((a : Int) < 0) := by omega
  have h2 : ¬ ((c : Int) < 0) := by omega
  simp only [h1, h2, if_false, show (1 : Int) > 0 by decide, if_true]
  congr 1
  · omega
  · congr 1; omega
set_option maxRecDepth 100000 in
/-- list.__setitem__ with a slice of step one and another list -/
theorem setItem_slice {l b sl : Addr} {items new : Array Value} {n n2 : Nat} {vl vu : Value} {a c : Nat} {Q : Unit → Shared → Prop}
    (e : s.heap.get? l = some { cls := .type "list", data := .seq items n }) (e2 : s.heap.get? b = some { cls := .type "list", data := .seq new n2 }) (hne : l ≠ b)
    (hs : s.heap.IsSliceOf sl vl vu .none) (pl : IsPart vl (some (a : Int))) (pu : IsPart vu (some (c : Int))) (hac : a ≤ c) (hc : c ≤ items.size)
    (hsz : items.size + new.size ≤ sizeLine) (h : Q () { s with heap := s.heap.update l (Obj.mapSeq fun xs => xs.extract 0 a ++ new ++ xs.extract c xs.size) }) :
    wpAny (model prog w) A (setItem (.ref l) (.ref sl) (.ref b)) Q E s := by
  have hl : s.heap.IsList l items := PySem.IsL.isList e
  have hb : s.heap.IsList b new := PySem.IsL.isList e2
  obtain ⟨os, hos, hcs, hds⟩ := id hs
  have hTs : s.TypeIs (.ref sl) "slice" := ⟨os, hos, hcs⟩
  have hstep : ¬ ((rawPart none == rawInt 0) = true) := Bool.false_ne_true
  have hsame : Builtin.List.listSameRef (.ref l) (.ref b) = false := by
    unfold Builtin.List.listSameRef
    exact beq_eq_false_iff_ne.mpr hne
  have hmax : (max (a : Int) (c : Int)).toNat = c := by omega
  have hz' : ((fun xs : Array Value => xs.extract 0 a ++ new ++ xs.extract c xs.size) items).size ≤ sizeLine + 1 := by
    simp only [Array.size_append, Array.size_extract]
    omega
  unfold setItem
  try with_reducible refine wpAny_holding ?_
  first | refine wpAny_bind (wpAny_pure ?_) | skip
  refine wpAny_bind (wpAny_sequenceKey hl.typeIs (by decide) ?_)
  refine wpAny_bind (wpAny_callSpecial?_slot (name := Str.ofString "__setitem__") hl.typeIs slot_list_setitem
    (wpAny_call_entry slot_list_setitem hl.typeIs entry_list_setitem ?_ (args_list_setitem _ _ _)))
  show wpAny _ _ (Builtin.List.listSubscript? (.ref sl) >>= _) _ _ s
  refine wpAny_bind ?_
  unfold Builtin.List.listSubscript?
  refine wpAny_bind (wpAny_specialOf hTs slice_no_index ?_)
  simp only [Option.isNone_none, if_true]
  refine wpAny_pure ?_
  show wpAny _ _ (typeOf (.ref sl) >>= _) _ _ s
  refine wpAny_bind (wpAny_typeOf hTs ?_)
  first
    | rw [if_neg (by decide)]
    | refine PySem.W.KFB.if_not (by decide) ?_
  rw [listSliceParts_eq]
  refine wpAny_bind (wpAny_bind (wpAny_field hos hds (x := .none) rfl (wpAny_bind (wpAny_listPart .none ?_))))
  rw [if_neg hstep]
  refine wpAny_bind (wpAny_field hos hds (x := vl) rfl (wpAny_bind (wpAny_listPart pl ?_)))
  refine wpAny_bind (wpAny_field hos hds (x := vu) rfl (wpAny_bind (wpAny_listPart pu (wpAny_pure ?_))))
  first
    | simp only [hsame, Bool.false_eq_true, if_false]
    | refine PySem.W.KFB.if_not hsame ?_
    | (dsimp only
       rw [if_neg (by rw [hsame]; exact Bool.false_ne_true)])
  refine wpAny_bind (m := Builtin.List.listAllItems (.ref b) "must assign iterable to extended slice") ?_
  unfold Builtin.List.listAllItems
  refine wpAny_bind (wpAny_typeOf hb.typeIs ?_)
  first
    | refine PySem.W.KFB.if_so (by decide) ?_
    | rw [if_pos (by decide)]
    | simp only [beq_self_eq_true, Bool.true_or, if_true]
  unfold Builtin.List.listItems
  refine wpAny_bind (wpAny_seqItems e2 rfl (wpAny_pure ?_))
  refine wpAny_bind (wpAny_bind (wpAny_seqItems e rfl (wpAny_pure ?_)))
  refine wpAny_bind (wpAny_of_eq ((sliceIndices_raw (some (a : Int)) (some (c : Int)) none items.size (by simp)).trans (congrArg (pure : Int × Int × Int → Sem (Int × Int × Int)) (bounds_run hac hc))) ?_)
  show wpAny _ _ (if ((1 : Int) == 1) = true then _ else _) _ _ s
  rw [if_pos (by decide)]
  refine wpAny_bind (wpAny_rule ?_)
  first
    | simp only [notLongL hsz, Bool.false_eq_true, if_false]
    | refine PySem.W.KFB.if_not (notLongL hsz) ?_
  first | refine wpAny_bind (wpAny_pure ?_) | skip
  show wpAny _ _ (updateSeq l (fun xs => xs.extract 0 ((a : Int)).toNat ++ new ++ xs.extract (max (a : Int) (c : Int)).toNat xs.size) >>= _) _ _ s
  rw [hmax, Int.toNat_natCast]
  refine wpAny_bind (wpAny_updateSeq (hz := Nat.le_trans (Nat.le_add_right _ _) hsz) (_hz' := hz') e rfl ?_)
  refine wpAny_bind (wpAny_letGo ?_)
  first
    | exact wpAny_bind (wpAny_pure (wpAny_pure ⟨.none, rfl, wpAny_pure h⟩))
    | exact wpAny_pure ⟨.none, rfl, wpAny_pure h⟩
end

section
variable {X : Cx}
/-- xs[a:c] = ys of another list, at the value level: sl is the slice object that was just made -/
theorem set_slice {pins : List (Addr × Obj)} {s : Shared} {σ : St} {H : Hp} {l b sl : Addr} {xs ys : List V} {a c : Int} {vl vu : Value} {Q : Unit → Shared → Prop} (I : Inv X pins σ H s)
    (hH : H l = some (.lst xs)) (hB : H b = some (.lst ys)) (hne : l ≠ b) (hs : s.heap.IsSliceOf sl vl vu .none) (ra : RelV (.int a) vl) (rc : RelV (.int c) vu) (h0 : 0 ≤ a) (hac : a ≤ c) (hc : c ≤ xs.length)
    (hz : xs.length + ys.length ≤ sizeLine) (h : ∀ s', Inv X pins σ (upd H l (.lst (xs.take a.toNat ++ ys ++ xs.drop c.toNat))) s' → Q () s') :
    wpAny (model X.prog X.w) X.A (setItem (.ref l) (.ref sl) (.ref b)) Q X.xe s := by
  obtain ⟨ta, rfl⟩ := ra
  obtain ⟨tc, rfl⟩ := rc
  obtain ⟨z, its, n, r, hl, e⟩ := I.lstM hH
  obtain ⟨z2, its2, n2, r2, hl2, e2⟩ := I.lstM hB
  obtain ⟨a', rfl⟩ := Int.eq_ofNat_of_zero_le h0
  obtain ⟨c', rfl⟩ := Int.eq_ofNat_of_zero_le (Int.le_trans h0 hac)
  simp only [Int.toNat_natCast] at h
  refine setItem_slice (a := a') (c := c') e e2 hne hs (.int _ _) (.int _ _) (by omega) (by rw [List.size_toArray]; omega) (by rw [List.size_toArray, List.size_toArray]; omega) (h _ ?_)
  refine I.lset (its' := its.take a' ++ its2 ++ its.drop c') (t' := s.toks) hH e ?_ (Vals.append (Vals.append (r.take _) r2) (r.drop _)) ?_
  · exact splice_eq its its2 a' c'
  · rw [List.length_append, List.length_append, List.length_take, List.length_drop]
    omega
end
end L2

namespace L2
open PySem PySem.Spec PyProof.Rows

/-! ### lists of pairs as tables -/
section
variable {κ : Type} [DecidableEq κ]
def valV (kvs : List (κ × V)) (k : κ) : Option V := (kvs.find? fun kv => decide (kv.1 = k)).map (·.2)
/-- in its place, or at the end -/
def putK (kvs : List (κ × V)) (k : κ) (v : V) : List (κ × V) :=
  if (kvs.any fun kv => decide (kv.1 = k)) = true then kvs.map (fun kv => if kv.1 = k then (kv.1, v) else kv) else kvs ++ [(k, v)]
def dropK (kvs : List (κ × V)) (k : κ) : List (κ × V) := kvs.filter fun kv => decide (kv.1 ≠ k)

theorem valV_nil {k : κ} : valV ([] : List (κ × V)) k = none := rfl
theorem valV_pos {p : κ × V} {r : List (κ × V)} {k : κ} (e : p.1 = k) : valV (p :: r) k = some p.2 := by simp [valV, List.find?_cons, e]
theorem valV_neg {p : κ × V} {r : List (κ × V)} {k : κ} (e : ¬ p.1 = k) : valV (p :: r) k = valV r k := by simp [valV, List.find?_cons, e]
theorem valV_any (k : κ) : ∀ kvs : List (κ × V), (kvs.any fun kv => decide (kv.1 = k)) = (valV kvs k).isSome
  | [] => rfl
  | p :: r => by
    rw [List.any_cons]
    by_cases e : p.1 = k
    · simp only [valV_pos e, decide_eq_true e, Bool.true_or, Option.isSome_some]
    · rw [valV_neg e, decide_eq_false e, Bool.false_or]; exact valV_any k r
theorem valV_map (k j : κ) (y : V) : ∀ kvs : List (κ × V), valV (kvs.map fun kv => if kv.1 = k then (kv.1, y) else kv) j = (valV kvs j).map fun x => if j = k then y else x
  | [] => rfl
  | p :: r => by
    have ih := valV_map k j y r
    rw [List.map_cons]
    by_cases h : p.1 = k
    · rw [if_pos h]
      by_cases e : p.1 = j
      · rw [valV_pos (p := (p.1, y)) e, valV_pos e, Option.map_some, if_pos (e.symm.trans h)]
      · rw [valV_neg (p := (p.1, y)) e, valV_neg e, ih]
    · rw [if_neg h]
      by_cases e : p.1 = j
      · rw [valV_pos (p := p) e, valV_pos e, Option.map_some, if_neg (fun z => h (e.trans z))]
      · rw [valV_neg (p := p) e, valV_neg e, ih]
theorem valV_snoc (k j : κ) (y : V) : ∀ kvs : List (κ × V), valV kvs k = none → valV (kvs ++ [(k, y)]) j = if j = k then some y else valV kvs j
  | [], _ => by
    by_cases e : k = j
    · rw [if_pos e.symm]; exact valV_pos (p := (k, y)) e
    · rw [if_neg (fun z => e z.symm)]; exact valV_neg (p := (k, y)) e
  | p :: r, hn => by
    rw [List.cons_append]
    have hk : ¬ p.1 = k := fun z => by rw [valV_pos z] at hn; cases hn
    rw [valV_neg hk] at hn
    have ih := valV_snoc k j y r hn
    by_cases e : p.1 = j
    · rw [valV_pos e, valV_pos e, if_neg (fun z => hk (e.trans z))]
    · rw [valV_neg e, valV_neg e, ih]
theorem valV_put (kvs : List (κ × V)) (k j : κ) (y : V) : valV (putK kvs k y) j = if j = k then some y else valV kvs j := by
  unfold putK
  by_cases a : (kvs.any fun kv => decide (kv.1 = k)) = true
  · rw [if_pos a, valV_map]
    rw [valV_any] at a
    by_cases e : j = k
    · obtain ⟨x, hx⟩ := Option.isSome_iff_exists.mp a
      rw [if_pos e, e, hx, Option.map_some, if_pos rfl]
    · rw [if_neg e]
      cases valV kvs j with
      | none => rfl
      | some x => rw [Option.map_some, if_neg e]
  · rw [if_neg a]
    refine valV_snoc k j y kvs ?_
    rw [valV_any] at a
    cases q : valV kvs k with
    | none => rfl
    | some x => rw [q] at a; exact (a rfl).elim
theorem length_putK (kvs : List (κ × V)) (k : κ) (v : V) : (putK kvs k v).length ≤ kvs.length + 1 := by
  unfold putK
  split
  · rw [List.length_map]; omega
  · rw [List.length_append, List.length_cons, List.length_nil]; omega
theorem putK_new {kvs : List (κ × V)} {k : κ} (v : V) (h : valV kvs k = none) : putK kvs k v = kvs ++ [(k, v)] := by
  unfold putK
  rw [valV_any, h]
  exact if_neg (by decide)

theorem RelO.isSome_eq {o : Option V} {u : Option Value} (r : RelO o u) : o.isSome = u.isSome := by
  cases o with
  | none => cases u with
    | none => rfl
    | some _ => exact (show False from r).elim
  | some _ => cases u with
    | none => exact (show False from r).elim
    | some _ => rfl
theorem RelO.getD {o : Option V} {u : Option Value} {d : V} {d' : Value} (r : RelO o u) (rd : RelV d d') : RelV (o.getD d) (u.getD d') := by
  cases o with
  | none => cases u with
    | none => exact rd
    | some _ => exact (show False from r).elim
  | some _ => cases u with
    | none => exact (show False from r).elim
    | some _ => exact r

/-- raw tables of the same keys -/
theorem KV.val {kvs : List (κ × V)} {vs : List (κ × Value)} (r : KV kvs vs) (k : κ) : RelO (valV kvs k) (valueAt vs k) := by
  unfold KV at r
  induction r with
  | nil => exact True.intro
  | @cons p q ps qs h t ih =>
    obtain ⟨h1, h2⟩ := h
    by_cases e : p.1 = k
    · have e' : q.1 = k := h1.symm.trans e
      have b : valueAt (q :: qs) k = some q.2 := by simp [valueAt, List.find?_cons, e']
      rw [valV_pos e, b]; exact h2
    · have e' : ¬ q.1 = k := fun z => e (h1.trans z)
      have b : valueAt (q :: qs) k = valueAt qs k := by simp [valueAt, List.find?_cons, e']
      rw [valV_neg e, b]; exact ih
theorem KV.any {kvs : List (κ × V)} {vs : List (κ × Value)} (r : KV kvs vs) (k : κ) : (kvs.any fun kv => decide (kv.1 = k)) = vs.any fun kv => decide (kv.1 = k) := by
  unfold KV at r
  induction r with
  | nil => rfl
  | cons h t ih => rw [List.any_cons, List.any_cons, ih, h.1]
theorem KV.repl {kvs : List (κ × V)} {vs : List (κ × Value)} (r : KV kvs vs) (k : κ) {y : V} {u : Value} (ry : RelV y u) :
    KV (kvs.map fun kv => if kv.1 = k then (kv.1, y) else kv) (vs.map fun kv => if kv.1 = k then (kv.1, u) else kv) := by
  unfold KV at r ⊢
  induction r with
  | nil => exact .nil
  | @cons p q ps qs h t ih =>
    rw [List.map_cons, List.map_cons]
    refine .cons ?_ ih
    obtain ⟨h1, h2⟩ := h
    by_cases e : p.1 = k
    · rw [if_pos e, if_pos (h1.symm.trans e)]; exact ⟨h1, ry⟩
    · rw [if_neg e, if_neg (fun z => e (h1.trans z))]; exact ⟨h1, h2⟩
theorem KV.put {kvs : List (κ × V)} {vs : List (κ × Value)} (r : KV kvs vs) (k : κ) {y : V} {u : Value} (ry : RelV y u) : KV (putK kvs k y) (stored vs k u) := by
  unfold putK stored
  rw [r.any k]
  by_cases e : (vs.any fun kv => decide (kv.1 = k)) = true
  · rw [if_pos e, if_pos e]; exact r.repl k ry
  · rw [if_neg e, if_neg e]; exact Paired.snoc r ⟨rfl, ry⟩
theorem KV.drop {kvs : List (κ × V)} {vs : List (κ × Value)} (r : KV kvs vs) (k : κ) : KV (dropK kvs k) (without vs k) := by
  unfold KV at r ⊢
  unfold dropK without
  induction r with
  | nil => exact .nil
  | @cons p q ps qs h t ih =>
    obtain ⟨h1, h2⟩ := h
    rw [List.filter_cons, List.filter_cons]
    by_cases e : p.1 = k
    · have a : ¬ decide (p.1 ≠ k) = true := by simp [e]
      have b : ¬ decide (q.1 ≠ k) = true := by simp [h1.symm.trans e]
      rw [if_neg a, if_neg b]; exact ih
    · have e' : ¬ q.1 = k := fun z => e (h1.trans z)
      have a : decide (p.1 ≠ k) = true := by simp [e]
      have b : decide (q.1 ≠ k) = true := by simp [e']
      rw [if_pos a, if_pos b]; exact .cons ⟨h1, h2⟩ ih
theorem KV.keys {kvs : List (κ × V)} {vs : List (κ × Value)} (r : KV kvs vs) : kvs.map (·.1) = vs.map (·.1) := by
  unfold KV at r
  induction r with
  | nil => rfl
  | cons h t ih => rw [List.map_cons, List.map_cons, ih, h.1]
theorem KV.length {kvs : List (κ × V)} {vs : List (κ × Value)} (r : KV kvs vs) : kvs.length = vs.length := Paired.length r
theorem dropK_le (kvs : List (κ × V)) (k : κ) : (dropK kvs k).length ≤ kvs.length := List.length_filter_le _ _
end


/-! ### a tracked dict, its keys ints and texts or tuples of these -/
theorem kV_is {P : Program} {w : World} {k : Key} {u : Value} (r : RelV (kV k) u) : (mixKind P w).is k u = true := by
  cases k with
  | inl i => obtain ⟨t, e⟩ := (show ∃ t, u = Value.int i t from r); subst e; exact mixKind_int P w i t
  | inr x => obtain ⟨t, e⟩ := (show ∃ t, u = Value.str x t from r); subst e; exact mixKind_str P w x t
theorem kV_inj {a b : Key} (e : kV a = kV b) : a = b := by
  cases a with
  | inl i => cases b with
    | inl j => have e' : V.int i = V.int j := e; injection e' with e'; rw [e']
    | inr y => exact nomatch (show V.int i = V.str y from e)
  | inr x => cases b with
    | inl j => exact nomatch (show V.str x = V.int j from e)
    | inr y => have e' : V.str x = V.str y := e; injection e' with e'; rw [e']
theorem kVs_inj : ∀ {a b : List Key}, a.map kV = b.map kV → a = b
  | [], [], _ => rfl
  | [], _ :: _, e => by simp at e
  | _ :: _, [], e => by simp at e
  | x :: xs, y :: ys, e => by
    rw [List.map_cons, List.map_cons] at e
    injection e with e1 e2
    rw [kV_inj e1, kVs_inj e2]
theorem items_are {P : Program} {w : World} : ∀ {ks : List Key} {us : List Value}, Vals (ks.map kV) us → ItemsAre (mixKind P w) ks us
  | [], _, r => by rw [List.map_nil] at r; cases r; exact .nil
  | k :: ks, _, r => by
    rw [List.map_cons] at r
    cases r with
    | cons h t => exact .cons (kV_is h) (items_are t)

/-- raw entries of a dict with tuple keys -/
abbrev KT (H : Hp) : List (List Key × V) → List (List Key × Addr × Value) → Prop := Paired fun p q => p.1 = q.1 ∧ H q.2.1 = some (.tup (p.1.map kV)) ∧ RelV p.2 q.2.2
theorem KT.val {H : Hp} {kvs : List (List Key × V)} {xs : List (List Key × Addr × Value)} (r : KT H kvs xs) (k : List Key) : RelO (valV kvs k) ((atKey xs k).map (·.2)) := by
  induction r with
  | nil => exact True.intro
  | @cons p q ps qs h t ih =>
    obtain ⟨h1, _, h2⟩ := h
    by_cases e : p.1 = k
    · have e' : q.1 = k := h1.symm.trans e
      have b : atKey (q :: qs) k = some q.2 := by simp [atKey, List.find?_cons, e']
      rw [valV_pos e, b]; exact h2
    · have e' : ¬ q.1 = k := fun z => e (h1.trans z)
      have b : atKey (q :: qs) k = atKey qs k := by simp [atKey, List.find?_cons, e']
      rw [valV_neg e, b]; exact ih
theorem KT.repl {H : Hp} {kvs : List (List Key × V)} {xs : List (List Key × Addr × Value)} (r : KT H kvs xs) (k : List Key) {y : V} {u : Value} (ry : RelV y u) :
    KT H (kvs.map fun kv => if kv.1 = k then (kv.1, y) else kv) (xs.map (putAt k u)) := by
  induction r with
  | nil => exact .nil
  | @cons p q ps qs h t ih =>
    rw [List.map_cons, List.map_cons]
    refine .cons ?_ ih
    obtain ⟨h1, h2, h3⟩ := h
    unfold putAt
    by_cases e : p.1 = k
    · rw [if_pos e, if_pos (h1.symm.trans e)]; exact ⟨h1, h2, ry⟩
    · rw [if_neg e, if_neg (fun z => e (h1.trans z))]; exact ⟨h1, h2, h3⟩
theorem KT.put {H : Hp} {kvs : List (List Key × V)} {xs : List (List Key × Addr × Value)} (r : KT H kvs xs) (k : List Key) {b : Addr} {y : V} {u : Value} (hb : H b = some (.tup (k.map kV))) (ry : RelV y u) :
    KT H (putK kvs k y) (storedH xs k b u) := by
  have e : (kvs.any fun kv => decide (kv.1 = k)) = (atKey xs k).isSome := by
    rw [valV_any, (r.val k).isSome_eq, Option.isSome_map]
  unfold putK storedH
  rw [e]
  by_cases q : (atKey xs k).isSome = true
  · rw [if_pos q, if_pos q]; exact r.repl k ry
  · rw [if_neg q, if_neg q]; exact Paired.snoc r ⟨rfl, hb, ry⟩
theorem KT.keeps {H H' : Hp} {kvs : List (List Key × V)} {xs : List (List Key × Addr × Value)} (r : KT H kvs xs) (ht : ∀ b ys, H b = some (.tup ys) → H' b = some (.tup ys)) : KT H' kvs xs :=
  Paired.mapP r fun _ _ z => ⟨z.1, ht _ _ z.2.1, z.2.2⟩

section
variable {P : Program} {w : World} {H : Hp} {h : Heap} {a : Addr}
theorem rd_of {u : HO} (ok : HOk P w H h) (e : Rd H a u) : ObjOk P w H h a u := e.ok ok
theorem dk_rd {kvs : List (Key × V)} (ok : HOk P w H h) (e : Rd H a (.dK kvs)) : kvs.length ≤ sizeLine ∧ (a == sysModules) = false ∧ ∃ vs, KV kvs vs ∧ h.DictOf (mixKind P w) a vs :=
  show ObjOk P w H h a (.dK kvs) from rd_of ok e
theorem dk_of {kvs : List (Key × V)} (ok : HOk P w H h) (e : H a = some (.dK kvs)) : kvs.length ≤ sizeLine ∧ (a == sysModules) = false ∧ ∃ vs, KV kvs vs ∧ h.DictOf (mixKind P w) a vs := dk_rd ok (.inl e)
/-- a tracked tuple of ints and texts is a key -/
theorem key_of {ks : List Key} (ok : HOk P w H h) (e : H a = some (.tup (ks.map kV))) : (tupleKind (mixKind P w)).is h ks a := by
  obtain ⟨_, its, r, o, h1, h2, n, h3⟩ := (show ObjOk P w H h a (.tup (ks.map kV)) from ok a _ e)
  exact ⟨o, its.toArray, n, h1, h2, h3, by simpa using items_are r⟩
theorem dt_rd {kvs : List (List Key × V)} (ok : HOk P w H h) (e : Rd H a (.dT kvs)) : kvs.length ≤ sizeLine ∧ (a == sysModules) = false ∧
    ∃ xs, KT H kvs xs ∧ h.DictOfH (tupleKind (mixKind P w)) a xs := by
  obtain ⟨z, y, xs, r, o, es, ep, h1, h2, h3, h4, h5⟩ := (show ObjOk P w H h a (.dT kvs) from rd_of ok e)
  refine ⟨z, y, xs, r, o, es, ep, h1, h2, h3, h4, fun x hx => ?_, h5⟩
  have all : ∀ {l : List (List Key × V)} {m : List (List Key × Addr × Value)}, KT H l m → ∀ x ∈ m, (tupleKind (mixKind P w)).is h x.1 x.2.1 := by
    intro l m q
    induction q with
    | nil => intro x hx; exact nomatch hx
    | @cons p q ps qs hq t ih =>
      intro x hx
      rcases List.mem_cons.mp hx with e | hx
      · subst e
        exact key_of ok (by rw [← hq.1]; exact hq.2.1)
      · exact ih x hx
  exact all r x hx
theorem dt_of {kvs : List (List Key × V)} (ok : HOk P w H h) (e : H a = some (.dT kvs)) : kvs.length ≤ sizeLine ∧ (a == sysModules) = false ∧
    ∃ xs, KT H kvs xs ∧ h.DictOfH (tupleKind (mixKind P w)) a xs := dt_rd ok (.inl e)
end

/-- what the dict at a holds at the key y -/
def DGet (H : Hp) (a : Addr) (y : V) (r : Option V) : Prop :=
  (∃ kvs k, Rd H a (.dK kvs) ∧ y = kV k ∧ r = valV kvs k) ∨ ∃ kvs k b, Rd H a (.dT kvs) ∧ y = .ref b ∧ H b = some (.tup (k.map kV)) ∧ r = valV kvs k
/-- the heap behind a[y] = v -/
def DPut (H : Hp) (a : Addr) (y v : V) (H' : Hp) : Prop :=
  (∃ kvs k, H a = some (.dK kvs) ∧ y = kV k ∧ kvs.length < sizeLine ∧ H' = upd H a (.dK (putK kvs k v))) ∨
  ∃ kvs k b, H a = some (.dT kvs) ∧ y = .ref b ∧ H b = some (.tup (k.map kV)) ∧ kvs.length < sizeLine ∧ H' = upd H a (.dT (putK kvs k v))
theorem DGet.k {H : Hp} {a : Addr} {kvs : List (Key × V)} {k : Key} (e : H a = some (.dK kvs)) : DGet H a (kV k) (valV kvs k) := .inl ⟨kvs, k, .inl e, rfl, rfl⟩
theorem DGet.t {H : Hp} {a b : Addr} {kvs : List (List Key × V)} {k : List Key} (e : H a = some (.dT kvs)) (eb : H b = some (.tup (k.map kV))) : DGet H a (.ref b) (valV kvs k) := .inr ⟨kvs, k, b, .inl e, rfl, eb, rfl⟩
theorem DPut.k {H : Hp} {a : Addr} {kvs : List (Key × V)} {k : Key} {v : V} (e : H a = some (.dK kvs)) (hl : kvs.length < sizeLine) : DPut H a (kV k) v (upd H a (.dK (putK kvs k v))) := .inl ⟨kvs, k, e, rfl, hl, rfl⟩
theorem DPut.t {H : Hp} {a b : Addr} {kvs : List (List Key × V)} {k : List Key} {v : V} (e : H a = some (.dT kvs)) (eb : H b = some (.tup (k.map kV))) (hl : kvs.length < sizeLine) :
    DPut H a (.ref b) v (upd H a (.dT (putK kvs k v))) := .inr ⟨kvs, k, b, e, rfl, eb, hl, rfl⟩


section
variable {X : Cx} {pins : List (Addr × Obj)} {σ : St} {H : Hp} {s : Shared} {a : Addr} {y v : V} {u r : Value} {o : Option V} {A : Around} {E : Value → Shared → Prop}

theorem Inv.big (I : Inv X pins σ H s) : sysModules < s.heap.objs.size := by
  have h : mainGlobals < s.heap.objs.size := (I.mod.glob.keeps I.bk).lt
  exact Nat.lt_trans (by decide) h

/-- d[y], there -/
theorem d_getItem {Q : Value → Shared → Prop} (hu : A.units + 1 < cLine) (I : Inv X pins σ H s) (g : DGet H a y (some v)) (ry : RelV y u) (h : ∀ w' s', Inv X pins σ H s' → RelV v w' → Q w' s') :
    wpAny (model X.prog X.w) A (getItem (.ref a) u) Q E s := by
  rcases g with ⟨kvs, k, e, ey, l⟩ | ⟨kvs, k, b, e, ey, eb, l⟩
  · subst ey
    obtain ⟨z, hd, vs, rel, dd⟩ := dk_rd I.hok e
    obtain ⟨w', hw, rw'⟩ := RelO.some_of (v := v) (o := valueAt vs k) (by rw [l]; exact rel.val k)
    exact wpAny_getItem_of (kV_is ry) dd.mapOf hw (h w' _ (I.tok _) rw')
  · subst ey
    cases (show u = Value.ref b from ry)
    obtain ⟨z, hd, xs, rel, dd⟩ := dt_rd I.hok e
    obtain ⟨w', hw, rw'⟩ := RelO.some_of (v := v) (o := (atKey xs k).map (·.2)) (by rw [l]; exact rel.val k)
    obtain ⟨p, hp, hp2⟩ := Option.map_eq_some_iff.mp hw
    refine wpAny_getItem_heap (tupleKind_room_in1 hu) (key_of I.hok eb) dd hp ?_
    rw [hp2]
    exact h w' _ (I.tok _) rw'
/-- y in d -/
theorem d_in {Q : Value → Shared → Prop} (hu : A.units + 1 < cLine) (I : Inv X pins σ H s) (g : DGet H a y o) (ry : RelV y u) (h : ∀ s', Inv X pins σ H s' → Q (.bool o.isSome) s') :
    wpAny (model X.prog X.w) A (compareOp .In u (.ref a)) Q E s := by
  rcases g with ⟨kvs, k, e, ey, l⟩ | ⟨kvs, k, b, e, ey, eb, l⟩
  · subst ey
    obtain ⟨z, hd, vs, rel, dd⟩ := dk_rd I.hok e
    refine wpAny_in_of (kV_is ry) hd dd.mapOf ?_
    rw [← (rel.val k).isSome_eq, ← l]
    exact h _ (I.tok _)
  · subst ey
    cases (show u = Value.ref b from ry)
    obtain ⟨z, hd, xs, rel, dd⟩ := dt_rd I.hok e
    refine wpAny_in_heap (tupleKind_room_in1 hu) (key_of I.hok eb) hd dd ?_
    have q := (rel.val k).isSome_eq
    rw [Option.isSome_map] at q
    rw [← q, ← l]
    exact h _ (I.tok _)
theorem d_notIn {Q : Value → Shared → Prop} (hu : A.units + 1 < cLine) (I : Inv X pins σ H s) (g : DGet H a y o) (ry : RelV y u) (h : ∀ s', Inv X pins σ H s' → Q (.bool (!o.isSome)) s') :
    wpAny (model X.prog X.w) A (compareOp .NotIn u (.ref a)) Q E s := by
  rcases g with ⟨kvs, k, e, ey, l⟩ | ⟨kvs, k, b, e, ey, eb, l⟩
  · subst ey
    obtain ⟨z, hd, vs, rel, dd⟩ := dk_rd I.hok e
    refine wpAny_notIn_of (kV_is ry) hd dd.mapOf ?_
    rw [← (rel.val k).isSome_eq, ← l]
    exact h _ (I.tok _)
  · subst ey
    cases (show u = Value.ref b from ry)
    obtain ⟨z, hd, xs, rel, dd⟩ := dt_rd I.hok e
    refine wpAny_notIn_heap (tupleKind_room_in1 hu) (key_of I.hok eb) hd dd ?_
    have q := (rel.val k).isSome_eq
    rw [Option.isSome_map] at q
    rw [← q, ← l]
    exact h _ (I.tok _)
/-- a dict's object is replaced -/
theorem d_write {h' : Heap} {t' : Nat} {ob : HO} (I : Inv X pins σ H s) (mu : Mut (H a)) (hs : Heap.SameBut a s.heap h') (he : ∃ q, h'.get? a = some q) (new : ObjOk X.prog X.w (upd H a ob) h' a ob) :
    Inv X pins σ (upd H a ob) { s with heap := h', toks := t' } :=
  I.write (x := a) (e := a) mu (.inl rfl) (fun b q hb z => (hs.2 b hb).trans z) he new
theorem dk_new {P : Program} {w : World} {H' : Hp} {h' : Heap} {kvs : List (Key × V)} {vs : List (Key × Value)} (z : kvs.length ≤ sizeLine) (hd : (a == sysModules) = false) (rel : KV kvs vs) (dd : h'.DictOf (mixKind P w) a vs) :
    ObjOk P w H' h' a (.dK kvs) := ⟨z, hd, vs, rel, dd⟩
/-- d[y] = v -/
theorem d_setItem {H' : Hp} {Q : Unit → Shared → Prop} (hu : A.units + 1 < cLine) (I : Inv X pins σ H s) (g : DPut H a y v H') (ry : RelV y u) (rv : RelV v r) (h : ∀ s', Inv X pins σ H' s' → Q () s') :
    wpAny (model X.prog X.w) A (setItem (.ref a) u r) Q E s := by
  rcases g with ⟨kvs, k, e, ey, l, eH⟩ | ⟨kvs, k, b, e, ey, eb, l, eH⟩
  · subst ey eH
    obtain ⟨z, hd, vs, rel, dd⟩ := dk_of I.hok e
    have hz : vs.length ≤ sizeLine := by rw [← rel.length]; exact z
    have hl : (putK kvs k v).length ≤ sizeLine := by have := length_putK kvs k v; omega
    refine wpAny_setItem_pairs (hsz := hz) (kV_is ry) dd fun h' dd' hs => h _ ?_
    have he : ∃ q, h'.get? a = some q := let ⟨q, _, _, hq, _⟩ := dd'; ⟨q, hq⟩
    exact d_write I (by rw [e]; exact True.intro) hs he (dk_new hl hd (rel.put k rv) dd')
  · subst ey eH
    cases (show u = Value.ref b from ry)
    obtain ⟨z, hd, xs, rel, dd⟩ := dt_of I.hok e
    have hz : xs.length ≤ sizeLine := by rw [← Paired.length rel]; exact z
    have hl : (putK kvs k v).length ≤ sizeLine := by have := length_putK kvs k v; omega
    refine wpAny_setItem_heap (hsz := hz) (tupleKind_room_in1 hu) (key_of I.hok eb) dd fun h' dd' hs => h _ ?_
    obtain ⟨q, es, ep, hq, h2, h3, h4, _, h5⟩ := dd'
    refine d_write I (by rw [e]; exact True.intro) hs ⟨q, hq⟩ ⟨hl, hd, _, (rel.put k eb rv).keeps fun c ys ec => ?_, q, es, ep, hq, h2, h3, h4, h5⟩
    rw [upd_ne (ne_of ec e (fun z => nomatch z))]
    exact ec
end

section
variable {X : Cx} {pins : List (Addr × Obj)} {σ : St} {H : Hp} {s : Shared} {a : Addr} {kvs : List (Key × V)} {k : Key} {u : Value} {A : Around} {E : Value → Shared → Prop}
/-- del d[k] -/
theorem d_delItem {Q : Unit → Shared → Prop} (I : Inv X pins σ H s) (e : H a = some (.dK kvs)) (ry : RelV (kV k) u) (l : (valV kvs k).isSome = true) (h : ∀ s', Inv X pins σ (upd H a (.dK (dropK kvs k))) s' → Q () s') :
    wpAny (model X.prog X.w) A (delItem (.ref a) u) Q E s := by
  obtain ⟨z, hd, vs, rel, dd⟩ := dk_of I.hok e
  refine wpAny_delItem_slot dd.typeIs (by decide) PySem.F.slot_dict_delitem
    (call_meetsIn PySem.F.slot_dict_delitem dd.typeIs PySem.F.entry_dict_delitem (PySem.F.args_dict_delitem_2 _ _) (meets_dict_delitem_pairs (mixKind X.prog X.w) a (kV_is ry)) ⟨vs, dd, by rw [← rel.length]; exact z, by rw [← (rel.val k).isSome_eq]; exact l, fun h' dd' hs => h _ ?_⟩)
  have he : ∃ q, h'.get? a = some q := let ⟨q, _, _, hq, _⟩ := dd'; ⟨q, hq⟩
  exact d_write I (by rw [e]; exact True.intro) hs he (dk_new (Nat.le_trans (dropK_le kvs k) z) hd (rel.drop k) dd')
/-- d.pop(k[, x]), there -/
theorem d_pop {v : V} {more : List Value} {Q : Value → Shared → Prop} (I : Inv X pins σ H s) (e : H a = some (.dK kvs)) (ry : RelV (kV k) u) (l : valV kvs k = some v) (hm : more = [] ∨ ∃ x, more = [x])
    (h : ∀ w' s', Inv X pins σ (upd H a (.dK (dropK kvs k))) s' → RelV v w' → Q w' s') : wpAny (model X.prog X.w) A (call (.builtin "dict.pop") (.ref a :: u :: more)) Q E s := by
  obtain ⟨z, hd, vs, rel, dd⟩ := dk_of I.hok e
  obtain ⟨w', hw, rw'⟩ := RelO.some_of (v := v) (o := valueAt vs k) (by rw [← l]; exact rel.val k)
  have hp : (keyPart u).isSome = true := by
    cases k with
    | inl i => obtain ⟨t, q⟩ := (show ∃ t, u = Value.int i t from ry); subst q; rfl
    | inr x => obtain ⟨t, q⟩ := (show ∃ t, u = Value.str x t from ry); subst q; rfl
  have ha : argsOk "dict.pop" ⟨.ref a :: u :: more, []⟩ := by
    rcases hm with q | ⟨x, q⟩
    · subst q; exact PySem.F.args_dict_pop_2 _ _
    · subst q; exact PySem.F.args_dict_pop_3 _ _ _
  refine call_meetsIn PySem.F.slot_dict_pop dd.typeIs PySem.F.entry_dict_pop ha (meets_dict_pop_there (mixKind X.prog X.w) a (kV_is ry) more hm hp)
    ⟨vs, w', dd, by rw [← rel.length]; exact z, hw, fun h' dd' hs => h w' _ ?_ rw'⟩
  have he : ∃ q, h'.get? a = some q := let ⟨q, _, _, hq, _⟩ := dd'; ⟨q, hq⟩
  exact d_write I (by rw [e]; exact True.intro) hs he (dk_new (Nat.le_trans (dropK_le kvs k) z) hd (rel.drop k) dd')
/-- d.pop(k, x), not there -/
theorem d_popD {r : Value} {Q : Value → Shared → Prop} (I : Inv X pins σ H s) (e : H a = some (.dK kvs)) (ry : RelV (kV k) u) (l : valV kvs k = none) (h : ∀ s', Inv X pins σ H s' → Q r s') :
    wpAny (model X.prog X.w) A (call (.builtin "dict.pop") [.ref a, u, r]) Q E s := by
  obtain ⟨z, hd, vs, rel, dd⟩ := dk_of I.hok e
  have hn : valueAt vs k = none := RelO.none_of (by rw [← l]; exact rel.val k)
  have hp : (keyPart u).isSome = true := by
    cases k with
    | inl i => obtain ⟨t, q⟩ := (show ∃ t, u = Value.int i t from ry); subst q; rfl
    | inr x => obtain ⟨t, q⟩ := (show ∃ t, u = Value.str x t from ry); subst q; rfl
  exact call_meetsIn PySem.F.slot_dict_pop dd.typeIs PySem.F.entry_dict_pop (PySem.F.args_dict_pop_3 _ _ _) (meets_dict_pop_default (mixKind X.prog X.w) a (kV_is ry) hd hp r) ⟨vs, dd, hn, h _ (I.tok _)⟩
/-- d.clear() -/
theorem d_clear {Q : Value → Shared → Prop} (I : Inv X pins σ H s) (e : H a = some (.dK kvs)) (h : ∀ s', Inv X pins σ (upd H a (.dK [])) s' → Q .none s') : wpAny (model X.prog X.w) A (call (.builtin "dict.clear") [.ref a]) Q E s := by
  obtain ⟨z, hd, vs, rel, dd⟩ := dk_of I.hok e
  refine call_meetsIn PySem.F.slot_dict_clear dd.typeIs PySem.F.entry_dict_clear (PySem.F.args_dict_clear_1 _) (meets_dict_clear (mixKind X.prog X.w) a) ⟨vs, dd, by rw [← rel.length]; exact z, fun h' dd' hs => h _ ?_⟩
  have he : ∃ q, h'.get? a = some q := let ⟨q, _, _, hq, _⟩ := dd'; ⟨q, hq⟩
  exact d_write (t' := s.toks) I (by rw [e]; exact True.intro) hs he (dk_new (Nat.zero_le _) hd .nil dd')
/-- len(d) -/
theorem d_len {Q : Value → Shared → Prop} (I : Inv X pins σ H s) (e : Rd H a (.dK kvs)) (h : ∀ t s', Inv X pins σ H s' → Q (.int kvs.length t) s') : wpAny (model X.prog X.w) A (call (.builtin "len") [.ref a]) Q E s := by
  obtain ⟨z, hd, vs, rel, dd⟩ := dk_rd I.hok e
  refine call_len_dict hd dd (by rw [← rel.length]; rw [sizeLine_eq] at z; omega) ?_
  rw [← rel.length]
  exact h _ _ (I.tok _)
/-- if d -/
theorem d_truth {Q : Bool → Shared → Prop} (I : Inv X pins σ H s) (e : Rd H a (.dK kvs)) (h : ∀ s', Inv X pins σ H s' → Q (!kvs.isEmpty) s') : wpAny (model X.prog X.w) A (truthy (.ref a)) Q E s := by
  obtain ⟨z, hd, vs, rel, dd⟩ := dk_rd I.hok e
  refine wpAny_truthy_dict hd dd (by rw [← rel.length]; rw [sizeLine_eq] at z; omega) ?_
  have q : kvs.isEmpty = vs.isEmpty := by cases rel <;> rfl
  rw [← q]
  exact h _ (I.tok _)
end


/-! ### readings and rules -/
/-- the element of a subscription, not a slice -/
def NoSl (i : Expr) : Prop := ∀ ov iv, subscripted i false ov iv = operate [ov, iv] (getItem ov iv)
theorem subD_of {prog : Program} {w : World} {A : Around} {E : Value → Shared → Prop} {s : Shared} {env : Env} {value slice : Expr} {pos : Pos} {T id : String} {Q : Value → Shared → Prop}
    (hl : typeLookup (.type T) "__getitem__" = pure (some (.builtin id))) (hs : NoSl slice)
    (h : wpAny (model prog w) A (eval value env) (fun o s₁ => wpAny (model prog w) A (eval slice env) (fun i s₂ => s₂.TypeIs o T ∧ wpAny (model prog w) A (getItem o i) Q E s₂) E s₁) E s) :
    wpAny (model prog w) A (eval (.Subscript value slice pos) env) Q E s := by
  refine Subscript_ (wpAny_mono h (fun o s₁ h₁ => wpAny_mono h₁ (fun i s₂ h₂ => ?_) fun _ _ x => x) fun _ _ x => x)
  obtain ⟨hT, h₂⟩ := h₂
  unfold subscriptTail
  refine wpAny_bind ?_
  rw [getitemInPython_of_ne hT.not_modules]
  refine wpAny_bind (wpAny_specialOf hT hl ?_)
  have fin : wpAny (model prog w) A (subscripted slice false o i) (fun r s₃ => wpAny (model prog w) A (letTemporaryGo value o r >>= fun _ => pure r) Q E s₃) E s₂ := by
    rw [hs o i]
    exact wpAny_operating (wpAny_mono h₂ (fun r s₃ h₃ => wpAny_bind (wpAny_letTemporaryGo (wpAny_pure h₃))) fun _ _ x => x)
  first
    | exact wpAny_pure (wpAny_bind fin)
    | exact wpAny_bind (wpAny_pure (wpAny_bind fin))
    | exact wpAny_bind fin

theorem dict_typeIs {X : Cx} {pins : List (Addr × Obj)} {σ : St} {H : Hp} {s : Shared} {a : Addr} {y : V} {o : Option V} (I : Inv X pins σ H s) (g : DGet H a y o) : s.TypeIs (.ref a) "dict" := by
  rcases g with ⟨kvs, k, e, _, _⟩ | ⟨kvs, k, b, e, _, _, _⟩
  · obtain ⟨_, _, vs, _, dd⟩ := dk_rd I.hok e
    exact dd.typeIs
  · obtain ⟨_, _, xs, _, dd⟩ := dt_rd I.hok e
    exact dd.typeIs
theorem dict_noDict {X : Cx} {pins : List (Addr × Obj)} {σ : St} {H : Hp} {s : Shared} {a : Addr} {y : V} {o : Option V} (I : Inv X pins σ H s) (g : DGet H a y o) :
    ∀ b, Value.ref a = .ref b → ∃ ob, s.heap.get? b = some ob ∧ ob.dict = none := fun b q => by
  cases q
  rcases g with ⟨kvs, k, e, _, _⟩ | ⟨kvs, k, b, e, _, _, _⟩
  · obtain ⟨_, _, vs, _, ob, _, _, h1, h2, _⟩ := dk_rd I.hok e
    exact ⟨ob, h1, h2.2.1⟩
  · obtain ⟨_, _, xs, _, ob, _, _, h1, h2, _⟩ := dt_rd I.hok e
    exact ⟨ob, h1, h2.2.1⟩

/-- d[y] -/
def tDGet (td ty : TE) : TE := fun σ H Q => td σ H fun x H1 => ty σ H1 fun y H2 => ∃ a v, x = .ref a ∧ DGet H2 a y (some v) ∧ Q v H2
/-- y in d, y not in d -/
def tDIn (ty td : TE) : TE := fun σ H Q => ty σ H fun y H1 => td σ H1 fun x H2 => ∃ a o, x = .ref a ∧ DGet H2 a y o ∧ Q (.bl o.isSome) H2
def tDNotIn (ty td : TE) : TE := fun σ H Q => ty σ H fun y H1 => td σ H1 fun x H2 => ∃ a o, x = .ref a ∧ DGet H2 a y o ∧ Q (.bl (!o.isSome)) H2
/-- d[y] = v -/
def sDPut (td ty tv : TE) : TS := fun D σ H => tv σ H fun v H1 => td σ H1 fun x H2 => ty σ H2 fun y H3 => ∃ a H4, x = .ref a ∧ DPut H3 a y v H4 ∧ D.nx σ H4
/-- d[y] op= v -/
def sDAug (td ty tv : TE) (rd : V → V → Hp → VK → Prop) : TS := fun D σ H => td σ H fun x H1 => ty σ H1 fun y H2 => ∃ a v, x = .ref a ∧ DGet H2 a y (some v) ∧
  tv σ H2 fun y2 H3 => rd v y2 H3 fun z H4 => ∃ H5, DPut H4 a y z H5 ∧ D.nx σ H5
/-- del d[y] -/
def sDDel (td ty : TE) : TS := fun D σ H => td σ H fun x H1 => ty σ H1 fun y H2 => ∃ a kvs k, x = .ref a ∧ H2 a = some (.dK kvs) ∧ y = kV k ∧ (valV kvs k).isSome = true ∧ D.nx σ (upd H2 a (.dK (dropK kvs k)))

section
variable {X : Cx} {o i e value : Expr} {pos pos' tpos : Pos} {td ty tv : TE}
theorem pe_dget (hu : X.A.units + 1 < cLine) (ho : PE X o td) (hi : PE X i ty) (hs : NoSl i) : PE X (.Subscript o i pos) (tDGet td ty) := by
  intro pins s σ H Q I h
  refine subD_of PySem.F.slot_dict_getitem.lookup hs (thn (ho pins s σ H _ I h) fun u s1 ⟨x, H1, I1, rx, q1⟩ => thn (hi pins s1 σ H1 _ I1 q1) fun iv s2 ⟨y, H2, I2, ry, a, v, ex, g, q2⟩ => ?_)
  subst ex
  obtain rfl : u = Value.ref a := rx
  exact ⟨dict_typeIs I2 g, d_getItem hu I2 g ry fun w' s3 I3 rw' => ⟨v, H2, I3, rw', q2⟩⟩
theorem pc_din (hu : X.A.units + 1 < cLine) (hi : PE X i ty) (ho : PE X o td) : PC X .In i o (tDIn ty td) := by
  intro pins s σ H Q I h
  refine thn (hi pins s σ H _ I h) fun iv s1 ⟨y, H1, I1, ry, q1⟩ => thn (ho pins s1 σ H1 _ I1 q1) fun u s2 ⟨x, H2, I2, rx, a, ov, ex, g, q2⟩ => ?_
  subst ex
  obtain rfl : u = Value.ref a := rx
  exact d_in hu I2 g ry fun s3 I3 => ⟨.bl ov.isSome, H2, I3, rfl, q2⟩
theorem pc_dnotin (hu : X.A.units + 1 < cLine) (hi : PE X i ty) (ho : PE X o td) : PC X .NotIn i o (tDNotIn ty td) := by
  intro pins s σ H Q I h
  refine thn (hi pins s σ H _ I h) fun iv s1 ⟨y, H1, I1, ry, q1⟩ => thn (ho pins s1 σ H1 _ I1 q1) fun u s2 ⟨x, H2, I2, rx, a, ov, ex, g, q2⟩ => ?_
  subst ex
  obtain rfl : u = Value.ref a := rx
  exact d_notIn hu I2 g ry fun s3 I3 => ⟨.bl (!ov.isSome), H2, I3, rfl, q2⟩
theorem ps_dput (hu : X.A.units + 1 < cLine) (ho : PE X o td) (hi : PE X i ty) (hv : PE X value tv) (hs : swapsWith value (some (.Subscript o i pos')) pos.line X.env = pure false) :
    PS X (.Assign [.Subscript o i pos'] value pos) (sDPut td ty tv) := by
  intro pins s σ H D I h
  refine wpAny_Assign_Subscript (thn (hv pins s σ H _ I h) fun r s1 ⟨v, H1, I1, rv, q1⟩ => thn (ho pins s1 σ H1 _ I1 q1) fun u s2 ⟨x, H2, I2, rx, q2⟩ => thn (hi pins s2 σ H2 _ I2 q2) fun iv s3 ⟨y, H3, I3, ry, a, H4, ex, g, q3⟩ => ?_) hs
  subst ex
  obtain rfl : u = Value.ref a := rx
  exact d_setItem hu I3 g ry rv fun s4 I4 => ⟨σ, H4, I4, q3⟩
theorem ps_daug {op : Operator} {rd : V → V → Hp → VK → Prop} (hu : X.A.units + 1 < cLine) (ho : PE X o td) (hi : PE X i ty) (hv : PE X value tv) (hop : InOp X op rd)
    (ha : ∀ ov iv new, augStore i ov iv new = (do holding [new, ov, iv] (setItem ov iv new); release [new, ov, iv] []; pure .next)) : PS X (.AugAssign (.Subscript o i tpos) op value pos) (sDAug td ty tv rd) := by
  intro pins s σ H D I h
  refine wpAny_AugAssign_SubscriptAny (thn (ho pins s σ H _ I h) fun u s1 ⟨x, H1, I1, rx, q1⟩ => thn (hi pins s1 σ H1 _ I1 q1) fun iv s2 ⟨y, H2, I2, ry, a, v, ex, g, q2⟩ => ?_) ha
  subst ex
  obtain rfl : u = Value.ref a := rx
  refine d_getItem hu I2 g ry fun w' s3 I3 rw' => thn (hv pins s3 σ H2 _ I3 q2) fun w2 s4 ⟨y2, H3, I4, ry2, q3⟩ => thn (hop pins s4 σ H3 v y2 w' w2 _ I4 rw' ry2 q3) fun w3 s5 ⟨z, H4, I5, rz, H5, g5, q4⟩ => ?_
  exact d_setItem hu I5 g5 ry rz fun s6 I6 => ⟨σ, H5, I6, q4⟩
theorem ps_ddel (ho : PE X o td) (hi : PE X i ty) : PS X (.Delete [.Subscript o i tpos] pos) (sDDel td ty) := by
  intro pins s σ H D I h
  refine wpAny_Delete (wpAny_deleteEach_cons (wpAny_delete_Subscript (thn (ho pins s σ H _ I h) fun u s1 ⟨x, H1, I1, rx, q1⟩ => thn (hi pins s1 σ H1 _ I1 q1) fun iv s2 ⟨y, H2, I2, ry, a, kvs, k, ex, e, ey, l, q2⟩ => ?_)))
  subst ex ey
  obtain rfl : u = Value.ref a := rx
  exact d_delItem I2 e ry l fun s3 I3 => wpAny_deleteEach_nil ⟨σ, _, I3, q2⟩
end


/-! ### displays -/
theorem dk_empty {P : Program} {w : World} {H : Hp} (h : Heap) (hb : sysModules < h.objs.size) : ObjOk P w H (h.push { cls := .type "dict", data := .dict #[] }) h.objs.size (.dK []) :=
  ⟨Nat.zero_le _, beq_eq_false_iff_ne.mpr (Ne.symm (Nat.ne_of_lt hb)), [], .nil, Heap.DictOf.new h⟩
theorem dt_empty {P : Program} {w : World} {H : Hp} (h : Heap) (hb : sysModules < h.objs.size) : ObjOk P w H (h.push { cls := .type "dict", data := .dict #[] }) h.objs.size (.dT []) :=
  ⟨Nat.zero_le _, beq_eq_false_iff_ne.mpr (Ne.symm (Nat.ne_of_lt hb)), [], .nil, _, #[], 0, Heap.get?_push_size _ rfl, ⟨rfl, rfl, rfl⟩, rfl, rfl, List.nodup_nil⟩
/-- {}, to be a dict of the kind that is wanted -/
def tDNewK : TE := fun _ H Q => ∀ p, H p = none → Q (.ref p) (upd H p (.dK []))
def tDNewT : TE := fun _ H Q => ∀ p, H p = none → Q (.ref p) (upd H p (.dT []))
section
variable {X : Cx} {pos : Pos}
theorem pe_dnewK : PE X (.Dict [] [] pos) tDNewK := fun pins s σ H Q I h =>
  wpAny_Dict_empty ⟨.ref s.heap.objs.size, _, I.laid (a := s.heap.objs.size) (o := .dK []) (t' := s.toks) (fun _ _ q => Heap.get?_push_of_some _ q) (Nat.le_refl _) (dk_empty s.heap I.big), rfl, h _ (I.hok.fresh (Nat.le_refl _))⟩
theorem pe_dnewT : PE X (.Dict [] [] pos) tDNewT := fun pins s σ H Q I h =>
  wpAny_Dict_empty ⟨.ref s.heap.objs.size, _, I.laid (a := s.heap.objs.size) (o := .dT []) (t' := s.toks) (fun _ _ q => Heap.get?_push_of_some _ q) (Nat.le_refl _) (dt_empty s.heap I.big), rfl, h _ (I.hok.fresh (Nat.le_refl _))⟩
end

/-- the pairs of a display, from the left -/
def tPairs : List (TE × TE) → St → Hp → (List (V × V) → Hp → Prop) → Prop
  | [], _, H, Q => Q [] H
  | (tk, tv) :: r, σ, H, Q => tk σ H fun x H1 => tv σ H1 fun y H2 => tPairs r σ H2 fun ps H3 => Q ((x, y) :: ps) H3
abbrev VV : List (V × V) → List (Value × Value) → Prop := Paired fun p q => RelV p.1 q.1 ∧ RelV p.2 q.2
def PPs (X : Cx) (pos : Pos) (keys : List (Option Expr)) (values : List Expr) (trs : List (TE × TE)) : Prop :=
  ∀ (pins : List (Addr × Obj)) (s : Shared) (σ : St) (H : Hp) (Q : List (V × V) → Hp → Prop), Inv X pins σ H s → tPairs trs σ H Q →
    wpAny (model X.prog X.w) X.A (evalPairs (pairTrees keys values X.env pos)) (fun vs s' => ∃ ps H', Inv X pins σ H' s' ∧ VV ps vs ∧ Q ps H') X.xe s
theorem pps_nil {X : Cx} {pos : Pos} : PPs X pos [] [] [] := fun pins s σ H Q I h => pairTrees_nil_walk ⟨[], H, I, .nil, h⟩
theorem pps_cons {X : Cx} {pos : Pos} {k v : Expr} {ks : List (Option Expr)} {vs : List Expr} {tk tv : TE} {trs : List (TE × TE)} (hk : PE X k tk) (hv : PE X v tv) (hr : PPs X pos ks vs trs) :
    PPs X pos (some k :: ks) (v :: vs) ((tk, tv) :: trs) := fun pins s σ H Q I h =>
  pairTrees_cons_walk (thn (hk pins s σ H _ I h) fun u s1 ⟨x, H1, I1, rx, q1⟩ => thn (hv pins s1 σ H1 _ I1 q1) fun w2 s2 ⟨y, H2, I2, ry, q2⟩ =>
    thn (hr pins s2 σ H2 _ I2 q2) fun ws s3 ⟨ps, H3, I3, rel, q3⟩ => ⟨(x, y) :: ps, H3, I3, .cons ⟨rx, ry⟩ rel, q3⟩)

def mergeK (kvs more : List (Key × V)) : List (Key × V) := more.foldl (fun acc kv => putK acc kv.1 kv.2) kvs
theorem KV.merge : ∀ {more : List (Key × V)} {rs : List (Key × Value)} {kvs : List (Key × V)} {vs : List (Key × Value)}, KV more rs → KV kvs vs → KV (mergeK kvs more) (merged vs rs) := by
  intro more rs kvs vs r
  unfold KV at r
  induction r generalizing kvs vs with
  | nil => intro q; exact q
  | @cons p q ps qs h t ih =>
    intro r0
    have e : KV (putK kvs p.1 p.2) (stored vs q.1 q.2) := by
      have := r0.put p.1 h.2
      rw [← h.1]; exact this
    exact ih e
theorem length_mergeK : ∀ (more kvs : List (Key × V)), (mergeK kvs more).length ≤ kvs.length + more.length
  | [], kvs => by show kvs.length ≤ kvs.length + 0; omega
  | p :: r, kvs => by
    have h1 := length_mergeK r (putK kvs p.1 p.2)
    have h2 := length_putK kvs p.1 p.2
    show (mergeK (putK kvs p.1 p.2) r).length ≤ _
    rw [List.length_cons]; omega
theorem carries_of {P : Program} {w : World} : ∀ {kvs : List (Key × V)} {ws : List (Value × Value)}, VV (kvs.map fun kv => (kV kv.1, kv.2)) ws → ∃ rs, Carries (mixKind P w) ws rs ∧ KV kvs rs
  | [], _, r => by rw [List.map_nil] at r; cases r; exact ⟨[], True.intro, .nil⟩
  | p :: kvs, _, r => by
    rw [List.map_cons] at r
    cases r with
    | @cons a b as bs h t =>
      obtain ⟨rs, c, q⟩ := carries_of (P := P) (w := w) t
      obtain ⟨b1, b2⟩ := b
      exact ⟨(p.1, b2) :: rs, ⟨kV_is h.1, rfl, c⟩, .cons ⟨rfl, h.2⟩ q⟩
/-- {k: v, ..} with keys ints and texts; the new dict stands empty while the pairs are made -/
def tDisp (trs : List (TE × TE)) : TE := fun σ H Q => ∀ p, H p = none → tPairs trs σ (upd H p (.dK [])) fun ps H2 => H2 p = some (.dK []) ∧ ∃ kvs : List (Key × V), ps = kvs.map (fun kv => (kV kv.1, kv.2)) ∧ kvs.length ≤ 15 ∧ Q (.ref p) (upd H2 p (.dK (mergeK [] kvs)))
theorem pe_disp {X : Cx} {pos : Pos} {keys : List (Option Expr)} {values : List Expr} {trs : List (TE × TE)} (h : PPs X pos keys values trs) (hall : keys.all (·.isSome) = true) (hl : keys.length = values.length) (h0 : keys ≠ [])
    (h15 : keys.length ≤ 15) : PE X (.Dict keys values pos) (tDisp trs) := by
  intro pins s σ H Q I q
  have hn := I.hok.fresh (Nat.le_refl s.heap.objs.size)
  have I1 := I.laid (a := s.heap.objs.size) (o := .dK []) (h' := s.heap.push { cls := .type "dict", data := .dict #[] }) (t' := s.toks) (fun _ _ q => Heap.get?_push_of_some _ q) (Nat.le_refl _) (dk_empty s.heap I.big)
  refine wpAny_Dict_walk (knd := mixKind X.prog X.w) hall hl h0 h15 (thn (h pins _ σ _ _ I1 (q _ hn)) fun ws s2 ⟨ps, H2, I2, rel, e, kvs, ep, lk, q2⟩ => ?_)
  subst ep
  obtain ⟨rs, c, rk⟩ := carries_of (P := X.prog) (w := X.w) rel
  obtain ⟨z, hd, vs0, r0, dd⟩ := dk_of I2.hok e
  cases r0
  refine ⟨rs, c, dd, fun h' dd' hs => ⟨.ref s.heap.objs.size, _, ?_, rfl, q2⟩⟩
  have hz : (mergeK [] kvs).length ≤ sizeLine := by
    have h1 := length_mergeK kvs []
    rw [List.length_nil] at h1
    rw [sizeLine_eq]; omega
  have he : ∃ q, h'.get? s.heap.objs.size = some q := let ⟨q, _, _, hq, _⟩ := dd'; ⟨q, hq⟩
  exact d_write I2 (by rw [e]; exact True.intro) hs he (dk_new hz hd (rk.merge .nil) dd')


/-! ### methods -/
/-- a method call o.m(e) of a built-in, with one argument: what must be seen of the text -/
structure M1 (X : Cx) (o : Expr) (m : Str) (apos : Pos) (e : Expr) (cpos : Pos) : Prop where
  base : attributeBase o m X.env (eval o X.env) = eval o X.env
  few : ((backTo cpos (starEach [e] X.env)).all (fun x => !x.1) && (backToKw cpos (keywordEach [] X.env)).all (fun x => x.1.isSome)
    && decide (([e] : List Expr).length + ([] : List Keyword).length + (if ([] : List Keyword).isEmpty then 0 else 1) < 30)) = true
  line : (apos.endLine == cpos.line) = true
  trees : backTo cpos (starEach [e] X.env) = [(false, eval e X.env)]
structure M2 (X : Cx) (o : Expr) (m : Str) (apos : Pos) (e f : Expr) (cpos : Pos) : Prop where
  base : attributeBase o m X.env (eval o X.env) = eval o X.env
  few : ((backTo cpos (starEach [e, f] X.env)).all (fun x => !x.1) && (backToKw cpos (keywordEach [] X.env)).all (fun x => x.1.isSome)
    && decide (([e, f] : List Expr).length + ([] : List Keyword).length + (if ([] : List Keyword).isEmpty then 0 else 1) < 30)) = true
  line : (apos.endLine == cpos.line) = true
  trees : backTo cpos (starEach [e, f] X.env) = [(false, eval e X.env), (false, eval f X.env)]

/-- a is a dict, whatever its keys -/
def IsD (H : Hp) (a : Addr) : Prop := (∃ kvs, Rd H a (.dK kvs)) ∨ ∃ kvs, Rd H a (.dT kvs)
theorem isD_at {X : Cx} {pins : List (Addr × Obj)} {σ : St} {H : Hp} {s : Shared} {a : Addr} (I : Inv X pins σ H s) (d : IsD H a) :
    s.TypeIs (.ref a) "dict" ∧ (∀ b, Value.ref a = .ref b → ∃ ob, s.heap.get? b = some ob ∧ ob.dict = none) ∧ (a == sysModules) = false := by
  rcases d with ⟨kvs, e⟩ | ⟨kvs, e⟩
  · obtain ⟨_, hd, vs, _, dd⟩ := dk_rd I.hok e
    refine ⟨dd.typeIs, fun b q => ?_, hd⟩
    cases q
    obtain ⟨ob, _, _, h1, h2, _⟩ := dd
    exact ⟨ob, h1, h2.2.1⟩
  · obtain ⟨_, hd, xs, _, dd⟩ := dt_rd I.hok e
    refine ⟨dd.typeIs, fun b q => ?_, hd⟩
    cases q
    obtain ⟨ob, _, _, h1, h2, _⟩ := dd
    exact ⟨ob, h1, h2.2.1⟩

section
variable {X : Cx} {pins : List (Addr × Obj)} {σ : St} {H : Hp} {s : Shared} {a : Addr} {y d : V} {u r : Value} {o : Option V} {A : Around} {E : Value → Shared → Prop}
/-- d.get(y) -/
theorem d_get1 {Q : Value → Shared → Prop} (hu : A.units + 1 < cLine) (I : Inv X pins σ H s) (g : DGet H a y o) (ry : RelV y u) (h : ∀ w' s', Inv X pins σ H s' → RelV (o.getD .non) w' → Q w' s') :
    wpAny (model X.prog X.w) A (call (.builtin "dict.get") [.ref a, u]) Q E s := by
  rcases g with ⟨kvs, k, e, ey, l⟩ | ⟨kvs, k, b, e, ey, eb, l⟩
  · subst ey
    obtain ⟨z, hd, vs, rel, dd⟩ := dk_rd I.hok e
    refine call_meetsIn PySem.F.slot_dict_get dd.typeIs PySem.F.entry_dict_get (PySem.F.args_dict_get_2 _ _) (meets_dict_get (mixKind X.prog X.w) a (kV_is ry) hd) ⟨_, dd.mapOf, h _ _ (I.tok _) ?_⟩
    rw [l]
    exact (rel.val k).getD rfl
  · subst ey
    cases (show u = Value.ref b from ry)
    obtain ⟨z, hd, xs, rel, dd⟩ := dt_rd I.hok e
    refine call_meetsIn PySem.F.slot_dict_get dd.typeIs PySem.F.entry_dict_get (PySem.F.args_dict_get_2 _ _) (meetsH_dict_get (tupleKind (mixKind X.prog X.w)) a b hd) ⟨tupleKind_room_in1 hu, k, xs, key_of I.hok eb, dd, h _ _ (I.tok _) ?_⟩
    rw [l]
    exact (rel.val k).getD rfl
/-- d.get(y, x) -/
theorem d_get2 {Q : Value → Shared → Prop} (hu : A.units + 1 < cLine) (I : Inv X pins σ H s) (g : DGet H a y o) (ry : RelV y u) (rd : RelV d r) (h : ∀ w' s', Inv X pins σ H s' → RelV (o.getD d) w' → Q w' s') :
    wpAny (model X.prog X.w) A (call (.builtin "dict.get") [.ref a, u, r]) Q E s := by
  rcases g with ⟨kvs, k, e, ey, l⟩ | ⟨kvs, k, b, e, ey, eb, l⟩
  · subst ey
    obtain ⟨z, hd, vs, rel, dd⟩ := dk_rd I.hok e
    refine call_meetsIn PySem.F.slot_dict_get dd.typeIs PySem.F.entry_dict_get (PySem.F.args_dict_get_3 _ _ _) (meets_dict_get_default (mixKind X.prog X.w) a (kV_is ry) hd r) ⟨_, dd.mapOf, h _ _ (I.tok _) ?_⟩
    rw [l]
    exact (rel.val k).getD rd
  · subst ey
    cases (show u = Value.ref b from ry)
    obtain ⟨z, hd, xs, rel, dd⟩ := dt_rd I.hok e
    refine call_meetsIn PySem.F.slot_dict_get dd.typeIs PySem.F.entry_dict_get (PySem.F.args_dict_get_3 _ _ _) (meetsH_dict_get_default (tupleKind (mixKind X.prog X.w)) a b hd r) ⟨tupleKind_room_in1 hu, k, xs, key_of I.hok eb, dd, h _ _ (I.tok _) ?_⟩
    rw [l]
    exact (rel.val k).getD rd
end

def tDGet1 (td ty : TE) : TE := fun σ H Q => td σ H fun x H1 => ∃ a, x = .ref a ∧ IsD H1 a ∧ ty σ H1 fun y H2 => ∃ o, DGet H2 a y o ∧ Q (o.getD .non) H2
def tDGet2 (td ty tx : TE) : TE := fun σ H Q => td σ H fun x H1 => ∃ a, x = .ref a ∧ IsD H1 a ∧ ty σ H1 fun y H2 => tx σ H2 fun z H3 => ∃ o, DGet H3 a y o ∧ Q (o.getD z) H3
/-- d.pop(k): there; d.pop(k, x): there or not -/
def tDPop1 (td ty : TE) : TE := fun σ H Q => td σ H fun x H1 => ∃ a, x = .ref a ∧ IsD H1 a ∧ ty σ H1 fun y H2 => ∃ kvs k v, H2 a = some (.dK kvs) ∧ y = kV k ∧ valV kvs k = some v ∧ Q v (upd H2 a (.dK (dropK kvs k)))
def tDPop2 (td ty tx : TE) : TE := fun σ H Q => td σ H fun x H1 => ∃ a, x = .ref a ∧ IsD H1 a ∧ ty σ H1 fun y H2 => tx σ H2 fun z H3 => ∃ kvs k, H3 a = some (.dK kvs) ∧ y = kV k ∧
  (∀ v, valV kvs k = some v → Q v (upd H3 a (.dK (dropK kvs k)))) ∧ (valV kvs k = none → Q z H3)
section
variable {X : Cx} {o e f : Expr} {apos cpos : Pos} {td ty tx : TE}
theorem pe_dget1 (hu : X.A.units + 1 < cLine) (ho : PE X o td) (he : PE X e ty) (m : M1 X o "get" apos e cpos) : PE X (.Call (.Attribute o "get" apos) [e] [] cpos) (tDGet1 td ty) := by
  intro pins s σ H Q I h
  refine wpAny_Call_method m.base m.few m.line PySem.F.plainAttrs_dict PySem.F.slot_dict_get PySem.F.type_dict_get (thn (ho pins s σ H _ I h) fun u s1 ⟨x, H1, I1, rx, a, ex, d, q1⟩ => ?_)
  subst ex
  obtain rfl : u = Value.ref a := rx
  obtain ⟨t1, t2, _⟩ := isD_at I1 d
  refine ⟨t1, t2, ?_⟩
  rw [m.trees]
  refine Calls.callWith_builtin rfl (Calls.evalArgs_plain (Calls.spliced_cons (thn (he pins s1 σ H1 _ I1 q1) fun iv s2 ⟨y, H2, I2, ry, ov, g, q2⟩ => Calls.spliced_nil ?_)))
  exact d_get1 hu I2 g ry fun w' s3 I3 rw' => ⟨_, H2, I3, rw', q2⟩
theorem pe_dget2 (hu : X.A.units + 1 < cLine) (ho : PE X o td) (he : PE X e ty) (hf : PE X f tx) (m : M2 X o "get" apos e f cpos) : PE X (.Call (.Attribute o "get" apos) [e, f] [] cpos) (tDGet2 td ty tx) := by
  intro pins s σ H Q I h
  refine wpAny_Call_method m.base m.few m.line PySem.F.plainAttrs_dict PySem.F.slot_dict_get PySem.F.type_dict_get (thn (ho pins s σ H _ I h) fun u s1 ⟨x, H1, I1, rx, a, ex, d, q1⟩ => ?_)
  subst ex
  obtain rfl : u = Value.ref a := rx
  obtain ⟨t1, t2, _⟩ := isD_at I1 d
  refine ⟨t1, t2, ?_⟩
  rw [m.trees]
  refine Calls.callWith_builtin rfl (Calls.evalArgs_plain (Calls.spliced_cons (thn (he pins s1 σ H1 _ I1 q1) fun iv s2 ⟨y, H2, I2, ry, q2⟩ =>
    Calls.spliced_cons (thn (hf pins s2 σ H2 _ I2 q2) fun fv s3 ⟨z, H3, I3, rz, ov, g, q3⟩ => Calls.spliced_nil ?_))))
  exact d_get2 hu I3 g ry rz fun w' s4 I4 rw' => ⟨_, H3, I4, rw', q3⟩
theorem pe_dpop1 (ho : PE X o td) (he : PE X e ty) (m : M1 X o "pop" apos e cpos) : PE X (.Call (.Attribute o "pop" apos) [e] [] cpos) (tDPop1 td ty) := by
  intro pins s σ H Q I h
  refine wpAny_Call_method m.base m.few m.line PySem.F.plainAttrs_dict PySem.F.slot_dict_pop PySem.F.type_dict_pop (thn (ho pins s σ H _ I h) fun u s1 ⟨x, H1, I1, rx, a, ex, d, q1⟩ => ?_)
  subst ex
  obtain rfl : u = Value.ref a := rx
  obtain ⟨t1, t2, _⟩ := isD_at I1 d
  refine ⟨t1, t2, ?_⟩
  rw [m.trees]
  refine Calls.callWith_builtin rfl (Calls.evalArgs_plain (Calls.spliced_cons (thn (he pins s1 σ H1 _ I1 q1) fun iv s2 ⟨y, H2, I2, ry, kvs, k, v, ea, ey, l, q2⟩ => Calls.spliced_nil ?_)))
  subst ey
  exact d_pop I2 ea ry l (.inl rfl) fun w' s3 I3 rw' => ⟨v, _, I3, rw', q2⟩
theorem pe_dpop2 (ho : PE X o td) (he : PE X e ty) (hf : PE X f tx) (m : M2 X o "pop" apos e f cpos) : PE X (.Call (.Attribute o "pop" apos) [e, f] [] cpos) (tDPop2 td ty tx) := by
  intro pins s σ H Q I h
  refine wpAny_Call_method m.base m.few m.line PySem.F.plainAttrs_dict PySem.F.slot_dict_pop PySem.F.type_dict_pop (thn (ho pins s σ H _ I h) fun u s1 ⟨x, H1, I1, rx, a, ex, d, q1⟩ => ?_)
  subst ex
  obtain rfl : u = Value.ref a := rx
  obtain ⟨t1, t2, _⟩ := isD_at I1 d
  refine ⟨t1, t2, ?_⟩
  rw [m.trees]
  refine Calls.callWith_builtin rfl (Calls.evalArgs_plain (Calls.spliced_cons (thn (he pins s1 σ H1 _ I1 q1) fun iv s2 ⟨y, H2, I2, ry, q2⟩ =>
    Calls.spliced_cons (thn (hf pins s2 σ H2 _ I2 q2) fun fv s3 ⟨z, H3, I3, rz, kvs, k, ea, ey, q3, q4⟩ => Calls.spliced_nil ?_))))
  subst ey
  cases l : valV kvs k with
  | some v => exact d_pop I3 ea ry l (.inr ⟨fv, rfl⟩) fun w' s4 I4 rw' => ⟨v, _, I4, rw', q3 v l⟩
  | none => exact d_popD I3 ea ry l fun s4 I4 => ⟨z, H3, I4, rz, q4 l⟩
end

/-! ### dict(d): a copy -/
section
variable {X : Cx} {pins : List (Addr × Obj)} {σ : St} {H : Hp} {s : Shared} {a : Addr} {kvs : List (Key × V)} {A : Around} {E : Value → Shared → Prop}
theorem d_copyOf {Q : Value → Shared → Prop} (I : Inv X pins σ H s) (e : Rd H a (.dK kvs)) (h : ∀ p s', H p = none → Inv X pins σ (upd H p (.dK kvs)) s' → Q (.ref p) s') : wpAny (model X.prog X.w) A (call (.type "dict") [.ref a]) Q E s := by
  obtain ⟨z, hd, vs, rel, dd⟩ := dk_rd I.hok e
  refine kt_call_dict hd dd (by rw [← rel.length]; exact z) fun h' dd' hs => ?_
  refine h _ _ (I.hok.fresh (Nat.le_refl _)) (I.laid (a := s.heap.objs.size) (o := .dK kvs) (t' := s.toks) (fun b q hq => ?_) (Nat.le_refl _) (dk_new z (beq_eq_false_iff_ne.mpr (Ne.symm (Nat.ne_of_lt I.big))) rel dd'))
  exact (hs.2 b (Nat.ne_of_lt (Heap.lt_size hq))).trans (Heap.get?_push_of_some _ hq)
end


section
variable {X : Cx} {pins : List (Addr × Obj)} {σ : St} {H : Hp} {s : Shared} {a : Addr} {y : V} {u : Value} {A : Around} {E : Value → Shared → Prop}
/-- d[y], not there: a KeyError -/
theorem d_missing {Q : Value → Shared → Prop} (hu : A.units + 1 < cLine) (hh : A.handled = none) (I : Inv X pins σ H s) (g : DGet H a y none) (ry : RelV y u)
    (h : ∀ h' e t', Heap.NewExc s.heap h' e "KeyError" → E (.ref e) { s with heap := h', toks := t' }) : wpAny (model X.prog X.w) A (getItem (.ref a) u) Q E s := by
  rcases g with ⟨kvs, k, e, ey, l⟩ | ⟨kvs, k, b, e, ey, eb, l⟩
  · subst ey
    obtain ⟨z, hd, vs, rel, dd⟩ := dk_rd I.hok e
    have hn : valueAt vs k = none := RelO.none_of (by rw [l]; exact rel.val k)
    exact wpAny_getItem_missing_of (kV_is ry) hd hh dd.mapOf hn fun h' ex ne => h h' ex _ ne
  · subst ey
    cases (show u = Value.ref b from ry)
    obtain ⟨z, hd, xs, rel, dd⟩ := dt_rd I.hok e
    have hn : (atKey xs k).map (·.2) = none := RelO.none_of (by rw [l]; exact rel.val k)
    exact wpAny_getItem_missing_heap (tupleKind_room_in1 hu) (key_of I.hok eb) hd hh dd (Option.map_eq_none_iff.mp hn) fun h' ex ne => h h' ex _ ne
end
end L2

namespace Att
open PySem PySem.W PySem.Calls PyProof.Rows

/-! ### the script -/
theorem ints_of_wellAll {P : Params} {h : Heap} : ∀ (ns : List Int) (vs : List Value), WellAll P h vs (ns.map WData.int) → IntsAre vs ns := by
  intro ns
  induction ns with
  | nil =>
    intro vs w
    rw [List.map_nil] at w
    cases w
    exact .nil
  | cons n ns ih =>
    intro vs w
    rw [List.map_cons] at w
    cases w with
    | cons a b =>
      cases a
      exact .cons _ _ (ih _ b)

theorem script_of {l : OpenLaw} {n : Nat} (hn : l.most = some n) {P : Params} {h : Heap} {args : List WData} {vals : List Value}
    (hpre : l.row.toRowW.claim.pre args = true) (hwl : WellAll P h vals args) :
    ∃ a vs ns, vals = [Value.ref a] ∧ args = [WData.list (ns.map WData.int)] ∧ h.get? a = some { cls := .type "list", data := .seq vs.toArray } ∧ IntsAre vs ns ∧ ns.length ≤ n := by
  have hsh : WShape.hasAll [] args [.list .int] = true := (pre_splitW hpre).1
  have hc : l.pre.holds [] { args := args } = true := (pre_splitW hpre).2
  obtain ⟨d, r, rfl, h1, h2⟩ := hasAllW_cons hsh
  obtain rfl := hasAllW_nil h2
  obtain ⟨xs, rfl, h3⟩ := hasW_list h1
  obtain ⟨ns, rfl⟩ := items_int h3
  have hlen : ns.length ≤ n := by
    unfold OpenLaw.pre at hc
    have h4 : (WTm.not (.lt (.lit (.int (n : Int))) (.len (.arg 0)))).holds [] { args := [.list (ns.map .int)] } = true := by
      have h4 := (holds_andW hc).1
      rw [hn] at h4
      exact h4
    have h5 := condW_of h4 (w_not (w_lt w_lit (w_len_list (w_arg rfl))))
    rw [List.length_map] at h5
    refine Nat.le_of_not_lt fun q => ?_
    have q' : (n : Int) < ((ns.length : Nat) : Int) := by omega
    first
      | (rw [decide_eq_true q'] at h5; exact absurd h5 (by decide))
      | (simp at h5; omega)
  cases hwl with
  | cons w1 w2 =>
    cases w2
    cases w1 with
    | list ho hall => exact ⟨_, _, ns, rfl, rfl, ho, ints_of_wellAll ns _ hall, hlen⟩

theorem post_true (l : OpenLaw) (args : List WData) : l.row.toRowW.claim.post args (.bool true) args = true :=
  postW_of (r := l.row.toRowW) (X := (true == true))
    (show WShape.has [] (.bool true) .bool = true by first | rfl | decide | simp [WShape.has, WShape.arms, WShape.armsAll])
    (show (WTm.eq .res (.lit (.bool true))).value [] { args := args, res := some (.bool true), after := args } = some (.bool (true == true)) from w_eq_bool (w_res rfl) w_lit) rfl

/-! ### the attachment: holds_open's last premise (the goal 'hc' behind k_head) from a wpAny of the law's body -/
theorem attach {l : OpenLaw} {n : Nat} {q : Program} {loose : List Str} {XP : (Str → Option Value) → Heap → Prop} {YP : World → Heap → Prop} {d : DefRec} {x : Str}
    (hn : l.most = some n) (hdf : d.params.defaults = [])
    (hbind : ∀ pm cd doc v : Value, bindArgs (docDef d.name d.params d.body d.scope pm cd doc) ⟨[v], []⟩ = pure [(x, v)])
    (hx : d.scope.names.lookup x = some .local ∨ d.scope.names.lookup x = some .cell)
    (hk : d.scope.kind = .function) (hco : d.scope.isCoroutine = false) (hgen : d.scope.isGenerator = false)
    (body : ∀ (w : World) (s₀ s₁ s : Shared) (mg mb : Str → Option Value) (fa : Addr) (o : Obj) (pm cd doc : Value) (a : Addr) (vs : List Value) (ns : List Int),
      Ground q loose [] XP w s₀ mg mb s₁.heap → YP w s₁.heap →
      s₁.heap.get? fa = some o → o.data = .func (docDef d.name d.params d.body d.scope pm cd doc) → s₁.heap.CodeRec cd d.name → mg d.name = some (.ref fa) →
      s₁.heap.get? a = some { cls := .type "list", data := .seq vs.toArray } → IntsAre vs ns → ns.length ≤ n →
      s.gens = #[] → s.os = s₁.os →
      Fr s₁.heap s₁.heap.objs.size s.heap (bindL (envOfC d.name d.scope s₁.heap.objs.size fa cd).kindOf [(x, .ref a)] fun _ => none) →
      Cl s₁.heap.objs.size (cellsFrom (s₁.heap.objs.size + 1) d.scope.names []) s.heap (bindC (envOfC d.name d.scope s₁.heap.objs.size fa cd).kindOf [(x, .ref a)] fun _ => none) →
      wpAny (model l.prog w) (callerA.deeper (envOfC d.name d.scope s₁.heap.objs.size fa cd)) (execs d.body (envOfC d.name d.scope s₁.heap.objs.size fa cd))
        (fun f s' => f = .ret (.bool true) ∧ OldK s₁.heap s'.heap ∧ s'.os = s₁.os ∧ AllBare s'.gens) (fun _ _ => False) s) :
    WalkO q loose XP YP l.row.toRowW d [] (fun f vs => PySem.call f vs) := by
  intro w s₀ s₁ mg mb G Y fa o pm cd doc dV kV ho hd hcd hD hmg hg args vals as hpre hlay hrd hwl hlo
  obtain rfl : dV = .none := Dflts.none hD hdf
  obtain rfl : kV = .none := Dflts.noKw hD
  obtain ⟨a, vs, ns, rfl, rfl, hobj, hints, hlen⟩ := script_of hn hpre hwl
  refine enter_call ?_
  refine call_cells_ret (o := o) (by rw [depth_caller]; decide) ho (fd_plain hd) G.T.nolimit hcd (hbind pm cd doc (.ref a)) (fun y hy => ?_) (fun h₁ tk F X => ?_) hco hgen hk
  · obtain rfl : y = (x, Value.ref a) := List.mem_singleton.mp hy
    rcases hx with e | e
    · exact .inl e
    · exact .inr ⟨e, cellsFrom_some _ _ _ (.inl e)⟩
  · refine wpAny_mono (body w s₀ s₁ { s₁ with heap := h₁, toks := tk } mg mb fa o pm cd doc a vs ns G Y ho (fd_plain hd) hcd hmg hobj hints hlen hg rfl F X) (fun f s' hq => ?_) (fun _ _ hq => hq)
    obtain ⟨rfl, h2, h3, h4⟩ := hq
    exact ⟨.inl ⟨.bool true, .bool true, [], rfl, fun _ => rfl, .bool true, post_true l _, fun _ => ⟨List.Pairwise.nil, fun _ hm => (nomatch hm)⟩⟩, h2, h3, h4⟩

/-- the same from a codeAny of the CALL (for a layer whose function contracts speak of calls) -/
theorem attach_call {l : OpenLaw} {n : Nat} {q : Program} {loose : List Str} {XP : (Str → Option Value) → Heap → Prop} {YP : World → Heap → Prop} {d : DefRec}
    (hn : l.most = some n) (hdf : d.params.defaults = [])
    (call : ∀ (w : World) (s₀ s₁ : Shared) (mg mb : Str → Option Value) (fa : Addr) (o : Obj) (pm cd doc : Value) (a : Addr) (vs : List Value) (ns : List Int),
      Ground q loose [] XP w s₀ mg mb s₁.heap → YP w s₁.heap →
      s₁.heap.get? fa = some o → o.data = .func (docDef d.name d.params d.body d.scope pm cd doc) → s₁.heap.CodeRec cd d.name → mg d.name = some (.ref fa) →
      s₁.heap.get? a = some { cls := .type "list", data := .seq vs.toArray } → IntsAre vs ns → ns.length ≤ n → s₁.gens = #[] →
      codeAny (model l.prog w) callerA (.call (.ref fa) ⟨[.ref a], []⟩) (fun r s' => r = .ok (.ret (.bool true)) ∧ OldK s₁.heap s'.heap ∧ s'.os = s₁.os ∧ AllBare s'.gens) s₁) :
    WalkO q loose XP YP l.row.toRowW d [] (fun f vs => PySem.call f vs) := by
  intro w s₀ s₁ mg mb G Y fa o pm cd doc dV kV ho hd hcd hD hmg hg args vals as hpre hlay hrd hwl hlo
  obtain rfl : dV = .none := Dflts.none hD hdf
  obtain rfl : kV = .none := Dflts.noKw hD
  obtain ⟨a, vs, ns, rfl, rfl, hobj, hints, hlen⟩ := script_of hn hpre hwl
  refine enter_call (codeAny_mono (call w s₀ s₁ mg mb fa o pm cd doc a vs ns G Y ho (fd_plain hd) hcd hmg hobj hints hlen hg) fun r s' hq => ?_)
  obtain ⟨rfl, h2, h3, h4⟩ := hq
  exact ⟨.inl ⟨.bool true, .bool true, [], rfl, fun _ => rfl, .bool true, post_true l _, fun _ => ⟨List.Pairwise.nil, fun _ hm => (nomatch hm)⟩⟩, h2, h3, h4⟩

/-- the same where the top left finished generators (o_head chose holds_openN): nothing may have changed at all and no generator may be left -/
theorem attachN {l : OpenLaw} {n : Nat} {q : Program} {loose : List Str} {XP : (Str → Option Value) → Heap → Prop} {YP : World → Heap → Prop} {d : DefRec} {x : Str}
    (hn : l.most = some n) (hdf : d.params.defaults = [])
    (hbind : ∀ pm cd doc v : Value, bindArgs (docDef d.name d.params d.body d.scope pm cd doc) ⟨[v], []⟩ = pure [(x, v)])
    (hx : d.scope.names.lookup x = some .local ∨ d.scope.names.lookup x = some .cell)
    (hk : d.scope.kind = .function) (hco : d.scope.isCoroutine = false) (hgen : d.scope.isGenerator = false)
    (body : ∀ (w : World) (s₀ s₁ s : Shared) (mg mb : Str → Option Value) (fa : Addr) (o : Obj) (pm cd doc : Value) (a : Addr) (vs : List Value) (ns : List Int),
      Ground q loose [] XP w s₀ mg mb s₁.heap → YP w s₁.heap →
      s₁.heap.get? fa = some o → o.data = .func (docDef d.name d.params d.body d.scope pm cd doc) → s₁.heap.CodeRec cd d.name → mg d.name = some (.ref fa) →
      s₁.heap.get? a = some { cls := .type "list", data := .seq vs.toArray } → IntsAre vs ns → ns.length ≤ n →
      s.gens = #[] → s.os = s₁.os →
      Fr s₁.heap s₁.heap.objs.size s.heap (bindL (envOfC d.name d.scope s₁.heap.objs.size fa cd).kindOf [(x, .ref a)] fun _ => none) →
      Cl s₁.heap.objs.size (cellsFrom (s₁.heap.objs.size + 1) d.scope.names []) s.heap (bindC (envOfC d.name d.scope s₁.heap.objs.size fa cd).kindOf [(x, .ref a)] fun _ => none) →
      wpAny (model l.prog w) (callerA.deeper (envOfC d.name d.scope s₁.heap.objs.size fa cd)) (execs d.body (envOfC d.name d.scope s₁.heap.objs.size fa cd))
        (fun f s' => f = .ret (.bool true) ∧ (∀ b o, s₁.heap.get? b = some o → s'.heap.get? b = some o) ∧ s'.os = s₁.os ∧ s'.gens = #[]) (fun _ _ => False) s) :
    WalkN q loose XP YP l.row.toRowW d [] (fun f vs => PySem.call f vs) := by
  intro w s₀ s₁ mg mb G Y fa o pm cd doc dV kV ho hd hcd hD hmg hg args vals as hpre hlay hrd hwl hlo
  obtain rfl : dV = .none := Dflts.none hD hdf
  obtain rfl : kV = .none := Dflts.noKw hD
  obtain ⟨a, vs, ns, rfl, rfl, hobj, hints, hlen⟩ := script_of hn hpre hwl
  refine enter_callW ?_
  refine call_cells_ret (o := o) (by rw [depth_caller]; decide) ho (fd_plain hd) G.T.nolimit hcd (hbind pm cd doc (.ref a)) (fun y hy => ?_) (fun h₁ tk F X => ?_) hco hgen hk
  · obtain rfl : y = (x, Value.ref a) := List.mem_singleton.mp hy
    rcases hx with e | e
    · exact .inl e
    · exact .inr ⟨e, cellsFrom_some _ _ _ (.inl e)⟩
  · refine wpAny_mono (body w s₀ s₁ { s₁ with heap := h₁, toks := tk } mg mb fa o pm cd doc a vs ns G Y ho (fd_plain hd) hcd hmg hobj hints hlen hg rfl F X) (fun f s' hq => ?_) (fun _ _ hq => hq)
    obtain ⟨rfl, h2, h3, h4⟩ := hq
    exact ⟨.inl ⟨.bool true, .bool true, [], rfl, fun _ => rfl, .bool true, post_true l _, fun _ => ⟨List.Pairwise.nil, fun _ hm => (nomatch hm)⟩⟩, h2, h3, h4⟩

/-! ### rules over ANY heap (no ledger) from facts about the written part K: the library's own take a ledger (News) for what they write -/
section
variable {prog : Program} {w : World} {A : Around} {E : Value → Shared → Prop} {s : Shared} {K : Frag}

/-- a def of the module, or a method (qual 'C.m'), entered: the frame is the next address; cells behind it -/
theorem call_fn {R : Result → Shared → Prop} {name qual : Str} {params : Arguments} {body : List Stmt} {scope : Scope} {dV kV doc pm cdv ct oc : Value} {an od : Option Addr} {osl : Array (Option Value)} {f : Addr} {args : Args} {binds : List (Str × Value)}
    (X : K.In s.heap) (hlim : s.heap.NoLimit) (ho : K.lookup f = some ⟨oc, od, .func (fnOf name qual params body scope dV kV doc pm an cdv ct), osl⟩) (hcd : codeIn K cdv qual = true) (hroom : A.depth < recursionLimit)
    (hbind : BindsTo s (fnOf name qual params body scope dV kV doc pm an cdv ct) args binds)
    (hkind : (binds.all fun y => scope.names.lookup y.1 == some .local || scope.names.lookup y.1 == some .cell) = true)
    (h : ∀ s₁, InCallC s s.heap.objs.size (bindL (envOfC qual scope s.heap.objs.size f cdv).kindOf binds fun _ => none) (cellsFrom (s.heap.objs.size + 1) scope.names [])
        (bindC (envOfC qual scope s.heap.objs.size f cdv).kindOf binds fun _ => none) s₁ →
      wpAny (model prog w) (A.deeper (envOfC qual scope s.heap.objs.size f cdv)) (execs body (envOfC qual scope s.heap.objs.size f cdv))
        (fun fl s' => R (.ok (.ret (match fl with | .ret v => v | _ => .none))) s')
        (fun e s' => wpAny (model prog w) (A.deeper (envOfC qual scope s.heap.objs.size f cdv)) (leaving (envOfC qual scope s.heap.objs.size f cdv) e) (fun _ s'' => R (.error e) s'') (fun e' s'' => R (.error e') s'') s') s₁)
    (hco : scope.isCoroutine = false) (hgen : scope.isGenerator = false) (hk : scope.kind = .function) : codeAny (model prog w) A (.call (.ref f) args) R s := by
  refine codeAny_call_function hroom (X _ _ ho) rfl hco hgen rfl (codeRec_of X hcd) (hbind _ _ _ _ ?_)
  refine wpAny_newFunctionEnv_cells hk (kindsX hkind _) fun env he s₁ x => ?_
  subst he
  exact ⟨hlim.keeps x.toInCall.keep, codeAny_func (h s₁ x)⟩

/-- C(..): dict at size, instance at size + 1, then __init__ -/
theorem make_obj {R : Result → Shared → Prop} {C fI : Addr} {rest : List Value} {kw : List (Str × Value)}
    (X : K.In s.heap) (hm : makesIn K C = true) (hi : findIn K (.ref C) "__init__" = some (some (.ref fI))) (hf : isFn K (.ref fI) = true)
    (h : codeAny (model prog w) (A.under (.builtin "type.__call__" ⟨.ref C :: rest, kw⟩)) (.call (.ref fI) ⟨.ref (s.heap.objs.size + 1) :: rest, kw⟩) (InitBack (s.heap.objs.size + 1) R)
      { s with heap := (s.heap.push emptyDict).push (instObj C s.heap.objs.size) }) : codeAny (model prog w) A (.call (.ref C) ⟨rest, kw⟩) R s := by
  obtain ⟨hh, g, d, t, os⟩ := s
  exact make_core (makes_of X hm) (looks_findIn X hi) (fun self => bind_fn X self (beq_iff_eq.mp hf)) (.inl rfl) h

/-- x.name where the instance's dict holds the name and the class does not -/
theorem get_field {x C : Addr} {ox : Obj} {es : List DictEntry} {n : Nat} {name : Str} {expr : Bool} {v : Value} {Q : Value → Shared → Prop}
    (X : K.In s.heap) (I : PySem.W.InstAt s.heap x ox C (some (dictOf es n))) (hg : plainGet K C name = true) (hh : hasDictIn K C = true) (ha : findIn K (.ref C) name = some none)
    (hl : getL name es = some (some v)) (hv : handedIn v = true) (h : Q v { s with toks := s.toks + 1 }) : wpAny (model prog w) A (getAttr (.ref x) name expr) Q E s :=
  get_value X I (plainGet_of hg).1 (findObj_own hh ha rfl hl) hv h

/-- x.m(..): the method found in the class -/
theorem get_method {x C f : Addr} {ox : Obj} {es : List DictEntry} {n : Nat} {name : Str} {pl : Sem Bool} {Q : Value × List Value → Shared → Prop}
    (X : K.In s.heap) (I : PySem.W.InstAt s.heap x ox C (some (dictOf es n))) (hg : plainGet K C name = true) (hf : findIn K (.ref C) name = some (some (.ref f))) (ht : isFn K (.ref f) = true)
    (hl : getL name es = some none) (h : Q (.ref f, [.ref x]) s) : wpAny (model prog w) A (getMethod (.ref x) name pl) Q E s :=
  method_fn X I (plainGet_of hg).1 (plainGet_of hg).2 hf (beq_iff_eq.mp ht) (by show (lookIn name (dictOf es n)).map _ = _; rw [lookIn_dict, hl]; rfl) h

/-! the whole heap as the ledger: makes every rule that writes through a ledger a rule over any heap -/
def noObjs (h : Heap) : Heap := { h with objs := #[] }
theorem noObjs_get (h : Heap) (b : Addr) : (noObjs h).get? b = none := by
  cases e : (noObjs h).get? b with
  | none => rfl
  | some o => exact absurd (Heap.lt_size e) (Nat.not_lt_zero _)
def ledger (h : Heap) (L d : Addr) : List (Addr × Obj) := (List.range h.objs.size).filterMap fun a => if a = L ∨ a = d then none else (h.get? a).map fun o => (a, o)
theorem mem_ledger {h : Heap} {L d a : Addr} {o : Obj} : (a, o) ∈ ledger h L d ↔ a ≠ L ∧ a ≠ d ∧ h.get? a = some o := by
  unfold ledger
  rw [List.mem_filterMap]
  constructor
  · rintro ⟨b, _, e⟩
    split at e
    · cases e
    · rename_i hb
      obtain ⟨o', ho, e'⟩ := Option.map_eq_some_iff.mp e
      cases e'
      exact ⟨fun q => hb (.inl q), fun q => hb (.inr q), ho⟩
  · rintro ⟨n1, n2, ho⟩
    refine ⟨a, List.mem_range.mpr (Heap.lt_size ho), ?_⟩
    rw [if_neg (show ¬ (a = L ∨ a = d) from fun q => q.elim n1 n2), ho] <;> rfl
theorem news_ledger {h : Heap} {L d : Addr} {od : Obj} (hne : d ≠ L) (ho : h.get? d = some od) : News (noObjs h) L h ([] ++ (d, od) :: ledger h L d) := by
  rintro ⟨a, o⟩ hp
  rcases List.mem_cons.mp hp with e | hp
  · cases e
    exact ⟨ho, hne, noObjs_get _ _⟩
  · obtain ⟨n1, n2, e⟩ := mem_ledger.mp hp
    exact ⟨e, n1, noObjs_get _ _⟩
theorem fr_all {h : Heap} {L : Addr} {m : Str → Option Value} (n : h.Ns L m) : Fr (noObjs h) L h m :=
  ⟨n, fun b o e => (by rw [noObjs_get] at e; cases e), Nat.zero_le _⟩
/-- Upd of the head entry (for append_K, setItem_K ..) -/
theorem upd_ledger {h : Heap} {L d : Addr} {o o' : Obj} : Upd d o o' ((d, o) :: ledger h L d) ((d, o') :: ledger h L d) :=
  .head fun ⟨_, _⟩ hp => (mem_ledger.mp hp).2.1

/-- x.name = v over any heap: L is any namespace of the heap (the frame's, say): its map stays, its object is not told; all else but the dict stays -/
theorem set_field {x C dx L : Addr} {ox : Obj} {m : Str → Option Value} {es es' : List DictEntry} {n n' : Nat} {name : Str} {v : Value} {Q : Unit → Shared → Prop}
    (X : K.In s.heap) (I : PySem.W.InstAt s.heap x ox C (some (dictOf es n))) (hd : ox.dict = some dx) (hL : s.heap.Ns L m) (hne : dx ≠ L)
    (hs : findIn K (.ref C) "__setattr__" = some (some (.builtin "object.__setattr__"))) (hp : plainOver K C = true) (ht : takerIn K C name = some none) (hh : hasDictIn K C = true) (hl : (getL name es).isSome = true)
    (e : (putL name (PyData.keyHash w.params name) (.str name (s.toks + 1)) v es, putN name es n) = (es', n')) (hz : es'.length ≤ 1000)
    (h : ∀ h' : Heap, h'.Ns L m → h'.get? dx = some (dictOf es' n') → (∀ b o, b ≠ dx → b ≠ L → s.heap.get? b = some o → h'.get? b = some o) → Q () { s with heap := h', toks := s.toks + 2 }) :
    wpAny (model prog w) A (setAttr (.ref x) name v) Q E s := by
  obtain ⟨e1, e2⟩ := Prod.mk.inj e
  have hdx : s.heap.get? dx = some (dictOf es n) := by
    have := I.dict
    rw [hd] at this
    exact this
  refine set_plain X I hs (osa_dict (s := { s with toks := s.toks + 1 }) (h₀ := noObjs s.heap) (L := L) (m := m) (od := dictOf es n) (od' := dictOf es' n') (es := es') (n := n') (pre := []) (post := ledger s.heap L dx)
    (fr_all hL) (news_ledger hne hdx) X I hd hp ht hh hl (fun _ q => nomatch q) (fun ⟨_, _⟩ q => (mem_ledger.mp q).2.1) (by rw [putName_dict, e1, e2]) rfl hz fun h' F' N' => ?_)
  exact h h' F'.ns (N'.get (List.Mem.head _)) fun b o n1 n2 ho => N'.get (List.Mem.tail _ (mem_ledger.mpr ⟨n2, n1, ho⟩))
end
end Att

namespace L2
open PySem PySem.Spec PyProof.Rows

theorem vals_ints : ∀ {vs : List Value} {ns : List Int}, IntsAre vs ns → Vals (ns.map V.int) vs
  | _, _, .nil => .nil
  | _, _, .cons n t h => .cons ⟨t, rfl⟩ (vals_ints h)

/-- nothing is tracked but the script, known to the object (or it is an object of the module) -/
def Only (H : Hp) : Prop := ∀ b, H b = none ∨ ∃ o xs, H b = some (.frz o (.lst xs))

/-- THE HEAD: the law's promise, at the heap behind the top. F, the promise of the law's def, may use that base is part of the heap (so K.In base, base.Ns mainGlobals mg stand in Mod) -/
theorem law_call {P : Program} {w : World} {K : PySem.W.Frag} {mg mb : Str → Option Value} {CX : CXT} {k : Nat} {fa a : Addr} {fd : FuncData} {x : Str} {sp : Sp} {s₁ : Shared} {vs : List Value} {ns : List Int}
    (KX : K.In s₁.heap) (hns : s₁.heap.Ns mainGlobals mg) (hb : s₁.heap.Ns builtinsNs mb) (hbb : ∀ x : Str, x ≠ "__name__" → mb x = bootBuiltins x) (hlim : s₁.heap.NoLimit) (hg : s₁.gens = #[])
    (ha : s₁.heap.get? a = some { cls := .type "list", data := .seq vs.toArray }) (hi : IntsAre vs ns) (hl : ns.length ≤ sizeLine) (hr : Room k callerA)
    (F : ∀ base : Heap, K.In base → base.Ns mainGlobals mg → FnOk P w K mg base CX k fa fd [x] sp) (hbind : ∀ (s : Shared) (u : Value), BindsTo s fd ⟨[u], []⟩ [(x, u)])
    (hsp : ∀ H : Hp, Only H → SqL K H a (ns.map V.int) → sp [.ref a] H (fun v _ => v = .bl true) fun _ _ _ => False)
    (hCX : ∀ H e s', CX [] H s₁ (fun _ _ _ => False) e s' → False) :
    codeAny (model P w) callerA (.call (.ref fa) ⟨[.ref a], []⟩) (fun r s' => r = .ok (.ret (.bool true)) ∧ OldK s₁.heap s'.heap ∧ s'.os = s₁.os ∧ AllBare s'.gens) s₁ := by
  have rv := vals_ints hi
  have lenV := hi.length
  -- from an abstract heap in which nothing but the script may be tracked
  have core : ∀ H : Hp, Only H → SqL K H a (ns.map V.int) → HOk P w H s₁.heap → (∀ b, H b ≠ none → b = a) → (H a ≠ none → K.lookup a = none) →
      codeAny (model P w) callerA (.call (.ref fa) ⟨[.ref a], []⟩) (fun r s' => r = .ok (.ret (.bool true)) ∧ OldK s₁.heap s'.heap ∧ s'.os = s₁.os ∧ AllBare s'.gens) s₁ := by
    intro H hO hS hok hA hK
    have base_of : ∀ {b : Addr} {o : Obj}, s₁.heap.get? b = some o → H b = none → (hidT s₁.heap H).get? b = some o := fun e n => hidT_get e n
    have noA : ∀ {b : Addr} {o : Obj} {es : Array DictEntry} {ep : Nat}, s₁.heap.get? b = some o → o.data = .dict es ep → H b = none := fun {b o es ep} e d => by
      cases q : H b with
      | none => rfl
      | some u =>
        have e' : b = a := hA b (by rw [q]; simp)
        subst e'
        rw [ha] at e; cases e
        have d' : Data.seq vs.toArray _ = Data.dict es ep := d
        cases d'
    have nsK : ∀ {b : Addr} {m : Str → Option Value}, s₁.heap.Ns b m → (hidT s₁.heap H).Ns b m := fun {b m} ⟨o, es, ep, e, d, r⟩ => ⟨o, es, ep, base_of e (noA e d), d, r⟩
    have hKb : K.In (hidT s₁.heap H) := fun b o e => base_of (KX b o e) (by
      cases q : H b with
      | none => rfl
      | some u =>
        have e' : b = a := hA b (by rw [q]; simp)
        subst e'
        rw [hK (by rw [q]; simp)] at e; cases e)
    have hM : Mod K mg (hidT s₁.heap H) := ⟨hKb, nsK hns, ⟨mb, nsK hb, hbb⟩, let ⟨mc, h1, h2⟩ := hlim; ⟨mc, nsK h1, h2⟩⟩
    have e0 : Env0 P w K mg (hidT s₁.heap H) callerA [] s₁ H := ⟨rfl, hM, fun b o e => of_hidT e, Nat.le_of_eq (hidT_size _ _), trivial, fun b hb => absurd (show b ∈ ([] : List Addr) from hb) (by simp), hok, .of_eq hg⟩
    refine codeAny_mono ((F _ hKb (nsK hns)).run callerA [] s₁ H ⟨[.ref a], []⟩ [.ref a] [.ref a] _ _ hr e0 (hbind s₁ (.ref a)) (.cons rfl .nil) (hsp H hO hS)) fun r s' h => ?_
    cases r with
    | error e => exact (hCX H e s' h).elim
    | ok fl =>
      cases fl with
      | next => exact False.elim h
      | brk => exact False.elim h
      | cont => exact False.elim h
      | ret u =>
        obtain ⟨v, H', os, bare, un, hok', r', q⟩ := h
        have q' : v = .bl true := q
        subst q'
        obtain rfl : u = Value.bool true := r'
        refine ⟨rfl, OldK.of_keep fun b o e => ?_, os, bare⟩
        cases q : H b with
        | none => exact un.keep b o e q (by intro z; exact absurd (show b ∈ ([] : List Addr) from z) (by simp)) (by simp)
        | some u =>
          rcases hO b with z | ⟨ob, xs, z⟩
          · rw [q] at z; cases z
          · have z2 := un.frzs b ob _ z
            obtain ⟨e1, _⟩ := hok b _ z
            obtain ⟨e2, _⟩ := hok' b _ z2
            rw [e] at e1; cases e1
            exact e2
  cases hk : K.lookup a with
  | some o =>
    -- the script is one of the module's own objects
    have e := KX a o hk
    rw [ha] at e
    cases e
    refine core (fun _ => none) (fun _ => .inl rfl) (.inr ⟨_, vs.toArray, _, hk, rfl, rfl, rfl, by rw [List.size_toArray, lenV]; exact hl, by simpa using rv⟩) (fun b u z => by have z' : (none : Option HO) = some u := z; cases z') (fun b z => absurd rfl z) fun z => absurd rfl z
  | none =>
    refine core (fun b => if b = a then some (.frz { cls := .type "list", data := .seq vs.toArray } (.lst (ns.map V.int))) else none) (fun b => ?_) (.inl (.inr ⟨{ cls := .type "list", data := .seq vs.toArray }, if_pos rfl⟩)) (fun b u z => ?_) (fun b z => ?_) fun _ => hk
    · by_cases hb : b = a
      · exact .inr ⟨_, _, if_pos hb⟩
      · exact .inl (if_neg hb)
    · by_cases hb : b = a
      · have z' := (if_pos hb).symm.trans z
        cases z'
        subst hb
        exact ⟨ha, by rw [List.length_map]; exact hl, vs, _, rv, ha⟩
      · have z' := (if_neg hb).symm.trans z
        cases z'
    · by_cases hb : b = a
      · exact hb
      · exact absurd (if_neg hb) z
end L2

namespace L2
open PySem PySem.Spec PyProof.Rows

abbrev KOf {K : PySem.W.Frag} {h : Heap} (_ : K.In h) : PySem.W.Frag := K

/-- the goal that k_head leaves (case hc), from the law's promise. F gives the function object fd (K's own) once, then the promise over every base -/
theorem walk_of {l : PySem.W.OpenLaw} {n k : Nat} {q : Program} {loose : List Str} {XP : (Str → Option Value) → Heap → Prop} {YP : World → Heap → Prop} {d : DefRec} {K : Params → PySem.W.Frag} {CX : World → CXT} {sp : World → Sp} {x : Str}
    (hn : l.most = some n) (hn2 : n ≤ sizeLine) (hdf : d.params.defaults = []) (hr : Room k callerA)
    (hY : ∀ (w : World) (h : Heap), YP w h → (K w.params).In h)
    (F : ∀ (w : World) (mg : Str → Option Value) (fa : Addr) (h : Heap), (K w.params).In h → h.Ns mainGlobals mg → mg d.name = some (.ref fa) →
      ∃ fd : FuncData, (∀ (s : Shared) (u : Value), BindsTo s fd ⟨[u], []⟩ [(x, u)]) ∧
        ∀ base : Heap, (K w.params).In base → base.Ns mainGlobals mg → FnOk l.prog w (K w.params) mg base (CX w) k fa fd [x] (sp w))
    (hsp : ∀ (w : World) (H : Hp) (a : Addr) (ns : List Int), ns.length ≤ n → Only H → SqL (K w.params) H a (ns.map V.int) → sp w [.ref a] H (fun v _ => v = .bl true) fun _ _ _ => False)
    (hCX : ∀ (w : World) (H : Hp) (s : Shared) (e : Value) (s' : Shared), CX w [] H s (fun _ _ _ => False) e s' → False) :
    PySem.W.WalkO q loose XP YP l.row.toRowW d [] (fun f vs => PySem.call f vs) := by
  refine Att.attach_call hn hdf fun w s₀ s₁ mg mb fa o pm cd doc a vs ns G Y ho hd hcd hmg hobj hints hlen hg => ?_
  have KX := hY w _ Y
  obtain ⟨fd, hb, hF⟩ := F w mg fa _ KX G.T.g hmg
  exact law_call KX G.T.g G.T.b G.T.builtins G.T.nolimit hg hobj hints (Nat.le_trans hlen hn2) hr hF hb (fun H hO hS => hsp w H a ns hlen hO hS) fun H e s' => hCX w H s₁ e s'
/-- the same where the promise hangs on the written part alone: (sp := My.sp_law), no hole under a binder -/
theorem walk_ofK {l : PySem.W.OpenLaw} {n k : Nat} {q : Program} {loose : List Str} {XP : (Str → Option Value) → Heap → Prop} {YP : World → Heap → Prop} {d : DefRec} {K : Params → PySem.W.Frag} {CX : CXT} {sp : PySem.W.Frag → Sp} {x : Str}
    (hn : l.most = some n) (hn2 : n ≤ sizeLine) (hdf : d.params.defaults = []) (hr : Room k callerA)
    (hY : ∀ (w : World) (h : Heap), YP w h → (K w.params).In h)
    (F : ∀ (w : World) (mg : Str → Option Value) (fa : Addr) (h : Heap), (K w.params).In h → h.Ns mainGlobals mg → mg d.name = some (.ref fa) →
      ∃ fd : FuncData, (∀ (s : Shared) (u : Value), BindsTo s fd ⟨[u], []⟩ [(x, u)]) ∧
        ∀ base : Heap, (K w.params).In base → base.Ns mainGlobals mg → FnOk l.prog w (K w.params) mg base CX k fa fd [x] (sp (K w.params)))
    (hsp : ∀ (K : PySem.W.Frag) (H : Hp) (a : Addr) (ns : List Int), ns.length ≤ n → Only H → SqL K H a (ns.map V.int) → sp K [.ref a] H (fun v _ => v = .bl true) fun _ _ _ => False)
    (hCX : ∀ (H : Hp) (s : Shared) (e : Value) (s' : Shared), CX [] H s (fun _ _ _ => False) e s' → False) :
    PySem.W.WalkO q loose XP YP l.row.toRowW d [] (fun f vs => PySem.call f vs) :=
  walk_of (K := K) (CX := fun _ => CX) (sp := fun w => sp (K w.params)) hn hn2 hdf hr hY F (fun w H a ns h1 h2 h3 => hsp (K w.params) H a ns h1 h2 h3) fun _ H s e s' => hCX H s e s'
end L2

/- THE LAST THEOREM (shape; LID, My.* are yours):
   My.Adr: a structure of the addresses that your layer names (classes, functions); My.Txt K t: a structure (Prop) of the equations over K;
   My.txt_mk : {K} {implicit addresses ..} (e1 : nsIn K mainGlobals "law" = some (some (.ref f))) (e2 : K.lookup f = some ⟨oc, od, .func (fnOf "law" "law" params body scope dV kV doc pm an cdv ct), sl⟩) (e3 : codeIn K cdv "law" = true) .. : ∃ t, My.Txt K t

set_option maxRecDepth 100000 in
set_option maxHeartbeats 0 in
theorem PySem.Challenge.cw_LID_holds : PySem.Challenge.rw_LID.Holds := by
  w_on; o_law; k_head; (case hw => w_witness2)
  k_fill
  refine L2.walk_of (l := PySem.Challenge.rw_LID) (n := 63) (k := 40) (x := "script") (CX := fun w => ..) (sp := fun _ => My.sp_law) rfl (by decide) rfl ⟨rfl, by decide, by decide⟩ (fun w h Y => PySem.W.kIn_of Y) ?F ?S ?C
  case F =>
    intro w mg fa h KX G hmg
    have T : ∃ t, My.Txt (L2.KOf KX) t := by
      dsimp only [L2.KOf]                          -- K must stand as «<heap const> w.params» for k_is
      refine' My.txt_mk ?e1 ?e2 ?e3 ..
      (case e1 => PySem.W.k_is)                    -- in the order: a name -> its address -> its object -> its parts
      (case e2 => PySem.W.k_is)
      ..
    obtain ⟨t, T⟩ := T
    have e0 := hmg.symm.trans (PySem.W.mg_of KX G T.law)
    cases e0                                       -- fa is the law's own address
    exact ⟨_, fun s u => .of_eq rfl, fun base kb nb => My.law_fn T kb nb⟩     -- if «.of_eq rfl» comes too early: refine' ⟨_, ?b, fun base kb nb => My.law_fn T kb nb⟩; exact fun s u => .of_eq rfl
  case S => exact fun w H a ns hl hO hS => ..
  case C => exact ..
(the tactic k_is has no namespace: write k_is) -/

/-! SHORT WORDS over the layer: a def of the text, its body, what a loop and a test want. -/
namespace L2
open PySem PySem.Spec PyProof.Rows

/-! ### the text by places -/
/-- the j-th statement of a class's body -/
def inClass (s : Stmt) (j : Nat) : Stmt := match s with
  | .ClassDef _ _ _ body _ _ _ _ _ _ _ => body.getD j (.Pass ⟨0, 0, 0, 0⟩)
  | _ => .Pass ⟨0, 0, 0, 0⟩
def defArgs (s : Stmt) : Arguments := match s with
  | .FunctionDef _ a _ _ _ _ _ _ _ _ => a
  | _ => { posonlyargs := [], args := [], vararg := none, kwonlyargs := [], kw_defaults := [], kwarg := none, defaults := [] }
def defBody (s : Stmt) : List Stmt := match s with
  | .FunctionDef _ _ b _ _ _ _ _ _ _ => b
  | _ => []
def defScope (s : Stmt) : Scope := match s with
  | .FunctionDef _ _ _ _ _ _ sc _ _ _ => sc
  | _ => { kind := .function, names := [], isGenerator := false, isCoroutine := false }

/-! ### no exception leaves a def -/
abbrev CX0 : CXT := fun _ _ _ _ _ _ => False
abbrev E0 : XK := fun _ _ _ => False
theorem pass0 {X : Cx} : Passes CX0 X E0 := fun _ _ _ _ _ _ _ h => h.elim

/-! ### a def (or method) of the text as it stands behind the top -/
structure Fun (K : PySem.W.Frag) (x qual : Str) (st : Stmt) (f : Addr) (fd : FuncData) : Prop where
  ex : ∃ (oc : Value) (od : Option Addr) (kV doc pm : Value) (an : Option Addr) (cdv ct : Value) (osl : Array (Option Value)),
    fd = PySem.W.fnOf x qual (defArgs st) (defBody st) (defScope st) .none kV doc pm an cdv ct ∧ K.lookup f = some ⟨oc, od, .func fd, osl⟩ ∧ PySem.W.codeIn K cdv qual = true
  kp : PySem.W.keepIn K (.ref f) = true
section
variable {P : Program} {w : World} {K : PySem.W.Frag} {mg : Str → Option Value} {base : Heap}
/-- THE RULE for a def: its body as a term of rules, and the reading of that term -/
theorem Fun.ok {x qual : Str} {st : Stmt} {f : Addr} {fd : FuncData} {N ps : List Str} {k : Nat} {sp : Sp} (F : Fun K x qual st f fd) (S : FnScope N ps (defScope st)) (len : ∀ vs H Q E, sp vs H Q E → vs.length = ps.length)
    (hbody : ∀ (cdv : Value) (A : Around) (outer : List Env) (s : Shared) (H : Hp) (vs : List V) (Q : VK) (E : XK), Room k (A.deeper (envOfC qual (defScope st) s.heap.objs.size f cdv)) → sp vs H Q E →
      ∃ t, PSs (cxOf CX0 P w K mg base N qual (defScope st) f cdv A outer s H E).nox (defBody st) t ∧ t { nx := fun _ H' => Q .non H', rt := Q } (start N vs) H) : FnOk P w K mg base CX0 (k + 1) f fd ps sp := by
  obtain ⟨oc, od, kV, doc, pm, an, cdv, ct, osl, rfl, lk, hcd⟩ := F.ex
  refine fn_of lk hcd S len fun A outer s H vs Q E hr hsp => ?_
  obtain ⟨t, h, q⟩ := hbody cdv A outer s H vs Q E hr hsp
  exact ⟨t, h.nox, q⟩
/-- how its arguments bind (no defaults): h is «fun _ _ _ _ _ _ us hl => match us, hl with | [_, _], _ => rfl», one _ a parameter -/
theorem Fun.binds {x qual : Str} {st : Stmt} {f : Addr} {fd : FuncData} {ps : List Str} (F : Fun K x qual st f fd)
    (h : ∀ (kV doc pm : Value) (an : Option Addr) (cdv ct : Value) (us : List Value), us.length = ps.length → bindArgs (PySem.W.fnOf x qual (defArgs st) (defBody st) (defScope st) .none kV doc pm an cdv ct) ⟨us, []⟩ = pure (ps.zip us)) : Binds K fd ps [] := by
  obtain ⟨oc, od, kV, doc, pm, an, cdv, ct, osl, rfl, lk, hcd⟩ := F.ex
  exact .all (h kV doc pm an cdv ct)
theorem fun_mk {x qual : Str} {st : Stmt} {f : Addr} {oc : Value} {od an : Option Addr} {osl : Array (Option Value)} {kV doc pm cdv ct : Value} (l : K.lookup f = some ⟨oc, od, .func (PySem.W.fnOf x qual (defArgs st) (defBody st) (defScope st) .none kV doc pm an cdv ct), osl⟩)
    (c : PySem.W.codeIn K cdv qual = true) (k : PySem.W.keepIn K (.ref f) = true) : Fun K x qual st f (PySem.W.fnOf x qual (defArgs st) (defBody st) (defScope st) .none kV doc pm an cdv ct) := ⟨⟨oc, od, kV, doc, pm, an, cdv, ct, osl, rfl, l, c⟩, k⟩
end
theorem hu_of {A : Around} {k : Nat} (hr : Room k A) : A.units + 1 < cLine := Nat.lt_of_le_of_lt (Nat.add_le_add_left (by decide : 1 ≤ 64) _) hr.units
theorem small1000 {n : Nat} (h : n ≤ 1000) : n < sizeLine := Nat.lt_of_le_of_lt h (by decide)

/-! ### expressions in short: the name that stands in the i-th slot -/
section
variable {X : Cx}
theorem pv (i : Nat) {x : Str} {pos : Pos} (hN : X.N[i]? = some x := by rfl) (hv : Vis X.env.scope x := by first | exact Or.inl rfl | exact Or.inr (Or.inl rfl) | exact Or.inr (Or.inr rfl)) (hd : (x == ("__debug__" : Str)) = false := by decide)
    (hcd : (x == ("__classdict__" : Str)) = false := by decide) : PE X (.Name x pos) (tVar i) := pe_var hN hv hd hcd
end

/-! ### tests -/
theorem iteF {A B : Prop} (h : B) : if false = true then A else B := by
  rw [if_neg Bool.false_ne_true]
  exact h
theorem iteT {A B : Prop} (h : A) : if true = true then A else B := by
  rw [if_pos rfl]
  exact h
theorem ite2 {c A B : Prop} [Decidable c] (h1 : c → A) (h2 : ¬ c → B) : if c then A else B := by
  by_cases h : c
  · rw [if_pos h]
    exact h1 h
  · rw [if_neg h]
    exact h2 h
theorem iteNS {c A B : Prop} [Decidable c] (hc : c) (h : B) : if (!decide c) = true then A else B := by
  rw [decide_eq_true hc]
  exact iteF h

/-! ### heaps -/
/-- all that was tracked is as it was -/
def Same (H H' : Hp) : Prop := ∀ b o, H b = some o → H' b = some o
theorem Same.refl (H : Hp) : Same H H := fun _ _ h => h
theorem Same.trans {H H1 H2 : Hp} (a : Same H H1) (b : Same H1 H2) : Same H H2 := fun c o h => b c o (a c o h)
theorem Same.free {H H' : Hp} (e : Same H H') {l : Addr} (h : H' l = Option.none) : H l = Option.none := by
  cases q : H l with
  | none => rfl
  | some o =>
    rw [e l o q] at h
    cases h
theorem Same.seq {K : PySem.W.Frag} {H H' : Hp} {a : Addr} {xs : List V} (e : Same H H') (h : SqL K H a xs) : SqL K H' a xs := by
  rcases h with (h | ⟨o, h⟩) | h
  · exact .inl (.inl (e _ _ h))
  · exact .inl (.inr ⟨o, e _ _ h⟩)
  · exact .inr h

end L2

namespace L2
open PySem PySem.Spec PyProof.Rows
section
variable {X : Cx}
/-- len of a dict -/
theorem call_lenD : CallR X (.builtin "len") (fun xs H Q => ∃ a kvs, xs = [V.ref a] ∧ H a = some (.dK kvs) ∧ Q (.int kvs.length) H) := by
  intro pins s σ H xs us Q I r h
  obtain ⟨a, kvs, rfl, ha, q⟩ := h
  obtain ⟨u, rfl, ru⟩ := vals1 r
  cases ru
  exact d_len I (.inl ha) fun t s' I' => ⟨.int kvs.length, H, I', ⟨t, rfl⟩, q⟩
end
/-! ### a dict's pairs: keys that differ -/
section
variable {κ : Type} [DecidableEq κ]
theorem valV_not {kvs : List (κ × V)} {k : κ} (h : valV kvs k = none) : ¬ k ∈ kvs.map (·.1) := by
  intro m
  obtain ⟨p, hp, e⟩ := List.mem_map.mp m
  have q : (kvs.any fun kv => decide (kv.1 = k)) = true := List.any_eq_true.mpr ⟨p, hp, decide_eq_true e⟩
  rw [valV_any, h] at q
  exact absurd q (by simp)
theorem valV_in {kvs : List (κ × V)} {k : κ} {v : V} (h : valV kvs k = some v) : k ∈ kvs.map (·.1) := by
  have q : (kvs.any fun kv => decide (kv.1 = k)) = true := by
    rw [valV_any, h]
    all_goals rfl
  obtain ⟨p, hp, e⟩ := List.any_eq_true.mp q
  exact List.mem_map.mpr ⟨p, hp, of_decide_eq_true e⟩
theorem nd_snoc : ∀ {l : List κ} {k : κ}, l.Nodup → ¬ k ∈ l → (l ++ [k]).Nodup
  | [], k, _, _ => by simp
  | a :: r, k, h, hk => by
    obtain ⟨h1, h2⟩ := List.nodup_cons.mp h
    show (a :: (r ++ [k])).Nodup
    refine List.nodup_cons.mpr ⟨fun m => ?_, nd_snoc h2 fun m => hk (List.mem_cons.mpr (Or.inr m))⟩
    rcases List.mem_append.mp m with q | q
    · exact h1 q
    · exact hk (List.mem_cons.mpr (Or.inl (List.mem_singleton.mp q).symm))
theorem nd_putK {kvs : List (κ × V)} {k : κ} (v : V) (hn : (kvs.map (·.1)).Nodup) (h : valV kvs k = none) : ((putK kvs k v).map (·.1)).Nodup := by
  rw [putK_new v h, List.map_append]
  exact nd_snoc hn (valV_not h)
theorem dropK_pos {p : κ × V} {r : List (κ × V)} {k : κ} (e : p.1 = k) : dropK (p :: r) k = dropK r k := by
  unfold dropK
  rw [List.filter_cons, if_neg (by simp [e])]
theorem dropK_neg {p : κ × V} {r : List (κ × V)} {k : κ} (e : ¬ p.1 = k) : dropK (p :: r) k = p :: dropK r k := by
  unfold dropK
  rw [List.filter_cons, if_pos (by simp [e])]
theorem dropK_no : ∀ {kvs : List (κ × V)} {k : κ}, ¬ k ∈ kvs.map (·.1) → dropK kvs k = kvs
  | [], _, _ => rfl
  | p :: r, k, h => by
    have h' : ¬ k ∈ r.map (·.1) := fun m => by
      obtain ⟨q, hq, e⟩ := List.mem_map.mp m
      exact h (List.mem_map.mpr ⟨q, List.mem_cons.mpr (Or.inr hq), e⟩)
    rw [dropK_neg fun e => h (List.mem_map.mpr ⟨p, List.mem_cons.mpr (Or.inl rfl), e⟩), dropK_no h']
theorem dropK_mem {kvs : List (κ × V)} {k : κ} {p : κ × V} (h : p ∈ dropK kvs k) : p ∈ kvs := (List.mem_filter.mp h).1
theorem nd_dropK : ∀ {kvs : List (κ × V)} {k : κ}, (kvs.map (·.1)).Nodup → ((dropK kvs k).map (·.1)).Nodup
  | [], _, _ => List.nodup_nil
  | p :: r, k, h => by
    have h : (p.1 :: r.map (·.1)).Nodup := h
    obtain ⟨h1, h2⟩ := List.nodup_cons.mp h
    by_cases e : p.1 = k
    · rw [dropK_pos e]
      exact nd_dropK h2
    · rw [dropK_neg e]
      show (p.1 :: (dropK r k).map (·.1)).Nodup
      refine List.nodup_cons.mpr ⟨fun m => h1 ?_, nd_dropK h2⟩
      obtain ⟨q, hq, eq⟩ := List.mem_map.mp m
      exact List.mem_map.mpr ⟨q, dropK_mem hq, eq⟩
theorem dropK_len : ∀ {kvs : List (κ × V)} {k : κ}, (kvs.map (·.1)).Nodup → k ∈ kvs.map (·.1) → (dropK kvs k).length + 1 = kvs.length
  | [], _, _, m => by simp at m
  | p :: r, k, h, m => by
    have h : (p.1 :: r.map (·.1)).Nodup := h
    have m : k = p.1 ∨ k ∈ r.map (·.1) := List.mem_cons.mp m
    obtain ⟨h1, h2⟩ := List.nodup_cons.mp h
    by_cases e : p.1 = k
    · subst e
      rw [dropK_pos rfl, dropK_no h1]
      all_goals rfl
    · have m' : k ∈ r.map (·.1) := m.resolve_left fun z => e z.symm
      have q := dropK_len h2 m'
      rw [dropK_neg e, List.length_cons, List.length_cons]
      omega
end
end L2

set_option Elab.async false
set_option linter.all false
set_option maxRecDepth 100000
/-! own: list comprehensions of one clause, over the hand layer -/
namespace L2
open PySem PySem.Spec PyProof.Rows

/-! ### the closure -/
theorem closure_some {sc : Scope} {env : Env} (h : ∀ y ∈ sc.names, y.2 = .free → ∃ c, env.cells.lookup y.1 = some c) :
    ∃ cl, closureFor sc env = pure cl ∧ (∀ x c, cl.lookup x = some c → env.cells.lookup x = some c) ∧ ∀ y ∈ sc.names, y.2 = .free → ∃ c, cl.lookup y.1 = some c := by
  have go : ∀ (names : List (Str × NameKind)) (cs : List (Str × Addr)), (∀ y ∈ names, y.2 = .free → ∃ c, env.cells.lookup y.1 = some c) → (∀ x c, cs.lookup x = some c → env.cells.lookup x = some c) →
      ∃ cl, (forIn names cs fun (x : Str × NameKind) (r : List (Str × Addr)) => (if (x.2 == NameKind.free) = true then do let c ← cellOf env x.1; pure (ForInStep.yield ((x.1, c) :: r)) else pure (ForInStep.yield r) : Sem (ForInStep (List (Str × Addr))))) = pure cl ∧
        (∀ x c, cl.lookup x = some c → env.cells.lookup x = some c) ∧ (∀ y ∈ names, y.2 = .free → ∃ c, cl.lookup y.1 = some c) ∧ ∀ x c, cs.lookup x = some c → ∃ c', cl.lookup x = some c' := by
    intro names
    induction names with
    | nil => intro cs _ hcs; exact ⟨cs, rfl, hcs, fun y hy => by simp at hy, fun x c e => ⟨c, e⟩⟩
    | cons y r ih =>
      intro cs hn hcs
      by_cases hy : y.2 = .free
      · obtain ⟨c, hc⟩ := hn y List.mem_cons_self hy
        obtain ⟨cl, e, h1, h2, h3⟩ := ih ((y.1, c) :: cs) (fun z hz => hn z (List.mem_cons_of_mem _ hz)) (fun x c' e => by
          rw [List.lookup_cons] at e
          by_cases hx : x = y.1
          · subst hx; simp at e; subst e; exact hc
          · have : (x == y.1) = false := by simpa using hx
            rw [this] at e; exact hcs x c' e)
        refine ⟨cl, ?_, h1, fun z hz hf => ?_, fun x c' e' => ?_⟩
        · rw [List.forIn_cons]
          have e1 : (y.2 == NameKind.free) = true := by rw [hy]; rfl
          have e2 : cellOf env y.1 = pure c := by unfold cellOf; rw [hc]
          rw [e1, e2]
          exact e
        · rcases List.mem_cons.mp hz with rfl | hz
          · exact h3 z.1 c (by simp)
          · exact h2 z hz hf
        · by_cases hx : x = y.1
          · subst hx; exact h3 y.1 c (by simp)
          · have : (x == y.1) = false := by simpa using hx
            exact h3 x c' (by rw [List.lookup_cons, this]; exact e')
      · obtain ⟨cl, e, h1, h2, h3⟩ := ih cs (fun z hz => hn z (List.mem_cons_of_mem _ hz)) hcs
        refine ⟨cl, ?_, h1, fun z hz hf => ?_, h3⟩
        · rw [List.forIn_cons]
          have e1 : (y.2 == NameKind.free) = false := by simpa using hy
          rw [e1]
          exact e
        · rcases List.mem_cons.mp hz with rfl | hz
          · exact absurd hf hy
          · exact h2 z hz hf
  obtain ⟨cl, e, h1, h2, _⟩ := go sc.names [] h (fun x c e => by simp at e)
  refine ⟨cl, ?_, h1, h2⟩
  have e2 : closureFor sc env = ((forIn sc.names [] fun (x : Str × NameKind) (r : List (Str × Addr)) => (if (x.2 == NameKind.free) = true then do let c ← cellOf env x.1; pure (ForInStep.yield ((x.1, c) :: r)) else pure (ForInStep.yield r) : Sem (ForInStep (List (Str × Addr))))) >>= fun s => pure s) := rfl
  rw [e2, e]
  rfl
end L2

namespace L2
open PySem PySem.Spec PyProof.Rows

/-! ### the block's context -/
theorem relabel_lookup {sc : Scope} {env : Env} {x : Str} : (relabel sc env).names.lookup x =
    (sc.names.lookup x).map fun k => if (k == NameKind.free && env.scope.kind == .function && env.kindOf x == some .cell) = true then NameKind.cell else k := by
  have go : ∀ names : List (Str × NameKind), (names.map fun (n, k) => if (k == NameKind.free && env.scope.kind == .function && env.kindOf n == some .cell) = true then (n, NameKind.cell) else (n, k)).lookup x =
      (names.lookup x).map fun k => if (k == NameKind.free && env.scope.kind == .function && env.kindOf x == some .cell) = true then NameKind.cell else k := by
    intro names
    induction names with
    | nil => rfl
    | cons y r ih =>
      obtain ⟨n, k⟩ := y
      rw [List.map_cons, List.lookup_cons]
      show List.lookup x ((if (k == NameKind.free && env.scope.kind == .function && env.kindOf n == some .cell) = true then (n, NameKind.cell) else (n, k)) :: _) = _
      by_cases hx : x = n
      · subst hx
        by_cases hc : (k == NameKind.free && env.scope.kind == .function && env.kindOf x == some .cell) = true
        · rw [if_pos hc]; simp only [List.lookup_cons, beq_self_eq_true, Option.map_some]; rw [if_pos hc]
        · rw [if_neg hc]; simp only [List.lookup_cons, beq_self_eq_true, Option.map_some]; rw [if_neg hc]
      · have hb : (x == n) = false := by simpa using hx
        by_cases hc : (k == NameKind.free && env.scope.kind == .function && env.kindOf n == some .cell) = true
        · rw [if_pos hc]; simp only [List.lookup_cons, hb]; exact ih
        · rw [if_neg hc]; simp only [List.lookup_cons, hb]; exact ih
  exact go sc.names

/-- what of a comprehension's scope and names is looked at -/
structure CompOk (N : List Str) (esc sc : Scope) (N' : List Str) (k : Nat) : Prop where
  kind : sc.kind = .function
  nocell : ∀ y ∈ sc.names, y.2 ≠ .cell
  names : ∀ y ∈ sc.names, y.2 = .local → sc.names.lookup y.1 = some .local
  free : ∀ y ∈ sc.names, y.2 = .free → esc.names.lookup y.1 = some .cell ∨ esc.names.lookup y.1 = some .free
  len : N'.length = N.length + k
  old : ∀ (i : Nat) (x : Str), i < N.length → N'[i]? = some x → Vis sc x → N[i]? = some x ∧ sc.names.lookup x = some .free
def compChk (N : List Str) (esc sc : Scope) (N' : List Str) (k : Nat) : Bool :=
  (sc.kind == .function) && (sc.names.all fun y => y.2 != .cell) && (sc.names.all fun y => y.2 != .local || sc.names.lookup y.1 == some .local) &&
  (sc.names.all fun y => y.2 != .free || (esc.names.lookup y.1 == some .cell || esc.names.lookup y.1 == some .free)) && (N'.length == N.length + k) &&
  ((N'.zip N).all fun p => match sc.names.lookup p.1 with
    | some .local => false
    | some .cell => false
    | some .free => p.1 == p.2
    | _ => true)
theorem CompOk.of {N : List Str} {esc sc : Scope} {N' : List Str} {k : Nat} (h : compChk N esc sc N' k = true) : CompOk N esc sc N' k := by
  unfold compChk at h
  simp only [Bool.and_eq_true, List.all_eq_true, beq_iff_eq, Bool.or_eq_true, bne_iff_ne, ne_eq] at h
  obtain ⟨⟨⟨⟨⟨h1, h2⟩, h3⟩, h4⟩, h5⟩, h6⟩ := h
  refine ⟨h1, fun y hy => h2 y hy, fun y hy e => ?_, fun y hy e => ?_, h5, fun i x hi hx hv => ?_⟩
  · rcases h3 y hy with z | z
    · exact absurd e z
    · exact z
  · rcases h4 y hy with z | z
    · exact absurd e z
    · exact z
  · have hlt : i < (N'.zip N).length := by rw [List.length_zip]; omega
    have hm : (x, N[i]) ∈ N'.zip N := by
      rw [List.mem_iff_getElem?]
      refine ⟨i, ?_⟩
      rw [List.getElem?_zip_eq_some]
      exact ⟨hx, by simp [hi]⟩
    have q := h6 _ hm
    rcases hv with z | z | z
    · rw [z] at q; exact absurd q (by simp)
    · rw [z] at q; exact absurd q (by simp)
    · rw [z] at q
      have q' : x = N[i] := by simpa using q
      refine ⟨?_, z⟩
      rw [List.getElem?_eq_getElem hi, ← q']

/-- the context of a comprehension's block -/
def compCx (X : Cx) (sc : Scope) (N' : List Str) (cl : List (Str × Addr)) (C : Addr) (s₂ : Shared) (H2 : Hp) (fp : List Addr) : Cx :=
  { X with N := N', s₀ := s₂, H₀ := H2, env := compEnvC sc cl C X.env, outer := X.stack, ex := fp, fn := fun _ => false, pn := [], xe := fun _ _ => False }

section
variable {X : Cx} {pins : List (Addr × Obj)} {σ : St} {H : Hp} {s₂ : Shared} {sc : Scope} {N' : List Str} {k : Nat} {cl : List (Str × Addr)} {C acc : Addr} {fp : List Addr} {h₁ : Heap} {tk n : Nat}

theorem vis_relabel {x : Str} (h : Vis (relabel sc X.env) x) : Vis sc x := by
  unfold Vis at h ⊢
  rw [relabel_lookup] at h
  cases e : sc.names.lookup x with
  | none => rw [e] at h; simp at h
  | some k =>
    rw [e] at h
    simp only [Option.map_some, Option.some.injEq] at h ⊢
    split at h
    · rename_i hc
      simp only [Bool.and_eq_true, beq_iff_eq] at hc
      exact .inr (.inr hc.1.1)
    · exact h

theorem comp_inv (ok : CompOk X.N X.env.scope sc N' k) (hcl : ∀ x c, cl.lookup x = some c → X.env.cells.lookup x = some c) (hfr : ∀ y ∈ sc.names, y.2 = .free → ∃ c, cl.lookup y.1 = some c)
    (I : Inv X pins σ H s₂) (hfp : ∀ b ∈ fp, FpOk X pins H b) (hob : ∀ b ∈ fp, ∃ o, s₂.heap.get? b = some o)
    (hacc : s₂.heap.objs.size ≤ acc) (hC : s₂.heap.objs.size ≤ C) (hne : C ≠ acc) (ns : h₁.Ns C fun _ => none) (kp : ∀ b o, s₂.heap.get? b = some o → h₁.get? b = some o)
    (ha : h₁.get? acc = some { cls := .type "list", data := .seq #[] n }) :
    Inv (compCx X sc N' cl C s₂ H fp) [] (σ ++ List.replicate k none) (upd H acc (.lst [])) { s₂ with heap := h₁, toks := tk } := by
  have hfresh := I.hok.fresh hacc
  have hfreshC := I.hok.fresh hC
  have hlook : ∀ x, ((compCx X sc N' cl C s₂ H fp).env.kindOf x = some .cell ∨ (compCx X sc N' cl C s₂ H fp).env.kindOf x = some .free) → sc.names.lookup x = some .free := fun x hx => by
    have hx' : (relabel sc X.env).names.lookup x = some .cell ∨ (relabel sc X.env).names.lookup x = some .free := hx
    have hv : Vis sc x := vis_relabel (X := X) (.inr hx')
    rcases hv with z | z | z
    · rw [relabel_lookup, z] at hx'; simp at hx'
    · exact absurd rfl (ok.nocell _ (PySem.mem_of_lookup z))
    · exact z
  have hexf : ∀ b ∈ fp, b < s₂.heap.objs.size := fun b hb => let ⟨o, e⟩ := hob b hb; Heap.lt_size e
  refine ⟨⟨I.ok.mod, ok.kind, I.ok.glob, I.ok.blt, hC, fun x y c h1 h2 => I.ok.inj x y c (hcl x c h1) (hcl y c h2), fun x hx => hfr _ (PySem.mem_of_lookup (hlook x hx)) rfl, fun x c h _ => absurd (show false = true from h) (by simp),
      I.ok.hd, I.ok.frames, .inl rfl, fun b hb => ⟨Nat.ne_of_lt (Nat.lt_of_lt_of_le (hexf b hb) hC), fun x c e => (hfp b hb).2.2.2.2.1 x c (hcl x c e)⟩, I.bs, Nat.le_trans I.ok.bsz I.sz, fun b o e hb => ?_, fun b hb z => ?_, I.stack, I.stkFree⟩,
    rfl, I.bare, Un.laid kp hacc hfresh, ⟨_, ns, fun i x v e1 e2 e3 => ?_⟩, fun x c e => ?_, ?_, fun x c e => ?_, fun p hp => absurd (show p ∈ ([] : List (Addr × Obj)) from hp) (by simp), I.hok.laid kp hacc ⟨Nat.zero_le _, [], n, .nil, ha⟩, ?_⟩
  · rcases (hfp b hb).2.2.2.1 with z | z
    · exact I.ok.noex b o e z
    · exact absurd (Nat.lt_of_lt_of_le (Heap.lt_size e) (Nat.le_trans I.ok.bsz z)) (Nat.lt_irrefl _)
  · rcases List.mem_cons.mp (I.stkSub b z) with q | q
    · exact (hfp b hb).2.1 q
    · exact (hfp b hb).2.2.1 q
  · have hi : i < σ.length := by
      by_cases hi : i < σ.length
      · exact hi
      · rw [List.getElem?_append_right (by omega), List.getElem?_replicate] at e2
        split at e2 <;> cases e2
    rw [List.getElem?_append_left hi] at e2
    have hiN : i < X.N.length := by rw [← I.len]; exact hi
    obtain ⟨q1, q2⟩ := ok.old i x hiN e1 (vis_relabel (X := X) e3)
    have hk := ok.free _ (PySem.mem_of_lookup q2) rfl
    obtain ⟨m, hn, hl⟩ := I.loc
    obtain ⟨u, ru, look⟩ := hl i x v q1 e2 (.inr hk)
    refine ⟨u, ru, .inr ⟨?_, ?_⟩⟩
    · show (relabel sc X.env).names.lookup x = some .cell ∨ (relabel sc X.env).names.lookup x = some .free
      rw [relabel_lookup, q2]
      simp only [Option.map_some, Option.some.injEq]
      split
      · exact .inl rfl
      · exact .inr rfl
    · obtain ⟨c, hc⟩ := hfr _ (PySem.mem_of_lookup q2) rfl
      rcases look with ⟨z, _⟩ | ⟨_, c', e', z⟩
      · rcases hk with hk | hk
        · have z' : X.env.scope.names.lookup x = some .local := z
          rw [hk] at z'; cases z'
        · have z' : X.env.scope.names.lookup x = some .local := z
          rw [hk] at z'; cases z'
      · have e'' := hcl x c hc
        rw [e'] at e''; cases e''
        obtain ⟨o, ho, hd⟩ := z
        exact ⟨_, hc, o, kp _ _ ho, hd⟩
  · obtain ⟨v, o, ho, hd⟩ := I.cell x c (hcl x c e)
    exact ⟨v, o, kp _ _ ho, hd⟩
  · show upd H acc (.lst []) C = none
    rw [upd_ne hne]; exact hfreshC
  · have hc := hcl x c e
    obtain ⟨v, z⟩ := I.cell x c hc
    have hlt : c < s₂.heap.objs.size := z.lt
    show upd H acc (.lst []) c = none ∨ (false = false ∧ ∃ o u, upd H acc (.lst []) c = some (.frz o u))
    rw [upd_ne (Nat.ne_of_lt (Nat.lt_of_lt_of_le hlt hacc))]
    exact (I.freeC x c hc).imp id fun z => ⟨rfl, z.2⟩
  · show (σ ++ List.replicate k none).length = N'.length
    rw [List.length_append, List.length_replicate, I.len, ok.len]
end
end L2

namespace L2
open PySem PySem.Spec PyProof.Rows

/-! ### the tests of a clause: none, or one -/
def PTs (X : Cx) (ifs : List Expr) (t : TT) : Prop := (ifs = [] ∧ ∀ σ H Q, t σ H Q → Q true H) ∨ ∃ c, ifs = [c] ∧ PT X c t
def tYes : TT := fun _ H Q => Q true H
theorem pts_nil {X : Cx} : PTs X [] tYes := .inl ⟨rfl, fun _ _ _ h => h⟩
theorem pts_one {X : Cx} {c : Expr} {t : TT} (h : PT X c t) : PTs X [c] t := .inr ⟨c, rfl, h⟩

/-! ### the reading of a comprehension -/
abbrev CompR (J : It) (k : Nat) (g : TG) (tc : TT) (te : TE) (σ : St) (H1 : Hp) (Q : VK) : Prop :=
  ∀ acc, H1 acc = none → ∃ W : Nat → Nat → St → List V → Hp → Prop, (∃ m, W 0 m (σ ++ List.replicate k none) [] (upd H1 acc (.lst []))) ∧
    ∀ i m σ2 ys H2, W i m σ2 ys H2 →
      (J.stop i H2 ∧ Q (.ref acc) H2) ∨
      (J.go i H2 ∧ ys.length < sizeLine ∧ ∀ x H3, J.yld i H2 x H3 → g x σ2 H3 fun σ4 H4 => tc σ4 H4 fun b H5 =>
        if b = true then te σ4 H5 fun v H6 => H6 acc = some (.lst ys) ∧ ∃ m', m' < m ∧ W (i + 1) m' σ4 (ys ++ [v]) (upd H6 acc (.lst (ys ++ [v])))
        else ∃ m', m' < m ∧ W (i + 1) m' σ4 ys H5)
def tComp (wi : TI) (k : Nat) (g : TG) (tc : TT) (te : TE) : TE := fun σ H Q => wi σ H fun J H1 => CompR J k g tc te σ H1 Q

section
variable {X : Cx} {elt tg iter : Expr} {ifs : List Expr} {sc : Scope} {pos : Pos} {N' : List Str} {k : Nat} {wi : TI} {g : TG} {tc : TT} {te : TE} {cl : List (Str × Addr)}
set_option maxHeartbeats 800000 in
theorem comp_block (hc : X.calm = true) (ok : CompOk X.N X.env.scope sc N' k) (hcl : ∀ x c, cl.lookup x = some c → X.env.cells.lookup x = some c) (hfr : ∀ y ∈ sc.names, y.2 = .free → ∃ c, cl.lookup y.1 = some c)
    (hb : ∀ cl C s₂ H2 fp, PG (compCx X sc N' cl C s₂ H2 fp) tg g ∧ PTs (compCx X sc N' cl C s₂ H2 fp) ifs tc ∧ PE (compCx X sc N' cl C s₂ H2 fp) elt te)
    {pins : List (Addr × Obj)} {σ : St} {H : Hp} {s₂ : Shared} {J : It} {fp : List Addr} {it : Addr} {tn : Nat → Heap → Prop} (I : Inv X pins σ H s₂) (T : Turn X.prog X.w X.K tg J fp it tn) (t0 : tn 0 s₂.heap) (hfp : ∀ b ∈ fp, FpOk X pins H b)
    {Q : VK} (h : CompR J k g tc te σ H Q) {RR : Value → Addr → Result → Shared → Prop}
    (hRR : ∀ acc C H' s' m', Inv X pins σ H' s' → s'.heap.Ns C m' → s₂.heap.objs.size ≤ C → H' C = none → Q (.ref acc) H' → RR (.ref acc) C (.ok .next) s') :
    wpAny (model X.prog X.w) X.A (newList []) (fun acc s₃ => wpAny (model X.prog X.w) X.A (newFunctionEnv sc X.env.globals cl [] X.env.qual none .none (some X.env)) (fun cenv s₄ =>
      codeAny (model X.prog X.w) X.A (.compStart (.ListComp elt [⟨tg, iter, ifs, 0⟩] sc pos) 0 (.ref it) acc { cenv with scope := relabel sc X.env }) (RR acc cenv.locals) s₄) X.xe s₃) X.xe s₂ := by
  refine wpAny_newObj_type (wpAny_newFunctionEnv ok.nocell (by intro y hy; simp at hy) (fun h₁ hns₁ hsb₁ => ?_) ok.kind)
  dsimp only at hns₁ hsb₁ ⊢
  generalize hH2 : s₂.heap.push { cls := .type "list", dict := none, data := .seq ([] : List Value).toArray } = hp2 at hns₁ hsb₁ ⊢
  have hC : hp2.objs.size = s₂.heap.objs.size + 1 := by rw [← hH2, Heap.size_push]
  have hDC : s₂.heap.objs.size ≠ hp2.objs.size := by rw [hC]; exact Nat.ne_of_lt (Nat.lt_succ_self _)
  have hCle : s₂.heap.objs.size ≤ hp2.objs.size := by rw [hC]; exact Nat.le_succ _
  have old : ∀ b o, s₂.heap.get? b = some o → h₁.get? b = some o := fun b o e => hsb₁.extBut b o (Nat.ne_of_lt (Nat.lt_of_lt_of_le (Heap.lt_size e) hCle)) (Heap.get?_push_of_some _ (hH2 ▸ Heap.get?_push_of_some _ e))
  have hacc : h₁.get? s₂.heap.objs.size = some { cls := .type "list", data := .seq #[] 0 } := hsb₁.extBut _ _ hDC (Heap.get?_push_of_some _ (hH2 ▸ Heap.get?_push_size _ rfl))
  have hob : ∀ b ∈ fp, ∃ o, s₂.heap.get? b = some o := fun b hb => let ⟨o, e, _⟩ := T.obj 0 _ t0 b hb; ⟨o, e⟩
  obtain ⟨W, ⟨m0, w0⟩, turn⟩ := h s₂.heap.objs.size I.fresh
  obtain ⟨hg, ht, he⟩ := hb cl hp2.objs.size s₂ H fp
  have J0 : Inv (compCx X sc N' cl hp2.objs.size s₂ H fp) [] (σ ++ List.replicate k none) (upd H s₂.heap.objs.size (.lst [])) { s₂ with heap := h₁, toks := s₂.toks + ([] : List (Str × Value)).length } :=
    comp_inv ok hcl hfr I hfp hob (Nat.le_refl _) hCle (Ne.symm hDC) hns₁ old hacc
  have fpo : ∀ {pins' : List (Addr × Obj)} {H' : Hp}, pins' = [] → (∀ b ∈ fp, H' b = none) → ∀ b ∈ fp, FpOk (compCx X sc N' cl hp2.objs.size s₂ H fp) pins' H' b := fun {pins' H'} hp hn b hb => by
    subst hp
    refine ⟨hn b hb, ?_, ?_, .inl hb, fun x c e => (hfp b hb).2.2.2.2.1 x c (hcl x c e), fun p hp => absurd (show p ∈ ([] : List (Addr × Obj)) from hp) (by simp)⟩
    · obtain ⟨o, e⟩ := hob b hb
      exact Nat.ne_of_lt (Nat.lt_of_lt_of_le (Heap.lt_size e) hCle)
    · intro z
      rcases List.mem_cons.mp (I.stkSub b z) with q | q
      · exact (hfp b hb).2.1 q
      · exact (hfp b hb).2.2.1 q
  let X' := compCx X sc N' cl hp2.objs.size s₂ H fp
  let good : Nat → Shared → Prop := fun n s' => ∃ i σ' ys H', Inv X' [] σ' H' s' ∧ tn i s'.heap ∧ (∀ b ∈ fp, H' b = none) ∧ W i n σ' ys H'
  have nope : ∀ {E' : Value → Shared → Prop} (x : Value) (s' : Shared), False → E' x s' := fun _ _ z => z.elim
  -- a turn that yields, up to the tests
  have upto : ∀ {i n : Nat} {σ3 : St} {ys : List V} {H3 : Hp} {s3 : Shared} {R : Shared → Prop} {E' : Value → Shared → Prop}, Inv X' [] σ3 H3 s3 → tn i s3.heap → (∀ b ∈ fp, H3 b = none) → J.go i H3 →
      (∀ x H3', J.yld i H3 x H3' → g x σ3 H3' fun σ4 H4 => tc σ4 H4 fun b H5 => if b = true then te σ4 H5 fun v H6 => H6 s₂.heap.objs.size = some (.lst ys) ∧ ∃ m', m' < n ∧ W (i + 1) m' σ4 (ys ++ [v]) (upd H6 s₂.heap.objs.size (.lst (ys ++ [v]))) else ∃ m', m' < n ∧ W (i + 1) m' σ4 ys H5) →
      (∀ (pl : List (Addr × Obj)) (σ6 : St) (H6 : Hp) (s6 : Shared), Inv X' pl σ6 H6 s6 → (∀ {σ7 : St} {H7 : Hp} {s7 : Shared}, Inv X' pl σ7 H7 s7 → Inv X' [] σ7 H7 s7 ∧ tn (i + 1) s7.heap ∧ ∀ b ∈ fp, H7 b = none) →
        (tc σ6 H6 fun b H5 => if b = true then te σ6 H5 fun v H6 => H6 s₂.heap.objs.size = some (.lst ys) ∧ ∃ m', m' < n ∧ W (i + 1) m' σ6 (ys ++ [v]) (upd H6 s₂.heap.objs.size (.lst (ys ++ [v]))) else ∃ m', m' < n ∧ W (i + 1) m' σ6 ys H5) → R s6) →
      wpAny (model X.prog X.w) X.A (pyNext (.ref it)) (fun r s4 => ∃ u, r = some u ∧ wpAny (model X.prog X.w) X.A (letOwnedTupleGo tg (.ref it) u) (fun _ s5 => wpAny (model X.prog X.w) X.A (assign tg X'.env u) (fun _ s6 => R s6) E' s5) E' s4) E' s3 := by
    intro i n σ3 ys H3 s3 R E' I3 st3 fr3 go step fin
    refine wpAny_mono (T.item X' rfl rfl rfl hc i [] s3 σ3 H3 E' I3 (fpo rfl fr3) st3 go) (fun r s4 hr => ?_) fun _ _ z => z
    obtain ⟨u, hr, h4⟩ := hr
    refine ⟨u, hr, wpAny_mono h4 (fun _ s5 h5 => ?_) fun _ _ z => z⟩
    obtain ⟨x, H5, I5, r5, y5, st5, fr5⟩ := h5
    have I5' := I5.pinned (fpo rfl fr5) (T.obj _ _ st5)
    refine wpAny_mono (hg _ s5 σ3 H5 x u _ I5' r5 (step x H5 y5)) (fun _ s6 h6 => ?_) nope
    obtain ⟨σ6, H6, I6, q6⟩ := h6
    refine fin _ σ6 H6 s6 I6 (fun {σ7 H7 s7} I7 => ?_) q6
    refine ⟨I7.unpinned, T.keep _ _ _ st5 fun b hb o e => (I7.pin (b, o) (List.mem_append_right _ (List.mem_append_right _ (mem_pinsAt hb e)))).1, fun b hb => ?_⟩
    obtain ⟨o, e, d⟩ := T.obj _ _ st5 b hb
    exact (I7.pin (b, o) (List.mem_append_right _ (List.mem_append_right _ (mem_pinsAt hb e)))).2.1
  -- the element and its laying down
  have lay : ∀ {i n : Nat} {pl : List (Addr × Obj)} {σ6 : St} {ys : List V} {H7 : Hp} {s7 : Shared} {E' : Value → Shared → Prop}, ys.length < sizeLine → Inv X' pl σ6 H7 s7 →
      (∀ {σ7 : St} {H7 : Hp} {s7 : Shared}, Inv X' pl σ7 H7 s7 → Inv X' [] σ7 H7 s7 ∧ tn (i + 1) s7.heap ∧ ∀ b ∈ fp, H7 b = none) →
      (te σ6 H7 fun v H6 => H6 s₂.heap.objs.size = some (.lst ys) ∧ ∃ m', m' < n ∧ W (i + 1) m' σ6 (ys ++ [v]) (upd H6 s₂.heap.objs.size (.lst (ys ++ [v])))) →
      wpAny (model X.prog X.w) X.A (eval elt X'.env) (fun x s8 => wpAny (model X.prog X.w) X.A (call (.builtin "list.append") [.ref s₂.heap.objs.size, x]) (fun _ s9 => ∃ m, m < n ∧ good m s9) E' s8) E' s7 := by
    intro i n pl σ6 ys H7 s7 E' hlen I7 back q7
    refine wpAny_mono (he _ s7 σ6 H7 _ I7 q7) (fun y s8 h8 => ?_) nope
    obtain ⟨v, H8, I8, r8, a8, m', hm, w8⟩ := h8
    refine wpAny_mono (mt_append (X := X') _ s8 σ6 H8 (.ref s₂.heap.objs.size) [v] _ _ (fun _ H9 => H9 = upd H8 s₂.heap.objs.size (.lst (ys ++ [v]))) I8 rfl (.cons r8 .nil) ⟨_, ys, v, rfl, rfl, a8, hlen, rfl⟩) (fun _ s9 h9 => ?_) nope
    obtain ⟨_, H9, I9, _, rfl⟩ := h9
    obtain ⟨b1, b2, b3⟩ := back I9
    exact ⟨m', hm, i + 1, σ6, ys ++ [v], _, b1, b2, b3, w8⟩
  -- the end
  have over : ∀ {i : Nat} {σ3 : St} {H3 : Hp} {s3 : Shared} {E' : Value → Shared → Prop}, Inv X' [] σ3 H3 s3 → tn i s3.heap → (∀ b ∈ fp, H3 b = none) → J.stop i H3 → Q (.ref s₂.heap.objs.size) H3 →
      wpAny (model X.prog X.w) X.A (pyNext (.ref it)) (fun r s4 => r = none ∧ RR (.ref s₂.heap.objs.size) hp2.objs.size (.ok .next) s4) E' s3 := by
    intro i σ3 H3 s3 E' I3 st3 fr3 stop q
    refine wpAny_mono (T.done X' rfl rfl rfl hc i [] s3 σ3 H3 E' I3 (fpo rfl fr3) st3 stop) (fun r s4 hr => ⟨hr.1, ?_⟩) fun _ _ z => z
    have I4 := hr.2
    have IX : Inv X pins σ H3 s4 := I.call' I4.os I4.base I4.hok I4.bare fun b hb => ⟨(hfp b hb).2.2.2.1, (hfp b hb).2.1, (hfp b hb).2.2.2.2.1, (hfp b hb).2.2.2.2.2⟩
    obtain ⟨m', hn', _⟩ := I4.loc
    exact hRR _ _ H3 s4 m' IX hn' hCle I4.free q
  let EE : Value → Shared → Prop := notedBy (model X.prog X.w) X.A X'.env fun e s' => RR (.ref s₂.heap.objs.size) hp2.objs.size (.error e) s'
  have begin0 : good m0 { s₂ with heap := h₁, toks := s₂.toks + ([] : List (Str × Value)).length } := by
    refine ⟨0, _, [], _, J0, T.keep _ _ _ t0 (fun b _ o e => old b o e), fun b hb => ?_, w0⟩
    obtain ⟨o, e⟩ := hob b hb
    rw [upd_ne (Nat.ne_of_lt (Heap.lt_size e))]
    exact (hfp b hb).1
  have loop : codeAny (model X.prog X.w) X.A (.compLoop (.ListComp elt [⟨tg, iter, ifs, 0⟩] sc pos) 0 (.ref it) (.ref s₂.heap.objs.size) X'.env) (RR (.ref s₂.heap.objs.size) hp2.objs.size) { s₂ with heap := h₁, toks := s₂.toks + ([] : List (Str × Value)).length } := by
    rcases ht with ⟨rfl, ht⟩ | ⟨c, rfl, ht⟩
    · refine PySem.W.kcp_loop good (fun n s3 hI => ?_) m0 begin0
      obtain ⟨i, σ3, ys, H3, I3, st3, fr3, w3⟩ := hI
      rcases turn i n σ3 ys H3 w3 with ⟨stop, q⟩ | ⟨go, hlen, step⟩
      · refine wpAny_mono (over I3 st3 fr3 stop q) (fun r s4 hr => ?_) fun _ _ z => z
        obtain ⟨rfl, hr⟩ := hr
        exact hr
      · refine wpAny_mono (upto I3 st3 fr3 go step (fun pl σ6 H6 s6 I6 back q6 => lay (E' := EE) hlen I6 back (by simpa using ht σ6 H6 _ q6))) (fun r s4 hr => ?_) fun _ _ z => z
        obtain ⟨u, rfl, h4⟩ := hr
        exact h4
    · refine PySem.W.kct_loop good (fun n s3 hI => ?_) m0 begin0
      obtain ⟨i, σ3, ys, H3, I3, st3, fr3, w3⟩ := hI
      rcases turn i n σ3 ys H3 w3 with ⟨stop, q⟩ | ⟨go, hlen, step⟩
      · refine wpAny_mono (over I3 st3 fr3 stop q) (fun r s4 hr => ?_) fun _ _ z => z
        obtain ⟨rfl, hr⟩ := hr
        exact hr
      · refine wpAny_mono (upto (R := fun s6 => wpAny (model X.prog X.w) X.A (isTrue c X'.env (eval c X'.env)) (fun okb s7 => if okb = true then wpAny (model X.prog X.w) X.A (eval elt X'.env) (fun x s8 => wpAny (model X.prog X.w) X.A (call (.builtin "list.append") [.ref s₂.heap.objs.size, x]) (fun _ s9 => ∃ m, m < n ∧ good m s9) EE s8) EE s7 else ∃ m, m < n ∧ good m s7) EE s6) I3 st3 fr3 go step (fun pl σ6 H6 s6 I6 back q6 => wpAny_mono (E' := EE) (ht _ s6 σ6 H6 _ I6 q6) (fun okb s7 h7 => ?_) nope)) (fun r s4 hr => ?_) fun _ _ z => z
        · obtain ⟨H7, I7, q7⟩ := h7
          cases okb with
          | false =>
            obtain ⟨m', hm, w7⟩ := q7
            obtain ⟨b1, b2, b3⟩ := back I7
            exact ⟨m', hm, i + 1, σ6, ys, H7, b1, b2, b3, w7⟩
          | true => exact lay (E' := EE) hlen I7 back q7
        · obtain ⟨u, rfl, h4⟩ := hr
          exact h4
  exact codeAny_compStart_list loop (T.self _ 0 _ _ _ (T.keep _ _ _ t0 (fun b _ o e => old b o e)) loop)

/-- [elt for tg in iter], [elt for tg in iter if c]: ifs by pts_nil, pts_one; N' the names ahead and the clause's own (a name of the frame that the clause's own hides: any other text in its place) -/
theorem pe_comp (N' : List Str) (k : Nat) (hc : X.calm = true) (hi : PI X tg iter wi)
    (hb : ∀ cl C s₂ H2 fp, PG (compCx X sc N' cl C s₂ H2 fp) tg g ∧ PTs (compCx X sc N' cl C s₂ H2 fp) ifs tc ∧ PE (compCx X sc N' cl C s₂ H2 fp) elt te)
    (hk : compChk X.N X.env.scope sc N' k = true := by rfl) (hs : ∀ x, foldedSetIterable iter X.env x = pure x := by intro _; rfl) :
    PE X (.ListComp elt [⟨tg, iter, ifs, 0⟩] sc pos) (tComp wi k g tc te) := by
  intro pins s σ H Q I h
  have ok := CompOk.of hk
  obtain ⟨cl, e, hcl, hfr⟩ := closure_some (sc := sc) (env := X.env) (fun y hy hf => I.ok.has y.1 (ok.free y hy hf))
  rw [eval_ListComp]
  refine wpAny_comprehension_free (use := none) rfl hs e ok.kind ok.names (thn (hi pins s σ H _ I h) fun v s1 h1 => thn h1 fun itv s2 h2 => ?_)
  obtain ⟨it, fp, tn, J, H2, rfl, I2, T, st2, f2, R⟩ := h2
  refine comp_block (RR := fun acc C => compPost (model X.prog X.w) X.A X.xe none (EP X pins σ Q) acc C) hc ok hcl hfr hb I2 T st2 f2 R ?_
  intro acc C H' s' m' I' hn hC hfree q
  refine ⟨m', hn, fun h'' hs'' => ⟨.ref acc, H', ?_, rfl, q⟩⟩
  have z := I2.fpOk hC hfree
  exact I'.turned (t' := s'.toks) (fun b o hb e => hs''.extBut b o hb e) hfree z.2.1 z.2.2.2.1 z.2.2.2.2.1 z.2.2.2.2.2

/-- name = [..] (a plain local name: the store comes ahead of the letting go) -/
theorem ps_setcomp (N' : List Str) (k : Nat) {i : Nat} {y : Str} {py spos : Pos} (hc : X.calm = true) (hN : X.N.Nodup) (hj : X.N[i]? = some y) (hx : Loc X.env.scope y) (hi : PI X tg iter wi)
    (hb : ∀ cl C s₂ H2 fp, PG (compCx X sc N' cl C s₂ H2 fp) tg g ∧ PTs (compCx X sc N' cl C s₂ H2 fp) ifs tc ∧ PE (compCx X sc N' cl C s₂ H2 fp) elt te)
    (hsw : swapsWith (.ListComp elt [⟨tg, iter, ifs, 0⟩] sc pos) (some (.Name y py)) spos.line X.env = pure true := by rfl)
    (hk : compChk X.N X.env.scope sc N' k = true := by rfl) (hs : ∀ x, foldedSetIterable iter X.env x = pure x := by intro _; rfl)
    (hf : X.fn y = true ∨ X.env.scope.names.lookup y = some .local := by first | exact .inl rfl | exact .inr rfl | assumption) :
    PS X (.Assign [.Name y py] (.ListComp elt [⟨tg, iter, ifs, 0⟩] sc pos) spos) (tAsg (tComp wi k g tc te) (gName i)) := by
  intro pins s σ H D I h
  have ok := CompOk.of hk
  obtain ⟨cl, e, hcl, hfr⟩ := closure_some (sc := sc) (env := X.env) (fun y hy hf => I.ok.has y.1 (ok.free y hy hf))
  rw [exec_Assign_Name_used _ _ _ _ hsw]
  refine wpAny_bind (wpAny_standAt (wpAny_bind ?_))
  show wpAny _ X.A (do let _ ← comprehension (.ListComp elt [⟨tg, iter, ifs, 0⟩] sc pos) sc X.env _ (newList []) false (eval iter X.env) (some (assign (.Name y py) X.env))) _ _ s
  refine wpAny_bind (wpAny_mono (wpAny_comprehension_free (use := some (assign (.Name y py) X.env)) (Q := fun _ s' => SP X pins D .next s') rfl hs e ok.kind ok.names
    (thn (hi pins s σ H _ I h) fun v s1 h1 => thn h1 fun itv s2 h2 => ?_)) (fun _ s' hq => wpAny_pure (wpAny_pure hq)) fun _ _ e => e)
  obtain ⟨it, fp, tn, J, H2, rfl, I2, T, st2, f2, R⟩ := h2
  refine comp_block (RR := fun acc C => compPost (model X.prog X.w) X.A X.xe (some (assign (.Name y py) X.env)) (fun _ s' => SP X pins D .next s') acc C) hc ok hcl hfr hb I2 T st2 f2 R ?_
  intro acc C H' s' m' I' hn hC hfree q
  show wpAny _ X.A (assign (.Name y py) X.env (.ref acc)) _ _ _
  refine wpAny_assign_Name (store_ok2 (v := .ref acc) I' hN hj hx rfl (fun s'' I'' ch => ?_) hf)
  have z := I2.fpOk hC hfree
  obtain ⟨a, sb, ha⟩ := ch
  have hCa : C ≠ a := by
    rcases ha with ha | ha
    · rw [ha]; exact z.2.1
    · exact Ne.symm (z.2.2.2.2.1 y a ha)
  refine ⟨m', hn.sameBut sb hCa, fun h₃ hs₃ => ⟨_, H', ?_, q⟩⟩
  exact I''.turned (t' := s''.toks) (fun b o hb e => hs₃.extBut b o hb e) hfree z.2.1 z.2.2.2.1 z.2.2.2.2.1 z.2.2.2.2.2
end
end L2

set_option Elab.async false
set_option linter.all false
set_option maxRecDepth 100000
/-! own: exceptions of own classes, over the hand layer -/
namespace L2
open PySem PySem.Spec PyProof.Rows

theorem ObjOk.there {P : Program} {w : World} {H : Hp} {h : Heap} {a : Addr} {o : HO} (x : ObjOk P w H h a o) : ∃ ob, h.get? a = some ob := by
  cases o with
  | lst xs => obtain ⟨_, _, _, _, e⟩ := x; exact ⟨_, e⟩
  | tup xs => obtain ⟨_, _, _, o, e, _⟩ := x; exact ⟨_, e⟩
  | dK kvs => obtain ⟨_, _, _, _, o, _, _, e, _⟩ := x; exact ⟨_, e⟩
  | dT kvs => obtain ⟨_, _, _, _, o, _, _, e, _⟩ := x; exact ⟨_, e⟩
  | set S n => obtain ⟨o, _, _, _, e, _⟩ := x; exact ⟨_, e⟩
  | ins C dx fs => obtain ⟨_, _, _, e, _⟩ := x; exact ⟨_, e⟩
  | own y => obtain ⟨_, e⟩ := x; exact ⟨_, e⟩
  | xd fs => obtain ⟨_, ⟨_, _, _, e, _⟩, _⟩ := x; exact ⟨_, e⟩
  | rng lo hi => obtain ⟨_, _, _, e⟩ := x; exact ⟨_, e⟩
  | frz ob u => obtain ⟨e, _⟩ := x; exact ⟨_, e⟩
  | tbl ps => exact ⟨_, (show h.get? a = some _ from x)⟩
  | met f y => exact ⟨_, (show h.get? a = some _ from x)⟩
  | ext φ => obtain ⟨_, e, _⟩ := x; exact e
theorem HOk.there {P : Program} {w : World} {H : Hp} {h : Heap} {a : Addr} (x : HOk P w H h) (n : H a ≠ none) : ∃ ob, h.get? a = some ob := by
  cases q : H a with
  | none => exact absurd q n
  | some u => exact (x a u q).there
theorem HOk.untracked {P : Program} {w : World} {H : Hp} {h : Heap} {a : Addr} (x : HOk P w H h) (n : h.get? a = none) : H a = none := by
  cases q : H a with
  | none => rfl
  | some u =>
    obtain ⟨o, e⟩ := (x a u q).there
    rw [n] at e; cases e

/-- the heap B holds what is tracked and what stood ahead, but for the frames -/
def Cov (B : Heap) (l : List Env) (H' : Hp) (h0 h : Heap) : Prop := ∀ b o, h.get? b = some o → b ∉ frs l → (H' b ≠ none ∨ h0.get? b ≠ none) → B.get? b = some o

/-- an exception of the class cls, the object at a, is in the air behind a call that began at s, H -/
structure Air (P : Program) (w : World) (l : List Env) (H : Hp) (s : Shared) (H' : Hp) (a : Addr) (cls : Value) (s' : Shared) : Prop where
  os : s'.os = s.os
  bare : AllBare s'.gens
  un : Un (frs l) [] H H' s.heap s'.heap
  hok : HOk P w H' s'.heap
  new : s.heap.get? a = none
  fly : ∃ B a0, Heap.FlyingW B l a cls a0 s'.heap ∧ Cov B l H' s.heap s'.heap

def CXr (P : Program) (w : World) : CXT := fun l H s E e s' => ∃ a cls H', e = .ref a ∧ Air P w l H s H' a cls s' ∧ H' a = none ∧ E cls none H'
abbrev ER0 : XK := fun _ _ _ => False
theorem passr0 {P : Program} {w : World} {X : Cx} : Passes (CXr P w) X ER0 := fun _ _ _ _ _ _ _ h => by
  obtain ⟨_, _, _, _, _, _, z⟩ := h
  exact z.elim

section
variable {P : Program} {w : World} {B : Heap} {l : List Env} {H H' : Hp} {h0 h h' : Heap}
/-- what an exception's passing changes -/
theorem Un.air (u : Un (frs l) [] H H' h0 h) (hfr : ∀ b ∈ frs l, H b = none) (h0fr : ∀ b ∈ frs l, ∃ o, h0.get? b = some o) (cov : Cov B l H' h0 h) (st : B.StaysIn h') (up : h.UpToSlots h') (ff : h.FunFrames B l) : Un (frs l) [] H H' h0 h' := by
  have slot : ∀ b o, b ∈ frs l → h.get? b = some o → ∃ sl, h'.get? b = some { o with slots := sl } := fun b o hb e => by
    obtain ⟨_, o', e', d⟩ := ff.mem hb
    rw [e] at e'; cases e'
    exact up b o e d
  have keep : ∀ b o, b ∉ frs l → h0.get? b ≠ none → h.get? b = some o → h'.get? b = some o := fun b o hb hn e => st b o (cov b o e hb (.inr hn))
  refine ⟨fun b o e n hb hx => keep b o hb (by rw [e]; simp) (u.keep b o e n hb hx), fun b o e n hb hx => ?_, u.free, fun b o e hx => ?_, u.tups, u.frzs, u.tbls⟩
  · obtain ⟨sl, e1⟩ := u.slot b o e n hb hx
    obtain ⟨sl', e2⟩ := slot b _ hb e1
    exact ⟨sl', e2⟩
  · obtain ⟨o', e1⟩ := u.there b o e hx
    by_cases hb : b ∈ frs l
    · obtain ⟨sl, e2⟩ := slot b o' hb e1
      exact ⟨_, e2⟩
    · exact ⟨o', keep b o' hb (by rw [e]; simp) e1⟩
theorem HOk.air (x : HOk P w H' h) (hfr : ∀ b ∈ frs l, H' b = none) (cov : Cov B l H' h0 h) (st : B.StaysIn h') : HOk P w H' h' := fun a o e => by
  have k : ∀ b u, H' b ≠ none → h.get? b = some u → h'.get? b = some u := fun b u n q => st b u (cov b u q (fun z => n (hfr b z)) (.inl n))
  refine (x a o e).stay (fun b u hb q => k b u ?_ q) (fun _ q => q) fun _ _ q => q
  rcases hb with rfl | hb
  · rw [e]; simp
  · rw [hb]; simp
end

section
variable {X : Cx} {pins : List (Addr × Obj)} {σ : St} {H H' : Hp} {s s' : Shared} {a : Addr} {cls : Value}
theorem Inv.stkThere (I : Inv X pins σ H s) : ∀ b ∈ frs X.stack, ∃ o, s.heap.get? b = some o := fun b hb => let ⟨_, o, e, _⟩ := I.stack.mem hb; ⟨o, e⟩
theorem Air.free (A : Air X.prog X.w X.stack H s H' a cls s') (I : Inv X pins σ H s) : ∀ b ∈ frs X.stack, H' b = none := fun b hb => by
  obtain ⟨o, e⟩ := I.stkThere b hb
  exact A.un.free b o e (I.stkFree b hb) (by simp)
/-- the body's state behind a call that raised -/
theorem Air.inv (A : Air X.prog X.w X.stack H s H' a cls s') (I : Inv X pins σ H s) : Inv X pins σ H' s' := I.call' A.os A.un A.hok A.bare fun b hb => nomatch hb
end

/-! ### an exception leaves a def -/
section
variable {P : Program} {w : World} {K : PySem.W.Frag} {mg : Str → Option Value} {base : Heap} {N : List Str} {qual : Str} {scope : Scope} {f : Addr} {cd : Value} {A : Around} {outer : List Env} {s₀ : Shared} {H₀ : Hp} {E : XK}

/-- out of the frame: from FlyingW behind the leaving -/
theorem left_of {X : Cx} {pins : List (Addr × Obj)} {σ : St} {H H' : Hp} {s s' : Shared} {a : Addr} {cls a0 : Value} {B h' : Heap} (I : Inv X pins σ H s) (hst : X.stack = X.env :: X.outer) (hf : X.env.frame = some X.env.locals) (hex : X.ex = [])
    (os : s'.os = s.os) (bare : AllBare s'.gens) (un : Un (frs X.stack) [] H H' s.heap s'.heap) (hok : HOk X.prog X.w H' s'.heap) (new : s.heap.get? a = none) (ff : s'.heap.FunFrames B X.stack)
    (cov : Cov B X.stack H' s.heap s'.heap) (fl : Heap.FlyingW B X.outer a cls a0 h') (up : s'.heap.UpToSlots h') : Air X.prog X.w X.outer X.H₀ X.s₀ H' a cls { s' with heap := h' } := by
  have hfree : ∀ b ∈ frs X.stack, H' b = none := fun b hb => by
    obtain ⟨o, e⟩ := I.stkThere b hb
    exact un.free b o e (I.stkFree b hb) (by simp)
  have sub : ∀ b, b ∈ frs X.stack → b = X.env.locals ∨ b ∈ frs X.outer := fun b hb => List.mem_cons.mp (I.stkSub b hb)
  have sub' : ∀ b, b ∈ frs X.outer → b ∈ frs X.stack := fun b hb => by
    rw [hst]; unfold frs; rw [List.filterMap_cons, hf]; exact List.mem_cons_of_mem _ hb
  have un2 : Un (frs X.stack) [] H H' s.heap h' := un.air (fun b hb => I.stkFree b hb) I.stkThere cov fl.1 up ff
  have base0 := I.base
  rw [hex] at base0
  have neL : ∀ b o, X.s₀.heap.get? b = some o → b ≠ X.env.locals := fun b o e => Nat.ne_of_lt (Nat.lt_of_lt_of_le (Heap.lt_size e) I.ok.above)
  refine ⟨os.trans I.os, bare, ⟨fun b o e n hb hx => ?_, fun b o e n hb hx => ?_, fun b o e n hx => ?_, fun b o e hx => ?_, fun b xs e => un2.tups b xs (base0.tups b xs e), fun b o u e => un2.frzs b o u (base0.frzs b o u e), fun b ps e => ?_⟩,
    hok.air hfree cov fl.1, ?_, B, a0, fl, fun b o e hb hc => ?_⟩
  · refine un2.keep b o (base0.keep b o e n hb hx) (base0.free b o e n hx) (fun z => ?_) hx
    rcases sub b z with q | q
    · exact neL b o e q
    · exact hb q
  · obtain ⟨sl, e1⟩ := base0.slot b o e n hb hx
    obtain ⟨sl', e2⟩ := un2.slot b _ e1 (base0.free b o e n hx) (sub' b hb) hx
    exact ⟨sl', e2⟩
  · obtain ⟨o', e1⟩ := base0.there b o e hx
    exact un2.free b o' e1 (base0.free b o e n hx) hx
  · obtain ⟨o', e1⟩ := base0.there b o e hx
    exact un2.there b o' e1 hx
  · obtain ⟨m1, e1⟩ := base0.tbls b ps e
    obtain ⟨m2, e2⟩ := un2.tbls b _ e1
    exact ⟨m1 ++ m2, by rw [e2, Array.append_assoc]⟩
  · cases q : X.s₀.heap.get? a with
    | none => rfl
    | some o =>
      obtain ⟨o', e1⟩ := base0.there a o q (by simp)
      rw [new] at e1; cases e1
  · have hb' : b ∉ frs X.stack := fun z => by
      rcases sub b z with q | q
      · subst q
        rcases hc with hc | hc
        · exact hc (hfree _ z)
        · cases q : X.s₀.heap.get? X.env.locals with
          | none => exact hc q
          | some o' => exact neL _ o' q rfl
      · exact hb q
    have there : ∃ o', s'.heap.get? b = some o' := by
      rcases hc with hc | hc
      · exact hok.there hc
      · cases q : X.s₀.heap.get? b with
        | none => exact absurd q hc
        | some o' =>
          obtain ⟨o1, e1⟩ := base0.there b o' q (by simp)
          exact un.there b o1 e1 (by simp)
    obtain ⟨o', e'⟩ := there
    have hc' : H' b ≠ none ∨ s.heap.get? b ≠ none := by
      rcases hc with hc | hc
      · exact .inl hc
      · cases q : X.s₀.heap.get? b with
        | none => exact absurd q hc
        | some o' =>
          obtain ⟨o1, e1⟩ := base0.there b o' q (by simp)
          exact .inr (by rw [e1]; simp)
    have q := cov b o' e' hb' hc'
    have q' := fl.1 b o' q
    have e' : h'.get? b = some o := e
    rw [q'] at e'; cases e'
    exact q

/-- an exception of a callee leaves this def too -/
theorem passr : Passes (CXr P w) (cxOf (CXr P w) P w K mg base N qual scope f cd A outer s₀ H₀ E) E := fun pins σ H s e s' I h => by
  obtain ⟨a, cls, H', rfl, air, ha, q⟩ := h
  obtain ⟨B, a0, fl, cov⟩ := air.fly
  show wpAny _ _ (leaving _ _) _ _ _
  refine wpAny_leaves_onW I.ok.frames rfl fl fun h' fl' up => ?_
  exact ⟨a, cls, H', rfl, left_of (X := cxOf (CXr P w) P w K mg base N qual scope f cd A outer s₀ H₀ E) I rfl rfl rfl air.os air.bare air.un air.hok air.new fl.2.2.1 cov fl' up, ha, q⟩

/-- an exception that this def made -/
theorem made_leaves {pins : List (Addr × Obj)} {σ : St} {H : Hp} {s s' : Shared} {a : Addr} {cls : Value} {vs : List Value} (I : Inv (cxOf (CXr P w) P w K mg base N qual scope f cd A outer s₀ H₀ E) pins σ H s)
    (os : s'.os = s.os) (gens : s'.gens = s.gens) (hx : Heap.MadeExcOf s.heap s'.heap a cls vs) (q : E cls none H) : (cxOf (CXr P w) P w K mg base N qual scope f cd A outer s₀ H₀ E).xe (.ref a) s' := by
  let X := cxOf (CXr P w) P w K mg base N qual scope f cd A outer s₀ H₀ E
  have hB : (PySem.W.hideAll s.heap (frs X.stack)).StaysIn s.heap := fun b o e => PySem.W.of_hideAll _ e
  have ff : s.heap.FunFrames (PySem.W.hideAll s.heap (frs X.stack)) X.stack := PySem.W.funFrames_hide I.stack fun env he b hb => List.mem_filterMap.mpr ⟨env, he, hb⟩
  have ff' : s'.heap.FunFrames (PySem.W.hideAll s.heap (frs X.stack)) X.stack := ff.of_keeps fun b o e _ => ⟨o, hx.keeps b o e, rfl⟩
  have hok : HOk X.prog X.w H s'.heap := I.hok.kept hx.keeps
  have ha : H a = none := I.hok.untracked hx.new
  show wpAny _ _ (leaving _ _) _ _ _
  refine wpAny_leaves_madeW I.ok.frames rfl hB ff hx fun h' t fl' _ _ up => ?_
  refine ⟨a, cls, H, rfl, left_of (X := X) (B := PySem.W.hideAll s.heap (frs X.stack)) I rfl rfl rfl os (by rw [gens]; exact I.bare) (Un.kept hx.keeps) hok hx.new ff' ?_ fl' up, ha, q⟩
  intro b o e hb hc
  have there : ∃ o', s.heap.get? b = some o' := by
    rcases hc with hc | hc
    · exact I.hok.there hc
    · cases z : s.heap.get? b with
      | none => exact absurd z hc
      | some o' => exact ⟨o', rfl⟩
  obtain ⟨o', e'⟩ := there
  have q' := hx.keeps b o' e'
  have e : s'.heap.get? b = some o := e
  rw [q'] at e; cases e
  exact PySem.W.hideAll_get _ e' hb
end
end L2

/-! ### raising -/
namespace L2
open PySem PySem.Spec PyProof.Rows
section
variable {K : PySem.W.Frag} {h : Heap} {C : Addr} {bmB : List Value} {newId : String}
theorem exc_obj (kin : K.In h) (q : PySem.W.excIn K C bmB newId = true) :
    ∃ bm N nm qn bs hd sn sub ab col dd k0 k1 k2 k3 k5 mN, h.get? C = some (excClassObj nm qn C N bs bm hd sn sub ab col dd k0 k1 k2 k3 k5 newId) ∧ h.Ns N mN ∧ mN "__init__" = none ∧ OwnTail h bmB bm := by
  revert q
  unfold PySem.W.excIn
  split
  · rename_i dd cd sl look
    split
    · rename_i C' bm p0 p1 p2 p3 mk p5 em es
      intro q
      have q := q
      rw [Bool.and_eq_true, Bool.and_eq_true, Bool.and_eq_true, Bool.and_eq_true, Bool.and_eq_true] at q
      obtain ⟨⟨⟨⟨⟨q1, q2⟩, q3⟩, q4⟩, q5⟩, q6⟩ := q
      obtain rfl := beq_iff_eq.mp q1
      obtain rfl := beq_iff_eq.mp q2
      have at_ := kin _ _ look
      have eqsl : sl = #[p0, p1, p2, p3, some (.builtin mk), p5] := by
        have := congrArg List.toArray es
        simpa using this
      rw [eqsl] at at_
      obtain ⟨c1, c2, c3, c4, c5, c6, c7, c8, c9, c10, c11⟩ := cd
      simp only at em q3 q4 q5 q6 at_
      subst em
      have e3 : c11 = false := by simpa using q3
      refine ⟨bm, c4, c1, c5, c2, c6, c7, c8, c9, c10, dd, p0, p1, p2, p3, p5, _, ?_, .of_isNs (PySem.W.isNs_of_in kin q5), PySem.W.nsMap_none_of_in kin q5 (beq_iff_eq.mp q6), PySem.W.tail_of_in kin q4⟩
      rw [at_]
      unfold excClassObj
      rw [e3]
    · intro q; cases q
  · intro q; cases q
end

abbrev veMro : List Value := [.type "ValueError", .type "Exception", .type "BaseException", .type "object"]
/-- an own class of exceptions, under ValueError -/
def ExcC (K : PySem.W.Frag) (C : Addr) : Prop := PySem.W.excIn K C veMro "ValueError.__new__" = true

def tRaise (E : XK) (C : Addr) (t : TA) : TS := fun _ σ H => t σ H fun vs H1 => vs.length ≤ 100 ∧ E (.ref C) none H1
section
variable {P : Program} {w : World} {K : PySem.W.Frag} {mg : Str → Option Value} {base : Heap} {N : List Str} {qual : Str} {scope : Scope} {f : Addr} {cd : Value} {A : Around} {outer : List Env} {s₀ : Shared} {H₀ : Hp} {E : XK}
theorem ps_raise {x : Str} {C : Addr} {np cpos pos : Pos} {e : Expr} {es : List Expr} {t : TA} (hh : A.handled = none) (hg : Gl (cxOf (CXr P w) P w K mg base N qual scope f cd A outer s₀ H₀ E) x) (hm : mg x = some (.ref C)) (q : ExcC K C)
    (ha : PA (cxOf (CXr P w) P w K mg base N qual scope f cd A outer s₀ H₀ E) (e :: es) t) (hdb : (x == ("__debug__" : Str)) = false := by decide)
    (he : starEach (e :: es) (cxOf (CXr P w) P w K mg base N qual scope f cd A outer s₀ H₀ E).env = (false, eval e (cxOf (CXr P w) P w K mg base N qual scope f cd A outer s₀ H₀ E).env) :: starEach es (cxOf (CXr P w) P w K mg base N qual scope f cd A outer s₀ H₀ E).env := by rfl)
    (hpl : (backTo cpos (starEach (e :: es) (cxOf (CXr P w) P w K mg base N qual scope f cd A outer s₀ H₀ E).env)).any (·.1) = false := by rfl) :
    PS (cxOf (CXr P w) P w K mg base N qual scope f cd A outer s₀ H₀ E) (.Raise (some (.Call (.Name x np) (e :: es) [] cpos)) none pos) (tRaise E C t) := by
  intro pins s σ H D I h
  obtain ⟨bm, N1, nm, qn, bs, hd, sn, sub, ab, col, dd, k0, k1, k2, k3, k5, mN, hC, hN, hni, TL⟩ := exc_obj I.ok.mod.kin q
  refine wpAny_Raise_call_subT (C := C) (N := N1) (nm := nm) (q := qn) (bs := bs) (bm := bm) (hdct := hd) (sn := sn) (sub := sub) (ab := ab) (col := col) (dd := dd) (k0 := k0) (k1 := k1) (k2 := k2) (k3 := k3) (k5 := k5)
    PySem.F.excBase_ValueError (TL.hasType (by decide)) hh hpl hni (ld_glob I hg hm ⟨rfl, ?_⟩ hdb)
  have h2 := ha cpos pins s σ H _ I h
  rw [he] at h2 ⊢
  refine Calls.evalArgs_plain (wpAny_mono h2 (fun us s2 hq => ?_) fun _ _ z => z)
  obtain ⟨vs, H2, I2, r2, len, q2⟩ := hq
  refine ⟨rfl, ?_, I2.bk _ _ hC, hN.keeps I2.bk, TL.keeps I2.bk, fun h' a hx => made_leaves I2 rfl rfl hx q2⟩
  show us.length ≤ sizeLine
  rw [← r2.length]
  exact Nat.le_trans len (by decide)
end

/-! ### a def whose body may raise -/
section
variable {P : Program} {w : World} {K : PySem.W.Frag} {mg : Str → Option Value} {base : Heap}
theorem Fun.okR {x qual : Str} {st : Stmt} {f : Addr} {fd : FuncData} {N ps : List Str} {k : Nat} {sp : Sp} (F : Fun K x qual st f fd) (S : FnScope N ps (defScope st)) (len : ∀ vs H Q E, sp vs H Q E → vs.length = ps.length)
    (hbody : ∀ (cdv : Value) (A : Around) (outer : List Env) (s : Shared) (H : Hp) (vs : List V) (Q : VK) (E : XK), A.handled = none → Room k (A.deeper (envOfC qual (defScope st) s.heap.objs.size f cdv)) → sp vs H Q E →
      ∃ t, PSs (cxOf (CXr P w) P w K mg base N qual (defScope st) f cdv A outer s H E) (defBody st) t ∧ t { nx := fun _ H' => Q .non H', rt := Q } (start N vs) H) : FnOk P w K mg base (CXr P w) (k + 1) f fd ps sp := by
  obtain ⟨oc, od, kV, doc, pm, an, cdv, ct, osl, rfl, lk, hcd⟩ := F.ex
  exact fn_of lk hcd S len fun A outer s H vs Q E hr hsp => hbody cdv A outer s H vs Q E hr.hd hr hsp
theorem Fun.okN {x qual : Str} {st : Stmt} {f : Addr} {fd : FuncData} {N ps : List Str} {k : Nat} {sp : Sp} (F : Fun K x qual st f fd) (S : FnScope N ps (defScope st)) (len : ∀ vs H Q E, sp vs H Q E → vs.length = ps.length)
    (hbody : ∀ (cdv : Value) (A : Around) (outer : List Env) (s : Shared) (H : Hp) (vs : List V) (Q : VK) (E : XK), Room k (A.deeper (envOfC qual (defScope st) s.heap.objs.size f cdv)) → sp vs H Q E →
      ∃ t, PSs (cxOf (CXr P w) P w K mg base N qual (defScope st) f cdv A outer s H E).nox (defBody st) t ∧ t { nx := fun _ H' => Q .non H', rt := Q } (start N vs) H) : FnOk P w K mg base (CXr P w) (k + 1) f fd ps sp := by
  obtain ⟨oc, od, kV, doc, pm, an, cdv, ct, osl, rfl, lk, hcd⟩ := F.ex
  refine fn_of lk hcd S len fun A outer s H vs Q E hr hsp => ?_
  obtain ⟨t, h, q⟩ := hbody cdv A outer s H vs Q E hr hsp
  exact ⟨t, h.nox, q⟩
end

/-! ### a call that may raise, as a try's body -/
abbrev TX := St → Hp → VK → XK → Prop
def PEX (X : Cx) (e : Expr) (t : TX) : Prop :=
  ∀ (pins : List (Addr × Obj)) (s : Shared) (σ : St) (H : Hp) (Q : VK) (E : XK), Inv X pins σ H s → t σ H Q E →
    wpAny (model X.prog X.w) X.A (eval e X.env) (EP X pins σ Q) (fun ex s' => ∃ Hc sc, Inv X pins σ Hc sc ∧ CXr X.prog X.w X.stack Hc sc E ex s') s
section
variable {X : Cx} {k : Nat} {f C : Addr} {fd : FuncData} {ps : List Str} {sp : Sp} {x m : Str} {p pos apos : Pos} {e o : Expr} {es : List Expr} {ta : TE} {t : TA}
theorem run_fnX {pins : List (Addr × Obj)} {σ : St} {H : Hp} {s : Shared} {Q : VK} {E : XK} {us : List Value} {vs : List V} (F : FnOk X.prog X.w X.K X.mg X.base (CXr X.prog X.w) k f fd ps sp) (hr : Room k X.A) (hb : Binds X.K fd ps [])
    (I : Inv X pins σ H s) (r : Vals vs us) (h : sp vs H Q E) : wpAny (model X.prog X.w) X.A (call (.ref f) us) (EP X pins σ Q) (fun ex s' => CXr X.prog X.w X.stack H s E ex s') s := by
  have hl : (us ++ []).length = ps.length := by rw [List.append_nil, ← r.length]; exact F.len _ _ _ _ h
  have hb' := hb s us I.kIn hl
  rw [List.append_nil] at hb'
  refine wpAny_call (codeAny_mono (F.run X.A X.stack s H ⟨us, []⟩ us vs Q E hr I.env0 hb' r h) fun r s' hq => ?_)
  cases r with
  | error e => exact hq
  | ok fl =>
    cases fl with
    | ret u => exact I.after hq
    | next => exact False.elim hq
    | brk => exact False.elim hq
    | cont => exact False.elim hq
theorem run_makeX {pins : List (Addr × Obj)} {σ : St} {H : Hp} {s : Shared} {Q : VK} {E : XK} {us : List Value} {vs : List V} (M : Mk X.K C f) (F : FnOk X.prog X.w X.K X.mg X.base (CXr X.prog X.w) k f fd ps sp) (hr : Room (k + 1) X.A) (hb : Binds X.K fd ps [])
    (I : Inv X pins σ H s) (r : Vals vs us)
    (h : ∀ x dx, H x = none → H dx = none → dx ≠ x → sp (.ref x :: vs) (upd (upd H dx (.own x)) x (.ins C dx [])) (fun v H2 => v = .non ∧ Q (.ref x) H2) E) :
    wpAny (model X.prog X.w) X.A (call (.ref C) us) (EP X pins σ Q) (fun ex s' => ∃ Hc sc, Inv X pins σ Hc sc ∧ CXr X.prog X.w X.stack Hc sc E ex s') s := by
  have hq := h (s.heap.objs.size + 1) s.heap.objs.size (I.hok.fresh (Nat.le_succ _)) (I.hok.fresh (Nat.le_refl _)) (Nat.ne_of_lt (Nat.lt_succ_self _))
  have I2 := Inv.made (C := C) I
  have r2 : Vals (V.ref (s.heap.objs.size + 1) :: vs) (Value.ref (s.heap.objs.size + 1) :: us) := .cons rfl r
  have hl : ((Value.ref (s.heap.objs.size + 1) :: us) ++ []).length = ps.length := by
    have e := r2.length
    rw [F.len _ _ _ _ hq] at e
    rw [List.append_nil]
    exact e.symm
  have hb' := hb _ (Value.ref (s.heap.objs.size + 1) :: us) I2.kIn hl
  rw [List.append_nil] at hb'
  refine wpAny_call (make_map (f := f) I.kIn M.makes M.init (beq_iff_eq.mp M.fn) (codeAny_mono (F.run _ X.stack _ _ ⟨Value.ref (s.heap.objs.size + 1) :: us, []⟩ (Value.ref (s.heap.objs.size + 1) :: us) _ _ E (hr.make C us [])
    (I2.env0.make C us []) hb' r2 hq) fun r s' hq' => ?_))
  cases r with
  | error e => exact ⟨_, _, I2, hq'⟩
  | ok fl =>
    cases fl with
    | ret u =>
      obtain ⟨v, H', I3, rv, ev, q3⟩ := I2.after hq'
      subst ev
      exact ⟨rv, ⟨V.ref (s.heap.objs.size + 1), H', I3, rfl, q3⟩⟩
    | next => exact False.elim hq'
    | brk => exact False.elim hq'
    | cont => exact False.elim hq'

def xMeth (C : Addr) (m : Str) (sp : Sp) (ta : TE) (t : TA) : TX := fun σ H Q E => ta σ H fun x H1 => ∃ a dx fs, x = .ref a ∧ H1 a = some (.ins C dx fs) ∧ fs.lookup m = none ∧ t σ H1 fun vs H2 => sp (x :: vs) H2 Q E
def xMake (C : Addr) (sp : Sp) (t : TA) : TX := fun σ H Q E => t σ H fun vs H1 => ∀ x dx, H1 x = none → H1 dx = none → dx ≠ x →
  sp (.ref x :: vs) (upd (upd H1 dx (.own x)) x (.ins C dx [])) (fun v H2 => v = .non ∧ Q (.ref x) H2) E
def xCall (sp : Sp) (t : TA) : TX := fun σ H Q E => t σ H fun vs H1 => sp vs H1 Q E
/-- what is asked ahead of the call raises nothing -/
theorem wp_nox {α : Type} {M : Model} {A : Around} {tr : Sem α} {Q : α → Shared → Prop} {E' : Value → Shared → Prop} {s : Shared} (h : wpAny M A tr Q (fun _ _ => False) s) : wpAny M A tr Q E' s := wpAny_mono h (fun _ _ q => q) fun _ _ z => z.elim
theorem px_meth {pl : Sem Bool} (he : PE X.nox o ta) (c : Cls X.K C) (hm : Meth X.K C m f) (F : FnOk X.prog X.w X.K X.mg X.base (CXr X.prog X.w) k f fd ps sp) (hr : Room k X.A) (hb : Binds X.K fd ps []) (ha : PA X.nox (e :: es) t)
    (hst : starEach (e :: es) X.env = (false, eval e X.env) :: starEach es X.env := by rfl) (hpl : (backTo pos (starEach es X.env)).any (·.1) = false := by rfl)
    (ht : eval (.Call (.Attribute o m apos) (e :: es) [] pos) X.env = (do
      let ov ← eval o X.env
      standAt apos.atName
      let (f, first) ← holding [ov] (getMethod ov m pl)
      callWith pos f first (backTo pos (starEach (e :: es) X.env)) (backToKw pos (keywordEach [] X.env))) := by rfl) :
    PEX X (.Call (.Attribute o m apos) (e :: es) [] pos) (xMeth C m sp ta t) := by
  intro pins s σ H Q E I h
  refine PySem.W.methodCall_KW (pl := pl) (thn (wp_nox (he pins s σ H _ (I.wish _) h)) fun u s1 ⟨x, H1, I1, rx, a, dx, fs, ex, ea, l, q⟩ => ?_) ht
  subst ex
  obtain rfl : u = Value.ref a := rx
  have I1 := I1.unwish
  refine getmeth_ok I1 ea c hm l ?_
  refine PySem.W.callWith_K (first := [.ref a]) (h₀ := X.base) I.ok.mod.kin hm.kp (thn (wp_nox (ha pos pins s1 σ H1 _ (I1.wish _) q)) fun us s2 ⟨vs, H2, I2, r, q2⟩ => ⟨I2.kIn, ?_⟩) hst hpl
  exact wpAny_mono (run_fnX (us := .ref a :: us) (vs := .ref a :: vs) F hr hb I2.unwish (.cons rfl r) q2) (fun _ _ z => z) fun _ _ z => ⟨_, _, I2.unwish, z⟩
theorem px_make (M : Mk X.K C f) (F : FnOk X.prog X.w X.K X.mg X.base (CXr X.prog X.w) k f fd ps sp) (hr : Room (k + 1) X.A) (hg : Gl X x) (hm : X.mg x = some (.ref C)) (hb : Binds X.K fd ps []) (ha : PA X.nox (e :: es) t)
    (hdb : (x == ("__debug__" : Str)) = false := by decide) (he : starEach (e :: es) X.env = (false, eval e X.env) :: starEach es X.env := by rfl) (hpl : (backTo pos (starEach es X.env)).any (·.1) = false := by rfl) :
    PEX X (.Call (.Name x p) (e :: es) [] pos) (xMake C sp t) := by
  intro pins s σ H Q E I h
  refine wpAny_Call_Name_kw (ld_glob I hg hm ?_ hdb)
  refine PySem.W.callWith_K (h₀ := X.base) I.ok.mod.kin M.kp (thn (wp_nox (ha pos pins s σ H _ (I.wish _) h)) fun us s1 ⟨vs, H1, I1, r, q⟩ => ⟨I1.kIn, ?_⟩) he hpl
  exact run_makeX M F hr hb I1.unwish r q
theorem px_call (F : FnOk X.prog X.w X.K X.mg X.base (CXr X.prog X.w) k f fd ps sp) (hr : Room k X.A) (hg : Gl X x) (hm : X.mg x = some (.ref f)) (hk : PySem.W.keepIn X.K (.ref f) = true) (hb : Binds X.K fd ps []) (ha : PA X.nox (e :: es) t)
    (hdb : (x == ("__debug__" : Str)) = false := by decide) (he : starEach (e :: es) X.env = (false, eval e X.env) :: starEach es X.env := by rfl) (hpl : (backTo pos (starEach es X.env)).any (·.1) = false := by rfl) :
    PEX X (.Call (.Name x p) (e :: es) [] pos) (xCall sp t) := by
  intro pins s σ H Q E I h
  refine wpAny_Call_Name_kw (ld_glob I hg hm ?_ hdb)
  refine PySem.W.callWith_K (h₀ := X.base) I.ok.mod.kin hk (thn (wp_nox (ha pos pins s σ H _ (I.wish _) h)) fun us s1 ⟨vs, H1, I1, r, q⟩ => ⟨I1.kIn, ?_⟩) he hpl
  exact wpAny_mono (run_fnX F hr hb I1.unwish r q) (fun _ _ z => z) fun _ _ z => ⟨_, _, I1.unwish, z⟩
end
end L2

/-! ### try: one call, one clause that takes what is raised -/
namespace L2
open PySem PySem.Spec PyProof.Rows
/-- the exception's object, tracked -/
def ExcO (a : Addr) (cls : Value) : HO := .ext fun h => ∃ oe vs, h.get? a = some oe ∧ oe.cls = cls ∧ oe.data = .fields vs
/-- within an except suite -/
def markCx (X : Cx) (e : Value) : Cx := { X with A := X.A.mark (some e), calm := false, xe := fun _ _ => False }
section
variable {X : Cx} {pins : List (Addr × Obj)} {σ : St} {H : Hp} {s : Shared} {e : Value}
theorem Inv.mark (I : Inv X pins σ H s) (e : Value) : Inv (markCx X e) pins σ H s :=
  ⟨⟨I.ok.mod, I.ok.kind, I.ok.glob, I.ok.blt, I.ok.above, I.ok.inj, I.ok.has, I.ok.cab, fun z => absurd (show false = true from z) (by simp), I.ok.frames, I.ok.stk, I.ok.exf, I.ok.bs, I.ok.bsz, I.ok.noex, I.ok.exfs, I.ok.funs, I.ok.frf⟩, I.os, I.bare, I.base, I.loc, I.cell, I.free, I.freeC, I.pin, I.hok, I.len⟩
theorem Inv.unmark (ok : X.Ok) (I : Inv (markCx X e) pins σ H s) : Inv X pins σ H s := ⟨ok, I.os, I.bare, I.base, I.loc, I.cell, I.free, I.freeC, I.pin, I.hok, I.len⟩
end

section
variable {X : Cx} {pins : List (Addr × Obj)} {σ : St} {Hc H' : Hp} {sc s' : Shared} {a : Addr} {cls a0 : Value} {B h' : Heap}
/-- the body's state while the exception is looked at -/
theorem Air.look (A : Air X.prog X.w X.stack Hc sc H' a cls s') (I : Inv X pins σ Hc sc) (cov : Cov B X.stack H' sc.heap s'.heap) (st : B.StaysIn h') (up : s'.heap.UpToSlots h') (ff : s'.heap.FunFrames B X.stack) : Inv X pins σ H' { s' with heap := h' } := by
  refine I.call' (ch := []) A.os ?_ (A.hok.air (A.free I) cov st) A.bare fun b hb => nomatch hb
  exact A.un.air I.stkFree I.stkThere cov st up ff
/-- .. and tracked -/
theorem Air.track (A : Air X.prog X.w X.stack Hc sc H' a cls s') (I : Inv X pins σ Hc sc) (cov : Cov B X.stack H' sc.heap s'.heap) (fl : Heap.FlyingW B X.stack a cls a0 h') (up : s'.heap.UpToSlots h') (ff : s'.heap.FunFrames B X.stack) (ha : H' a = none) :
    Inv X pins σ (upd H' a (ExcO a cls)) { s' with heap := h' } := by
  have J := A.look I cov fl.1 up ff
  obtain ⟨oe, vs, he, hcl, hdt, _⟩ := fl.first
  have un := A.un.air (B := B) I.stkFree I.stkThere cov fl.1 up ff
  have nea : ∀ b o, sc.heap.get? b = some o → b ≠ a := fun b o e z => by rw [z, A.new] at e; cases e
  refine I.call' (ch := []) A.os ⟨un.keep, un.slot, fun b o e n hx => ?_, un.there, fun b xs e => ?_, fun b o u e => ?_, fun b ps e => ?_⟩ (fun b o e => ?_) A.bare fun b hb => nomatch hb
  · rw [upd_ne (nea b o e)]; exact un.free b o e n hx
  · have q := un.tups b xs e
    rw [upd_ne (ne_of_none q ha)]; exact q
  · have q := un.frzs b o u e
    rw [upd_ne (ne_of_none q ha)]; exact q
  · obtain ⟨more, q⟩ := un.tbls b ps e
    exact ⟨more, by rw [upd_ne (ne_of_none q ha)]; exact q⟩
  · by_cases hb : b = a
    · subst hb
      rw [upd_same] at e; cases e
      refine ⟨⟨oe, vs, he, hcl, hdt⟩, ⟨oe, he⟩, ?_⟩
      rintro h1 h2 ⟨o1, v1, e1, c1, d1⟩ k
      exact ⟨o1, v1, k o1 e1, c1, d1⟩
    · rw [upd_ne hb] at e
      refine (J.hok b o e).stay (fun c v _ q => q) (fun c q => ?_) fun c xs q => ?_
      · rw [upd_ne (ne_of_none q ha)]; exact q
      · rw [upd_ne (ne_of_none q ha)]; exact q
end

def tTry0 (K : PySem.W.Frag) (c : Value) (tx : TX) (ts : TS) : TS := fun D σ H => tx σ H (fun _ H1 => D.nx σ H1) fun cls _ H1 => PySem.W.exmOne K cls c = some true ∧ ∀ a, H1 a = none → ts D σ (upd H1 a (ExcO a cls))
/-- a suite that returns -/
def retOnly (D : Ends) : Ends := ⟨fun _ _ => False, D.rt, fun _ _ => False, fun _ _ => False⟩
def tTryAs (K : PySem.W.Frag) (c : Value) (n : Nat) (tx : TX) (ts : TS) : TS := fun D σ H => tx σ H (fun _ H1 => D.nx σ H1) fun cls _ H1 => PySem.W.exmOne K cls c = some true ∧ ∀ a, H1 a = none → ts (retOnly D) (σ.set n (some (.ref a))) (upd H1 a (ExcO a cls))
section
variable {X : Cx} {e : Expr} {x n : Str} {np p2 pos hpos : Pos} {b₀ : Stmt} {suite : List Stmt} {tx : TX} {ts : TS} {c : Value} {i : Nat}
theorem mark_frames {A : Around} {e : Option Value} : (A.mark e).frames = A.frames := rfl

/-- up to the suite -/
theorem try_air {D : Ends} {pins : List (Addr × Obj)} {σ : St} {H : Hp} {s : Shared} {nm : Option Str} {R : XK} (hst : X.stack = X.env :: X.outer) (hf : X.env.frame = some X.env.locals) (hx : PEX X e tx) (hg : Gl X x) (hm : X.mg x = some c) (I : Inv X pins σ H s)
    (h : tx σ H (fun _ H1 => D.nx σ H1) R) (hR : ∀ cls H1, R cls none H1 → PySem.W.exmOne X.K cls c = some true)
    (fin : ∀ (a : Addr) (cls : Value) (H1 : Hp) (s1 : Shared), R cls none H1 → H1 a = none → Inv X pins σ H1 s1 → s1.heap.get? a ≠ none →
      (∀ (Q : Unit → Shared → Prop), (∀ s2, Inv X pins σ (upd H1 a (ExcO a cls)) s2 → Q () s2) → wpAny (model X.prog X.w) (X.A.mark (some (.ref a))) (setFlight (.ref a) none) Q (fun _ _ => False) s1) →
      codeAny (model X.prog X.w) (X.A.mark (some (.ref a))) (.handlers (.ref a) [.ExceptHandler none nm (b₀ :: suite) hpos] X.env) (fun r s₂ => match r with
          | .ok f => (match nm with
            | none => SP X pins D f s₂
            | some n => wpAny (model X.prog X.w) X.A (do bindName X.env n .none; unbindBehindTheSuite X.env n hpos) (fun _ s₃ => SP X pins D f s₃) X.xe s₂)
          | .error x => cameBackBy (model X.prog X.w) X.A X.env X.xe x s₂) s1)
    (hs : swapsWith e none p2.line X.env = pure false := by rfl) (hd : (x == ("__debug__" : Str)) = false := by decide) :
    wpAny (model X.prog X.w) X.A (exec (.Try [.Expr e p2] [.ExceptHandler (some (.Name x np)) nm (b₀ :: suite) hpos] [] [] pos) X.env) (SP X pins D) X.xe s := by
  refine wpAny_Try_except (wpAny_execs_cons ?_)
  refine wpAny_Expr_any (wpAny_mono (hx pins s σ H _ R I h) (fun v s1 hq => ?_) fun ex s1 hq => ?_) I.quiet hs
  · obtain ⟨_, H1, I1, _, q1⟩ := hq
    exact wpAny_execs_nil (wpAny_execs_nil ⟨σ, H1, I1, q1⟩)
  · obtain ⟨Hc, sc, Ic, a, cls, H1, rfl, air, ha, hr⟩ := hq
    obtain ⟨B, a0, fl, cov⟩ := air.fly
    have hfr : X.A.frames = some (X.env :: X.outer) := by rw [I.ok.frames, hst]
    rw [hst] at fl
    refine wpAny_looks_onW hfr hf fl fun h₄ held₄ up₄ => ?_
    refine wpAny_landsW held₄ fun h₅ fl₅ up₅ => ?_
    rw [← hst] at fl fl₅
    have up₅' := up₄.trans up₅
    have I₅ := air.look Ic cov fl₅.1 up₅' fl.2.2.1
    obtain ⟨ob, hob, hcl⟩ := fl₅.there
    refine wpAny_handleBy_cons (codeAny_handlers_test ?_) (by intro q; cases q)
    refine ld_glob (X := markCx X (.ref a)) (I₅.mark (.ref a)) hg hm ?_ hd
    refine PySem.W.exm_one (M := model X.prog X.w) I₅.kIn (cls := cls) (hcl ▸ ((PySem.W.Looks.ld hob).andThen .now)) (hR cls H1 hr) _ _ _ _ (fun _ _ q => q) ?_
    refine fin a cls H1 _ hr ha I₅ (by rw [hob]; simp) fun Q hQ => ?_
    refine lands_againW fl₅ fun h₆ fl₆ up₆ => hQ _ ?_
    exact air.track Ic cov fl₆ (up₅'.trans up₆) fl.2.2.1 ha

theorem SP.unmark {D : Ends} {pins : List (Addr × Obj)} {f : Flow} {s' : Shared} {ev : Value} (ok : X.Ok) (h : SP (markCx X ev) pins D f s') : SP X pins D f s' := by
  cases f with
  | next => obtain ⟨σ', H', I, q⟩ := h; exact ⟨σ', H', I.unmark ok, q⟩
  | brk => obtain ⟨σ', H', I, q⟩ := h; exact ⟨σ', H', I.unmark ok, q⟩
  | cont => obtain ⟨σ', H', I, q⟩ := h; exact ⟨σ', H', I.unmark ok, q⟩
  | ret u => obtain ⟨v, σ', H', I, r, q⟩ := h; exact ⟨v, σ', H', I.unmark ok, r, q⟩
/-- the frame's names are forgotten -/
theorem Inv.lost {pins : List (Addr × Obj)} {σ : St} {H : Hp} {s : Shared} {h' : Heap} {m' : Str → Option Value} {t : Nat} (I : Inv X pins σ H s) (hn : h'.Ns X.env.locals m') (hs : Heap.SameBut X.env.locals s.heap h') :
    Inv X pins (List.replicate X.N.length none) H { s with heap := h', toks := t } := by
  have k : ∀ b o, b ≠ X.env.locals → s.heap.get? b = some o → h'.get? b = some o := fun b o hb e => (hs.2 b hb).trans e
  have neL : ∀ b o, X.s₀.heap.get? b = some o → b ≠ X.env.locals := fun b o e => Nat.ne_of_lt (Nat.lt_of_lt_of_le (Heap.lt_size e) I.ok.above)
  refine ⟨I.ok, I.os, I.bare, ⟨fun b o e n hb hx => k b o (neL b o e) (I.base.keep b o e n hb hx), fun b o e n hb hx => ?_, I.base.free, fun b o e hx => ?_, I.base.tups, I.base.frzs, I.base.tbls⟩, ⟨m', hn, fun i x v e1 e2 e3 => ?_⟩, fun x c e => ?_, I.free, I.freeC, fun p hp => ?_, fun b o e => ?_, by simp⟩
  · obtain ⟨sl, e1⟩ := I.base.slot b o e n hb hx
    exact ⟨sl, k b _ (neL b o e) e1⟩
  · obtain ⟨o', e1⟩ := I.base.there b o e hx
    exact ⟨o', k b o' (neL b o e) e1⟩
  · rw [List.getElem?_replicate] at e2
    split at e2 <;> cases e2
  · obtain ⟨v, o, ho, hd⟩ := I.cell x c e
    exact ⟨v, o, k c o (I.cne x c e) ho, hd⟩
  · obtain ⟨e, n, ne, nf, d⟩ := I.pin p hp
    exact ⟨k p.1 p.2 ne e, n, ne, nf, d⟩
  · refine (I.hok b o e).stay (fun c u hc q => k c u ?_ q) (fun _ q => q) fun _ _ q => q
    rintro rfl
    rcases hc with rfl | hc
    · rw [I.free] at e; cases e
    · rw [I.free] at hc; cases hc

/-- try: f(..) except C: .. -/
theorem ps_try0 (hst : X.stack = X.env :: X.outer) (hf : X.env.frame = some X.env.locals) (hx : PEX X e tx) (hg : Gl X x) (hm : X.mg x = some c) (hsu : ∀ ev, PSs (markCx X ev) (b₀ :: suite) ts)
    (hs : swapsWith e none p2.line X.env = pure false := by rfl) (hd : (x == ("__debug__" : Str)) = false := by decide) :
    PS X (.Try [.Expr e p2] [.ExceptHandler (some (.Name x np)) none (b₀ :: suite) hpos] [] [] pos) (tTry0 X.K c tx ts) := by
  intro pins s σ H D I h
  refine try_air hst hf hx hg hm I h (fun cls H1 r => r.1) (fun a cls H1 s1 r ha I1 _ sf => codeAny_handlers_suite ?_) hs hd
  refine wpAny_mono (sf _ fun s2 I2 => ?_) (fun _ _ q => q) fun _ _ z => z.elim
  exact wpAny_mono (hsu (.ref a) pins s2 σ _ D (I2.mark _) (r.2 a ha)) (fun f s3 q => SP.unmark I.ok q) fun _ _ z => z.elim
/-- try: f(..) except C as n: .. return .. -/
theorem ps_tryAs (hst : X.stack = X.env :: X.outer) (hf : X.env.frame = some X.env.locals) (hx : PEX X e tx) (hg : Gl X x) (hm : X.mg x = some c) (hN : X.N.Nodup) (hi : X.N[i]? = some n) (hl : X.env.scope.names.lookup n = some .local)
    (hsu : ∀ ev, PSs (markCx X ev) (b₀ :: suite) ts)
    (hs : swapsWith e none p2.line X.env = pure false := by rfl) (hd : (x == ("__debug__" : Str)) = false := by decide) :
    PS X (.Try [.Expr e p2] [.ExceptHandler (some (.Name x np)) (some n) (b₀ :: suite) hpos] [] [] pos) (tTryAs X.K c i tx ts) := by
  intro pins s σ H D I h
  refine try_air hst hf hx hg hm I h (fun cls H1 r => r.1) (fun a cls H1 s1 r ha I1 _ sf => codeAny_handlers_suite_as ?_) hs hd
  refine wpAny_mono (sf _ fun s2 I2 => ?_) (fun _ _ q => q) fun _ _ z => z.elim
  refine store_ok (X := markCx X (.ref a)) (v := .ref a) (I2.mark _) hN hi (.inl hl) rfl (fun s3 I3 => ?_) (.inr hl)
  refine wpAny_mono (hsu (.ref a) pins s3 _ _ _ I3 (r.2 a ha)) (fun f s4 q => ?_) fun _ _ z => z.elim
  have done : ∀ {v : V} {u : Value} {σ' : St} {H' : Hp}, Inv (markCx X (.ref a)) pins σ' H' s4 → RelV v u → D.rt v H' →
      wpAny (model X.prog X.w) X.A (do bindName X.env n .none; unbindBehindTheSuite X.env n hpos) (fun _ s₃ => SP X pins D (.ret u) s₃) X.xe s4 := fun {v u σ' H'} J rv q => by
    have J := J.unmark I.ok
    obtain ⟨m, hn, _⟩ := id J.loc
    refine wpAny_nameGoes hl hn (by rw [I.ok.kind]; rfl) fun h' m' hn' hs' => ?_
    exact ⟨v, _, H', J.lost hn' hs', rv, q⟩
  cases f with
  | next => obtain ⟨_, _, _, q⟩ := q; exact False.elim q
  | brk => obtain ⟨_, _, _, q⟩ := q; exact False.elim q
  | cont => obtain ⟨_, _, _, q⟩ := q; exact False.elim q
  | ret u => obtain ⟨v, σ', H', J, rv, q⟩ := q; exact done J rv q
end
end L2

set_option Elab.async false
set_option linter.all false
set_option maxRecDepth 100000
/-! own: isinstance of an exception of an own class -/
namespace L2
open PySem PySem.W PySem.Spec PySem.Calls PyProof.Rows Builtin.Getset_descriptor
section
variable {prog : Program} {w : World} {A : Around} {E : Value → Shared → Prop} {s : Shared} {K : Frag} {x D : Addr} {ox : Obj}
/-- what the text must tell of a class of exceptions to be asked for its class -/
structure ExcK (K : Frag) (D : Addr) : Prop where
  ga : findIn K (.ref D) "__getattribute__" = some (some (.builtin "BaseException.__getattribute__"))
  gb : findIn K (.ref D) "__getattr__" = some none
  ha : findIn K (.ref D) "__class__" = some (some (.builtin "object.__class__"))
  hn : specialIn K (.builtin "object.__class__") "__get__" = some (some (.builtin "getset_descriptor.__get__"))
  htk : takesIn K (.builtin "object.__class__") = some true
  hm : mroIn K D (.type "object") = some true
  hb : mroIn K D (.type "BaseException") = some true
/-- an object of the class at D that is no class -/
structure ExcAt (h : Heap) (x D : Addr) : Prop where
  ex : ∃ o vs, h.get? x = some o ∧ o.cls = .ref D ∧ o.data = .fields vs
theorem ExcAt.type {M : Model} {h : Heap} (I : ExcAt h x D) : Looks M h (typeOf (.ref x)) (.ref D) := by
  obtain ⟨o, vs, e, c, _⟩ := I.ex
  exact c ▸ ((Looks.ld e).andThen .now)
theorem exc_find {M : Model} {h : Heap} (T : ExcK K D) (kin : K.In h) : Looks M h (Builtin.ObjectAttr.find (.ref x) (.ref D) "__class__") (.bind (.builtin "getset_descriptor.__get__") (.builtin "object.__class__")) := by
  refine (looks_findIn (M := M) kin T.ha).andThen ((looks_specialIn (M := M) kin T.hn).andThen ?_)
  have dd : Looks M h (Builtin.ObjectAttr.dataDescriptor? (some (.builtin "object.__class__")) (some (.builtin "getset_descriptor.__get__"))) (some (.builtin "getset_descriptor.__get__", .builtin "object.__class__")) :=
    (looks_takesIn (M := M) kin T.htk).andThen (by rw [if_pos rfl]; exact Looks.now)
  exact dd.andThen (Looks.tag .now)
theorem exc_get {R : Result → Shared → Prop} {tp : Value} (T : ExcK K D) (kin : K.In s.heap) (I : ExcAt s.heap x D) (h : R (.ok (.ret (.ref D))) s) :
    codeAny (model prog w) A (.call (.builtin "getset_descriptor.__get__") ⟨[.builtin "object.__class__", .ref x, tp], []⟩) R s := by
  obtain ⟨o, vs, e, c, dt⟩ := I.ex
  obtain ⟨hh, g, dr, t, os⟩ := s
  have look1 := I.type (M := model prog w)
  have look2 := looks_mroIn (M := model prog w) kin T.hm
  refine codeAny_call_builtin KF.slot_gs.plain KF.entry_gs (KF.slot_gs.check _ _ _ _ _ _ _ _ KF.type_class (KF.args_gs _ _ _) ?_)
  unfold Builtin.«getset_descriptor.__get__» descrGet
  rw [dga_obj]
  refine wpAny_bind (wpAny_pure ?_)
  unfold descrGetter descrCheckInstance descrNameAndClass isInstance
  simp only [KF.owner_class]
  repeat lk
  refine ⟨Code.quiet_builtin _ (by decide +kernel), codeAny_builtin KF.entry_class ?_⟩
  unfold Builtin.«object.__class__» shownTypeOf
  repeat lk
  exact h
theorem exc_class {Q : Option Value → Shared → Prop} (T : ExcK K D) (kin : K.In s.heap) (I : ExcAt s.heap x D) (h : Q (some (.ref D)) { s with toks := s.toks + 1 }) : wpAny (model prog w) A (getAttr? (.ref x) "__class__") Q E s := by
  obtain ⟨hh, g, d, t, os⟩ := s
  have look1 := I.type (M := model prog w)
  have look2 := looks_findIn (M := model prog w) kin T.ga
  have look3 := looks_findIn (M := model prog w) kin T.gb
  have look4 : Looks (model prog w) hh (isInstance (.ref x) (.type "BaseException")) true := look1.andThen (looks_mroIn (M := model prog w) kin T.hb)
  have look5 := exc_find (M := model prog w) (x := x) T kin
  unfold getAttr? getAttrBy? getAttrBy
  refine wpAny_bind (wpAny_mkText (wpAny_bind (wpAny_attempt (wpAny_holding (wpAny_bind (look1.at (wpAny_bind (look2.at ?_))))))))
  show wpAny _ _ (getAttrByItsOwn _ _ _ _ _ _) _ _ _
  unfold getAttrByItsOwn hookBefore
  refine wpAny_bind (look3.at (wpAny_bind (wpAny_attempt (wpAny_holding ?_))))
  show wpAny _ _ (boundAndCalled _ _ _) _ _ _
  unfold boundAndCalled
  refine wpAny_bind (wpAny_of_eq (PySem.F.attr_ValueError.ga.bind (.ref x)) (wpAny_call (codeAny_call_builtin PySem.F.attr_ValueError.ga.plain PySem.F.entry_bexc_ga ?_)))
  have kind : builtinKind "BaseException.__getattribute__" = some .slot := by decide +kernel
  have parts : splitId "BaseException.__getattribute__" = some ("BaseException", "__getattribute__") := by decide +kernel
  simp only [checkBuiltinCall, kind, parts]
  have fits := PySem.F.args_bexc_ga (.ref x) (.str "__class__" t)
  refine wpAny_bind (look4.at ?_)
  simp only [Bool.not_true, Bool.false_eq_true, if_false]
  repeat (any_goals (first | assumption | wp_step))
  obtain ⟨o, vs, e, c, dt⟩ := I.ex
  refine wpAny_loadPart_at e ?_
  rw [c]
  refine wpAny_pure (wpAny_bind (look5.at ?_))
  dsimp only
  show wpAny _ _ (holding [Value.builtin "object.__class__"] (call (.builtin "getset_descriptor.__get__") [.builtin "object.__class__", .ref x, .ref D]) >>= ret) _ _ _
  refine wpAny_bind (wpAny_holding (wpAny_call (exc_get (s := ⟨hh, g, d, t + 1, os⟩) T kin ⟨o, vs, e, c, dt⟩ ?_)))
  exact wpAny_pure (wpAny_pure (wpAny_pure h))

/-- isinstance(e, c) for an exception of an own class -/
theorem kitx_exc (T : ExcK K D) : KitX K (.ref x) (.ref D) (fun h => ExcAt h x D) where
  ty := fun _ _ _ I => I.type
  it := fun _ h kin _ => by
    obtain ⟨cd, a, _⟩ := Option.bind_eq_some_iff.mp T.hm
    revert a
    unfold clsIn
    split
    · rename_i look
      intro _ A' Q' E' s' k q
      unfold isType loadHead
      exact wpAny_bind (wpAny_loadPart (k _ _ (kin _ _ look)) (wpAny_pure q))
    · intro a; cases a
  ne := fun h tp dd its n sl kin htp => by
    obtain ⟨cd, a, _⟩ := Option.bind_eq_some_iff.mp T.hm
    refine Bool.eq_false_iff.mpr fun q => ?_
    obtain rfl : D = tp := Value.ref.inj (beq_iff_eq.mp q)
    revert a
    unfold clsIn
    split
    · rename_i look
      intro _
      have z := (kin _ _ look).symm.trans htp
      cases z
    · intro a; cases a
  ca := fun kin I k => exc_class T kin I k
end

/-- isinstance(e, c), e the exception that was caught -/
theorem isinst_exc {X : Cx} {pins : List (Addr × Obj)} {σ : St} {H : Hp} {s : Shared} {A : Around} {E : Value → Shared → Prop} {Q : Value → Shared → Prop} {c : Value} {b : Bool} {a C : Addr} (I : Inv X pins σ H s) (e : H a = some (ExcO a (.ref C))) (T : ExcK X.K C)
    (k : kitOne X.K (.ref C) c = some b) (h : ∀ tk, Q (.bool b) { s with toks := tk }) : wpAny (model X.prog X.w) A (call (.builtin "isinstance") [.ref a, c]) Q E s := by
  obtain ⟨⟨oe, vs, he, hc, hd⟩, _⟩ := (show ObjOk X.prog X.w H s.heap a (ExcO a (.ref C)) from I.hok a _ e)
  exact kia_one (kitx_exc T) I.kIn ⟨oe, vs, he, hc, hd⟩ k (fun z => nomatch z) h
end L2

set_option Elab.async false
set_option linter.all false
set_option maxRecDepth 100000
/-! own: deep data, == of it; isinstance; classes without an __init__ -/
namespace L2
open PySem PySem.Spec PyProof.Rows

/-! ### data, whatever its depth -/
mutual
inductive Rp (K : PySem.W.Frag) (H : Hp) : V → PyData → Prop
  | non : Rp K H .non .none
  | bl (b : Bool) : Rp K H (.bl b) (.bool b)
  | int (i : Int) : Rp K H (.int i) (.int i)
  | str (x : Str) : Rp K H (.str x) (.str x)
  | lst {a : Addr} {vs : List V} {ds : List PyData} : SqL K H a vs → RpAll K H vs ds → Rp K H (.ref a) (.list ds)
  | tup {a : Addr} {vs : List V} {ds : List PyData} : SqT K H a vs → RpAll K H vs ds → Rp K H (.ref a) (.tuple ds)
inductive RpAll (K : PySem.W.Frag) (H : Hp) : List V → List PyData → Prop
  | nil : RpAll K H [] []
  | cons {v : V} {vs : List V} {d : PyData} {ds : List PyData} : Rp K H v d → RpAll K H vs ds → RpAll K H (v :: vs) (d :: ds)
end
section
variable {X : Cx} {pins : List (Addr × Obj)} {σ : St} {H : Hp} {s : Shared}
mutual
theorem Rp.reads (I : Inv X pins σ H s) : ∀ {x : V} {d : PyData} {u : Value}, Rp X.K H x d → RelV x u → ∃ as, Reads s.heap u d as
  | _, _, u, .non, r => by cases (show u = Value.none from r); exact ⟨_, .none⟩
  | _, _, u, .bl b, r => by cases (show u = Value.bool b from r); exact ⟨_, .bool b⟩
  | _, _, u, .int i, r => by obtain ⟨t, rfl⟩ := (show ∃ t, u = Value.int i t from r); exact ⟨_, .int i t⟩
  | _, _, u, .str x, r => by obtain ⟨t, rfl⟩ := (show ∃ t, u = Value.str x t from r); exact ⟨_, .str x t⟩
  | _, _, u, @Rp.lst _ _ a vs ds q all, r => by
    cases (show u = Value.ref a from r)
    obtain ⟨its, rv, pl, _⟩ := I.list q
    obtain ⟨as, ra⟩ := RpAll.reads I all rv
    obtain ⟨o, n, e, c, _, d⟩ := pl
    exact ⟨_, .list e c d (by simpa using ra)⟩
  | _, _, u, @Rp.tup _ _ a vs ds q all, r => by
    cases (show u = Value.ref a from r)
    obtain ⟨its, rv, pl, _⟩ := I.tuple q
    obtain ⟨as, ra⟩ := RpAll.reads I all rv
    obtain ⟨o, e, c, n, d⟩ := pl
    exact ⟨_, .tuple e c d (by simpa using ra)⟩
theorem RpAll.reads (I : Inv X pins σ H s) : ∀ {xs : List V} {ds : List PyData} {us : List Value}, RpAll X.K H xs ds → Vals xs us → ∃ as, ReadsAll s.heap us ds as
  | _, _, _, .nil, .nil => ⟨_, .nil⟩
  | _, _, _, .cons p ps, .cons r rs => by
    obtain ⟨as, h1⟩ := Rp.reads I p r
    obtain ⟨bs, h2⟩ := RpAll.reads I ps rs
    exact ⟨_, .cons h1 h2⟩
end
end

/-! ### == and != of data -/
def rEqD (K : PySem.W.Frag) (neg : Bool) : R2 := fun x y H Q => ∃ d e, Rp K H x d ∧ Rp K H y e ∧ SeqAt.shaped d = true ∧ SeqAt.shaped e = true ∧ Q (.bl (if neg then !PyData.eqv d e else PyData.eqv d e)) H
section
variable {X : Cx}
theorem op_eqD (hu : X.A.units + 64 < cLine) : OpR X (compareOp .Eq) (rEqD X.K false) := by
  intro pins s σ H x y v u Q I rx ry h
  obtain ⟨d, e, pd, pe, sd, se, q⟩ := h
  obtain ⟨_, r1⟩ := pd.reads I rx
  obtain ⟨_, r2⟩ := pe.reads I ry
  exact eq_dataH r1 r2 sd se hu ⟨.bl (PyData.eqv d e), H, I, rfl, q⟩
theorem op_neD (hu : X.A.units + 64 < cLine) : OpR X (compareOp .NotEq) (rEqD X.K true) := by
  intro pins s σ H x y v u Q I rx ry h
  obtain ⟨d, e, pd, pe, sd, se, q⟩ := h
  obtain ⟨_, r1⟩ := pd.reads I rx
  obtain ⟨_, r2⟩ := pe.reads I ry
  exact ne_dataH r1 r2 sd se hu ⟨.bl (!PyData.eqv d e), H, I, rfl, q⟩

/-! ### isinstance(x, c) -/
inductive TyX (K : PySem.W.Frag) (H : Hp) : V → Value → Prop
  | plain {x : V} {t : Value} : TyOf K H x t → TyX K H x t
  | exc {a C : Addr} : H a = some (ExcO a (.ref C)) → ExcK K C → TyX K H (.ref a) (.ref C)
def rIsi (K : PySem.W.Frag) : List V → Hp → VK → Prop := fun xs H Q => match xs with
  | [x, .ty T] => ∃ t b, TyX K H x t ∧ PySem.W.kitOne K t (.type T) = some b ∧ Q (.bl b) H
  | [x, .ref C] => ∃ t b, TyX K H x t ∧ PySem.W.kitOne K t (.ref C) = some b ∧ Q (.bl b) H
  | _ => False
theorem call_isinst : CallR X (.builtin "isinstance") (rIsi X.K) := by
  intro pins s σ H xs us Q I r h
  have go : ∀ {x : V} {ux c t : Value} {b : Bool}, RelV x ux → TyX X.K H x t → PySem.W.kitOne X.K t c = some b → Q (.bl b) H → wpAny (model X.prog X.w) X.A (call (.builtin "isinstance") [ux, c]) (EP X pins σ Q) X.xe s := by
    intro x ux c t b rx ty k q
    have fin : ∀ tk, EP X pins σ Q (.bool b) { s with toks := tk } := fun tk => ⟨.bl b, H, I.tok tk, rfl, q⟩
    cases ty with
    | plain ty => exact isinst_ok I rx ty k fin
    | exc e T =>
      cases (show ux = Value.ref _ from rx)
      exact isinst_exc I e T k fin
  unfold rIsi at h
  split at h
  · obtain ⟨t, b, ty, k, q⟩ := h
    obtain ⟨ux, uc, rfl, rx, rc⟩ := vals2 r
    cases (show uc = Value.type _ from rc)
    exact go rx ty k q
  · obtain ⟨t, b, ty, k, q⟩ := h
    obtain ⟨ux, uc, rfl, rx, rc⟩ := vals2 r
    cases (show uc = Value.ref _ from rc)
    exact go rx ty k q
  · exact h.elim
theorem pe_constI {x : Str} {i : Int} {pos : Pos} (hg : Gl X x) (h : ∃ t, X.mg x = some (.int i t)) (hd : (x == ("__debug__" : Str)) = false := by decide) : PE X (.Name x pos) (tC (.int i)) := by
  obtain ⟨t, h⟩ := h
  exact pe_glob hg h ⟨t, rfl⟩ hd
theorem kitOne_self (K : PySem.W.Frag) (t : Value) : PySem.W.kitOne K t t = some true := by
  unfold PySem.W.kitOne
  rw [if_pos (beq_self_eq_true t)]
/-- what the text must tell of an own class for isinstance -/
structure InsK (K : PySem.W.Frag) (C : Addr) : Prop where
  ha : PySem.W.findIn K (.ref C) "__class__" = some (some (.builtin "object.__class__"))
  hn : PySem.W.specialIn K (.builtin "object.__class__") "__get__" = some (some (.builtin "getset_descriptor.__get__"))
  ht : PySem.W.takesIn K (.builtin "object.__class__") = some true
  hm : PySem.W.mroIn K C (.type "object") = some true
theorem InsK.ty {K : PySem.W.Frag} {C a dx : Addr} {fs : List (Str × V)} {H : Hp} (k : InsK K C) (c : Cls K C) (e : H a = some (.ins C dx fs)) : TyX K H (.ref a) (.ref C) := .plain (.ins e c k.ha k.hn k.ht k.hm)
end

/-! ### C() where the class and those above it have no __init__ but object's -/
structure MkO (K : PySem.W.Frag) (C : Addr) : Prop where
  makes : PySem.W.makesIn K C = true
  init : PySem.W.findIn K (.ref C) "__init__" = some (some (.builtin "object.__init__"))
  kp : PySem.W.keepIn K (.ref C) = true
def tMakeO (C : Addr) : TE := fun _ H Q => ∀ x dx, H x = none → H dx = none → dx ≠ x → Q (.ref x) (upd (upd H dx (.own x)) x (.ins C dx []))
section
variable {X : Cx} {C : Addr} {x : Str} {p pos : Pos}
theorem pe_makeO (M : MkO X.K C) (hg : Gl X x) (hm : X.mg x = some (.ref C)) (hdb : (x == ("__debug__" : Str)) = false := by decide) : PE X (.Call (.Name x p) [] [] pos) (tMakeO C) := by
  intro pins s σ H Q I h
  refine wpAny_Call_Name_kw (ld_glob I hg hm ?_ hdb)
  refine PySem.W.callWith_K0 I.kIn M.kp ?_
  have I2 := Inv.made (C := C) I
  have hq := h (s.heap.objs.size + 1) s.heap.objs.size (I.hok.fresh (Nat.le_succ _)) (I.hok.fresh (Nat.le_refl _)) (Nat.ne_of_lt (Nat.lt_succ_self _))
  refine wpAny_call (make_map0 I.kIn M.makes M.init (fun self => PySem.W.Looks.of_pure (PySem.W.oi_bind self)) ?_)
  obtain ⟨hh, g, d, t, os⟩ := s
  have at_ : ((hh.push PySem.W.emptyDict).push (PySem.W.instObj C hh.objs.size)).get? (hh.objs.size + 1) = some (PySem.W.instObj C hh.objs.size) := by
    have := Heap.get?_push_size (hh.push PySem.W.emptyDict) (o := PySem.W.instObj C hh.objs.size) rfl
    rwa [Heap.size_push] at this
  have look : PySem.W.Looks (model X.prog X.w) ((hh.push PySem.W.emptyDict).push (PySem.W.instObj C hh.objs.size)) (typeOf (.ref (hh.objs.size + 1))) (.ref C) := (PySem.W.Looks.ld at_).andThen .now
  have top := (PySem.W.makes_of (M := model X.prog X.w) I.kIn M.makes).top
  have obj : PySem.W.Looks (model X.prog X.w) ((hh.push PySem.W.emptyDict).push (PySem.W.instObj C hh.objs.size)) (isInstance (.ref (hh.objs.size + 1)) (.type "object")) true :=
    look.andThen (top.keeps fun b o e => Heap.get?_push_of_some _ (Heap.get?_push_of_some _ e))
  refine codeAny_call_builtin PySem.W.oi_plain PySem.W.entry_oi (@PySem.W.check_slot (model X.prog X.w) _ _ _ _ _ _ _ [] [] _ PySem.W.oi_kind PySem.W.oi_split obj (PySem.W.oi_args _) ?_)
  rw [PySem.W.oi_run]
  exact wpAny_pure ⟨rfl, .ref (hh.objs.size + 1), _, I2, rfl, hq⟩
end
end L2

set_option Elab.async false
set_option linter.all false
set_option maxRecDepth 100000
/-! own: the rules with the written part K told apart from the context (within a block or an except suite the context is a bound name) -/
namespace L2
open PySem PySem.Spec PyProof.Rows
section
variable {X : Cx} {K : PySem.W.Frag} {a b e o value l : Expr} {es : List Expr} {f name : Str} {pos pos' apos cpos : Pos} {ta tb tv tl to : TE} {t : TA} {tg : Expr}
theorem pe_fldK (he : PE X e ta) (hb : attributeBase e f X.env (eval e X.env) = eval e X.env) (hK : X.K = K := by rfl) : PE X (.Attribute e f pos) (tFld K ta f) := hK ▸ pe_fld he hb
theorem ps_fldK (ha : PE X o ta) (hv : PE X value tv) (hs : swapsWith value (some (.Attribute o f pos')) pos.line X.env = pure false) (hK : X.K = K := by rfl) : PS X (.Assign [.Attribute o f pos'] value pos) (sFld K ta tv f) := hK ▸ ps_fld ha hv hs
theorem pi_listK (hl : PE X l tl) (hK : X.K = K := by rfl) : PI X tg l (iList K tl) := hK ▸ pi_list hl
theorem pi_tupK (hl : PE X l tl) (hK : X.K = K := by rfl) : PI X tg l (iTup K tl) := hK ▸ pi_tup hl
theorem ix_listK (hK : X.K = K := by rfl) : IxR X (rIxL K) := hK ▸ ix_list
theorem ix_tupK (hK : X.K = K := by rfl) : IxR X (rIxT K) := hK ▸ ix_tup
theorem sl_listK (hK : X.K = K := by rfl) : SlR X (rSlL K) := hK ▸ sl_list
theorem sl_tupK (hK : X.K = K := by rfl) : SlR X (rSlT K) := hK ▸ sl_tup
theorem op_inK (hK : X.K = K := by rfl) : OpR X (compareOp .In) (rIn K false) := hK ▸ op_in_seq
theorem op_notInK (hK : X.K = K := by rfl) : OpR X (compareOp .NotIn) (rIn K true) := hK ▸ op_notIn_seq
def rLen (K : PySem.W.Frag) : List V → Hp → VK → Prop := fun xs H Q => ∃ p ys, xs = [.ref p] ∧ (SqL K H p ys ∨ SqT K H p ys) ∧ Q (.int ys.length) H
theorem call_lenK (hK : X.K = K := by rfl) : CallR X (.builtin "len") (rLen K) := hK ▸ call_len_seq
def rListOf (K : PySem.W.Frag) : List V → Hp → VK → Prop := fun xs H Q => ∃ p ys, xs = [.ref p] ∧ (SqL K H p ys ∨ SqT K H p ys) ∧ ∀ l, H l = none → Q (.ref l) (upd H l (.lst ys))
theorem call_listK (hK : X.K = K := by rfl) : CallR X (.type "list") (rListOf K) := hK ▸ call_list_of
def rTupleOf (K : PySem.W.Frag) : List V → Hp → VK → Prop := fun xs H Q => ∃ p ys, xs = [.ref p] ∧ ((SqL K H p ys ∧ ∀ l, H l = none → Q (.ref l) (upd H l (.tup ys))) ∨ (SqT K H p ys ∧ Q (.ref p) H))
theorem call_tupleK (hK : X.K = K := by rfl) : CallR X (.type "tuple") (rTupleOf K) := hK ▸ call_tuple_of
theorem op_eqDK (hu : X.A.units + 64 < cLine) (hK : X.K = K := by rfl) : OpR X (compareOp .Eq) (rEqD K false) := hK ▸ op_eqD hu
theorem op_neDK (hu : X.A.units + 64 < cLine) (hK : X.K = K := by rfl) : OpR X (compareOp .NotEq) (rEqD K true) := hK ▸ op_neD hu
theorem call_isinstK (hK : X.K = K := by rfl) : CallR X (.builtin "isinstance") (rIsi K) := hK ▸ call_isinst
theorem pg_tupK {k : Nat} {u : TGs} {n : Nat} (hc : X.calm = true) (h : PGs X es u) (hn : (assignEach es X.env).length = n := by rfl) (hst : (assignEach es X.env).findIdx? (·.1) = none := by rfl) (hK : X.K = K := by rfl) : PG X (.Tuple es k pos) (gTup K n u) := hK ▸ pg_tup hc h hn hst
def tTru (K : PySem.W.Frag) (ta : TE) : TT := fun σ H Q => ta σ H fun x H' => ∃ k, TruV K x H' k ∧ Q k H'
theorem pt_truthK (ha : PE X a ta) (he : ∀ whole, isTrue a X.env whole = (do let v ← whole; standAt a.pos; holding [v] (truthy v))) (hK : X.K = K := by rfl) : PT X a (tTru K ta) := hK ▸ pt_truth ha he
variable {T id : String} {r : V → List V → Hp → VK → Prop}
theorem pe_bm0K (pa : PlainAttrs T) (slot : Slot T name id) (hty : typeOf (.builtin id) = pure (.type "method_descriptor")) (hm : MtR X id r) (ho : PE X o to)
    (hbase : attributeBase o name X.env (eval o X.env) = eval o X.env := by rfl) (hline : (apos.endLine == cpos.line) = true := by rfl) (hK : X.K = K := by rfl) : PE X (.Call (.Attribute o name apos) [] [] cpos) (tBM0 K T r to) := hK ▸ pe_bm0 pa slot hty hm ho hbase hline
theorem pe_bmK (pa : PlainAttrs T) (slot : Slot T name id) (hty : typeOf (.builtin id) = pure (.type "method_descriptor")) (hm : MtR X id r) (ho : PE X o to) (ha : PA X (e :: es) t)
    (hbase : attributeBase o name X.env (eval o X.env) = eval o X.env := by rfl)
    (hfew : ((backTo cpos (starEach (e :: es) X.env)).all (fun x => !x.1) && (backToKw cpos (keywordEach [] X.env)).all (fun x => x.1.isSome)
      && decide ((e :: es).length + ([] : List Keyword).length + (if ([] : List Keyword).isEmpty then 0 else 1) < 30)) = true := by rfl)
    (hline : (apos.endLine == cpos.line) = true := by rfl) (hs : starEach (e :: es) X.env = (false, eval e X.env) :: starEach es X.env := by rfl) (hplain : (backTo cpos (starEach es X.env)).any (·.1) = false := by rfl) (hK : X.K = K := by rfl) :
    PE X (.Call (.Attribute o name apos) (e :: es) [] cpos) (tBM K T r to t) := hK ▸ pe_bm pa slot hty hm ho ha hbase hfew hline hs hplain
end
end L2

set_option Elab.async false
set_option linter.all false
set_option maxRecDepth 100000
/-! own: heaps that only grow, data that stays, tests that are known -/
namespace L2
open PySem PySem.Spec PyProof.Rows

theorem iteFe {k : Bool} {A B : Prop} (h : k = false) (hb : B) : if k = true then A else B := by rw [h]; exact iteF hb
theorem iteTe {k : Bool} {A B : Prop} (h : k = true) (ha : A) : if k = true then A else B := by rw [h]; exact iteT ha
theorem Same.new {H : Hp} {p : Addr} {o : HO} (h : H p = none) : Same H (upd H p o) := fun b u e => by rw [upd_ne (ne_of_none e h)]; exact e
theorem Same.tup {K : PySem.W.Frag} {H H' : Hp} {a : Addr} {xs : List V} (e : Same H H') (h : SqT K H a xs) : SqT K H' a xs := by
  rcases h with (h | ⟨o, h⟩) | h
  · exact .inl (.inl (e _ _ h))
  · exact .inl (.inr ⟨o, e _ _ h⟩)
  · exact .inr h
mutual
theorem Rp.same {K : PySem.W.Frag} {H H' : Hp} (e : Same H H') : ∀ {v : V} {d : PyData}, Rp K H v d → Rp K H' v d
  | _, _, .non => .non
  | _, _, .bl b => .bl b
  | _, _, .int i => .int i
  | _, _, .str x => .str x
  | _, _, .lst q a => .lst (e.seq q) (RpAll.same e a)
  | _, _, .tup q a => .tup (e.tup q) (RpAll.same e a)
theorem RpAll.same {K : PySem.W.Frag} {H H' : Hp} (e : Same H H') : ∀ {vs : List V} {ds : List PyData}, RpAll K H vs ds → RpAll K H' vs ds
  | _, _, .nil => .nil
  | _, _, .cons p ps => .cons (p.same e) (RpAll.same e ps)
end
mutual
/-- data without dicts -/
def noDict : PyData → Bool
  | .none => true
  | .bool _ => true
  | .int _ => true
  | .str _ => true
  | .list xs => noDicts xs
  | .tuple xs => noDicts xs
  | .dict _ => false
def noDicts : List PyData → Bool
  | [] => true
  | x :: xs => noDict x && noDicts xs
end
mutual
theorem eqv_self : ∀ {d : PyData}, noDict d = true → PyData.eqv d d = true
  | .none, _ => by simp [PyData.eqv]
  | .bool _, _ => by simp [PyData.eqv]
  | .int _, _ => by simp [PyData.eqv]
  | .str _, _ => by simp [PyData.eqv]
  | .list xs, h => by rw [PyData.eqv]; exact eqvAll_self (by simpa [noDict] using h)
  | .tuple xs, h => by rw [PyData.eqv]; exact eqvAll_self (by simpa [noDict] using h)
  | .dict _, h => by simp [noDict] at h
theorem eqvAll_self : ∀ {ds : List PyData}, noDicts ds = true → PyData.eqvAll ds ds = true
  | [], _ => by simp [PyData.eqvAll]
  | x :: xs, h => by
    rw [noDicts, Bool.and_eq_true] at h
    rw [PyData.eqvAll, eqv_self h.1, eqvAll_self h.2]
    rfl
end
/-- two new addresses and a new instance on them -/
theorem Same.ins {H : Hp} {x dx : Addr} {o : HO} (nx : H x = none) (ndx : H dx = none) : Same H (upd (upd H dx (.own x)) x o) := fun b u e => by
  rw [upd_ne (ne_of_none e nx), upd_ne (ne_of_none e ndx)]; exact e
/-- does the clause of the class at C take an exception of the class at E -/
theorem exm_of {K : PySem.W.Frag} {E C : Addr} {b : Bool} (h1 : PySem.W.mroIn K C (.type "BaseException") = some true) (h2 : PySem.W.typeIn K (.ref C) = some (.type "type")) (h3 : PySem.W.mroIn K E (.ref C) = some b) : PySem.W.exmOne K (.ref E) (.ref C) = some b := by
  obtain ⟨cd, a, _⟩ := Option.bind_eq_some_iff.mp h1
  have s1 : PySem.W.subIn K (.ref C) (.type "BaseException") = some true := h1
  unfold PySem.W.exmOne
  rw [s1, if_pos (by decide)]
  show (if ((PySem.W.clsIn K C).isSome && PySem.W.typeIn K (.ref C) == some (.type "type")) = true then PySem.W.subIn K (.ref E) (.ref C) else none) = some b
  rw [a, h2, if_pos (by simp)]
  exact h3
end L2

set_option Elab.async false
set_option linter.all false
set_option maxRecDepth 100000
/-! own: lists of ints (for laws without sets; the same as at the head of Xset10) -/
namespace SetT
end SetT
namespace L2.SetT
end L2.SetT
namespace L2
open PySem PySem.Spec PyProof.Rows
def iV (ns : List Int) : List V := ns.map V.int
theorem iV_vals : ∀ {ns : List Int} {us : List Value}, Vals (iV ns) us → IntsAre us ns
  | [], _, .nil => .nil
  | n :: ns, _, .cons r t => by
    obtain ⟨tok, rfl⟩ := r
    exact .cons n tok (iV_vals t)
theorem vals_iV : ∀ {ns : List Int} {us : List Value}, IntsAre us ns → Vals (iV ns) us
  | _, _, .nil => .nil
  | _, _, .cons n t hr => .cons ⟨t, rfl⟩ (vals_iV hr)
theorem small63 {n : Nat} (h : n ≤ 64) : n ≤ sizeLine := Nat.le_trans h (by decide)

end L2

set_option Elab.async false
set_option linter.all false
set_option maxRecDepth 100000
/-! own: range as a value, list(range) -/
namespace L2
open PySem PySem.Spec PyProof.Rows SetT

def rngI (lo hi : Int) : List Int := (List.range (hi - lo).toNat).map fun i : Nat => lo + i
theorem mem_rngI {lo hi y : Int} : y ∈ rngI lo hi ↔ lo ≤ y ∧ y < hi := by
  unfold rngI
  rw [List.mem_map]
  constructor
  · rintro ⟨i, hi, rfl⟩
    rw [List.mem_range] at hi
    omega
  · rintro ⟨h1, h2⟩
    exact ⟨(y - lo).toNat, List.mem_range.mpr (by omega), by omega⟩
theorem rngI_length {lo hi : Int} : (rngI lo hi).length = (hi - lo).toNat := by unfold rngI; rw [List.length_map, List.length_range]

section
variable {X : Cx} {K : PySem.W.Frag} {P : Program} {w : World}
def rRng2 : List V → Hp → VK → Prop := fun xs H Q => ∃ i j : Int, xs = [.int i, .int j] ∧ ∀ l, H l = none → Q (.ref l) (upd H l (.rng i j))
theorem call_rng2 : CallR X (.type "range") rRng2 := by
  intro pins s σ H xs us Q I r h
  obtain ⟨i, j, rfl, q⟩ := h
  cases r with
  | cons r rr =>
    cases rr with
    | cons r' rr =>
      cases rr
      obtain ⟨t, rfl⟩ := r
      obtain ⟨t', rfl⟩ := r'
      refine call_range_2 ⟨.ref s.heap.objs.size, _, I.laid (fun b o e => Heap.get?_push_of_some _ e) (Nat.le_refl _) (show ObjOk X.prog X.w _ _ _ (.rng i j) from ⟨_, _, _, Heap.get?_push_size _ rfl⟩), rfl, q _ I.fresh⟩
def rListR : List V → Hp → VK → Prop := fun xs H Q => ∃ (p : Addr) (i j : Int), xs = [.ref p] ∧ H p = some (.rng i j) ∧ (-(2 ^ 62) ≤ i ∧ i < 2 ^ 62 ∧ -(2 ^ 62) ≤ j ∧ j < 2 ^ 62) ∧ (j - i).toNat ≤ 1000 ∧ ∀ l, H l = none → Q (.ref l) (upd H l (.lst (iV (rngI i j))))
theorem items_rng {i : Int} : ∀ {n : Nat} {acc : Array Value}, ItemsOf (fun k v => ∃ t, v = Value.int (i + k * 1) t) acc n → Vals (iV ((List.range n).map fun k : Nat => i + k)) acc.toList := by
  intro n acc h
  have key : ∀ (l : List Value) (m : Nat), (∀ k v, l[k]? = some v → ∃ t, v = Value.int (i + ((m + k : Nat) : Int)) t) → Vals (iV ((List.range' m l.length).map fun k : Nat => i + k)) l := by
    intro l
    induction l with
    | nil => intro m _; exact .nil
    | cons v l ih =>
      intro m hv
      obtain ⟨t, rfl⟩ := hv 0 v rfl
      refine .cons ⟨t, rfl⟩ (ih (m + 1) fun k u e => ?_)
      obtain ⟨t, rfl⟩ := hv (k + 1) u (by simpa using e)
      exact ⟨t, by rw [show m + (k + 1) = m + 1 + k by omega]⟩
  have := key acc.toList 0 fun k v e => by
    obtain ⟨t, rfl⟩ := h.2 k v (by rw [← Array.getElem?_toList]; exact e)
    exact ⟨t, by simp⟩
  rw [Array.length_toList, h.1, ← List.range_eq_range'] at this
  exact this
theorem call_listR (hc : X.calm = true) : CallR X (.type "list") rListR := by
  intro pins s σ H xs us Q I r h
  obtain ⟨p, i, j, rfl, hp, ⟨b1, b2, b3, b4⟩, few, q⟩ := h
  obtain ⟨u, rfl, rx⟩ := vals1 r
  cases rx
  obtain ⟨t, u, v, e⟩ := I.hok _ _ hp
  have hn : Builtin.Range.rangeSize i j 1 = ((j - i).toNat : Nat) := by rw [rangeSize_one]; split <;> omega
  refine call_list_range (I.ok.hd hc) e (small_one b1 b2 b3 b4) hn (by omega) fun h' tk acc' c' kp e' hacc => ?_
  have hz : (iV (rngI i j)).length ≤ sizeLine := by
    unfold iV; rw [List.length_map, rngI_length]
    exact Nat.le_trans few (by decide)
  refine ⟨.ref s.heap.objs.size, _, I.laid kp (Nat.le_refl _) (show ObjOk X.prog X.w _ h' _ (.lst (iV (rngI i j))) from ⟨hz, acc'.toList, c', items_rng hacc, by rw [e']⟩), rfl, q _ I.fresh⟩
end
end L2

set_option Elab.async false
set_option linter.all false
set_option maxRecDepth 100000
/-! own: for x, y in zip(a, b); all(list) -/
namespace L2
open PySem PySem.Spec PyProof.Rows SetT

section
variable {X : Cx} {pins : List (Addr × Obj)} {σ : St} {H : Hp} {s : Shared} {h' : Heap}
/-- records of ours have turned, and a new object is laid -/
theorem Inv.turnedNew {t' : Nat} {its : List Addr} {a : Addr} {o : HO} (I : Inv X pins σ H s) (k : ∀ b u, b ∉ its → s.heap.get? b = some u → h'.get? b = some u) (hf : ∀ b ∈ its, FpOk X pins H b)
    (hp : s.heap.objs.size ≤ a) (new : ObjOk X.prog X.w (upd H a o) h' a o) : Inv X pins σ (upd H a o) { s with heap := h', toks := t' } := by
  have hn : H a = none := I.hok.fresh hp
  have nit : ∀ b u, H b = some u → b ∉ its := fun b u e z => by rw [(hf b z).1] at e; cases e
  have ne : ∀ b u, s.heap.get? b = some u → b ≠ a := fun b u e z => absurd (Nat.lt_of_lt_of_le (Heap.lt_size e) (by rw [z]; exact hp)) (Nat.lt_irrefl _)
  refine I.step (g' := s.gens) (d' := s.drawn) (ch := its) (fun b hb => ?_) (fun b u _ _ hc e _ => k b u hc e) (fun b u _ _ hc e _ => ⟨u.slots, k b u hc e⟩) (fun b u _ e n => by rw [upd_ne (ne b u e)]; exact n)
    (fun b u hc e => ⟨u, k b u hc e⟩) (fun b xs e => by rw [upd_ne (ne_of_none e hn)]; exact e) (fun b u v e => by rw [upd_ne (ne_of_none e hn)]; exact e) (fun b ps e => ⟨#[], by rw [upd_ne (ne_of_none e hn), e]; simp⟩) (fun m hm => ?_) (fun b u e => ?_) I.bare
  · obtain ⟨f0, f1, f2, f3, f4, f5⟩ := hf b hb
    exact ⟨f3, f1, f4, f5⟩
  · obtain ⟨u, es, ep, ho, r⟩ := hm
    exact ⟨u, es, ep, k _ u (fun z => (hf _ z).2.1 rfl) ho, r⟩
  · by_cases hb : b = a
    · subst hb; rw [upd_same] at e; cases e; exact new
    · rw [upd_ne hb] at e
      refine (I.hok b u e).stay (fun c v hc q => k c v ?_ q) (fun c q => by rw [upd_ne (ne_of_none q hn)]; exact q) fun c xs q => by rw [upd_ne (ne_of_none q hn)]; exact q
      rcases hc with z | z
      · rw [z]; exact nit b u e
      · exact nit c _ z
theorem Inv.turnedL {t' : Nat} {its : List Addr} (I : Inv X pins σ H s) (k : ∀ b u, b ∉ its → s.heap.get? b = some u → h'.get? b = some u) (hf : ∀ b ∈ its, FpOk X pins H b) : Inv X pins σ H { s with heap := h', toks := t' } := by
  have nit : ∀ b u, H b = some u → b ∉ its := fun b u e z => by rw [(hf b z).1] at e; cases e
  refine I.step (g' := s.gens) (d' := s.drawn) (ch := its) (fun b hb => ?_) (fun b u _ _ hc e _ => k b u hc e) (fun b u _ _ hc e _ => ⟨u.slots, k b u hc e⟩) (fun b u _ e n => n)
    (fun b u hc e => ⟨u, k b u hc e⟩) (fun b xs e => e) (fun b u v e => e) (fun b ps e => ⟨#[], by rw [e]; simp⟩) (fun m hm => ?_) (fun b u e => ?_) I.bare
  · obtain ⟨f0, f1, f2, f3, f4, f5⟩ := hf b hb
    exact ⟨f3, f1, f4, f5⟩
  · obtain ⟨u, es, ep, ho, r⟩ := hm
    exact ⟨u, es, ep, k _ u (fun z => (hf _ z).2.1 rfl) ho, r⟩
  · refine (I.hok b u e).stay (fun c v hc q => k c v ?_ q) (fun c q => q) fun c xs q => q
    rcases hc with z | z
    · rw [z]; exact nit b u e
    · exact nit c _ z
end

/-- two lists, side by side -/
def Itz (K : PySem.W.Frag) (l1 l2 : Addr) : It :=
  ⟨fun i H => ∃ xs ys x y, SqL K H l1 xs ∧ SqL K H l2 ys ∧ xs[i]? = some x ∧ ys[i]? = some y,
   fun i H v H' => ∃ p x y, H p = none ∧ v = .ref p ∧ H' = upd H p (.tup [x, y]) ∧ (∀ xs, SqL K H l1 xs → xs[i]? = some x) ∧ ∀ ys, SqL K H l2 ys → ys[i]? = some y,
   fun i H => ∃ xs ys, SqL K H l1 xs ∧ SqL K H l2 ys ∧ (xs.length ≤ i ∨ ys.length ≤ i)⟩
theorem turn_zip {P : Program} {w : World} {K : PySem.W.Frag} {es : List Expr} {kk : Nat} {pos : Pos} (z TI TO i1 i2 l1 l2 : Addr) (D : ZipApart z TI TO i1 i2 l1 l2) :
    Turn P w K (.Tuple es kk pos) (Itz K l1 l2) [z, TI, TO, i1, i2] z
      (fun i h => IsZip h z TI TO .none ∧ IsPair h TI (.ref i1) (.ref i2) ∧ (∃ a b, IsPair h TO a b) ∧ h.IsListIter i1 l1 i ∧ h.IsListIter i2 l2 i) where
  mem := by simp
  obj := fun i h st b hb => by
    obtain ⟨hz, hTI, ⟨a, c, hTO⟩, ⟨o1, e1, _, d1⟩, ⟨o2, e2, _, d2⟩⟩ := st
    simp only [List.mem_cons, List.not_mem_nil, or_false] at hb
    rcases hb with rfl | rfl | rfl | rfl | rfl
    · exact ⟨_, hz, fun v q => by cases q⟩
    · exact ⟨_, hTI, fun v q => by cases q⟩
    · exact ⟨_, hTO, fun v q => by cases q⟩
    · exact ⟨_, e1, fun v q => by rw [d1] at q; cases q⟩
    · exact ⟨_, e2, fun v q => by rw [d2] at q; cases q⟩
  keep := fun i h h' st k => by
    obtain ⟨hz, hTI, ⟨a, b, hTO⟩, h1, h2⟩ := st
    exact ⟨k z (by simp) _ hz, k TI (by simp) _ hTI, ⟨a, b, k TO (by simp) _ hTO⟩, h1.at fun o e => k i1 (by simp) o e, h2.at fun o e => k i2 (by simp) o e⟩
  item := by
    intro X hP hw hK hc i pins s σ H E I hf st hg
    subst hP hw hK
    obtain ⟨xs, ys, x, y, q1, q2, hx, hy⟩ := hg
    obtain ⟨its1, rv1, p1, hz1⟩ := I.list q1
    obtain ⟨its2, rv2, p2, hz2⟩ := I.list q2
    obtain ⟨u1, hu1, ru1⟩ := rv1.get hx
    obtain ⟨u2, hu2, ru2⟩ := rv2.get hy
    obtain ⟨hz, hTI, ⟨a, b, hTO⟩, h1, h2⟩ := st
    have lt : ∀ {c o}, s.heap.get? c = some o → s.heap.objs.size ≠ c := fun e => Nat.ne_of_gt (Heap.lt_size e)
    have n1 : s.heap.objs.size ≠ z := lt hz
    refine wpAny_pyNext_zip_item D hz hTI hTO h1 h2 p1.isList p2.isList (x := u1) (y := u2) (by simpa using hu1) (by simpa using hu2) fun h' a1 a2 a3 a4 a5 a6 hk => ?_
    refine ⟨_, rfl, wpAny_letOwnedTupleGo_zip a1 fun h'' hz'' sb => ?_⟩
    have k2 : ∀ c o, c ∉ [z, TI, TO, i1, i2] → s.heap.get? c = some o → h''.get? c = some o := fun c o hc e => by
      simp only [List.mem_cons, List.not_mem_nil, or_false, not_or] at hc
      rw [sb.2 c hc.1]
      exact hk c o hc.1 hc.2.2.1 hc.2.2.2.1 hc.2.2.2.2 e
    have new : ObjOk X.prog X.w (upd H s.heap.objs.size (.tup [x, y])) h'' s.heap.objs.size (.tup [x, y]) := by
      have e5 : h''.get? s.heap.objs.size = some { cls := .type "tuple", data := .seq #[u1, u2] } := (sb.2 _ n1).trans a5
      exact ⟨small63 (by simp), [u1, u2], .cons ru1 (.cons ru2 .nil), _, e5, rfl, _, rfl⟩
    refine ⟨.ref s.heap.objs.size, _, I.turnedNew (t' := s.toks) k2 hf (Nat.le_refl _) new, rfl, ⟨_, x, y, I.fresh, rfl, rfl, fun zs hs => by rw [I.list_inj hs q1]; exact hx, fun zs hs => by rw [I.list_inj hs q2]; exact hy⟩, ?_, fun c hc => ?_⟩
    · exact ⟨hz'', (sb.2 _ D.TIz).trans (hk _ _ D.TIz D.TITO D.TIi1 D.TIi2 hTI), ⟨_, _, (sb.2 _ D.TOz).trans a2⟩, a3.extBut sb.extBut D.i1z, a4.extBut sb.extBut D.i2z⟩
    · rw [upd_ne]
      · exact (hf c hc).1
      · simp only [List.mem_cons, List.not_mem_nil, or_false] at hc
        rcases hc with rfl | rfl | rfl | rfl | rfl
        · exact Ne.symm (lt hz)
        · exact Ne.symm (lt hTI)
        · exact Ne.symm (lt hTO)
        · obtain ⟨_, e, _⟩ := h1; exact Ne.symm (lt e)
        · obtain ⟨_, e, _⟩ := h2; exact Ne.symm (lt e)
  done := by
    intro X hP hw hK hc i pins s σ H E I hf st hg
    subst hP hw hK
    obtain ⟨xs, ys, q1, q2, hend⟩ := hg
    obtain ⟨its1, rv1, p1, hz1⟩ := I.list q1
    obtain ⟨its2, rv2, p2, hz2⟩ := I.list q2
    obtain ⟨hz, hTI, ⟨a, b, hTO⟩, h1, h2⟩ := st
    have len1 := rv1.length
    have len2 := rv2.length
    refine wpAny_pyNext_zip_end (I.ok.hd hc) D hz hTI hTO h1 h2 p1.isList p2.isList (by
      rcases hend with z | z
      · exact .inl (by simp; omega)
      · exact .inr (by simp; omega)) fun h' hk => ⟨rfl, I.turnedL (t' := s.toks) (its := [z, TI, TO, i1, i2]) (fun c o hc e => ?_) hf⟩
    simp only [List.mem_cons, List.not_mem_nil, or_false, not_or] at hc
    exact hk c o hc.1 hc.2.2.1 hc.2.2.2.1 hc.2.2.2.2 e
  self := fun _ _ _ _ _ st h => wpAny_pyIter_zip st.1 h

section
variable {X : Cx} {K : PySem.W.Frag}
def iZip (K : PySem.W.Frag) (ta : TA) : TI := fun σ H R => ta σ H fun vs H1 => ∃ p q xs ys, vs = [.ref p, .ref q] ∧ SqL K H1 p xs ∧ SqL K H1 q ys ∧ R (Itz K p q) H1
theorem pi_zip {a b : Expr} {ta : TA} {p pos pos' : Pos} {es : List Expr} {kk : Nat} (hg : Gl X "zip") (hm : X.mg "zip" = none) (ha : PA X [a, b] ta) (hs : starEach [a, b] X.env = [(false, eval a X.env), (false, eval b X.env)] := by rfl) (hs2 : starEach [b] X.env = [(false, eval b X.env)] := by rfl) (hK : X.K = K := by rfl) :
    PI X (.Tuple es kk pos') (.Call (.Name "zip" p) [a, b] [] pos) (iZip K ta) := by
  subst hK
  intro pins s σ H R I h
  refine Call_ (ld_blt I hg hm boot_zip (PyProof.Rows.callWith_type1 (thn (ha pos pins s σ H _ I h) fun us s1 ⟨vs, H1, I1, r1, q1⟩ => ?_) (by rw [hs, hs2]) (by rw [hs2]; rfl)))
  obtain ⟨l1, l2, xs, ys, rfl, q1, q2, q⟩ := q1
  obtain ⟨u, v, rfl, rx, ry⟩ := vals2 r1
  cases rx; cases ry
  obtain ⟨its1, rv1, p1, hz1⟩ := I1.list q1
  obtain ⟨its2, rv2, p2, hz2⟩ := I1.list q2
  have lt1 : l1 < s1.heap.objs.size := by obtain ⟨o, e, _⟩ := p1.isList; exact Heap.lt_size e
  have lt2 : l2 < s1.heap.objs.size := by obtain ⟨o, e, _⟩ := p2.isList; exact Heap.lt_size e
  refine call_zip_2 p1.isList p2.isList fun h' z1 z2 z3 z4 z5 z6 kp => ?_
  refine wpAny_pyIter_zip z1 ?_
  refine ⟨_, _, _, Itz X.K l1 l2, H1, rfl, I1.kept (t' := s1.toks) kp, turn_zip _ _ _ _ _ l1 l2 (zipApart_new lt1 lt2), ⟨z1, z2, ⟨_, _, z3⟩, z4, z5⟩, fun b hb => ?_, q⟩
  have ge : s1.heap.objs.size ≤ b := by
    simp only [List.mem_cons, List.not_mem_nil, or_false] at hb
    rcases hb with rfl | rfl | rfl | rfl | rfl <;> first | exact Nat.le_refl _ | exact Nat.le_add_right _ _
  exact I1.fpOk ge (I1.hok.fresh ge)
def rAll (K : PySem.W.Frag) : List V → Hp → VK → Prop := fun xs H Q => ∃ (p : Addr) (bs : List Bool), xs = [.ref p] ∧ SqL K H p (bs.map V.bl) ∧ Q (.bl (bs.all id)) H
theorem call_allL (hc : X.calm = true) (hK : X.K = K := by rfl) : CallR X (.builtin "all") (rAll K) := by
  subst hK
  intro pins s σ H xs us Q I r h
  obtain ⟨p, bs, rfl, hq, q⟩ := h
  obtain ⟨u, rfl, rx⟩ := vals1 r
  cases rx
  obtain ⟨its, rv, pl, hz⟩ := I.list hq
  have len : bs.length = its.length := by have := rv.length; rwa [List.length_map] at this
  have lt : p < s.heap.objs.size := by obtain ⟨o, e, _⟩ := pl.isList; exact Heap.lt_size e
  refine call_all_walk (wpAny_pyIter_list pl.isList ⟨s.heap.objs.size, _, _, _, _, _, fun i => bs.getD i false, rfl, Walks.list (by simpa using I.ok.hd hc) s.heap.objs.size p (Nat.ne_of_lt lt) its.toArray, ⟨⟨_, Heap.get?_push_size _ rfl, rfl, rfl⟩, pl.isList.push _⟩, fun i v s Q E hv hQ => ?_, fun h' tk kp => ?_⟩)
  · have hv' : its[i]? = some v := by simpa using hv
    have li : i < bs.length := by rw [len]; exact (List.getElem?_eq_some_iff.mp hv').1
    obtain ⟨u, hu, ru⟩ := rv.get (i := i) (x := V.bl bs[i]) (by rw [List.getElem?_map, List.getElem?_eq_getElem li]; rfl)
    rw [hv'] at hu
    cases hu
    cases ru
    have e : bs.getD i false = bs[i] := by rw [List.getD_eq_getElem?_getD, List.getElem?_eq_getElem li]; rfl
    dsimp only at hQ
    rw [e] at hQ
    exact wpAny_truthy_bool hQ
  · have I1 : Inv X pins σ H { s with heap := h', toks := tk } := I.kept fun b o e => kp b o (by simp only [List.mem_singleton]; exact Nat.ne_of_lt (Heap.lt_size e)) (Heap.get?_push_of_some _ e)
    have e : (List.range its.toArray.size).all (fun i => bs.getD i false) = bs.all id := by
      rw [List.size_toArray, ← len]
      clear q rv hz hq len
      induction bs with
      | nil => rfl
      | cons b bs ih =>
        rw [List.length_cons, List.range_succ_eq_map, List.all_cons, List.all_map, List.all_cons, ← ih]
        rfl
    rw [e]
    exact ⟨.bl (bs.all id), H, I1, rfl, q⟩
end
end L2
namespace L2
/-- one or the other reading -/
theorem pe_alt {X : Cx} {e : PySem.Expr} {t u : TE} (h : PE X e t) (k : PE X e u) : PE X e (fun σ H Q => t σ H Q ∨ u σ H Q) := by
  intro pins s σ H Q I q
  rcases q with q | q
  · exact h pins s σ H Q I q
  · exact k pins s σ H Q I q
end L2

set_option Elab.async false
set_option linter.all false
set_option maxRecDepth 100000
namespace L2
open PySem PySem.Spec PyProof.Rows
def isStar : Expr → Bool
  | .Starred .. => true
  | _ => false
theorem star_ne {e : Expr} {es : List Expr} {env : Env} (h : isStar e = false) : starEach (e :: es) env = (false, eval e env) :: starEach es env := by
  cases e <;> first | rfl | cases h
theorem pa_c {X : Cx} {e : Expr} {es : List Expr} {te : TE} {t : TA} (ha : PE X e te) (hr : PA X es t) (h : isStar e = false := by rfl) : PA X (e :: es) (tCons te t) := pa_cons ha hr (star_ne h)
end L2

set_option Elab.async false
set_option linter.all false
set_option maxRecDepth 100000
/-! own: comprehensions over a list or a range by an invariant; the frozen part of a heap -/
namespace L2
open PySem PySem.Spec PyProof.Rows SetT

/-- one turn more is done, of n -/
abbrev Nx (n i : Nat) (A : Prop) : Prop := ∃ m', m' < n - i ∧ (m' = n - (i + 1) ∧ i + 1 ≤ n ∧ A)
theorem Nx.mk {n i : Nat} {A : Prop} (h : i < n) (a : A) : Nx n i A := ⟨n - (i + 1), by omega, rfl, h, a⟩
/-- a comprehension over a list that stays as it is -/
theorem comp_list {K : PySem.W.Frag} {a : Addr} {xs : List V} {k : Nat} {g : TG} {tc : TT} {te : TE} {σ : St} {H1 : Hp} {Q : VK} (few : xs.length ≤ 1000)
    (h : ∀ acc, H1 acc = none → ∃ Pv : Nat → St → List V → Hp → Prop, Pv 0 (σ ++ List.replicate k none) [] (upd H1 acc (.lst [])) ∧ (∀ i σ2 ys H2, i ≤ xs.length → Pv i σ2 ys H2 → SqL K H2 a xs ∧ ys.length ≤ i) ∧
      (∀ i x σ2 ys H2, i < xs.length → xs[i]? = some x → Pv i σ2 ys H2 → g x σ2 H2 fun σ4 H4 => tc σ4 H4 fun b H5 => if b = true then te σ4 H5 fun v H6 => H6 acc = some (.lst ys) ∧ Nx xs.length i (Pv (i + 1) σ4 (ys ++ [v]) (upd H6 acc (.lst (ys ++ [v])))) else Nx xs.length i (Pv (i + 1) σ4 ys H5)) ∧
      ∀ σ2 ys H2, Pv xs.length σ2 ys H2 → Q (.ref acc) H2) : CompR (Itl K a) k g tc te σ H1 Q := by
  intro acc ha
  obtain ⟨Pv, p0, pl, ps, pd⟩ := h acc ha
  refine ⟨fun i m σ2 ys H2 => m = xs.length - i ∧ i ≤ xs.length ∧ Pv i σ2 ys H2, ⟨xs.length, by simp, Nat.zero_le _, p0⟩, ?_⟩
  rintro i m σ2 ys H2 ⟨rfl, hi, p⟩
  obtain ⟨q, len⟩ := pl i σ2 ys H2 hi p
  by_cases hlt : i < xs.length
  · refine .inr ⟨⟨xs, xs[i], q, by simp [hlt]⟩, Nat.lt_of_le_of_lt len (small1000 (by omega)), fun x H3 y => ?_⟩
    obtain ⟨e, y⟩ := y
    subst e
    exact ps i x σ2 ys _ hlt (y xs q) p
  · have e : i = xs.length := by omega
    subst e
    exact .inl ⟨⟨xs, q, Nat.le_refl _⟩, pd σ2 ys H2 p⟩
/-- a comprehension over lo, lo + 1, .. (n of them) -/
theorem comp_range {lo : Int} {n : Nat} {k : Nat} {g : TG} {tc : TT} {te : TE} {σ : St} {H1 : Hp} {Q : VK} (few : n ≤ 1000)
    (h : ∀ acc, H1 acc = none → ∃ Pv : Nat → St → List V → Hp → Prop, Pv 0 (σ ++ List.replicate k none) [] (upd H1 acc (.lst [])) ∧ (∀ i σ2 ys H2, i ≤ n → Pv i σ2 ys H2 → ys.length ≤ i) ∧
      (∀ i σ2 ys H2, i < n → Pv i σ2 ys H2 → g (.int (lo + i)) σ2 H2 fun σ4 H4 => tc σ4 H4 fun b H5 => if b = true then te σ4 H5 fun v H6 => H6 acc = some (.lst ys) ∧ Nx n i (Pv (i + 1) σ4 (ys ++ [v]) (upd H6 acc (.lst (ys ++ [v])))) else Nx n i (Pv (i + 1) σ4 ys H5)) ∧
      ∀ σ2 ys H2, Pv n σ2 ys H2 → Q (.ref acc) H2) : CompR (Itr lo n) k g tc te σ H1 Q := by
  intro acc ha
  obtain ⟨Pv, p0, pl, ps, pd⟩ := h acc ha
  refine ⟨fun i m σ2 ys H2 => m = n - i ∧ i ≤ n ∧ Pv i σ2 ys H2, ⟨n, by simp, Nat.zero_le _, p0⟩, ?_⟩
  rintro i m σ2 ys H2 ⟨rfl, hi, p⟩
  have len := pl i σ2 ys H2 hi p
  by_cases hlt : i < n
  · refine .inr ⟨hlt, Nat.lt_of_le_of_lt len (small1000 (by omega)), fun x H3 y => ?_⟩
    obtain ⟨e, rfl⟩ := y
    subst e
    exact ps i σ2 ys _ hlt p
  · have e : i = n := by omega
    subst e
    exact .inl ⟨Nat.le_refl _, pd σ2 ys H2 p⟩

/-! ### the frozen part: G is held by H; what is made new lies ahead of none of H -/
/-- all but the addresses of S is kept -/
def But (S : List Addr) (H H' : Hp) : Prop := ∀ b o, b ∉ S → H b = some o → H' b = some o
theorem But.of {H H' : Hp} {S : List Addr} (h : Same H H') : But S H H' := fun b o _ e => h b o e
theorem But.same {G H H' : Hp} {S : List Addr} (h : But S H H') (s : Same G H) (hS : ∀ b ∈ S, G b = none) : Same G H' := fun b o e => h b o (fun z => by rw [hS b z] at e; cases e) (s b o e)
theorem But.trans {H H' H'' : Hp} {S : List Addr} (h : But S H H') (k : But S H' H'') : But S H H'' := fun b o n e => k b o n (h b o n e)
theorem But.mono {H H' : Hp} {S S' : List Addr} (h : But S H H') (k : ∀ b ∈ S, b ∈ S') : But S' H H' := fun b o n e => h b o (fun z => n (k b z)) e
theorem But.upd {H : Hp} {p : Addr} {o : HO} : But [p] H (upd H p o) := fun b u n e => by rw [upd_ne (fun z => n (by simp [z]))]; exact e
/-- G grew to G' by what was free in H, and G' is held by H' -/
structure Grow (H G G' H' : Hp) : Prop where
  sub : Same G G'
  held : Same G' H'
  new : ∀ b o, G' b = some o → G b = some o ∨ H b = none
theorem Grow.free {H G G' H' : Hp} (g : Grow H G G' H') {b : Addr} (h : H b ≠ none) (n : G b = none) : G' b = none := by
  cases e : G' b with
  | none => rfl
  | some o =>
    rcases g.new b o e with z | z
    · rw [n] at z; cases z
    · exact absurd z h
theorem Grow.refl {H G : Hp} (s : Same G H) : Grow H G G H := ⟨Same.refl _, s, fun _ _ e => .inl e⟩
theorem Grow.add {H G G' H' : Hp} (g : Grow H G G' H') (k : ∀ b o, H b = some o → ∃ u, H' b = some u) {p : Addr} {o : HO} (hp : H' p = none) : Grow H G (L2.upd G' p o) (L2.upd H' p o) := by
  have n : G' p = none := by
    cases e : G' p with
    | none => rfl
    | some u => rw [g.held p u e] at hp; cases hp
  refine ⟨g.sub.trans (Same.new n), fun b u e => ?_, fun b u e => ?_⟩
  · by_cases hb : b = p
    · subst hb; rw [upd_same] at e ⊢; exact e
    · rw [upd_ne hb] at e ⊢; exact g.held b u e
  · by_cases hb : b = p
    · subst hb
      refine .inr ?_
      cases q : H b with
      | none => rfl
      | some u => obtain ⟨u', z⟩ := k b u q; rw [hp] at z; cases z
    · rw [upd_ne hb] at e; exact g.new b u e
end L2

set_option Elab.async false
set_option linter.all false
set_option maxRecDepth 100000
/-! own: plain data: no dicts, not deep, texts that can be laid -/
namespace L2
open PySem PySem.Spec PyProof.Rows

def okD (n : Nat) (d : PyData) : Prop := d.canLay0 = true ∧ d.depth ≤ n ∧ noDict d = true
theorem okD.int {n : Nat} {i : Int} : okD n (.int i) := ⟨by simp [PyData.canLay0], by simp [PyData.depth], by simp [noDict]⟩
theorem okD.bool {n : Nat} {i : Bool} : okD n (.bool i) := ⟨by simp [PyData.canLay0], by simp [PyData.depth], by simp [noDict]⟩
theorem okD.none {n : Nat} : okD n .none := ⟨by simp [PyData.canLay0], by simp [PyData.depth], by simp [noDict]⟩
theorem okD.all {n : Nat} : ∀ {xs : List PyData}, (∀ d ∈ xs, okD n d) → PyData.canLayAll0 xs = true ∧ PyData.depthAll xs ≤ n ∧ noDicts xs = true
  | [], _ => ⟨by simp [PyData.canLayAll0], by simp [PyData.depthAll], by simp [noDicts]⟩
  | x :: xs, h => by
    obtain ⟨a, b, c⟩ := okD.all fun d hd => h d (List.mem_cons_of_mem _ hd)
    obtain ⟨a', b', c'⟩ := h x List.mem_cons_self
    refine ⟨by simp [PyData.canLayAll0, a, a'], ?_, by simp [noDicts, c, c']⟩
    rw [PyData.depthAll]
    omega
theorem okD.list {n : Nat} {xs : List PyData} (h : ∀ d ∈ xs, okD n d) : okD (n + 1) (.list xs) := by
  obtain ⟨a, b, c⟩ := okD.all h
  exact ⟨by simp [PyData.canLay0, a], by rw [PyData.depth]; omega, by simp [noDict, c]⟩
theorem okD.tuple {n : Nat} {xs : List PyData} (h : ∀ d ∈ xs, okD n d) : okD (n + 1) (.tuple xs) := by
  obtain ⟨a, b, c⟩ := okD.all h
  exact ⟨by simp [PyData.canLay0, a], by rw [PyData.depth]; omega, by simp [noDict, c]⟩
theorem okD.mono {n m : Nat} {d : PyData} (h : okD n d) (l : n ≤ m) : okD m d := ⟨h.1, Nat.le_trans h.2.1 l, h.2.2⟩
theorem okD.shaped {n : Nat} {d : PyData} (h : okD n d) (l : n ≤ 64) : SeqAt.shaped d = true := by
  unfold SeqAt.shaped
  rw [h.1, decide_eq_true (Nat.le_trans h.2.1 l)]
  rfl
theorem okD.self {n : Nat} {d : PyData} (h : okD n d) : PyData.eqv d d = true := eqv_self h.2.2
theorem rp_ints {K : PySem.W.Frag} {H : Hp} : ∀ {ns : List Int}, RpAll K H (iV ns) (ns.map PyData.int)
  | [] => .nil
  | n :: ns => .cons (.int n) rp_ints
theorem okD_ints {n : Nat} {ns : List Int} : ∀ d ∈ ns.map PyData.int, okD n d := fun d hd => by
  obtain ⟨i, _, rfl⟩ := List.mem_map.mp hd
  exact .int
/-- for x, y in zip of two lists that stay as they are -/
theorem for_zip {K : PySem.W.Frag} {l1 l2 : Addr} {xs ys : List V} {g : TG} {tb : TS} {D : Ends} {σ : St} {H : Hp} (len : xs.length = ys.length) (Pv : Nat → St → Hp → Prop) (h0 : Pv 0 σ H) (hl : ∀ i σ H, i ≤ xs.length → Pv i σ H → SqL K H l1 xs ∧ SqL K H l2 ys)
    (hs : ∀ i x y p σ H, xs[i]? = some x → ys[i]? = some y → H p = none → Pv i σ H → g (.ref p) σ (upd H p (.tup [x, y])) fun σ2 H2 => tb { D with nx := Pv (i + 1), ct := Pv (i + 1), bk := D.nx } σ2 H2) (hd : ∀ σ H, Pv xs.length σ H → D.nx σ H) :
    ∃ W : Nat → Nat → St → Hp → Prop, (∃ m, W 0 m σ H) ∧ ∀ i m σ H, W i m σ H →
      ((Itz K l1 l2).stop i H ∧ D.nx σ H) ∨ ((Itz K l1 l2).go i H ∧ ∃ N : St → Hp → Prop, (∀ σ' H', N σ' H' → ∃ m', m' < m ∧ W (i + 1) m' σ' H') ∧ ∀ x H', (Itz K l1 l2).yld i H x H' → g x σ H' fun σ2 H2 => tb { D with nx := N, ct := N, bk := D.nx } σ2 H2) := by
  refine ⟨fun i m σ H => m = xs.length - i ∧ i ≤ xs.length ∧ Pv i σ H, ⟨xs.length, by simp, Nat.zero_le _, h0⟩, ?_⟩
  rintro i m σ H ⟨rfl, hi, p⟩
  obtain ⟨q1, q2⟩ := hl i σ H hi p
  by_cases hlt : i < xs.length
  · refine .inr ⟨⟨xs, ys, xs[i], ys[i], q1, q2, by simp [hlt], by simp [len ▸ hlt]⟩, Pv (i + 1), fun σ' H' p' => ⟨xs.length - (i + 1), by omega, rfl, hlt, p'⟩, fun v H' z => ?_⟩
    obtain ⟨a, x, y, na, rfl, rfl, z1, z2⟩ := z
    exact hs i x y a σ H (z1 xs q1) (z2 ys q2) na p
  · have e : i = xs.length := by omega
    subst e
    exact .inl ⟨⟨xs, ys, q1, q2, .inl (Nat.le_refl _)⟩, hd σ H p⟩
/-- a new thing of H' is frozen -/
theorem Grow.freeze {H G G' H' : Hp} {p : Addr} {o : HO} (g : Grow H G G' H') (n : H p = none) (h : H' p = some o) : Grow H G (L2.upd G' p o) H' := by
  refine ⟨fun b u e => ?_, fun b u e => ?_, fun b u e => ?_⟩
  · by_cases hb : b = p
    · subst hb
      have := g.held _ _ (g.sub _ _ e)
      rw [h] at this
      rw [upd_same]; exact this
    · rw [upd_ne hb]; exact g.sub _ _ e
  · by_cases hb : b = p
    · subst hb; rw [upd_same] at e; rw [h]; exact e
    · rw [upd_ne hb] at e; exact g.held _ _ e
  · by_cases hb : b = p
    · subst hb; exact .inr n
    · rw [upd_ne hb] at e; exact g.new _ _ e
theorem Grow.then {H G G1 H1 G2 H2 : Hp} (g : Grow H G G1 H1) (k : Grow H1 G1 G2 H2) (s : ∀ b o, H b = some o → ∃ u, H1 b = some u) : Grow H G G2 H2 :=
  ⟨g.sub.trans k.sub, k.held, fun b o e => by
    rcases k.new b o e with z | z
    · exact g.new b o z
    · refine .inr ?_
      cases q : H b with
      | none => rfl
      | some u => obtain ⟨u', e'⟩ := s b u q; rw [z] at e'; cases e'⟩
/-- more is in the heap, the frozen part is as it was -/
theorem Grow.more {H G G' H' H'' : Hp} (g : Grow H G G' H') (s : Same H' H'') : Grow H G G' H'' := ⟨g.sub, g.held.trans s, g.new⟩
theorem cutV_iV {ns : List Int} {lo hi : Option Int} : ∃ ms, cutV (iV ns) lo hi = iV ms := ⟨_, by unfold cutV iV; rw [← List.map_drop, ← List.map_take]⟩
theorem Rp.inj_nil {K : PySem.W.Frag} {H : Hp} {ds : List PyData} (h : RpAll K H [] ds) : ds = [] := by cases h; rfl
theorem RpAll.len {K : PySem.W.Frag} {H : Hp} : ∀ {xs : List V} {ds : List PyData}, RpAll K H xs ds → xs.length = ds.length
  | _, _, .nil => rfl
  | _, _, .cons _ r => by simp [RpAll.len r]
theorem RpAll.snoc {K : PySem.W.Frag} {H : Hp} {x : V} {d : PyData} : ∀ {xs : List V} {ds : List PyData}, RpAll K H xs ds → Rp K H x d → RpAll K H (xs ++ [x]) (ds ++ [d])
  | _, _, .nil, r => .cons r .nil
  | _, _, .cons a b, r => .cons a (RpAll.snoc b r)
end L2

set_option Elab.async false
set_option linter.all false
set_option maxRecDepth 100000
/-! own: the rules for closed displays, behind doors that the unifier does not open -/
namespace L2
open PySem PySem.Spec PyProof.Rows
@[irreducible] def PEi (X : Cx) (e : Expr) (t : TE) : Prop := PE X e t
@[irreducible] def PAi (X : Cx) (es : List Expr) (t : TA) : Prop := PA X es t
@[irreducible] def PPi (X : Cx) (pos : Pos) (ks : List (Option Expr)) (vs : List Expr) (ts : List (TE × TE)) : Prop := PPs X pos ks vs ts
@[irreducible] def PSsi (X : Cx) (ss : List Stmt) (t : TS) : Prop := PSs X ss t
section
variable {X : Cx} {e a b : Expr} {es : List Expr} {te ta tb : TE} {t : TA} {pos : Pos} {ks : List (Option Expr)} {vs : List Expr} {ts : List (TE × TE)}
theorem PEi.to (h : PEi X e te) : PE X e te := by unfold PEi at h; exact h
theorem PEi.of (h : PE X e te) : PEi X e te := by unfold PEi; exact h
theorem PAi.to (h : PAi X es t) : PA X es t := by unfold PAi at h; exact h
theorem PAi.of (h : PA X es t) : PAi X es t := by unfold PAi; exact h
theorem PPi.to (h : PPi X pos ks vs ts) : PPs X pos ks vs ts := by unfold PPi at h; exact h
theorem PPi.of (h : PPs X pos ks vs ts) : PPi X pos ks vs ts := by unfold PPi; exact h
theorem psi_ret (h : PEi X e te) : PS X (.Return (some e) pos) (tRet te) := ps_ret h.to
theorem PSsi.to {ss : List Stmt} {t : TS} (h : PSsi X ss t) : PSs X ss t := by unfold PSsi at h; exact h
theorem pssi_ret (h : PEi X e te) : PSsi X [.Return (some e) pos] (tRet te) := by unfold PSsi; exact pss_one (ps_ret h.to)
theorem Fun.okNi {P : Program} {w : World} {K : PySem.W.Frag} {mg : Str → Option Value} {base : Heap} {x qual : Str} {st : Stmt} {f : Addr} {fd : FuncData} {N ps : List Str} {k : Nat} {sp : Sp} (F : Fun K x qual st f fd) (S : FnScope N ps (defScope st)) (len : ∀ vs H Q E, sp vs H Q E → vs.length = ps.length)
    (hb : ∀ (cdv : Value) (A : Around) (outer : List Env) (s : Shared) (H : Hp) (vs : List V) (Q : VK) (E : XK), Room k (A.deeper (envOfC qual (defScope st) s.heap.objs.size f cdv)) → sp vs H Q E →
      ∃ t, PSsi (cxOf (CXr P w) P w K mg base N qual (defScope st) f cdv A outer s H E).nox (defBody st) t ∧ t { nx := fun _ H' => Q .non H', rt := Q } (start N vs) H) : FnOk P w K mg base (CXr P w) (k + 1) f fd ps sp :=
  F.okN S len fun cdv A outer s H vs Q E hr hs => let ⟨t, h, q⟩ := hb cdv A outer s H vs Q E hr hs; ⟨t, h.to, q⟩
theorem pei_ix {r : R2} (hr : IxR X r) (ha : PEi X a ta) (hb : PEi X b tb) (hs : PlainIx b) : PEi X (.Subscript a b pos) (tOp r ta tb) := .of (pe_ix hr ha.to hb.to hs)
theorem pei_lst (h : PAi X es t) : PEi X (.List es pos) (tLst t) := .of (pe_lst h.to)
theorem pei_tup {n : Nat} (h : PAi X es t) : PEi X (.Tuple es n pos) (tTup t) := .of (pe_tup h.to)
theorem pai_nil : PAi X [] tNil := .of pa_nil
theorem pai_c (ha : PEi X e te) (hr : PAi X es t) (h : isStar e = false := by rfl) : PAi X (e :: es) (tCons te t) := .of (pa_c ha.to hr.to h)
theorem pei_str {x : Str} {j} : PEi X (.Constant (.str x) j pos) (tC (.str x)) := .of pe_str
theorem pei_int {i : Int} {j} : PEi X (.Constant (.int i) j pos) (tC (.int i)) := .of pe_int
theorem pei_bl {k : Bool} {j} : PEi X (.Constant (.bool k) j pos) (tC (.bl k)) := .of pe_bl
theorem pei_op {op : Operator} {r : R2} (ho : OpR X (binaryOp op) r) (ha : PEi X a ta) (hb : PEi X b tb) : PEi X (.BinOp a op b pos) (tOp r ta tb) := .of (pe_op ho ha.to hb.to)
theorem pvi (i : Nat) {x : Str} (hN : X.N[i]? = some x := by rfl) (hv : Vis X.env.scope x := by first | exact Or.inl rfl | exact Or.inr (Or.inl rfl) | exact Or.inr (Or.inr rfl)) (hd : (x == ("__debug__" : Str)) = false := by decide) (hc : (x == ("__classdict__" : Str)) = false := by decide) : PEi X (.Name x pos) (tVar i) := .of (pv i hN hv hd hc)
theorem ppi_nil : PPi X pos [] [] [] := .of pps_nil
theorem ppi_cons {k v : Expr} (hk : PEi X k ta) (hv : PEi X v tb) (hr : PPi X pos ks vs ts) : PPi X pos (some k :: ks) (v :: vs) ((ta, tb) :: ts) := .of (pps_cons hk.to hv.to hr.to)
theorem pei_disp (h : PPi X pos ks vs ts) (h1 : ks.all (·.isSome) = true) (h2 : ks.length = vs.length) (h3 : ks ≠ []) (h4 : ks.length ≤ 15) : PEi X (.Dict ks vs pos) (tDisp ts) := .of (pe_disp h.to h1 h2 h3 h4)
@[irreducible] def PSi (X : Cx) (st : Stmt) (t : TS) : Prop := PS X st t
theorem PSi.to {st : Stmt} {t : TS} (h : PSi X st t) : PS X st t := by unfold PSi at h; exact h
theorem PSi.of {st : Stmt} {t : TS} (h : PS X st t) : PSi X st t := by unfold PSi; exact h
theorem PSsi.of {ss : List Stmt} {t : TS} (h : PSs X ss t) : PSsi X ss t := by unfold PSsi; exact h
theorem pssi_cons {st : Stmt} {ss : List Stmt} {t u : TS} (h : PSi X st t) (r : PSsi X ss u) : PSsi X (st :: ss) (tSeq t u) := .of (pss_cons h.to r.to)
theorem pssi_one {st : Stmt} {t : TS} (h : PSi X st t) : PSsi X [st] t := .of (pss_one h.to)
theorem psi_retI (h : PEi X e te) : PSi X (.Return (some e) pos) (tRet te) := .of (ps_ret h.to)
theorem psi_if {c : Expr} {a b : List Stmt} {tc : TT} {t u : TS} (hc : PT X c tc) (ha : PSsi X a t) (hb : PSsi X b u) : PSi X (.If c a b pos) (tIfS tc t u) := .of (ps_if hc ha.to hb.to)
theorem psi_set {i : Nat} {x : Str} {pos' : Pos} (hN : X.N.Nodup) (hi : X.N[i]? = some x) (hx : Loc X.env.scope x) (he : PEi X e te) (hs : swapsWith e (some (.Name x pos')) pos.line X.env = pure false := by rfl) (hf : X.fn x = true ∨ X.env.scope.names.lookup x = some .local := by first | exact .inl rfl | exact .inr rfl | assumption) :
    PSi X (.Assign [.Name x pos'] e pos) (tAsg te (gName i)) := .of (ps_set hN hi hx he.to hs hf)
end
end L2

set_option Elab.async false
set_option linter.all false
set_option maxRecDepth 100000
/-! own: max of a list of ints, with a default or without -/
namespace L2
open PySem PySem.Spec PyProof.Rows

/-- m is the greatest of the first j -/
def Top (val : Nat → Int) (j : Nat) (m : Int) : Prop := (∀ i, i < j → val i ≤ m) ∧ ∃ i, i < j ∧ val i = m
section
variable {prog : Program} {w : World} {A : Around} {R : Result → Shared → Prop} {it S : Addr} {fp wr : List Addr} {n : Nat} {Pi : Nat → Value → Prop} {St : Nat → Heap → Prop} {kw : List (Str × Value)} {val : Nat → Int}
/-- the loop of max once a first item is held: by what is left -/
theorem top_loop (W : Walks prog w A.in1 it fp wr n Pi St) (hv : ∀ i v, Pi i v → ∃ t, v = .int (val i) t) (out : S ∉ fp) :
    ∀ (left j : Nat) (s : Shared) (m : Int) (t : Tok) (c : Nat), left = n - j → 0 < j → j ≤ n → St j s.heap → Top val j m →
      s.heap.get? S = some { cls := .type "list", dict := none, data := .seq #[.int m t, .int m t] c, slots := #[] } →
      (∀ m' t' h' tk, Top val n m' → (∀ b o, b ∉ wr → b ≠ S → s.heap.get? b = some o → h'.get? b = some o) → R (.ok (.ret (.int m' t'))) { s with heap := h', toks := tk }) →
      codeAny (model prog w) A (.builtin "max.loop" ⟨[.ref it, .none, .ref S], kw⟩) R s := by
  have outw : S ∉ wr := fun z => out (W.sub _ z)
  have nm : (toString "max" ++ toString ".loop" : String) = "max.loop" := by decide
  intro left
  induction left with
  | zero =>
    intro j s m t c hl h0 hj hst tp hS fin
    obtain rfl : j = n := by omega
    refine codeAny_builtin F.entry_max_loop ?_
    rw [Around.under_plainId F.plain_max_loop _]
    refine wpAny_bind (wpAny_seqItems hS rfl ?_)
    refine wpAny_bind (wpAny_tryCatch (W.done s _ _ hst fun h' tk kp => ?_))
    refine wpAny_bind (wpAny_updateSeq (kp S _ outw hS) rfl (wpAny_bind (wpAny_letGo (wpAny_pure ?_))))
    exact fin m t _ tk tp fun b o nb nS e => (Heap.get?_update_other _ _ (Ne.symm nS)).trans (kp b o nb e)
  | succ left ih =>
    intro j s m t c hl h0 hj hst tp hS fin
    have lt : j < n := by omega
    refine codeAny_builtin F.entry_max_loop ?_
    rw [Around.under_plainId F.plain_max_loop _]
    refine wpAny_bind (wpAny_seqItems hS rfl ?_)
    refine wpAny_bind (wpAny_tryCatch (W.item j s _ _ lt hst fun v h' tk pv hst' kp => ?_))
    have hS' := kp S _ outw hS
    obtain ⟨u, rfl⟩ := hv j v pv
    refine wpAny_bind (wpAny_pure ?_)
    refine wpAny_bind (wpAny_tryCatch (wpAny_holding (wpAny_bind ?_)))
    refine CmpOf.ints_gt (P := fun i v => ∃ t, v = .int ([val j, m].getD i 0) t) (fun i => [val j, m].getD i 0) (fun _ _ z => z) 0 1 _ _ _ _ _ ⟨u, rfl⟩ ⟨t, rfl⟩ ?_
    refine wpAny_bind (wpAny_holding (wpAny_truthy_bool ?_))
    refine wpAny_bind (wpAny_letGo (wpAny_pure ?_))
    by_cases g : val j > m
    · have tp' : Top val (j + 1) (val j) := ⟨fun i hi => by
        by_cases e : i = j
        · subst e; omega
        · have := tp.1 i (by omega); omega, j, by omega, rfl⟩
      have gb : (fun i j' => decide ([val j, m].getD i 0 > [val j, m].getD j' 0)) 0 1 = true := decide_eq_true g
      rw [if_pos gb]
      refine wpAny_bind (wpAny_updateSeq hS' rfl (wpAny_bind (wpAny_letGo ?_)))
      rw [nm]
      refine wpAny_pure ⟨plainId_quiet F.plain_max_loop _, ih (j + 1) _ (val j) u _ (by omega) (by omega) lt (W.frame _ _ _ hst' fun b hb o e => ?_) tp' (Heap.get?_update_self _ hS' rfl) fun m' t' h'' tk'' q kp' => ?_⟩
      · exact (Heap.get?_update_other _ _ (fun z : S = b => out (z ▸ hb))).trans e
      · exact fin m' t' h'' tk'' q fun b o nb nS e => kp' b o nb nS ((Heap.get?_update_other _ _ (Ne.symm nS)).trans (kp b o nb e))
    · have tp' : Top val (j + 1) m := ⟨fun i hi => by
        by_cases e : i = j
        · subst e; omega
        · exact tp.1 i (by omega), let ⟨i, a, b⟩ := tp.2; ⟨i, by omega, b⟩⟩
      have gb : ¬ ((fun i j' => decide ([val j, m].getD i 0 > [val j, m].getD j' 0)) 0 1 = true) := fun z => g (of_decide_eq_true z)
      rw [if_neg gb]
      refine wpAny_bind (wpAny_letGo ?_)
      rw [nm]
      refine wpAny_pure ⟨plainId_quiet F.plain_max_loop _, ih (j + 1) _ m t c (by omega) (by omega) lt hst' tp' hS' fun m' t' h'' tk'' q kp' => ?_⟩
      exact fin m' t' h'' tk'' q fun b o nb nS e => kp' b o nb nS (kp b o nb e)
/-- the loop of max at its begin; with none at all, the default -/
theorem max_loop0 (W : Walks prog w A.in1 it fp wr n Pi St) (hv : ∀ i v, Pi i v → ∃ t, v = .int (val i) t) (out : S ∉ fp) {s : Shared} {c : Nat} (hst : St 0 s.heap) (hS : s.heap.get? S = some { cls := .type "list", dict := none, data := .seq #[] c, slots := #[] })
    (none : n = 0 → ∃ k d more, kw = (k, d) :: more ∧ ∀ h' tk, (∀ b o, b ∉ wr → b ≠ S → s.heap.get? b = some o → h'.get? b = some o) → R (.ok (.ret d)) { s with heap := h', toks := tk })
    (fin : ∀ m' t' h' tk, Top val n m' → (∀ b o, b ∉ wr → b ≠ S → s.heap.get? b = some o → h'.get? b = some o) → R (.ok (.ret (.int m' t'))) { s with heap := h', toks := tk }) :
    codeAny (model prog w) A (.builtin "max.loop" ⟨[.ref it, .none, .ref S], kw⟩) R s := by
  have outw : S ∉ wr := fun z => out (W.sub _ z)
  have nm : (toString "max" ++ toString ".loop" : String) = "max.loop" := by decide
  refine codeAny_builtin F.entry_max_loop ?_
  rw [Around.under_plainId F.plain_max_loop _]
  refine wpAny_bind (wpAny_seqItems hS rfl ?_)
  by_cases n0 : n = 0
  · obtain ⟨k, d, more, rfl, q⟩ := none n0
    refine wpAny_bind (wpAny_tryCatch (W.done s _ _ (by rw [n0]; exact hst) fun h' tk kp => ?_))
    exact wpAny_bind (wpAny_rule (wpAny_pure (q h' tk fun b o nb _ e => kp b o nb e)))
  · refine wpAny_bind (wpAny_tryCatch (W.item 0 s _ _ (by omega) hst fun v h' tk pv hst' kp => ?_))
    have hS' := kp S _ outw hS
    obtain ⟨u, rfl⟩ := hv 0 v pv
    refine wpAny_bind (wpAny_pure ?_)
    refine wpAny_bind (wpAny_updateSeq hS' rfl ?_)
    rw [nm]
    refine wpAny_pure ⟨plainId_quiet F.plain_max_loop _, top_loop W hv out (n - 1) 1 _ (val 0) u _ rfl (by omega) (by omega) (W.frame _ _ _ hst' fun b hb o e => ?_) ⟨fun i hi => ?_, 0, by omega, rfl⟩ (Heap.get?_update_self _ hS' rfl) fun m' t' h'' tk'' q kp' => ?_⟩
    · exact (Heap.get?_update_other _ _ (fun z : S = b => out (z ▸ hb))).trans e
    · obtain rfl : i = 0 := by omega
      exact Int.le_refl _
    · exact fin m' t' h'' tk'' q fun b o nb nS e => kp' b o nb nS ((Heap.get?_update_other _ _ (Ne.symm nS)).trans (kp b o nb e))
end
theorem args_maxD (a d : Value) : argsOk "max" ⟨[a], [("default", d)]⟩ := by unfold argsOk; kernel_rfl
section
variable {X : Cx} {K : PySem.W.Frag}
/-- its greatest one -/
def IsTop (ns : List Int) (m : Int) : Prop := m ∈ ns ∧ ∀ z ∈ ns, z ≤ m
theorem isTop_of {ns : List Int} {m : Int} (h : Top (fun i => ns.getD i 0) ns.length m) : IsTop ns m := by
  obtain ⟨h1, i, hi, e⟩ := h
  have g : ∀ j (hj : j < ns.length), ns.getD j 0 = ns[j] := fun j hj => by rw [List.getD_eq_getElem?_getD, List.getElem?_eq_getElem hj]; rfl
  refine ⟨?_, fun z hz => ?_⟩
  · have e' : ns.getD i 0 = m := e
    rw [g i hi] at e'
    rw [← e']; exact List.getElem_mem hi
  · obtain ⟨j, hj, rfl⟩ := List.getElem_of_mem hz
    have := h1 j hj
    simp only [] at this
    rw [g j hj] at this; exact this
/-- the list's iterator and the empty list behind it, and then the loop -/
theorem max_run {pins : List (Addr × Obj)} {s : Shared} {σ : St} {H : Hp} {Q : VK} {l : Addr} {ns : List Int} {kw : List (Str × Value)} (hc : X.calm = true) (I : Inv X pins σ H s) (hq : SqL X.K H l (iV ns))
    (h0 : ns = [] → ∃ k d more, kw = (k, d) :: more ∧ ∃ x, RelV x d ∧ Q x H) (h1 : ∀ m, IsTop ns m → Q (.int m) H) :
    wpAny (model X.prog X.w) X.A.in1 (pyIter (.ref l)) (fun it s2 => ∃ I2 : Addr, it = .ref I2 ∧ codeAny (model X.prog X.w) X.A (.builtin "max.loop" ⟨[.ref I2, .none, .ref s2.heap.objs.size], kw⟩)
      (fun r s' => match r with | .ok (.ret v) => EP X pins σ Q v s' | .ok _ => False | .error e => X.xe e s') { s2 with heap := s2.heap.push { cls := .type "list", data := .seq #[] 0 } }) X.xe s := by
  obtain ⟨its, rv, pl, hz⟩ := I.list hq
  have hI := iV_vals rv
  have len := IntsAre.length hI
  have lt : l < s.heap.objs.size := by obtain ⟨o, e, _⟩ := pl.isList; exact Heap.lt_size e
  refine wpAny_pyIter_list pl.isList ⟨s.heap.objs.size, rfl, ?_⟩
  have W := Walks.list (A := X.A.in1) (prog := X.prog) (w := X.w) (by simpa using I.ok.hd hc) s.heap.objs.size l (Nat.ne_of_lt lt) its.toArray
  have sz : (s.heap.push { cls := .type "list_iterator", data := .fields #[.ref l, .int 0 0] }).objs.size = s.heap.objs.size + 1 := Heap.size_push ..
  have nl : its.toArray.size = ns.length := by rw [List.size_toArray]; omega
  have old : ∀ {h' : Heap}, (∀ b o, b ∉ [s.heap.objs.size] → b ≠ s.heap.objs.size + 1 → ((s.heap.push { cls := .type "list_iterator", data := .fields #[.ref l, .int 0 0] }).push { cls := .type "list", data := .seq #[] 0 }).get? b = some o → h'.get? b = some o) → ∀ b o, s.heap.get? b = some o → h'.get? b = some o := fun kp b o e => by
    have lb := Heap.lt_size e
    exact kp b o (by simp only [List.mem_singleton]; exact Nat.ne_of_lt lb) (Nat.ne_of_lt (Nat.lt_succ_of_lt lb)) (Heap.get?_push_of_some _ (Heap.get?_push_of_some _ e))
  rw [sz]
  refine max_loop0 (val := fun i => ns.getD i 0) W (fun i v hv => ?_) ?_ (W.frame 0 _ _ ⟨⟨_, Heap.get?_push_size _ rfl, rfl, rfl⟩, pl.isList.push _⟩ fun b _ o e => Heap.get?_push_of_some _ e) (by rw [← sz]; exact Heap.get?_push_size _ rfl) (fun n0 => ?_) fun m' t' h' tk top kp => ?_
  · have hv' : its[i]? = some v := by simpa using hv
    have li : i < ns.length := by rw [← len]; exact (List.getElem?_eq_some_iff.mp hv').1
    obtain ⟨u, hu, ru⟩ := rv.get (i := i) (x := V.int ns[i]) (by unfold iV; rw [List.getElem?_map, List.getElem?_eq_getElem li]; rfl)
    rw [hv'] at hu
    cases hu
    obtain ⟨t, rfl⟩ := ru
    exact ⟨t, by rw [List.getD_eq_getElem?_getD, List.getElem?_eq_getElem li]; rfl⟩
  · intro z
    simp only [List.mem_cons, List.not_mem_nil, or_false] at z
    rcases z with z | z
    · exact absurd z (Nat.ne_of_gt (Nat.lt_succ_self _))
    · exact absurd z (Nat.ne_of_gt (Nat.lt_succ_of_lt lt))
  · have e0 : ns = [] := List.eq_nil_of_length_eq_zero (by omega)
    obtain ⟨k, d, more, rfl, x, rx, q⟩ := h0 e0
    exact ⟨k, d, more, rfl, fun h' tk kp => ⟨x, H, I.kept (old kp), rx, q⟩⟩
  · rw [nl] at top
    exact ⟨.int m', H, I.kept (old kp), ⟨t', rfl⟩, h1 m' (isTop_of top)⟩
def rMaxL (K : PySem.W.Frag) : List V → Hp → VK → Prop := fun xs H Q => ∃ p ns, xs = [.ref p] ∧ SqL K H p (iV ns) ∧ ns ≠ [] ∧ ∀ m, IsTop ns m → Q (.int m) H
theorem call_maxL (hc : X.calm = true) (hK : X.K = K := by rfl) : CallR X (.builtin "max") (rMaxL K) := by
  subst hK
  intro pins s σ H xs us Q I r h
  obtain ⟨p, ns, rfl, hq, ne, q⟩ := h
  obtain ⟨u, rfl, rx⟩ := vals1 r
  cases rx
  have nm : (toString "max" ++ toString ".loop" : String) = "max.loop" := by decide
  refine call_function_tree F.kind_max F.plain_max F.entry_max (F.args_max1 _) ?_
  refine wpAny_bind (m := Builtin.Builtins.bindParams "max" ["key", "default"] 0 ⟨[], []⟩) (wpAny_of_eq (show Builtin.Builtins.bindParams "max" ["key", "default"] 0 ⟨[], []⟩ = pure [none, none] from rfl) ?_)
  refine wpAny_bind (wpAny_pure ?_)
  refine wpAny_bind (wpAny_mono (max_run hc I hq (kw := []) (fun z => absurd z ne) q) (fun it s2 ⟨I2, e, z⟩ => ?_) fun _ _ z => z)
  subst e
  refine wpAny_bind (wpAny_newObj_type ?_)
  rw [nm]
  exact wpAny_pure ⟨plainId_quiet F.plain_max_loop _, z⟩
/-- max(e, default=c) -/
def tMaxD (K : PySem.W.Frag) (ta tk : TA) : TE := fun σ H Q => ta σ H fun vs H1 => tk σ H1 fun zs H2 => ∃ p ns y, vs = [.ref p] ∧ zs = [y] ∧ SqL K H2 p (iV ns) ∧ (ns = [] → Q y H2) ∧ ∀ m, IsTop ns m → Q (.int m) H2
theorem call_kw {prog : Program} {w : World} {A : Around} {E : Value → Shared → Prop} {s : Shared} {id : String} {f : Builtin} {us : List Value} {kw : List (Str × Value)} {R : Value → Shared → Prop} (k1 : builtinKind id = none) (k2 : plainId id = true) (k3 : entryFor table id = some f) (k4 : argsOk id ⟨us, kw⟩)
    (run : wpAny (model prog w) A.in1 (f ⟨us, kw⟩) (fun fin s' => match fin with
      | .done z => (match (Except.ok z : Result) with | .ok (.ret v) => R v s' | .ok _ => False | .error e => E e s')
      | .again z => z.quiet = true ∧ codeAny (model prog w) A z (fun r s' => match r with | .ok (.ret v) => R v s' | .ok _ => False | .error e => E e s') s') E s) :
    wpAny (model prog w) A (call (.builtin id) us kw) R E s := by
  refine wpAny_call (codeAny_call_builtin k2 k3 ?_)
  simp only [checkBuiltinCall, k1]
  cases sg : Manifest.signature? id with
  | none => exact wpAny_pure run
  | some sig =>
    have k5 : Bind.checkArgs id sig ⟨us, kw⟩ = pure () := by simpa only [argsOk, sg] using k4
    show wpAny _ A.in1 (Bind.checkArgs id sig ⟨us, kw⟩) _ _ s
    rw [k5]; exact wpAny_pure run
theorem pe_maxD {e c : Expr} {ta tk : TA} {p pos kp : Pos} (hc : X.calm = true) (hg : Gl X "max") (hm : X.mg "max" = none) (hv : bootBuiltins "max" = some (.builtin "max")) (ha : PA X [e] ta) (hd : PK X [⟨some "default", c, kp⟩] tk) (hs : isStar e = false := by rfl) (hK : X.K = K := by rfl) :
    PE X (.Call (.Name "max" p) [e] [⟨some "default", c, kp⟩] pos) (tMaxD K ta tk) := by
  subst hK
  intro pins s σ H Q I h
  refine wpAny_Call_Name_kw (ld_blt I hg hm hv ?_)
  have es : starEach [e] X.env = [(false, eval e X.env)] := star_ne hs
  have nm : (toString "max" ++ toString ".loop" : String) = "max.loop" := by decide
  refine PyProof.Rows.callWith_kw (kws := [⟨some "default", c, kp⟩]) (thn (ha pos pins s σ H _ I h) fun us s1 ⟨vs, H1, I1, r1, q1⟩ => ?_) (by rw [es]; rfl) (by rw [es]; rfl)
  refine thn (hd pos pins s1 σ H1 _ I1 q1) fun ks s2 ⟨zs, H2, I2, r2, q2⟩ => ?_
  obtain ⟨l, ns, y, rfl, rfl, hq, h0, h1⟩ := q2
  obtain ⟨u, rfl, ru⟩ := vals1 r1
  cases ru
  obtain ⟨d, rfl, rd⟩ := vals1 r2
  show wpAny (model X.prog X.w) X.A (call (.builtin "max") [.ref l] [("default", d)]) _ _ s2
  refine call_kw F.kind_max F.plain_max F.entry_max (args_maxD _ _) ?_
  refine wpAny_bind (m := Builtin.Builtins.bindParams "max" ["key", "default"] 0 ⟨[], [("default", d)]⟩) (wpAny_of_eq (show Builtin.Builtins.bindParams "max" ["key", "default"] 0 ⟨[], [("default", d)]⟩ = pure [none, some d] from rfl) ?_)
  refine wpAny_bind (wpAny_pure ?_)
  refine wpAny_bind (wpAny_mono (max_run hc I2 hq (kw := [("default", d)]) (fun z => ⟨_, d, [], rfl, y, rd, h0 z⟩) h1) (fun it s3 ⟨I3, e3, z⟩ => ?_) fun _ _ z => z)
  subst e3
  refine wpAny_bind (wpAny_newObj_type ?_)
  rw [nm]
  exact wpAny_pure ⟨plainId_quiet F.plain_max_loop _, z⟩
end
/-- [x for x in ns if p x], ns ints -/
theorem comp_filt {K : PySem.W.Frag} {a : Addr} {ns : List Int} {p : Int → Bool} {tc : TT} {σ : St} {H1 : Hp} {Q : VK} (few : ns.length ≤ 1000) (hl : SqL K H1 a (iV ns))
    (ht : ∀ j ∈ ns, ∀ acc xs (R : Bool → Hp → Prop), H1 acc = none → R (p j) (upd H1 acc (.lst xs)) → tc (σ ++ [some (.int j)]) (upd H1 acc (.lst xs)) R)
    (h : ∀ acc, H1 acc = none → Q (.ref acc) (upd H1 acc (.lst (iV (ns.filter p))))) : CompR (Itl K a) 1 (gName σ.length) tc (tVar σ.length) σ H1 Q := by
  have len : ∀ l : List Int, (iV l).length = l.length := fun l => by unfold iV; rw [List.length_map]
  have snoc : ∀ (l : List Int) (j : Int), iV l ++ [V.int j] = iV (l ++ [j]) := fun l j => by unfold iV; rw [List.map_append]; rfl
  refine comp_list (xs := iV ns) (by rw [len]; exact few) fun acc hacc => ⟨fun i σ2 zs H2 => zs = iV ((ns.take i).filter p) ∧ H2 = upd H1 acc (.lst zs) ∧ ∃ o, σ2 = σ ++ [o], ⟨rfl, rfl, _, rfl⟩, ?_, ?_, ?_⟩
  · rintro i σ2 zs H2 hi ⟨rfl, rfl, _⟩
    refine ⟨(Same.new hacc).seq hl, ?_⟩
    rw [len]
    exact Nat.le_trans (List.length_filter_le _ _) (by rw [List.length_take]; omega)
  · rintro i x σ2 zs H2 hi hx ⟨rfl, rfl, o, rfl⟩
    unfold iV at hx
    rw [List.getElem?_map] at hx
    obtain ⟨j, hj, rfl⟩ := Option.map_eq_some_iff.mp hx
    have es : (σ ++ [o]).set σ.length (some (V.int j)) = σ ++ [some (V.int j)] := by rw [List.set_append_right _ _ (Nat.le_refl _), Nat.sub_self]; rfl
    have et : ns.take (i + 1) = ns.take i ++ [j] := by rw [List.take_add_one, hj]; rfl
    dsimp only [gName]
    rw [es]
    refine ht j (List.mem_of_getElem? hj) acc _ _ hacc ?_
    cases pj : p j with
    | true =>
      refine iteT ⟨V.int j, by simp, upd_same, Nx.mk hi ⟨?_, by rw [upd_upd], _, rfl⟩⟩
      rw [et, List.filter_append, List.filter_cons_of_pos pj, List.filter_nil, snoc]
    | false =>
      refine iteF (Nx.mk hi ⟨?_, rfl, _, rfl⟩)
      rw [et, List.filter_append, List.filter_cons_of_neg (by simp [pj]), List.filter_nil, List.append_nil]
  · rintro σ2 zs H2 ⟨rfl, rfl, o, rfl⟩
    rw [len, List.take_length]
    exact h acc hacc
end L2

set_option Elab.async false
set_option linter.all false
set_option maxRecDepth 100000
namespace L2
open PySem PySem.Spec PyProof.Rows

/-! ### closures: a def made in a body that keeps names of it. The function object, its code, its cells: known things -/
theorem cellsFrom_app : ∀ (names : List (Str × NameKind)) (n : Nat) (acc : List (Str × Addr)), cellsFrom n names acc = cellsFrom n names [] ++ acc
  | [], _, _ => rfl
  | (x, k) :: r, n, acc => by
    unfold cellsFrom
    split
    · rw [cellsFrom_app r (n + 1) ((x, n) :: acc), cellsFrom_app r (n + 1) [(x, n)], List.append_assoc]; rfl
    · exact cellsFrom_app r n acc
theorem cellsFrom_mem : ∀ {names : List (Str × NameKind)} {n : Nat} {acc : List (Str × Addr)} {x : Str} {c : Addr}, (x, c) ∈ cellsFrom n names acc → (x, c) ∈ acc ∨ ∃ y ∈ names, y.1 = x ∧ y.2 = .cell
  | [], _, _, _, _, h => .inl h
  | (y, k) :: r, n, acc, x, c, h => by
    unfold cellsFrom at h
    split at h
    · rename_i hk
      rcases cellsFrom_mem h with z | ⟨y', m, q⟩
      · rcases List.mem_cons.mp z with z | z
        · cases z; exact .inr ⟨_, List.mem_cons_self, rfl, beq_iff_eq.mp hk⟩
        · exact .inl z
      · exact .inr ⟨y', List.mem_cons_of_mem _ m, q⟩
    · rcases cellsFrom_mem h with z | ⟨y', m, q⟩
      · exact .inl z
      · exact .inr ⟨y', List.mem_cons_of_mem _ m, q⟩

/-- the parameters of plain local kind are stored -/
theorem bind_locals {M : Model} {A : Around} {E : Value → Shared → Prop} {env : Env} (f : Str × Value → PUnit → Sem (ForInStep PUnit)) (hf : ∀ n v u, f (n, v) u = (do storeName env n v; pure (.yield ⟨⟩))) (hk : env.scope.kind = .function) :
    ∀ (binds : List (Str × Value)) (m : Str → Option Value) (s : Shared) (Q : PUnit → Shared → Prop), s.heap.Ns env.locals m → (∀ x ∈ binds, env.kindOf x.1 = some .local) →
      (∀ h' tk, h'.Ns env.locals (bindL env.kindOf binds m) → Heap.SameBut env.locals s.heap h' → Q ⟨⟩ { s with heap := h', toks := tk }) → wpAny M A (forIn binds ⟨⟩ f) Q E s
  | [], m, s, Q, n, _, h => by rw [List.forIn_nil]; exact wpAny_pure (h s.heap s.toks n (Heap.SameBut.refl ..))
  | (x, v) :: r, m, s, Q, n, hl, h => by
    rw [List.forIn_cons, hf]
    have hx : env.kindOf x = some .local := hl (x, v) List.mem_cons_self
    refine wpAny_bind (wpAny_bind (wpAny_storeName_local hx n (fun h1 n1 s1 => wpAny_pure ?_) (by rw [hk]; rfl)))
    refine bind_locals f hf hk r _ _ Q n1 (fun y hy => hl y (List.mem_cons_of_mem _ hy)) fun h2 tk n2 s2 => ?_
    refine h h2 tk ?_ ⟨s2.1.trans s1.1, fun b hb => (s2.2 b hb).trans (s1.2 b hb)⟩
    unfold bindL
    rw [if_pos hx]
    exact n2

/-- the frame of a closure's call -/
theorem newEnv_clo {M : Model} {A : Around} {E : Value → Shared → Prop} {s : Shared} {scope : Scope} {cl : List (Str × Addr)} {binds : List (Str × Value)} {qual : Str} {func : Option Addr} {code : Value} {Q : Env → Shared → Prop}
    (hk : scope.kind = .function) (hl : ∀ x ∈ binds, scope.names.lookup x.1 = some .local)
    (hQ : ∀ env, env = newEnv scope s.heap.objs.size mainGlobals (cellsFrom (s.heap.objs.size + 1) scope.names cl) qual func code none builtinsNs →
      ∀ h' tk, h'.Ns s.heap.objs.size (bindL env.kindOf binds fun _ => none) → (∀ b o, s.heap.get? b = some o → h'.get? b = some o) →
        (∀ n c, (n, c) ∈ cellsFrom (s.heap.objs.size + 1) scope.names [] → h'.IsCell c none ∧ s.heap.objs.size + 1 ≤ c) → (cellsFrom (s.heap.objs.size + 1) scope.names []).Pairwise (fun x y => x.2 ≠ y.2) → Q env { s with heap := h', toks := tk }) :
    wpAny M A (newFunctionEnv scope mainGlobals cl binds qual func code none builtinsNs) Q E s := by
  simp only [newFunctionEnv, Option.isSome_none, Bool.false_eq_true, if_false]
  refine wpAny_bind (wpAny_alloc ?_)
  refine wpAny_bind (wpAny_layCells _ (fun name kind cells => by cases hkc : kind == NameKind.cell <;> simp [hkc]) _ _ _ _ ?_)
  have ok := cellsFrom_ok scope.names (s.heap.push { cls := .type "frame", data := .dict #[] }) (s.heap.objs.size + 1) [] ⟨fun _ _ hm => (nomatch hm), List.Pairwise.nil⟩ (by rw [Heap.size_push]; exact Nat.le_refl _)
  rw [Heap.size_push] at ok
  rw [show ({ s with heap := s.heap.push { cls := .type "frame", data := .dict #[] } } : Shared).heap.objs.size = s.heap.objs.size + 1 from Heap.size_push ..]
  refine wpAny_bind (bind_locals (env := newEnv scope s.heap.objs.size mainGlobals (cellsFrom (s.heap.objs.size + 1) scope.names cl) qual func code none builtinsNs)
    _ (fun _ _ _ => rfl) hk binds (fun _ => none) _ _ ((Heap.Ns.new s.heap (.type "frame")).keeps (pushCells_keeps _ _)) hl fun h' tk n sb => wpAny_pure (hQ _ rfl h' tk n (fun b o e => ?_) (fun n c hm => ?_) ok.apart))
  · exact (sb.2 b (Nat.ne_of_lt (Heap.lt_size e))).trans (pushCells_keeps _ _ b o (Heap.get?_push_of_some _ e))
  · obtain ⟨z1, z2⟩ := ok.empty n c hm
    exact ⟨z1.sameBut sb (Nat.ne_of_gt z2), z2⟩

structure CloScope (N ps F : List Str) (sc : Scope) : Prop where
  kind : sc.kind = .function
  co : sc.isCoroutine = false
  gen : sc.isGenerator = false
  nd : N.Nodup
  pre : N.take ps.length = ps
  post : N.drop (N.length - F.length) = F
  fit : ps.length + F.length ≤ N.length
  par : ∀ x ∈ ps, sc.names.lookup x = some .local
  fre : ∀ y ∈ sc.names, y.2 = .free → y.1 ∈ F
  isf : ∀ x ∈ F, sc.names.lookup x = some .free
  noc : ∀ y ∈ sc.names, y.2 = .cell → y.1 ∉ F

/-- f is a closure of the def st, the names F kept at the values ws -/
structure Clo (H : Hp) (name qual : Str) (st : Stmt) (F : List Str) (f : Addr) (ws : List V) : Prop where
  ex : ∃ (cl : List (Str × Addr)) (doc pm ctv : Value) (c' : Addr) (oc : Obj) (vs : Array Value) (t : Tok),
    H f = some (.frz { cls := .type "function", data := .func (PySem.W.fnX name qual (defArgs st) (defBody st) (defScope st) cl .none .none doc pm none (.ref c') ctv) } (.own f)) ∧
    H c' = some (.frz oc (.own c')) ∧ oc.data = .fields vs ∧ vs[1]? = some (.str qual t) ∧
    (∀ x c, cl.lookup x = some c → x ∈ F) ∧ (∀ x y c, cl.lookup x = some c → cl.lookup y = some c → x = y) ∧
    ∀ (i : Nat) x v, F[i]? = some x → ws[i]? = some v → ∃ c o u, cl.lookup x = some c ∧ H c = some (.frz o (.own c)) ∧ o.data = .cell (some u) ∧ RelV v u
  len : ws.length = F.length
/-- known things stay known -/
theorem Clo.same {H H' : Hp} {name qual : Str} {st : Stmt} {F : List Str} {f : Addr} {ws : List V} (k : ∀ b o u, H b = some (.frz o u) → H' b = some (.frz o u)) (c : Clo H name qual st F f ws) : Clo H' name qual st F f ws := by
  obtain ⟨⟨cl, doc, pm, ctv, c', oc, vs, t, e1, e2, e3, e4, e5, e6, e7⟩, l⟩ := c
  exact ⟨⟨cl, doc, pm, ctv, c', oc, vs, t, k _ _ _ e1, k _ _ _ e2, e3, e4, e5, e6, fun i x v h1 h2 => let ⟨c, o, u, z1, z2, z3, z4⟩ := e7 i x v h1 h2; ⟨c, o, u, z1, k _ _ _ z2, z3, z4⟩⟩, l⟩

def startC (N : List Str) (vs ws : List V) : St := vs.map some ++ List.replicate (N.length - vs.length - ws.length) none ++ ws.map some

def cxC (CX : CXT) (P : Program) (w : World) (K : PySem.W.Frag) (mg : Str → Option Value) (base : Heap) (N F : List Str) (qual : Str) (scope : Scope) (f : Addr) (cd : Value) (cl : List (Str × Addr)) (A : Around) (outer : List Env) (s : Shared) (H : Hp) (E : XK) : Cx where
  prog := P
  w := w
  K := K
  mg := mg
  base := base
  A := A.deeper (PySem.W.envX qual scope s.heap.objs.size f cd (cellsFrom (s.heap.objs.size + 1) scope.names cl))
  N := N
  s₀ := s
  H₀ := H
  env := PySem.W.envX qual scope s.heap.objs.size f cd (cellsFrom (s.heap.objs.size + 1) scope.names cl)
  outer := outer
  stack := PySem.W.envX qual scope s.heap.objs.size f cd (cellsFrom (s.heap.objs.size + 1) scope.names cl) :: outer
  ex := []
  calm := true
  fn := fun x => !F.contains x
  pn := []
  xe := fun e s' => wpAny (model P w) (A.deeper (PySem.W.envX qual scope s.heap.objs.size f cd (cellsFrom (s.heap.objs.size + 1) scope.names cl))) (leaving (PySem.W.envX qual scope s.heap.objs.size f cd (cellsFrom (s.heap.objs.size + 1) scope.names cl)) e)
    (fun _ s'' => CX outer H s E e s'') (fun e' s'' => CX outer H s E e' s'') s'

theorem startC_get {N : List Str} {vs ws : List V} {i : Nat} {v : V} (hl : vs.length + ws.length ≤ N.length) (h : (startC N vs ws)[i]? = some (some v)) :
    (i < vs.length ∧ vs[i]? = some v) ∨ ∃ j, i = N.length - ws.length + j ∧ ws[j]? = some v := by
  unfold startC at h
  by_cases h1 : i < vs.length
  · rw [List.append_assoc, List.getElem?_append_left (by simpa using h1), List.getElem?_map] at h
    cases e : vs[i]? with
    | none => rw [e] at h; cases h
    | some a => rw [e] at h; cases h; exact .inl ⟨h1, rfl⟩
  · by_cases h2 : i < N.length - ws.length
    · rw [List.getElem?_append_left (by simp; omega), List.getElem?_append_right (by simpa using h1), List.getElem?_replicate] at h
      split at h <;> cases h
    · rw [List.getElem?_append_right (by simp; omega), List.getElem?_map] at h
      refine .inr ⟨i - (N.length - ws.length), by omega, ?_⟩
      have e : i - (List.map some vs ++ List.replicate (N.length - vs.length - ws.length) none).length = i - (N.length - ws.length) := by simp; omega
      rw [e] at h
      cases q : ws[i - (N.length - ws.length)]? with
      | none => rw [q] at h; cases h
      | some a => rw [q] at h; cases h; rfl

theorem inv_startC {CX : CXT} {P : Program} {w : World} {K : PySem.W.Frag} {mg : Str → Option Value} {base : Heap} {N ps F : List Str} {qual : Str} {scope : Scope} {f : Addr} {cd : Value} {cl : List (Str × Addr)} {A : Around} {outer : List Env} {s : Shared} {H : Hp} {E : XK} {us : List Value} {vs ws : List V} {h' : Heap} {tk : Nat}
    (S : CloScope N ps F scope) (hd : A.handled = none) (e0 : Env0 P w K mg base A outer s H) (hl : vs.length = ps.length) (r : Vals vs us) (wl : ws.length = F.length)
    (c1 : ∀ x c, cl.lookup x = some c → x ∈ F) (c2 : ∀ x y c, cl.lookup x = some c → cl.lookup y = some c → x = y)
    (c3 : ∀ (i : Nat) x v, F[i]? = some x → ws[i]? = some v → ∃ c o u, cl.lookup x = some c ∧ H c = some (.frz o (.own c)) ∧ o.data = .cell (some u) ∧ RelV v u)
    (n : h'.Ns s.heap.objs.size (bindL (PySem.W.envX qual scope s.heap.objs.size f cd (cellsFrom (s.heap.objs.size + 1) scope.names cl)).kindOf (ps.zip us) fun _ => none)) (hk : ∀ b o, s.heap.get? b = some o → h'.get? b = some o)
    (o1 : ∀ n c, (n, c) ∈ cellsFrom (s.heap.objs.size + 1) scope.names [] → h'.IsCell c none ∧ s.heap.objs.size + 1 ≤ c) (o2 : (cellsFrom (s.heap.objs.size + 1) scope.names []).Pairwise (fun x y => x.2 ≠ y.2)) :
    Inv (cxC CX P w K mg base N F qual scope f cd cl A outer s H E) [] (startC N vs ws) H { s with heap := h', toks := tk } := by
  have noA : ∀ b : Addr, b ∉ (cxC CX P w K mg base N F qual scope f cd cl A outer s H E).ex := fun b z => absurd (show b ∈ ([] : List Addr) from z) (by simp)
  have look : ∀ x c, (cellsFrom (s.heap.objs.size + 1) scope.names cl).lookup x = some c → (x, c) ∈ cellsFrom (s.heap.objs.size + 1) scope.names [] ∨ cl.lookup x = some c := fun x c e => by
    rw [cellsFrom_app, List.lookup_append] at e
    cases q : (cellsFrom (s.heap.objs.size + 1) scope.names []).lookup x with
    | none => rw [q] at e; exact .inr e
    | some d => rw [q] at e; cases e; exact .inl (PySem.mem_of_lookup q)
  have inF : ∀ x c, cl.lookup x = some c → ∃ o u, H c = some (.frz o (.own c)) ∧ o.data = .cell (some u) ∧ h'.get? c = some o ∧ c < s.heap.objs.size := fun x c e => by
    obtain ⟨i, hi, ei⟩ := List.mem_iff_getElem.mp (c1 x c e)
    have hw : i < ws.length := by omega
    obtain ⟨c', o, u, z1, z2, z3, _⟩ := c3 i x ws[i] (by rw [List.getElem?_eq_getElem hi, ei]) (List.getElem?_eq_getElem hw)
    rw [e] at z1; cases z1
    obtain ⟨q, _⟩ := e0.hok c _ z2
    exact ⟨o, u, z2, z3, hk _ _ q, Heap.lt_size q⟩
  have nofn : ∀ x, x ∈ F → (cxC CX P w K mg base N F qual scope f cd cl A outer s H E).fn x = false := fun x hx => by
    show (!F.contains x) = false
    rw [List.contains_iff_mem.mpr hx]; rfl
  refine ⟨⟨e0.mod, S.kind, rfl, rfl, Nat.le_refl _, fun y z c h1 h2 => ?_, fun y hy => ?_, fun y c hf h => ?_, fun _ => hd, Around.frames_deeper e0.frames, .inr ⟨rfl, rfl⟩, fun b z => absurd z (noA b), e0.bs, e0.bsz, fun b _ _ => noA b, fun b z => absurd z (noA b), e0.funs, e0.frf⟩,
    rfl, e0.bare, Un.kept hk, ⟨_, n, fun i y v h1 h2 h3 => ?_⟩, fun y c h => ?_, e0.hok.fresh (Nat.le_refl _), fun y c h => ?_, fun p hp => absurd (show p ∈ ([] : List (Addr × Obj)) from hp) (by simp), e0.hok.kept hk, ?_⟩
  · rcases look y c h1 with a | a <;> rcases look z c h2 with b | b
    · exact name_of_addr o2 a b
    · obtain ⟨_, _, _, _, _, lt⟩ := inF z c b
      exact absurd (Nat.lt_of_lt_of_le lt (Nat.le_trans (Nat.le_succ _) (o1 y c a).2)) (Nat.lt_irrefl _)
    · obtain ⟨_, _, _, _, _, lt⟩ := inF y c a
      exact absurd (Nat.lt_of_lt_of_le lt (Nat.le_trans (Nat.le_succ _) (o1 z c b).2)) (Nat.lt_irrefl _)
    · exact c2 y z c a b
  · have hy : scope.names.lookup y = some .cell ∨ scope.names.lookup y = some .free := hy
    show ∃ c, (cellsFrom (s.heap.objs.size + 1) scope.names cl).lookup y = some c
    rw [cellsFrom_app, List.lookup_append]
    rcases hy with hy | hy
    · obtain ⟨c, e⟩ := cell_has (n := s.heap.objs.size + 1) hy
      exact ⟨c, by rw [e]; rfl⟩
    · obtain ⟨i, hi, ei⟩ := List.mem_iff_getElem.mp (S.fre _ (PySem.mem_of_lookup hy) rfl)
      have hw : i < ws.length := by omega
      obtain ⟨c', _, _, z1, _⟩ := c3 i y ws[i] (by rw [List.getElem?_eq_getElem hi, ei]) (List.getElem?_eq_getElem hw)
      cases q : (cellsFrom (s.heap.objs.size + 1) scope.names []).lookup y with
      | none => exact ⟨c', by rw [z1]; rfl⟩
      | some d => exact ⟨d, rfl⟩
  · rcases look y c h with a | a
    · have := (o1 y c a).2
      show s.heap.objs.size ≤ c
      omega
    · rw [nofn y (c1 y c a)] at hf; cases hf
  · have hi : i < N.length := (List.getElem?_eq_some_iff.mp h1).1
    rcases startC_get (by have := S.fit; omega) h2 with ⟨hi, ha⟩ | ⟨j, rfl, ha⟩
    · obtain ⟨u, hu, rv⟩ := r.get ha
      have hp : ps[i]? = some y := by
        rw [← S.pre, List.getElem?_take_of_lt (by omega)]; exact h1
      have ndP : ps.Nodup := by rw [← S.pre]; exact S.nd.sublist (List.take_sublist _ _)
      have k := S.par y (List.mem_of_getElem? hp)
      exact ⟨u, rv, .inl ⟨k, bindL_get ndP hp hu k⟩⟩
    · have hF : F[j]? = some y := by
        rw [← S.post, List.getElem?_drop, ← wl]; exact h1
      obtain ⟨c, o, u, z1, z2, z3, z4⟩ := c3 j y v hF ha
      obtain ⟨q, _⟩ := e0.hok c _ z2
      refine ⟨u, z4, .inr ⟨.inr (S.isf y (List.mem_of_getElem? hF)), c, ?_, o, hk _ _ q, z3⟩⟩
      show (cellsFrom (s.heap.objs.size + 1) scope.names cl).lookup y = some c
      rw [cellsFrom_app, List.lookup_append]
      cases q : (cellsFrom (s.heap.objs.size + 1) scope.names []).lookup y with
      | none => rw [z1]; rfl
      | some d =>
        rcases cellsFrom_mem (PySem.mem_of_lookup q) with z | ⟨y', m1, rfl, m3⟩
        · exact absurd z (by simp)
        · exact absurd (List.mem_of_getElem? hF) (S.noc _ m1 m3)
  · rcases look y c h with a | a
    · exact ⟨_, (o1 y c a).1⟩
    · obtain ⟨o, u, _, z3, z, _⟩ := inF y c a
      exact ⟨_, o, z, z3⟩
  · rcases look y c h with a | a
    · exact .inl (e0.hok.fresh (by have := (o1 y c a).2; omega))
    · obtain ⟨o, u, z, _⟩ := inF y c a
      exact .inr ⟨nofn y (c1 y c a), o, _, z⟩
  · unfold startC
    show _ = N.length
    rw [List.length_append, List.length_append, List.length_map, List.length_map, List.length_replicate]
    have := S.fit
    omega

/-- a closure of the def st keeps the promise sp -/
structure CloOk (P : Program) (w : World) (K : PySem.W.Frag) (mg : Str → Option Value) (base : Heap) (CX : CXT) (k : Nat) (name qual : Str) (st : Stmt) (ps F : List Str) (sp : List V → Sp) : Prop where
  len : ∀ ws vs H Q E, sp ws vs H Q E → vs.length = ps.length
  run : ∀ (f : Addr) (ws : List V) (A : Around) (outer : List Env) (s : Shared) (H : Hp) (us : List Value) (vs : List V) (Q : VK) (E : XK), Room k A → Env0 P w K mg base A outer s H → Clo H name qual st F f ws → Vals vs us → sp ws vs H Q E →
    codeAny (model P w) A (.call (.ref f) ⟨us, []⟩) (CR CX outer P w H s Q E) s
theorem CloOk.mono {P : Program} {w : World} {K : PySem.W.Frag} {mg : Str → Option Value} {base : Heap} {CX : CXT} {j k : Nat} {name qual : Str} {st : Stmt} {ps F : List Str} {sp : List V → Sp} (C : CloOk P w K mg base CX j name qual st ps F sp) (h : j ≤ k) :
    CloOk P w K mg base CX k name qual st ps F sp := ⟨C.len, fun f ws A outer s H us vs Q E hr => C.run f ws A outer s H us vs Q E (hr.mono h)⟩

theorem clo_of {CX : CXT} {P : Program} {w : World} {K : PySem.W.Frag} {mg : Str → Option Value} {base : Heap} {k : Nat} {name qual : Str} {st : Stmt} {N ps F : List Str} {sp : List V → Sp} (S : CloScope N ps F (defScope st))
    (len : ∀ ws vs H Q E, sp ws vs H Q E → vs.length = ps.length)
    (hb : ∀ (cl : List (Str × Addr)) (doc pm ctv : Value) (c' : Addr) (us : List Value), us.length = ps.length → bindArgs (PySem.W.fnX name qual (defArgs st) (defBody st) (defScope st) cl .none .none doc pm none (.ref c') ctv) ⟨us, []⟩ = pure (ps.zip us))
    (hbody : ∀ (f : Addr) (cdv : Value) (cl : List (Str × Addr)) (A : Around) (outer : List Env) (s : Shared) (H : Hp) (ws vs : List V) (Q : VK) (E : XK),
      Room k (A.deeper (PySem.W.envX qual (defScope st) s.heap.objs.size f cdv (cellsFrom (s.heap.objs.size + 1) (defScope st).names cl))) → ws.length = F.length → sp ws vs H Q E →
      ∃ t, PSs (cxC CX P w K mg base N F qual (defScope st) f cdv cl A outer s H E).nox (defBody st) t ∧ t { nx := fun _ H' => Q .non H', rt := Q } (startC N vs ws) H) :
    CloOk P w K mg base CX (k + 1) name qual st ps F sp := by
  refine ⟨len, fun f ws A outer s H us vs Q E hr e0 c r hsp => ?_⟩
  have hl := len _ _ _ _ _ hsp
  obtain ⟨⟨cl, doc, pm, ctv, c', oc, cvs, t, e1, e2, e3, e4, e5, e6, e7⟩, wl⟩ := c
  have lim : s.heap.NoLimit := e0.mod.nolimit.keeps fun b o e => (e0.bs b o e).1
  have hul : us.length = ps.length := by rw [← r.length]; exact hl
  obtain ⟨g1, _⟩ := e0.hok f _ e1
  obtain ⟨g2, _⟩ := e0.hok c' _ e2
  refine codeAny_call_function hr.depth g1 rfl S.co S.gen rfl ⟨c', oc, cvs, t, rfl, g2, e3, e4⟩ ?_
  rw [hb cl doc pm ctv c' us hul]
  refine wpAny_pure ?_
  refine newEnv_clo S.kind (fun y hy => S.par y.1 (List.of_mem_zip hy).1) fun env he h' tk n hk o1 o2 => ?_
  subst he
  refine ⟨lim.keeps hk, codeAny_func ?_⟩
  obtain ⟨t, ht, hq⟩ := hbody f (.ref c') cl A outer s H ws vs Q E (hr.deeper _) wl hsp
  have I : Inv (cxC CX P w K mg base N F qual (defScope st) f (.ref c') cl A outer s H E) [] (startC N vs ws) H { s with heap := h', toks := tk } := inv_startC S hr.hd e0 hl r wl e5 e6 e7 n hk o1 o2
  refine wpAny_mono (ht.nox [] _ (startC N vs ws) H _ I hq) (fun fl s' hs => ?_) fun e s' hs => hs
  have fin : ∀ {σ' : St} {H' : Hp} {v : V} {u : Value}, Inv (cxC CX P w K mg base N F qual (defScope st) f (.ref c') cl A outer s H E) [] σ' H' s' → RelV v u → Q v H' → CE outer P w H s Q u s' :=
    fun {σ' H' v u} J rv q => ⟨v, H', J.os, J.bare, J.base, J.hok, rv, q⟩
  cases fl with
  | ret u =>
    obtain ⟨v, σ', H', J, rv, q⟩ := hs
    exact fin J rv q
  | next =>
    obtain ⟨σ', H', J, q⟩ := hs
    exact fin (v := V.non) (u := Value.none) J rfl q
  | brk =>
    obtain ⟨_, _, _, q⟩ := hs
    exact False.elim q
  | cont =>
    obtain ⟨_, _, _, q⟩ := hs
    exact False.elim q

/-- what was known is known -/
def Knows (H H' : Hp) : Prop := ∀ b o u, H b = some (.frz o u) → H' b = some (.frz o u)
theorem Knows.refl (H : Hp) : Knows H H := fun _ _ _ h => h
theorem Knows.trans {H H1 H2 : Hp} (a : Knows H H1) (b : Knows H1 H2) : Knows H H2 := fun c o u h => b c o u (a c o u h)
/-- g(..) where g is any name that holds a closure -/
def tCallC (name qual : Str) (st : Stmt) (F : List Str) (sp : List V → Sp) (E : XK) (tf : TE) (t : TA) : TE := fun σ H Q => tf σ H fun x H1 => ∃ f ws, x = .ref f ∧ Clo H1 name qual st F f ws ∧ t σ H1 fun vs H2 => Knows H1 H2 ∧ sp ws vs H2 Q E
theorem call_clo {X : Cx} {CX : CXT} {k : Nat} {name qual : Str} {st : Stmt} {ps F : List Str} {sp : List V → Sp} {E : XK} {pos : Pos} {e : Expr} {es : List Expr} {t : TA} {pins : List (Addr × Obj)} {σ : St} {H1 : Hp} {Q : VK} {f : Addr} {ws : List V} {s1 : Shared}
    (C : CloOk X.prog X.w X.K X.mg X.base CX k name qual st ps F sp) (hr : Room k X.A) (hx : Passes CX X E) (ha : PA X (e :: es) t) (I1 : Inv X pins σ H1 s1) (c : Clo H1 name qual st F f ws) (h1 : t σ H1 fun vs H2 => Knows H1 H2 ∧ sp ws vs H2 Q E)
    (he : starEach (e :: es) X.env = (false, eval e X.env) :: starEach es X.env) (hpl : (backTo pos (starEach es X.env)).any (·.1) = false) :
    wpAny (model X.prog X.w) X.A (callWith pos (.ref f) [] (backTo pos (starEach (e :: es) X.env)) []) (EP X pins σ Q) X.xe s1 := by
  obtain ⟨cl, doc, pm, ctv, c', oc, vs, tq, e1, _⟩ := id c.ex
  have one : ∀ {o : Obj} {h : Heap}, h.get? f = some o → PySem.W.Frag.In [(f, o)] h := fun {o h} z a o' q => by
    rw [List.lookup_cons] at q
    cases hb : a == f with
    | true => rw [hb] at q; cases q; rw [beq_iff_eq.mp hb]; exact z
    | false => rw [hb] at q; cases q
  obtain ⟨g1, _⟩ := I1.hok f _ e1
  refine PySem.W.callWith_K (h₀ := s1.heap) (one g1) (by simp [PySem.W.keepIn]) (thn (ha pos pins s1 σ H1 _ I1 h1) fun us s2 ⟨vs, H2, I2, r, kn, q⟩ => ?_) he hpl
  obtain ⟨g2, _⟩ := I2.hok f _ (kn _ _ _ e1)
  refine ⟨one g2, ?_⟩
  refine wpAny_call (codeAny_mono (C.run f ws X.A X.stack s2 H2 us vs Q E hr I2.env0 (c.same kn) r q) fun r s' hq => ?_)
  cases r with
  | error e => exact hx pins σ H2 s2 e s' I2 hq
  | ok fl =>
    cases fl with
    | ret u => exact I2.after hq
    | next => exact False.elim hq
    | brk => exact False.elim hq
    | cont => exact False.elim hq
theorem pe_callc {X : Cx} {CX : CXT} {k : Nat} {name qual : Str} {st : Stmt} {ps F : List Str} {sp : List V → Sp} {E : XK} {x : Str} {p pos : Pos} {e : Expr} {es : List Expr} {tf : TE} {t : TA} (C : CloOk X.prog X.w X.K X.mg X.base CX k name qual st ps F sp) (hr : Room k X.A)
    (hf : PE X (.Name x p) tf) (hx : Passes CX X E) (ha : PA X (e :: es) t) (he : starEach (e :: es) X.env = (false, eval e X.env) :: starEach es X.env := by rfl) (hpl : (backTo pos (starEach es X.env)).any (·.1) = false := by rfl) :
    PE X (.Call (.Name x p) (e :: es) [] pos) (tCallC name qual st F sp E tf t) := by
  intro pins s σ H Q I h
  refine wpAny_Call_Name_kw (thn (hf pins s σ H _ I h) fun fv s1 ⟨x, H1, I1, rx, f, ws, ex, c, h1⟩ => ?_)
  subst ex
  obtain rfl : fv = Value.ref f := rx
  exact call_clo C hr hx ha I1 c h1 he hpl
end L2

set_option Elab.async false
set_option linter.all false
set_option maxRecDepth 100000
namespace L2
open PySem PySem.Spec PyProof.Rows

/-! ### makers: a def that makes a closure and tells it -/
theorem closure_keys {sc : Scope} {env : Env} (h : ∀ y ∈ sc.names, y.2 = .free → ∃ c, env.cells.lookup y.1 = some c) :
    ∃ cl, closureFor sc env = pure cl ∧ ∀ x c, cl.lookup x = some c → ∃ y ∈ sc.names, y.1 = x ∧ y.2 = .free := by
  have go : ∀ (names : List (Str × NameKind)) (cs : List (Str × Addr)), (∀ y ∈ names, y.2 = .free → ∃ c, env.cells.lookup y.1 = some c) →
      ∃ cl, (forIn names cs fun (x : Str × NameKind) (r : List (Str × Addr)) => (if (x.2 == NameKind.free) = true then do let c ← cellOf env x.1; pure (ForInStep.yield ((x.1, c) :: r)) else pure (ForInStep.yield r) : Sem (ForInStep (List (Str × Addr))))) = pure cl ∧
        ∀ x c, cl.lookup x = some c → (∃ c', cs.lookup x = some c') ∨ ∃ y ∈ names, y.1 = x ∧ y.2 = .free := by
    intro names
    induction names with
    | nil => intro cs _; exact ⟨cs, rfl, fun x c e => .inl ⟨c, e⟩⟩
    | cons y r ih =>
      intro cs hn
      by_cases hy : y.2 = .free
      · obtain ⟨c, hc⟩ := hn y List.mem_cons_self hy
        obtain ⟨cl, e, h1⟩ := ih ((y.1, c) :: cs) (fun z hz => hn z (List.mem_cons_of_mem _ hz))
        refine ⟨cl, ?_, fun x c' e' => ?_⟩
        · rw [List.forIn_cons]
          have e1 : (y.2 == NameKind.free) = true := by rw [hy]; rfl
          have e2 : cellOf env y.1 = pure c := by unfold cellOf; rw [hc]
          rw [e1, e2]
          exact e
        · rcases h1 x c' e' with ⟨c2, z⟩ | ⟨z, m, q⟩
          · rw [List.lookup_cons] at z
            cases hb : x == y.1 with
            | true => exact .inr ⟨y, List.mem_cons_self, (beq_iff_eq.mp hb).symm, hy⟩
            | false => rw [hb] at z; exact .inl ⟨c2, z⟩
          · exact .inr ⟨z, List.mem_cons_of_mem _ m, q⟩
      · obtain ⟨cl, e, h1⟩ := ih cs (fun z hz => hn z (List.mem_cons_of_mem _ hz))
        refine ⟨cl, ?_, fun x c' e' => ?_⟩
        · rw [List.forIn_cons]
          have e1 : (y.2 == NameKind.free) = false := by simpa using hy
          rw [e1]
          exact e
        · rcases h1 x c' e' with z | ⟨z, m, q⟩
          · exact .inl z
          · exact .inr ⟨z, List.mem_cons_of_mem _ m, q⟩
  obtain ⟨cl, e, h1⟩ := go sc.names [] h
  refine ⟨cl, ?_, fun x c e => (h1 x c e).elim (fun ⟨_, z⟩ => by simp at z) id⟩
  have e2 : closureFor sc env = ((forIn sc.names [] fun (x : Str × NameKind) (r : List (Str × Addr)) => (if (x.2 == NameKind.free) = true then do let c ← cellOf env x.1; pure (ForInStep.yield ((x.1, c) :: r)) else pure (ForInStep.yield r) : Sem (ForInStep (List (Str × Addr))))) >>= fun s => pure s) := rfl
  rw [e2, e]
  rfl

/-- the table of a maker's code: empty, or it bears the code of the one def in it -/
def TabT (H : Hp) (P : Addr) (pos : Pos) (qual : Str) : Prop :=
  H P = some (.tbl #[]) ∨ ∃ c' oc vs t, H P = some (.tbl #[rawInt pos.line, rawInt pos.col, .ref c']) ∧ H c' = some (.frz oc (.own c')) ∧ oc.data = .fields vs ∧ vs[1]? = some (.str qual t)
theorem TabT.get {H : Hp} {P : Addr} {pos : Pos} {qual : Str} (t : TabT H P pos qual) : ∃ ps, H P = some (.tbl ps) := by
  rcases t with t | ⟨_, _, _, _, t, _⟩ <;> exact ⟨_, t⟩
theorem TabT.same {H H' : Hp} {P : Addr} {pos : Pos} {qual : Str} (k : Knows H H') (e : H' P = H P) (t : TabT H P pos qual) : TabT H' P pos qual := by
  rcases t with t | ⟨c', oc, vs, tk, t, z, q⟩
  · exact .inl (e.trans t)
  · exact .inr ⟨c', oc, vs, tk, e.trans t, k _ _ _ z, q⟩
/-- all but the table is as it was -/
def SameT (P : Addr) (H H' : Hp) : Prop := ∀ b o, b ≠ P → H b = some o → H' b = some o
theorem SameT.knows {P : Addr} {H H' : Hp} {pos : Pos} {qual : Str} (s : SameT P H H') (t : TabT H P pos qual) : Knows H H' := fun b o u h => s b _ (fun e => by obtain ⟨ps, z⟩ := t.get; rw [e, z] at h; cases h) h

/-- what a maker's def wants of the heap's fixed part -/
structure Tab (mg : Str → Option Value) (base : Heap) (c P : Addr) : Prop where
  code : PySem.W.CodeHd base c P
  blt : base.BuiltinsAt mg P
  ne : mainGlobals ≠ P

section
variable {P : Program} {w : World} {H H1 : Hp} {h h' : Heap} {T : Addr} {ps more : Array Value} {fs : List Addr}
/-- the table grew, new things are tracked -/
theorem grown (hT : H T = some (.tbl ps)) (ok : HOk P w H h) (a : SameT T H H1) (b : ∀ x, x ≠ T → H x = none → x < h.objs.size → H1 x = none) (c : ∀ x o, x ≠ T → h.get? x = some o → h'.get? x = some o)
    (d : H1 T = some (.tbl (ps ++ more))) (d2 : h'.get? T = some { cls := .none, data := .fields (ps ++ more) }) (e : ∀ x o, H x = none → H1 x = some o → ObjOk P w H1 h' x o) : Un fs [] H H1 h h' ∧ HOk P w H1 h' := by
  have neT : ∀ x, H x = none → x ≠ T := fun x n z => by rw [z, hT] at n; cases n
  have neO : ∀ x o, H x = some o → (∀ q, o ≠ .tbl q) → x ≠ T := fun x o n q z => by rw [z, hT] at n; cases n; exact q _ rfl
  refine ⟨⟨fun x o q n _ _ => c x o (neT x n) q, fun x o q n _ _ => ⟨o.slots, c x o (neT x n) q⟩, fun x o q n _ => b x (neT x n) n (Heap.lt_size q), fun x o q _ => ?_, fun x xs q => a x _ (neO x _ q fun _ => by simp) q, fun x o u q => a x _ (neO x _ q fun _ => by simp) q, fun x qs q => ?_⟩, fun x o q => ?_⟩
  · by_cases hx : x = T
    · subst hx; exact ⟨_, d2⟩
    · exact ⟨o, c x o hx q⟩
  · by_cases hx : x = T
    · subst hx; rw [hT] at q; cases q; exact ⟨more, d⟩
    · exact ⟨#[], by rw [a x _ hx q]; simp⟩
  · by_cases hx : x = T
    · subst hx
      rw [d] at q; cases q
      exact d2
    · cases hh : H x with
      | none => exact e x o hh q
      | some o' =>
        have z := a x o' hx hh
        rw [q] at z; cases z
        refine (ok x o hh).stay (fun y u hy r => c y u ?_ r) (fun y r => a y _ (neO y _ r fun _ => by simp) r) fun y xs r => a y _ (neO y _ r fun _ => by simp) r
        rcases hy with rfl | hy
        · exact hx
        · exact neO y _ hy fun _ => by simp
end

/-- a maker's body: what stands behind it at its end -/
def PM (X : Cx) (body : List Stmt) (t : TE) : Prop :=
  ∀ (s : Shared) (σ : St) (H : Hp) (Q : VK), Inv X [] σ H s → t σ H Q → wpAny (model X.prog X.w) X.A (execs body X.env)
    (fun fl s' => ∃ u v H', fl = .ret u ∧ s'.os = X.s₀.os ∧ AllBare s'.gens ∧ Un X.fs X.ex X.H₀ H' X.s₀.heap s'.heap ∧ HOk X.prog X.w H' s'.heap ∧ RelV v u ∧ Q v H') X.xe s
def mSeq (t : TS) (u : TE) : TE := fun σ H Q => t { nx := fun σ' H' => u σ' H' Q, rt := fun _ _ => False } σ H
theorem pm_cons {X : Cx} {st : Stmt} {rest : List Stmt} {t : TS} {u : TE} (h1 : PS X st t) (h2 : PM X rest u) : PM X (st :: rest) (mSeq t u) := by
  intro s σ H Q I h
  refine wpAny_execs_cons (thn (h1 [] s σ H _ I h) fun f s1 q => ?_)
  cases f with
  | next =>
    obtain ⟨σ', H', I', q⟩ := q
    exact h2 s1 σ' H' Q I' q
  | ret v => obtain ⟨_, _, _, _, _, q⟩ := q; exact False.elim q
  | brk => obtain ⟨_, _, _, q⟩ := q; exact False.elim q
  | cont => obtain ⟨_, _, _, q⟩ := q; exact False.elim q

/-- the reading of «def name(..): ..; return name»: F the names that it keeps, ix where they stand -/
def tMk (T : Addr) (name qual : Str) (st : Stmt) (pos : Pos) (F : List Str) (ix : List Nat) : TE := fun σ H Q => TabT H T pos qual ∧ ∃ ws, ws.length = F.length ∧ (∀ (j i : Nat), ix[j]? = some i → ∃ v, σ[i]? = some (some v) ∧ ws[j]? = some v) ∧
  ∀ f H', H f = none → SameT T H H' → TabT H' T pos qual → Clo H' name qual st F f ws → Q (.ref f) H'

theorem pm_def {X : Cx} {T c : Addr} {name qual : Str} {args : Arguments} {body : List Stmt} {scope : Scope} {pos p2 pos2 : Pos} {F : List Str} {ix : List Nat} {i : Nat} (Tb : Tab X.mg X.base c T) (hcd : X.env.code = .ref c) (hN : X.N.Nodup) (hi : X.N[i]? = some name) (hloc : X.env.scope.names.lookup name = some .local)
    (hfn : ∀ x, X.fn x = true) (hix : ∀ (j : Nat) x, F[j]? = some x → ∃ i', ix[j]? = some i' ∧ X.N[i']? = some x) (hni : ∀ i' ∈ ix, i' ≠ i) (hF : ∀ x ∈ F, X.env.scope.names.lookup x = some .cell)
    (hfr : ∀ y ∈ scope.names, y.2 = .free → y.1 ∈ F) (hfr2 : ∀ x ∈ F, scope.names.lookup x = some .free)
    (hdf : defaultsOf args X.env = ([], []) := by rfl) (han : annTrees args none X.env = [] := by rfl) (hq : qualnameIn X.env name name = qual := by rfl)
    (hdb : (name == ("__debug__" : Str)) = false := by decide) (hcdn : (name == ("__classdict__" : Str)) = false := by decide) :
    PM X [.FunctionDef name args body [] none [] scope none name pos, .Return (some (.Name name p2)) pos2] (tMk T name qual (.FunctionDef name args body [] none [] scope none name pos) pos F ix) := by
  intro s σ H Q I h
  obtain ⟨tab, ws, wl, hw, k⟩ := h
  have has : ∀ y ∈ scope.names, y.2 = .free → ∃ c, X.env.cells.lookup y.1 = some c := fun y hy hf => I.ok.has y.1 (.inl (hF _ (hfr y hy hf)))
  obtain ⟨cl, ecl, hcl, hfc⟩ := closure_some has
  obtain ⟨cl2, ecl2, hkey⟩ := closure_keys has
  have : cl = cl2 := by rw [ecl] at ecl2; injection ecl2
  subst this
  -- behind the def: the function at f, its code at c'
  have fin : ∀ (f c' : Addr) (oc : Obj) (cvs : Array Value) (tq : Tok) (doc pm ctv : Value) (H1 : Hp) (h1 : Heap) (tk : Nat), H f = none → Inv X [] σ H1 { s with heap := h1, toks := tk } → SameT T H H1 → TabT H1 T pos qual →
      H1 f = some (.frz { cls := .type "function", data := .func (PySem.W.fnX name qual args body scope cl .none .none doc pm none (.ref c') ctv) } (.own f)) → H1 c' = some (.frz oc (.own c')) → oc.data = .fields cvs → cvs[1]? = some (.str qual tq) →
      wpAny (model X.prog X.w) X.A (storeName X.env name (.ref f)) (fun _ s2 => wpAny (model X.prog X.w) X.A (execs [.Return (some (.Name name p2)) pos2] X.env)
        (fun fl s' => ∃ u v H', fl = .ret u ∧ s'.os = X.s₀.os ∧ AllBare s'.gens ∧ Un X.fs X.ex X.H₀ H' X.s₀.heap s'.heap ∧ HOk X.prog X.w H' s'.heap ∧ RelV v u ∧ Q v H') X.xe s2) X.xe { s with heap := h1, toks := tk } := by
    intro f c' oc cvs tq doc pm ctv H1 h1 tk fresh I1 sT tT ef ec' e3 e4
    refine store_ok (v := .ref f) (u := .ref f) I1 hN hi (.inl hloc) rfl (fun s2 I2 => ?_) (.inr hloc)
    refine wpAny_execs_cons (wpAny_Return_some (thn (pe_var (X := X) (pos := p2) hi (.inl hloc) hdb hcdn [] s2 _ H1 (fun v H' => v = .ref f ∧ H' = H1) I2 ⟨.ref f, List.getElem?_set_self (by rw [I1.len]; exact (List.getElem?_eq_some_iff.mp hi).1), rfl, rfl⟩) fun u s3 ⟨v, H', I3, rv, ev, eH⟩ => ?_))
    subst ev; subst eH
    obtain rfl : u = Value.ref f := rv
    -- the cells are let go: from now on they are known things
    have cnone : ∀ x c, X.env.cells.lookup x = some c → H' c = none := fun x c e => (I3.freeC x c e).elim id fun z => absurd ((hfn x).symm.trans z.1) (by decide)
    have cab : ∀ x c, X.env.cells.lookup x = some c → X.s₀.heap.objs.size ≤ c := fun x c e => I3.ok.cab x c (hfn x) e
    classical
    let H2 : Hp := fun b => if (∃ x ∈ F, X.env.cells.lookup x = some b) then (s3.heap.get? b).map (fun o => .frz o (.own b)) else H' b
    have old : ∀ b o, H' b = some o → H2 b = some o := fun b o e => by
      show (if _ then _ else _) = _
      rw [if_neg]
      · exact e
      · rintro ⟨x, _, z⟩; rw [cnone x b z] at e; cases e
    have oldn : ∀ b, b < X.s₀.heap.objs.size → H2 b = H' b := fun b lt => by
      show (if _ then _ else _) = _
      rw [if_neg]
      rintro ⟨x, _, z⟩; exact absurd (Nat.lt_of_lt_of_le lt (cab x b z)) (Nat.lt_irrefl _)
    refine ⟨.ref f, .ref f, H2, rfl, I3.os, I3.bare, ⟨I3.base.keep, I3.base.slot, fun b o q n hx => by rw [oldn b (Heap.lt_size q)]; exact I3.base.free b o q n hx, I3.base.there, fun b xs q => old _ _ (I3.base.tups b xs q), fun b o u q => old _ _ (I3.base.frzs b o u q), fun b ps q => let ⟨m, z⟩ := I3.base.tbls b ps q; ⟨m, old _ _ z⟩⟩, ?_, rfl, ?_⟩
    · intro b o q
      by_cases hb : ∃ x ∈ F, X.env.cells.lookup x = some b
      · have q' : (if (∃ x ∈ F, X.env.cells.lookup x = some b) then (s3.heap.get? b).map (fun o => HO.frz o (.own b)) else H' b) = some o := q
        rw [if_pos hb] at q'
        obtain ⟨ob, z, rfl⟩ := Option.map_eq_some_iff.mp q'
        exact ⟨z, ob, z⟩
      · have q' : (if (∃ x ∈ F, X.env.cells.lookup x = some b) then (s3.heap.get? b).map (fun o => HO.frz o (.own b)) else H' b) = some o := q
        rw [if_neg hb] at q'
        exact (I3.hok b o q').stay (fun _ _ _ r => r) (fun c r => old _ _ r) fun c xs r => old _ _ r
    · refine k f H2 fresh (fun b o hb e => old _ _ (sT b o hb e)) ?_ ⟨⟨cl, doc, pm, ctv, c', oc, cvs, tq, old _ _ ef, old _ _ ec', e3, e4, ?_, ?_, ?_⟩, wl⟩
      · rcases tT with z | ⟨c2, oc2, v2, t2, z, z2, r⟩
        · exact .inl (old _ _ z)
        · exact .inr ⟨c2, oc2, v2, t2, old _ _ z, old _ _ z2, r⟩
      · intro x c e
        obtain ⟨y, m, rfl, hy⟩ := hkey x c e
        exact hfr y m hy
      · intro x y c e1 e2
        exact I3.ok.inj x y c (hcl x c e1) (hcl y c e2)
      · intro j x v ej ewj
        obtain ⟨i', ei, eN⟩ := hix j x ej
        obtain ⟨v', es, ew⟩ := hw j i' ei
        rw [ewj] at ew; cases ew
        have xF : x ∈ F := List.mem_of_getElem? ej
        obtain ⟨m, hn, hl⟩ := I3.loc
        obtain ⟨u, ru, lo⟩ := hl i' x v eN (by rw [List.getElem?_set_ne (Ne.symm (hni i' (List.mem_of_getElem? ei)))]; exact es) (.inr (.inl (hF x xF)))
        rcases lo with ⟨z, _⟩ | ⟨_, c, ec, o, ho, hd⟩
        · have z' : X.env.scope.names.lookup x = some .local := z
          rw [hF x xF] at z'; cases z'
        · obtain ⟨c2, ec2⟩ := hfc _ (PySem.mem_of_lookup (hfr2 x xF)) rfl
          have := hcl x c2 ec2
          rw [ec] at this; cases this
          refine ⟨c, o, u, ec2, ?_, hd, ru⟩
          show (if (∃ x ∈ F, X.env.cells.lookup x = some c) then (s3.heap.get? c).map (fun o => HO.frz o (.own c)) else H' c) = _
          rw [if_pos ⟨x, xF, ec⟩, ho]; rfl
  have G := I.mod.glob.keeps I.bk
  have C := Tb.code.keeps I.bk
  have B := Tb.blt.keeps I.bk
  refine wpAny_execs_cons ?_
  rw [exec_def, hdf, han, hq]
  refine wpAny_bind (wpAny_standAt (wpAny_bind (wpAny_holding ?_)))
  refine wpAny_bind (wpAny_pure (wpAny_bind (wpAny_holding (wpAny_pure (wpAny_holding (wpAny_bind (wpAny_pure ?_)))))))
  rcases tab with tab | ⟨c', oc, cvs, tq, tab, ec', e3, e4⟩
  · have hP : s.heap.get? T = some (PySem.W.tabObj #[]) := I.hok T _ tab
    refine PySem.W.makeFunction_K ecl I.ok.glob G hcd C hP trivial rfl Tb.ne B fun c' ctv doc h' tk hx hge hlt hrec htb => ?_
    obtain ⟨c2, oc, cvs, tq, e2, g2, e3, e4⟩ := hrec
    cases e2
    refine wpAny_bind (wpAny_standAt (wpAny_bind (wpAny_bindName ?_)))
    let fo : Obj := { cls := .type "function", data := .func (PySem.W.fnX name qual args body scope cl .none .none doc ((X.mg "__name__").getD .none) none (.ref c') ctv) }
    let H1 : Hp := upd (upd (upd H T (.tbl (#[] ++ #[rawInt pos.line, rawInt pos.col, .ref c']))) c' (.frz oc (.own c'))) h'.objs.size (.frz fo (.own h'.objs.size))
    have Tlt : T < s.heap.objs.size := I.hok.lt tab
    have cT : c' ≠ T := Nat.ne_of_gt (Nat.lt_of_lt_of_le Tlt hge)
    have fc : h'.objs.size ≠ c' := Nat.ne_of_gt hlt
    have fT : h'.objs.size ≠ T := Nat.ne_of_gt (Nat.lt_trans (Nat.lt_of_lt_of_le Tlt hge) hlt)
    have n1 : H c' = none := I.hok.fresh hge
    have n2 : H h'.objs.size = none := I.hok.fresh (Nat.le_trans hge (Nat.le_of_lt hlt))
    have H1f : H1 h'.objs.size = some (.frz fo (.own h'.objs.size)) := upd_same
    have H1c : H1 c' = some (.frz oc (.own c')) := by show upd _ _ _ _ = _; rw [upd_ne (Ne.symm fc), upd_same]
    have H1T : H1 T = some (.tbl (#[] ++ #[rawInt pos.line, rawInt pos.col, .ref c'])) := by show upd _ _ _ _ = _; rw [upd_ne (Ne.symm fT), upd_ne (Ne.symm cT), upd_same]
    have H1o : ∀ b, b ≠ T → b ≠ c' → b ≠ h'.objs.size → H1 b = H b := fun b x1 x2 x3 => by show upd _ _ _ _ = _; rw [upd_ne x3, upd_ne x2, upd_ne x1]
    have sT : SameT T H H1 := fun b o hb e => by
      rw [H1o b hb (fun z => by rw [z, n1] at e; cases e) (fun z => by rw [z, n2] at e; cases e)]; exact e
    have gf : (h'.push fo).get? h'.objs.size = some fo := Heap.get?_push_size _ rfl
    have gr := grown (fs := X.fs) (P := X.prog) (w := X.w) (h' := h'.push fo) tab I.hok sT (fun b hb n lt => by rw [H1o b hb (Nat.ne_of_lt (Nat.lt_of_lt_of_le lt hge)) (Nat.ne_of_lt (Nat.lt_trans (Nat.lt_of_lt_of_le lt hge) hlt))]; exact n)
      (fun b o hb e => Heap.get?_push_of_some _ (hx b o hb e)) H1T (Heap.get?_push_of_some _ htb) (fun b o n e => by
        by_cases x3 : b = h'.objs.size
        · subst x3; rw [H1f] at e; cases e; exact ⟨gf, _, gf⟩
        · by_cases x2 : b = c'
          · subst x2; rw [H1c] at e; cases e; exact ⟨Heap.get?_push_of_some _ g2, _, Heap.get?_push_of_some _ g2⟩
          · have x1 : b ≠ T := fun z => by rw [z, tab] at n; cases n
            rw [H1o b x1 x2 x3, n] at e; cases e)
    exact thn (fin h'.objs.size c' oc cvs tq doc _ ctv H1 (h'.push fo) tk n2 (I.un gr.1 gr.2) sT (.inr ⟨c', oc, cvs, tq, by rw [H1T]; rfl, H1c, e3, e4⟩) H1f H1c e3 e4) fun _ s2 z => wpAny_pure z
  · have hP : s.heap.get? T = some (PySem.W.tabObj #[rawInt pos.line, rawInt pos.col, .ref c']) := I.hok T _ tab
    refine PySem.W.makeFunction_hit (cv := .ref c') ecl I.ok.glob G hcd C hP (by simp [TriplesOk, rawInt]) (by simp [codeAmong, rawInt]) B fun ctv doc h' tk hx hge => ?_
    refine wpAny_bind (wpAny_standAt (wpAny_bind (wpAny_bindName ?_)))
    let fo : Obj := { cls := .type "function", data := .func (PySem.W.fnX name qual args body scope cl .none .none doc ((X.mg "__name__").getD .none) none (.ref c') ctv) }
    let H1 : Hp := upd H h'.objs.size (.frz fo (.own h'.objs.size))
    have n2 : H h'.objs.size = none := I.hok.fresh hge
    have H1f : H1 h'.objs.size = some (.frz fo (.own h'.objs.size)) := upd_same
    have all : ∀ b o, H b = some o → H1 b = some o := fun b o e => by show upd _ _ _ _ = _; rw [upd_ne (ne_of_none e n2)]; exact e
    have gf : (h'.push fo).get? h'.objs.size = some fo := Heap.get?_push_size _ rfl
    have I1 : Inv X [] σ H1 { s with heap := h'.push fo, toks := tk } := I.laid (fun b o e => Heap.get?_push_of_some _ (hx b o e)) hge ⟨gf, _, gf⟩
    exact thn (fin h'.objs.size c' oc cvs tq doc _ ctv H1 (h'.push fo) tk n2 I1 (fun b o _ e => all b o e) (.inr ⟨c', oc, cvs, tq, all _ _ tab, all _ _ ec', e3, e4⟩) H1f (all _ _ ec') e3 e4) fun _ s2 z => wpAny_pure z

/-- THE RULE for a maker -/
theorem mk_of {CX : CXT} {P : Program} {w : World} {K : PySem.W.Frag} {mg : Str → Option Value} {base : Heap} {k : Nat} {f : Addr} {name qual : Str} {params : Arguments} {body : List Stmt} {scope : Scope} {dV kV doc pm cdv ct oc : Value} {an od : Option Addr}
    {osl : Array (Option Value)} {N ps : List Str} {sp : Sp} (lk : K.lookup f = some ⟨oc, od, .func (PySem.W.fnOf name qual params body scope dV kV doc pm an cdv ct), osl⟩) (hcd : PySem.W.codeIn K cdv qual = true) (S : FnScope N ps scope)
    (len : ∀ vs H Q E, sp vs H Q E → vs.length = ps.length)
    (hbody : ∀ (A : Around) (outer : List Env) (s : Shared) (H : Hp) (vs : List V) (Q : VK) (E : XK), Room k (A.deeper (envOfC qual scope s.heap.objs.size f cdv)) → sp vs H Q E →
      ∃ t, PM (cxOf CX P w K mg base N qual scope f cdv A outer s H E).nox body t ∧ t (start N vs) H Q) :
    FnOk P w K mg base CX (k + 1) f (PySem.W.fnOf name qual params body scope dV kV doc pm an cdv ct) ps sp := by
  refine ⟨len, fun A outer s H args us vs Q E hr e0 hb r hsp => ?_⟩
  have hl := len _ _ _ _ hsp
  have KX : K.In s.heap := e0.mod.kin.keeps fun b o e => (e0.bs b o e).1
  have lim : s.heap.NoLimit := e0.mod.nolimit.keeps fun b o e => (e0.bs b o e).1
  have hkind : ∀ y ∈ ps.zip us, scope.names.lookup y.1 = some .local ∨ (scope.names.lookup y.1 = some .cell ∧ ((cellsFrom (s.heap.objs.size + 1) scope.names []).lookup y.1).isSome = true) := fun ⟨n, v⟩ hy => by
    rcases S.par n (List.of_mem_zip hy).1 with q | q
    · exact .inl q
    · exact .inr ⟨q, PySem.W.cellsFrom_some _ _ _ (.inl q)⟩
  refine codeAny_call_function hr.depth (KX _ _ lk) rfl S.co S.gen rfl (PySem.W.codeRec_of KX hcd) (hb _ _ _ _ ?_)
  refine wpAny_newFunctionEnv_cells S.kind hkind fun env he s1 x => ?_
  subst he
  refine ⟨lim.keeps x.toInCall.keep, codeAny_func ?_⟩
  obtain ⟨t, ht, hq⟩ := hbody A outer s H vs Q E (hr.deeper _) hsp
  have I : Inv (cxOf CX P w K mg base N qual scope f cdv A outer s H E) [] (start N vs) H s1 := inv_start S hr.hd e0 hl r x
  refine wpAny_mono (ht s1 (start N vs) H Q (I.wish _) hq) (fun fl s' hs => ?_) fun e s' hs => False.elim hs
  obtain ⟨u, v, H', rfl, o1, o2, o3, o4, o5, o6⟩ := hs
  exact ⟨v, H', o1, o2, o3, o4, o5, o6⟩
theorem Fun.okM {CX : CXT} {P : Program} {w : World} {K : PySem.W.Frag} {mg : Str → Option Value} {base : Heap} {x qual : Str} {st : Stmt} {f c : Addr} {fd : FuncData} {N ps : List Str} {k : Nat} {sp : Sp} (F : Fun K x qual st f fd) (hc : fd.code = .ref c) (S : FnScope N ps (defScope st)) (len : ∀ vs H Q E, sp vs H Q E → vs.length = ps.length)
    (hbody : ∀ (A : Around) (outer : List Env) (s : Shared) (H : Hp) (vs : List V) (Q : VK) (E : XK), Room k (A.deeper (envOfC qual (defScope st) s.heap.objs.size f (.ref c))) → sp vs H Q E →
      ∃ t, PM (cxOf CX P w K mg base N qual (defScope st) f (.ref c) A outer s H E).nox (defBody st) t ∧ t (start N vs) H Q) : FnOk P w K mg base CX (k + 1) f fd ps sp := by
  obtain ⟨oc, od, kV, doc, pm, an, cdv, ct, osl, rfl, lk, hcd⟩ := F.ex
  obtain rfl : cdv = .ref c := hc
  exact mk_of lk hcd S len hbody
end L2

set_option Elab.async false
set_option linter.all false
set_option maxRecDepth 100000
namespace L2
open PySem PySem.Spec PyProof.Rows

theorem hix_of {F N : List Str} {ix : List Nat} (h : ix.map (fun i => N[i]?) = F.map some) : ∀ (j : Nat) x, F[j]? = some x → ∃ i', ix[j]? = some i' ∧ N[i']? = some x := fun j x e => by
  have e2 : (F.map some)[j]? = some (some x) := by rw [List.getElem?_map, e]; rfl
  rw [← h, List.getElem?_map] at e2
  cases q : ix[j]? with
  | none => rw [q] at e2; cases e2
  | some i => rw [q] at e2; exact ⟨i, rfl, by simpa using e2⟩
/-- the j-th statement of a def's body -/
def inDef (s : Stmt) (j : Nat) : Stmt := (defBody s).getD j (.Pass ⟨0, 0, 0, 0⟩)

def posOf (s : Stmt) : Pos := match s with
  | .FunctionDef _ _ _ _ _ _ _ _ _ p => p
  | _ => ⟨0, 0, 0, 0⟩
/-- pm_def, the def by its place in the text -/
theorem pm_defS {X : Cx} {T c : Addr} {name qual : Str} (st : Stmt) {args : Arguments} {body : List Stmt} {scope : Scope} {pos p2 pos2 : Pos} {F : List Str} {ix : List Nat} {i : Nat} (hst : st = .FunctionDef name args body [] none [] scope none name pos) (Tb : Tab X.mg X.base c T) (hcd : X.env.code = .ref c) (hN : X.N.Nodup) (hi : X.N[i]? = some name) (hloc : X.env.scope.names.lookup name = some .local)
    (hfn : ∀ x, X.fn x = true) (hix : ∀ (j : Nat) x, F[j]? = some x → ∃ i', ix[j]? = some i' ∧ X.N[i']? = some x) (hni : ∀ i' ∈ ix, i' ≠ i) (hF : ∀ x ∈ F, X.env.scope.names.lookup x = some .cell)
    (hfr : ∀ y ∈ (defScope st).names, y.2 = .free → y.1 ∈ F) (hfr2 : ∀ x ∈ F, (defScope st).names.lookup x = some .free)
    (hdf : defaultsOf args X.env = ([], []) := by rfl) (han : annTrees args none X.env = [] := by rfl) (hq : qualnameIn X.env name name = qual := by rfl)
    (hdb : (name == ("__debug__" : Str)) = false := by decide) (hcdn : (name == ("__classdict__" : Str)) = false := by decide) :
    PM X [st, .Return (some (.Name name p2)) pos2] (tMk T name qual st (posOf st) F ix) := by
  subst hst
  exact pm_def Tb hcd hN hi hloc hfn hix hni hF hfr hfr2 hdf han hq hdb hcdn

/-- THE HEAD, where the text has makers: their tables are tracked too -/
theorem law_callT {P : Program} {w : World} {K : PySem.W.Frag} {mg mb : Str → Option Value} {CX : CXT} {k : Nat} {fa a : Addr} {fd : FuncData} {x : Str} {sp : Sp} {s₁ : Shared} {vs : List Value} {ns : List Int} {tabs : List (Addr × Addr)}
    (KX : K.In s₁.heap) (hns : s₁.heap.Ns mainGlobals mg) (hb : s₁.heap.Ns builtinsNs mb) (hbb : ∀ x : Str, x ≠ "__name__" → mb x = bootBuiltins x) (hlim : s₁.heap.NoLimit) (hg : s₁.gens = #[])
    (hbm : ∃ bm ob, mg "__builtins__" = some (.ref bm) ∧ bm ≠ builtinsNs ∧ s₁.heap.get? bm = some ob ∧ ob.cls = .type "module" ∧ ob.dict = some builtinsNs ∧ ob.data = .plain)
    (hT : PySem.W.TabsAt tabs s₁.heap) (hTK : ∀ q ∈ tabs, K.lookup q.2 = none)
    (ha : s₁.heap.get? a = some { cls := .type "list", data := .seq vs.toArray }) (hi : IntsAre vs ns) (hl : ns.length ≤ sizeLine) (hr : Room k callerA)
    (F : ∀ base : Heap, K.In base → base.Ns mainGlobals mg → (∀ q ∈ tabs, Tab mg base q.1 q.2) → FnOk P w K mg base CX k fa fd [x] sp) (hbind : ∀ (s : Shared) (u : Value), BindsTo s fd ⟨[u], []⟩ [(x, u)])
    (hsp : ∀ H : Hp, (∀ q ∈ tabs, H q.2 = some (.tbl #[])) → SqL K H a (ns.map V.int) → sp [.ref a] H (fun v _ => v = .bl true) fun _ _ _ => False)
    (hCX : ∀ H e s', CX [] H s₁ (fun _ _ _ => False) e s' → False) :
    codeAny (model P w) callerA (.call (.ref fa) ⟨[.ref a], []⟩) (fun r s' => r = .ok (.ret (.bool true)) ∧ OldK s₁.heap s'.heap ∧ s'.os = s₁.os ∧ AllBare s'.gens) s₁ := by
  have rv := vals_ints hi
  have lenV := hi.length
  have aT : a ∉ tabs.map (·.2) := fun m => by
    obtain ⟨q, hq, e⟩ := List.mem_map.mp m
    have := (hT q hq).2
    rw [e, ha] at this; cases this
  have core : ∀ H : Hp, (∀ b, H b = none ∨ (∃ o xs, H b = some (.frz o (.lst xs))) ∨ (b ∈ tabs.map (·.2) ∧ H b = some (.tbl #[]))) → (∀ q ∈ tabs, H q.2 = some (.tbl #[])) → SqL K H a (ns.map V.int) → HOk P w H s₁.heap → (∀ b, H b ≠ none → b = a ∨ b ∈ tabs.map (·.2)) → (H a ≠ none → K.lookup a = none) →
      codeAny (model P w) callerA (.call (.ref fa) ⟨[.ref a], []⟩) (fun r s' => r = .ok (.ret (.bool true)) ∧ OldK s₁.heap s'.heap ∧ s'.os = s₁.os ∧ AllBare s'.gens) s₁ := by
    intro H hO hHT hS hok hA hK
    have base_of : ∀ {b : Addr} {o : Obj}, s₁.heap.get? b = some o → H b = none → (hidT s₁.heap H).get? b = some o := fun e n => hidT_get e n
    -- what is tracked is a list or a table
    have trk : ∀ {b : Addr} {o : Obj}, s₁.heap.get? b = some o → H b ≠ none → o.cls = .type "list" ∨ o = PySem.W.tabObj #[] := fun {b o} e n => by
      rcases hA b n with z | z
      · subst z; rw [ha] at e; cases e; exact .inl rfl
      · obtain ⟨q, hq, rfl⟩ := List.mem_map.mp z
        have := (hT q hq).2
        rw [e] at this; cases this; exact .inr rfl
    have noA : ∀ {b : Addr} {o : Obj}, s₁.heap.get? b = some o → o.cls ≠ .type "list" → (∀ q, o.data ≠ .fields q) → H b = none := fun {b o} e d1 d2 => by
      cases q : H b with
      | none => rfl
      | some u =>
        rcases trk e (by rw [q]; simp) with z | z
        · exact absurd z d1
        · rw [z] at d2; exact absurd rfl (d2 #[])
    have noD : ∀ {b : Addr} {o : Obj} {es : Array DictEntry} {ep : Nat}, s₁.heap.get? b = some o → o.data = .dict es ep → H b = none := fun {b o es ep} e d => by
      cases q : H b with
      | none => rfl
      | some u =>
        rcases hA b (by rw [q]; simp) with z | z
        · subst z; rw [ha] at e; cases e
          have d' : Data.seq vs.toArray _ = Data.dict es ep := d
          cases d'
        · obtain ⟨r, hr', rfl⟩ := List.mem_map.mp z
          have := (hT r hr').2
          rw [e] at this; cases this
          have d' : Data.fields #[] = Data.dict es ep := d
          cases d'
    have nsK : ∀ {b : Addr} {m : Str → Option Value}, s₁.heap.Ns b m → (hidT s₁.heap H).Ns b m := fun {b m} ⟨o, es, ep, e, d, r⟩ => ⟨o, es, ep, base_of e (noD e d), d, r⟩
    have hKb : K.In (hidT s₁.heap H) := fun b o e => base_of (KX b o e) (by
      cases q : H b with
      | none => rfl
      | some u =>
        rcases hA b (by rw [q]; simp) with e' | z
        · subst e'
          rw [hK (by rw [q]; simp)] at e; cases e
        · obtain ⟨r, hr', rfl⟩ := List.mem_map.mp z
          rw [hTK r hr'] at e; cases e)
    have hM : Mod K mg (hidT s₁.heap H) := ⟨hKb, nsK hns, ⟨mb, nsK hb, hbb⟩, let ⟨mc, h1, h2⟩ := hlim; ⟨mc, nsK h1, h2⟩⟩
    have hTb : ∀ q ∈ tabs, Tab mg (hidT s₁.heap H) q.1 q.2 := fun q hq => by
      obtain ⟨⟨o, ws, file, tf, flags, tg, inF, text, tt, e1, r1, r2, r3⟩, e2⟩ := hT q hq
      have n1 : H q.1 = none := by
        cases z : H q.1 with
        | none => rfl
        | some u =>
          rcases trk e1 (by rw [z]; simp) with z | z
          · rw [r1] at z; exact absurd z (by simp)
          · rw [z] at r1; exact absurd r1 (by simp [PySem.W.tabObj])
      obtain ⟨bm, ob, b1, b2, b3, b4, b5, b6⟩ := hbm
      have n2 : H bm = none := noA b3 (by rw [b4]; decide) (fun z => by rw [b6]; simp)
      refine ⟨⟨o, ws, file, tf, flags, tg, inF, text, tt, base_of e1 n1, r1, r2, r3⟩, ⟨bm, ob, b1, b2, fun z => ?_, fun z => ?_, base_of b3 n2, b4, b5, b6⟩, fun z => ?_⟩
      · obtain ⟨og, es, ep, g1, g2, _⟩ := hns
        rw [← z, b3] at g1; cases g1; rw [b6] at g2; cases g2
      · rw [z, e2] at b3; cases b3; cases b4
      · obtain ⟨og, es, ep, g1, g2, _⟩ := hns
        rw [z, e2] at g1; cases g1; cases g2
    have e0 : Env0 P w K mg (hidT s₁.heap H) callerA [] s₁ H := ⟨rfl, hM, fun b o e => of_hidT e, Nat.le_of_eq (hidT_size _ _), trivial, fun b hb => absurd (show b ∈ ([] : List Addr) from hb) (by simp), hok, .of_eq hg⟩
    refine codeAny_mono ((F _ hKb (nsK hns) hTb).run callerA [] s₁ H ⟨[.ref a], []⟩ [.ref a] [.ref a] _ _ hr e0 (hbind s₁ (.ref a)) (.cons rfl .nil) (hsp H hHT hS)) fun r s' h => ?_
    cases r with
    | error e => exact (hCX H e s' h).elim
    | ok fl =>
      cases fl with
      | next => exact False.elim h
      | brk => exact False.elim h
      | cont => exact False.elim h
      | ret u =>
        obtain ⟨v, H', os, bare, un, hok', r', q⟩ := h
        have q' : v = .bl true := q
        subst q'
        obtain rfl : u = Value.bool true := r'
        have kept : ∀ b o, s₁.heap.get? b = some o → s'.heap.get? b = some o ∨ (isCodeTable s₁.heap b ∧ o = PySem.W.tabObj #[] ∧ ∃ ps, s'.heap.get? b = some (PySem.W.tabObj ps)) := fun b o e => by
          cases q : H b with
          | none => exact .inl (un.keep b o e q (by intro z; exact absurd (show b ∈ ([] : List Addr) from z) (by simp)) (by simp))
          | some u =>
            rcases hO b with z | ⟨ob, xs, z⟩ | ⟨m, z⟩
            · rw [q] at z; cases z
            · have z2 := un.frzs b ob _ z
              obtain ⟨e1, _⟩ := hok b _ z
              obtain ⟨e2, _⟩ := hok' b _ z2
              rw [e] at e1; cases e1
              exact .inl e2
            · obtain ⟨r, hr', rfl⟩ := List.mem_map.mp m
              obtain ⟨more, z2⟩ := un.tbls _ _ z
              have e2 : s'.heap.get? r.2 = some (PySem.W.tabObj (#[] ++ more)) := hok' _ _ z2
              have e3 := (hT r hr').2
              rw [e] at e3
              exact .inr ⟨((hT r hr').1.tab (hT r hr').2).isCodeTable, Option.some.inj e3, _, e2⟩
        refine ⟨rfl, ⟨fun b o e => ?_, fun b o e => ?_⟩, os, bare⟩
        · rcases kept b o e with z | ⟨t, rfl, ps, hP⟩
          · exact .inl z
          · exact .inr (.inl ⟨t, rfl, #[], ps, rfl, by rw [Array.empty_append]; exact hP⟩)
        · rcases kept b o e with z | ⟨t, rfl, ps, hP⟩
          · exact ⟨o, z⟩
          · exact ⟨_, hP⟩
  have tabOk : ∀ q ∈ tabs, s₁.heap.get? q.2 = some { cls := .none, data := .fields #[] } := fun q hq => (hT q hq).2
  classical
  cases hk : K.lookup a with
  | some o =>
    have e := KX a o hk
    rw [ha] at e
    cases e
    refine core (fun b => if b ∈ tabs.map (·.2) then some (.tbl #[]) else none) (fun b => ?_) (fun q hq => if_pos (List.mem_map_of_mem hq)) (.inr ⟨_, vs.toArray, _, hk, rfl, rfl, rfl, by rw [List.size_toArray, lenV]; exact hl, by simpa using rv⟩) (fun b u z => ?_) (fun b z => ?_) fun z => absurd (if_neg aT) z
    · by_cases hb : b ∈ tabs.map (·.2)
      · exact .inr (.inr ⟨hb, if_pos hb⟩)
      · exact .inl (if_neg hb)
    · by_cases hb : b ∈ tabs.map (·.2)
      · have z' := (if_pos hb).symm.trans z
        cases z'
        obtain ⟨q, hq, rfl⟩ := List.mem_map.mp hb
        exact tabOk q hq
      · have z' := (if_neg hb).symm.trans z
        cases z'
    · by_cases hb : b ∈ tabs.map (·.2)
      · exact .inr hb
      · exact absurd (if_neg hb) z
  | none =>
    refine core (fun b => if b = a then some (.frz { cls := .type "list", data := .seq vs.toArray } (.lst (ns.map V.int))) else if b ∈ tabs.map (·.2) then some (.tbl #[]) else none) (fun b => ?_) (fun q hq => ?_) (.inl (.inr ⟨{ cls := .type "list", data := .seq vs.toArray }, if_pos rfl⟩)) (fun b u z => ?_) (fun b z => ?_) fun _ => hk
    · by_cases hb : b = a
      · exact .inr (.inl ⟨_, _, if_pos hb⟩)
      · by_cases hb2 : b ∈ tabs.map (·.2)
        · exact .inr (.inr ⟨hb2, by rw [if_neg hb, if_pos hb2]⟩)
        · exact .inl (by rw [if_neg hb, if_neg hb2])
    · show (if q.2 = a then _ else _) = _
      rw [if_neg (fun z : q.2 = a => aT (by rw [← z]; exact List.mem_map_of_mem hq)), if_pos (List.mem_map_of_mem hq)]
    · by_cases hb : b = a
      · have z' := (if_pos hb).symm.trans z
        cases z'
        subst hb
        exact ⟨ha, by rw [List.length_map]; exact hl, vs, _, rv, ha⟩
      · have z' := (if_neg hb).symm.trans z
        by_cases hb2 : b ∈ tabs.map (·.2)
        · have z2 := (if_pos hb2).symm.trans z'
          cases z2
          obtain ⟨q, hq, rfl⟩ := List.mem_map.mp hb2
          exact tabOk q hq
        · have z2 := (if_neg hb2).symm.trans z'
          cases z2
    · by_cases hb : b = a
      · exact .inl hb
      · by_cases hb2 : b ∈ tabs.map (·.2)
        · exact .inr hb2
        · exact absurd (by rw [if_neg hb, if_neg hb2]) z

/-- the goal that k_head leaves, where the text has makers: their tables stand at ts -/
theorem walk_ofT {l : PySem.W.OpenLaw} {n k : Nat} {q : Program} {loose : List Str} {XP : (Str → Option Value) → Heap → Prop} {YP : World → Heap → Prop} {d : DefRec} {K : Params → PySem.W.Frag} {CX : World → CXT} {sp : World → Sp} {x : Str} (ts : List Addr)
    (hn : l.most = some n) (hn2 : n ≤ sizeLine) (hdf : d.params.defaults = []) (hr : Room k callerA)
    (hY : ∀ (w : World) (h : Heap), YP w h → (K w.params).In h) (hT : ∀ (w : World) (h : Heap), YP w h → ∀ P ∈ ts, h.get? P = some (PySem.W.tabObj #[]))
    (F : ∀ (w : World) (mg : Str → Option Value) (fa : Addr) (h : Heap), (K w.params).In h → h.Ns mainGlobals mg → mg d.name = some (.ref fa) →
      ∃ (fd : FuncData) (tabs : List (Addr × Addr)), (∀ q ∈ tabs, PySem.W.codeHdIn (K w.params) q.1 q.2 = true ∧ (K w.params).lookup q.2 = none ∧ q.2 ∈ ts) ∧ (∀ P ∈ ts, P ∈ tabs.map (·.2)) ∧ (∀ (s : Shared) (u : Value), BindsTo s fd ⟨[u], []⟩ [(x, u)]) ∧
        ∀ base : Heap, (K w.params).In base → base.Ns mainGlobals mg → (∀ q ∈ tabs, Tab mg base q.1 q.2) → FnOk l.prog w (K w.params) mg base (CX w) k fa fd [x] (sp w))
    (hsp : ∀ (w : World) (H : Hp) (a : Addr) (ns : List Int), ns.length ≤ n → (∀ P ∈ ts, H P = some (.tbl #[])) → SqL (K w.params) H a (ns.map V.int) → sp w [.ref a] H (fun v _ => v = .bl true) fun _ _ _ => False)
    (hCX : ∀ (w : World) (H : Hp) (s : Shared) (e : Value) (s' : Shared), CX w [] H s (fun _ _ _ => False) e s' → False) :
    PySem.W.WalkO q loose XP YP l.row.toRowW d [] (fun f vs => PySem.call f vs) := by
  refine Att.attach_call hn hdf fun w s₀ s₁ mg mb fa o pm cd doc a vs ns G Y ho hd hcd hmg hobj hints hlen hg => ?_
  have KX := hY w _ Y
  obtain ⟨fd, tabs, hTK, hall, hb, hF⟩ := F w mg fa _ KX G.T.g hmg
  have hTs : PySem.W.TabsAt tabs s₁.heap := fun q hq => ⟨PySem.W.codeHd_of_K KX (hTK q hq).1, hT w _ Y _ (hTK q hq).2.2⟩
  exact law_callT (tabs := tabs) KX G.T.g G.T.b G.T.builtins G.T.nolimit hg G.T.bmain hTs (fun q hq => (hTK q hq).2.1) hobj hints (Nat.le_trans hlen hn2) hr hF hb
    (fun H hH hS => hsp w H a ns hlen (fun P hP => by
      obtain ⟨q, hq, rfl⟩ := List.mem_map.mp (hall P hP)
      exact hH q hq) hS) fun H e s' => hCX w H s₁ e s'
end L2

set_option Elab.async false
set_option linter.all false
set_option maxRecDepth 100000
namespace L2
open PySem PySem.Spec PyProof.Rows

/-! ### texts -/
abbrev sV (xs : List Str) : List V := xs.map V.str
theorem sV_vals : ∀ {xs : List Str} {us : List Value}, Vals (sV xs) us → ∃ l : List (Str × Tok), us = strValues l ∧ l.map (·.1) = xs
  | [], _, .nil => ⟨[], rfl, rfl⟩
  | x :: xs, _, .cons r t => by
    obtain ⟨tok, rfl⟩ := r
    obtain ⟨l, rfl, e⟩ := sV_vals t
    exact ⟨(x, tok) :: l, rfl, by simp [e]⟩
theorem vals_sV : ∀ {xs : List Str} {l : List (Str × Tok)}, l.map (·.1) = xs → Vals (sV xs) (strValues l)
  | _, [], rfl => .nil
  | _, p :: l, rfl => .cons ⟨p.2, rfl⟩ (vals_sV rfl)

section
variable {X : Cx} {K : PySem.W.Frag}
def rStrI : List V → Hp → VK → Prop := fun xs H Q => ∃ i : Int, xs = [.int i] ∧ i.natAbs.log2 < 1920 ∧ Q (.str (Str.ofString (toString i))) H
theorem call_strI : CallR X (.type "str") rStrI := by
  intro pins s σ H xs us Q I r h
  obtain ⟨i, rfl, hi, q⟩ := h
  obtain ⟨u, rfl, t, rfl⟩ := vals1 r
  exact PySem.P.str_of_int hi ⟨.str _, H, I.tok _, ⟨_, rfl⟩, q⟩
def rIntS : List V → Hp → VK → Prop := fun xs H Q => ∃ (x : Str) (n : Int), xs = [.str x] ∧ PySem.intText? x = some n ∧ x.length ≤ 640 ∧ Q (.int n) H
theorem call_intS : CallR X (.type "int") rIntS := by
  intro pins s σ H xs us Q I r h
  obtain ⟨x, n, rfl, hn, hl, q⟩ := h
  obtain ⟨u, rfl, t, rfl⟩ := vals1 r
  exact PySem.W.KIN.call_text hn hl ⟨.int n, H, I.tok _, ⟨_, rfl⟩, q⟩
def rJoin (K : PySem.W.Frag) : V → List V → Hp → VK → Prop := fun x vs H Q => ∃ (sep : Str) (p : Addr) (xs : List Str), x = .str sep ∧ vs = [.ref p] ∧ SqL K H p (sV xs) ∧ JoinOk sep xs = true ∧ Q (.str (Txt.join sep xs)) H
theorem mt_join (hK : X.K = K := by rfl) : MtR X "str.join" (rJoin K) := by
  subst hK
  intro pins s σ H x vs v us Q I rx rv h
  obtain ⟨sep, p, xs, rfl, rfl, hq, ok, q⟩ := h
  obtain ⟨t, rfl⟩ := rx
  obtain ⟨u, rfl, rp⟩ := vals1 rv
  cases rp
  obtain ⟨its, r, pl, hz⟩ := I.list hq
  obtain ⟨l, rfl, e⟩ := sV_vals r
  exact SC.join pl.isList e ok fun t' k => ⟨.str _, H, I.tok _, ⟨_, rfl⟩, q⟩
theorem split_at {prog : Program} {w : World} {A : Around} {E : Value → Shared → Prop} {s : Shared} {x y : Str} {t u : Tok} {Q : Value → Shared → Prop} (hy : (y.length == 0) = false) (hz : x.length ≤ 10000)
    (hq : ∀ l tk, l.map (·.1) = Txt.split x y → Q (.ref s.heap.objs.size) { s with heap := s.heap.push { cls := .type "list", data := .seq (strValues l).toArray }, toks := tk }) :
    wpAny (model prog w) A (call (.builtin "str.split") [.str x t, .str y u]) Q E s := by
  have hx : x.length ≤ sizeLine := Nat.le_trans hz (by decide)
  have few2 : (Builtin.Str.partsBetween x (Builtin.Str.occurrences x y 0 x.length (x.length + 1)) y.length).length ≤ sizeLine := by
    unfold Builtin.Str.partsBetween
    rw [List.length_map, List.length_zip, List.length_cons, List.length_map, List.length_append, List.length_singleton, Nat.min_self]
    have := StrLaws.occ_length_le x y 0 x.length (x.length + 1)
    exact Nat.le_trans (show _ ≤ 10002 by omega) (by decide)
  cases h1 : (decide (x.length < y.length) || decide (Builtin.Str.strKind x < Builtin.Str.strKind y))
  · cases hf : (Builtin.Str.occurrences x y 0 x.length (x.length + 1)).isEmpty
    · refine call_meets F.slot_str_split (typeIs_str _ _ _) F.entry_str_split (F.args_str_split_2 _ _) (meets_str_split_sep x y t u h1 hy hf hx few2) ?_
      show wants Q E _ { s with toks := _, heap := s.heap.push { cls := .type "list", data := .seq (strsFrom s.toks (Builtin.Str.partsBetween x (Builtin.Str.occurrences x y 0 x.length (x.length + 1)) y.length)).toArray } }
      rw [strsFrom_eq]
      exact hq (numbered s.toks _) _ ((numbered_texts _ _).trans ((if_neg (ne_true_of_eq_false h1)).trans (if_neg (ne_true_of_eq_false hf))).symm)
    · exact call_meets F.slot_str_split (typeIs_str _ _ _) F.entry_str_split (F.args_str_split_2 _ _) (meets_str_split_not_found x y t u h1 hy hf)
        (hq [(x, t)] s.toks ((if_neg (ne_true_of_eq_false h1)).trans (if_pos hf)).symm)
  · exact call_meets F.slot_str_split (typeIs_str _ _ _) F.entry_str_split (F.args_str_split_2 _ _) (meets_str_split_cannot_occur x y t u h1)
      (hq [(x, t)] s.toks (if_pos h1).symm)
def rSplit : V → List V → Hp → VK → Prop := fun x vs H Q => ∃ z y : Str, x = .str z ∧ vs = [.str y] ∧ (y.length == 0) = false ∧ z.length ≤ 10000 ∧ ∀ l, H l = none → Q (.ref l) (upd H l (.lst (sV (Txt.split z y))))
theorem mt_split : MtR X "str.split" rSplit := by
  intro pins s σ H x vs v us Q I rx rv h
  obtain ⟨z, y, rfl, rfl, hy, hz, q⟩ := h
  obtain ⟨t, rfl⟩ := rx
  obtain ⟨u, rfl, t2, rfl⟩ := vals1 rv
  have few : (Txt.split z y).length ≤ sizeLine := Nat.le_trans (split_le z y) (Nat.le_trans (show _ ≤ 10002 by omega) (by decide))
  refine split_at hy hz fun l tk e => ?_
  refine ⟨.ref s.heap.objs.size, _, I.laid (t' := tk) (fun b o q => Heap.get?_push_of_some _ q) (Nat.le_refl _) (show ObjOk X.prog X.w _ _ _ (.lst (sV (Txt.split z y))) from ⟨by simpa using few, strValues l, _, vals_sV e, Heap.get?_push_size _ rfl⟩), rfl, q _ I.fresh⟩
def rAddS : R2 := fun x y H Q => ∃ a b : Str, x = .str a ∧ y = .str b ∧ a.length + b.length ≤ sizeLine ∧ Q (.str (a ++ b)) H
theorem op_addS : OpR X (binaryOp .Add) rAddS := by
  intro pins s σ H x y v u Q I rx ry h
  obtain ⟨a, b, rfl, rfl, hz, q⟩ := h
  obtain ⟨t, rfl⟩ := rx
  obtain ⟨t2, rfl⟩ := ry
  exact SB.add (fun t' k => ⟨.str _, H, I.tok _, ⟨_, rfl⟩, q⟩) hz
def rInS : R2 := fun y x H Q => ∃ b a : Str, y = .str b ∧ x = .str a ∧ Q (.bl (Txt.contains a b)) H
theorem op_inS : OpR X (compareOp .In) rInS := by
  intro pins s σ H x y v u Q I rx ry h
  obtain ⟨a, b, rfl, rfl, q⟩ := h
  obtain ⟨t, rfl⟩ := rx
  obtain ⟨t2, rfl⟩ := ry
  exact SB.contains ⟨.bl _, H, I, rfl, q⟩

/-! ### for c in text (plain signs) -/
def Its (x : Str) : It := ⟨fun i _ => i < x.cps.toList.length, fun i H v H' => H' = H ∧ ∃ c, x.cps.toList[i]? = some c ∧ v = .str ⟨#[c]⟩, fun i _ => x.cps.toList.length ≤ i⟩
theorem turn_str {P : Program} {w : World} {K : PySem.W.Frag} {tg : Expr} (x : Str) (t : Tok) (it : Addr) : Turn P w K tg (Its x) [it] it (fun i h => h.IsStrIter it "str_ascii_iterator" x t i) where
  mem := by simp
  obj := fun i h st b hb => by
    have e : b = it := by simpa using hb
    subst e
    obtain ⟨o, e, c, d⟩ := st
    exact ⟨o, e, fun v z => by rw [d] at z; cases z⟩
  keep := fun i h h' st k => let ⟨o, e, r⟩ := st; ⟨o, k it (by simp) o e, r⟩
  item := by
    intro X hP hw hK hc i pins s σ H E I hf st hg
    subst hP hw hK
    obtain ⟨f0, f1, f2, f3, f4, f5⟩ := hf it (by simp)
    have hg' : i < x.cps.toList.length := hg
    have hx : x.cps[i]? = some x.cps.toList[i] := by rw [← Array.getElem?_toList, List.getElem?_eq_getElem hg']
    refine wpAny_pyNext_ascii_item st hx fun h' st' sb => ?_
    have I1 : Inv X pins σ H { s with heap := h', toks := s.toks + 1 } := I.turned (fun b o hb e => (sb.2 b hb).trans e) f0 f1 f3 f4 f5
    obtain ⟨o, e, c, d⟩ := id st'
    exact ⟨_, rfl, go_of (s := { s with heap := h', toks := s.toks + 1 }) e c d (by decide) ⟨.str ⟨#[x.cps.toList[i]]⟩, H, I1, ⟨_, rfl⟩, ⟨rfl, _, List.getElem?_eq_getElem hg', rfl⟩, st', fun b hb => (hf b hb).1⟩⟩
  done := by
    intro X hP hw hK hc i pins s σ H E I hf st hg
    subst hP hw hK
    obtain ⟨f0, f1, f2, f3, f4, f5⟩ := hf it (by simp)
    have hg' : x.cps.toList.length ≤ i := hg
    exact wpAny_pyNext_ascii_end (I.ok.hd hc) st (by rw [← Array.getElem?_toList]; exact List.getElem?_eq_none hg') fun h' eb => ⟨rfl, I.turned (t' := s.toks) (fun b o hb e => eb b o hb e) f0 f1 f3 f4 f5⟩
  self := fun _ _ _ _ _ st h => wpAny_pyIter_striter_ascii st h
def iStr (tl : TE) : TI := fun σ H R => tl σ H fun v H1 => ∃ x, v = .str x ∧ x.cps.all (· < 128) = true ∧ R (Its x) H1
theorem pi_str {tg l : Expr} {tl : TE} (hl : PE X l tl) : PI X tg l (iStr tl) := by
  intro pins s σ H R I h
  refine thn (hl pins s σ H _ I h) fun v s1 ⟨x, H1, I1, r1, q1⟩ => ?_
  obtain ⟨x, rfl, ha, q⟩ := q1
  obtain ⟨t, rfl⟩ := r1
  refine wpAny_pyIter_ascii ha ?_
  refine ⟨s1.heap.objs.size, [s1.heap.objs.size], _, _, H1, rfl, I1.kept (t' := s1.toks) fun b o e => Heap.get?_push_of_some _ e, turn_str x t _, ⟨_, Heap.get?_push_size _ rfl, rfl, rfl⟩, fun b hb => ?_, q⟩
  have e : b = s1.heap.objs.size := by simpa using hb
  subst e
  exact I1.fpOk (Nat.le_refl _) (I1.hok.fresh (Nat.le_refl _))
/-- a comprehension over a text's signs -/
theorem comp_str {x : Str} {k : Nat} {g : TG} {tc : TT} {te : TE} {σ : St} {H1 : Hp} {Q : VK} (few : x.cps.toList.length ≤ 1000)
    (h : ∀ acc, H1 acc = none → ∃ Pv : Nat → St → List V → Hp → Prop, Pv 0 (σ ++ List.replicate k none) [] (upd H1 acc (.lst [])) ∧ (∀ i σ2 ys H2, i ≤ x.cps.toList.length → Pv i σ2 ys H2 → ys.length ≤ i) ∧
      (∀ i c σ2 ys H2, i < x.cps.toList.length → x.cps.toList[i]? = some c → Pv i σ2 ys H2 → g (.str ⟨#[c]⟩) σ2 H2 fun σ4 H4 => tc σ4 H4 fun b H5 => if b = true then te σ4 H5 fun v H6 => H6 acc = some (.lst ys) ∧ Nx x.cps.toList.length i (Pv (i + 1) σ4 (ys ++ [v]) (upd H6 acc (.lst (ys ++ [v])))) else Nx x.cps.toList.length i (Pv (i + 1) σ4 ys H5)) ∧
      ∀ σ2 ys H2, Pv x.cps.toList.length σ2 ys H2 → Q (.ref acc) H2) : CompR (Its x) k g tc te σ H1 Q := by
  intro acc ha
  obtain ⟨Pv, p0, pl, ps, pd⟩ := h acc ha
  refine ⟨fun i m σ2 ys H2 => m = x.cps.toList.length - i ∧ i ≤ x.cps.toList.length ∧ Pv i σ2 ys H2, ⟨x.cps.toList.length, by simp, Nat.zero_le _, p0⟩, ?_⟩
  rintro i m σ2 ys H2 ⟨rfl, hi, p⟩
  have len := pl i σ2 ys H2 hi p
  by_cases hlt : i < x.cps.toList.length
  · refine .inr ⟨hlt, Nat.lt_of_le_of_lt len (small1000 (by omega)), fun v H3 y => ?_⟩
    obtain ⟨e, c, hc, rfl⟩ := y
    subst e
    exact ps i c σ2 ys _ hlt hc p
  · have e : i = x.cps.toList.length := by omega
    subst e
    exact .inl ⟨Nat.le_refl _, pd σ2 ys H2 p⟩
/-- a comprehension over a tuple -/
theorem comp_tup {K : PySem.W.Frag} {a : Addr} {xs : List V} {k : Nat} {g : TG} {tc : TT} {te : TE} {σ : St} {H1 : Hp} {Q : VK} (few : xs.length ≤ 1000)
    (h : ∀ acc, H1 acc = none → ∃ Pv : Nat → St → List V → Hp → Prop, Pv 0 (σ ++ List.replicate k none) [] (upd H1 acc (.lst [])) ∧ (∀ i σ2 ys H2, i ≤ xs.length → Pv i σ2 ys H2 → SqT K H2 a xs ∧ ys.length ≤ i) ∧
      (∀ i x σ2 ys H2, i < xs.length → xs[i]? = some x → Pv i σ2 ys H2 → g x σ2 H2 fun σ4 H4 => tc σ4 H4 fun b H5 => if b = true then te σ4 H5 fun v H6 => H6 acc = some (.lst ys) ∧ Nx xs.length i (Pv (i + 1) σ4 (ys ++ [v]) (upd H6 acc (.lst (ys ++ [v])))) else Nx xs.length i (Pv (i + 1) σ4 ys H5)) ∧
      ∀ σ2 ys H2, Pv xs.length σ2 ys H2 → Q (.ref acc) H2) : CompR (Itt K a) k g tc te σ H1 Q := by
  intro acc ha
  obtain ⟨Pv, p0, pl, ps, pd⟩ := h acc ha
  refine ⟨fun i m σ2 ys H2 => m = xs.length - i ∧ i ≤ xs.length ∧ Pv i σ2 ys H2, ⟨xs.length, by simp, Nat.zero_le _, p0⟩, ?_⟩
  rintro i m σ2 ys H2 ⟨rfl, hi, p⟩
  obtain ⟨q, len⟩ := pl i σ2 ys H2 hi p
  by_cases hlt : i < xs.length
  · refine .inr ⟨⟨xs, xs[i], q, by simp [hlt]⟩, Nat.lt_of_le_of_lt len (small1000 (by omega)), fun x H3 y => ?_⟩
    obtain ⟨e, y⟩ := y
    subst e
    exact ps i x σ2 ys _ hlt (y xs q) p
  · have e : i = xs.length := by omega
    subst e
    exact .inl ⟨⟨xs, q, Nat.le_refl _⟩, pd σ2 ys H2 p⟩
set_option maxRecDepth 8000 in
theorem meets_extendT (l : Addr) (items : Array Value) (n : Nat) (b : Addr) (items2 : Array Value) (hs0 : ¬(!items.isEmpty && Builtin.List.listTooLong (items.size + items2.size)) = true) (hs1 : items.size ≤ sizeLine) (hs2 : items.size + items2.size ≤ sizeLine + 1) :
    Meets (Builtin.«list.extend» ⟨[.ref l, .ref b], []⟩) (fun _ R s => s.heap.get? l = some { cls := .type "list", dict := none, data := .seq items n, slots := #[] } ∧ IsTup s.heap b items2 ∧ R (.ok (.ret Value.none)) { s with heap := s.heap.update l (Obj.mapSeq fun x => x ++ items2), toks := s.toks }) :=
  .of_wp fun prog w A R s h => by
    obtain ⟨hp, g, d, tk, os⟩ := s; obtain ⟨hl, ⟨⟨c, dd, da, sl⟩, hb, hc, n2, hd⟩, h⟩ := h
    obtain rfl : c = .type "tuple" := hc
    obtain rfl : da = .seq items2 n2 := hd
    have f1 := AutoSeq1.idx_int; have f2 := AutoSeq1.sub_tuple_tuple; have f3 := AutoSeq1.sub_list_list; have f4 := AutoSeq1.sub_tuple_list; have f5 := AutoSeq1.sub_list_tuple
    have hz' : (items ++ items2).size ≤ sizeLine + 1 := by rw [Array.size_append]; exact hs2
    wp_walk using (wpAny_updateSeq hl rfl (hz := hs1) (_hz' := hz')), wpAny_loadPart' hl, wpAny_loadPart' hb; exact ⟨_, rfl, h⟩
/-- a list grows by a tuple's things -/
def rExtendT (K : PySem.W.Frag) : V → List V → Hp → VK → Prop := fun x vs H Q => ∃ l b xs zs, x = .ref l ∧ vs = [.ref b] ∧ H l = some (.lst xs) ∧ SqT K H b zs ∧ xs.length + zs.length ≤ sizeLine ∧ Q .non (upd H l (.lst (xs ++ zs)))
theorem mt_extendT (hK : X.K = K := by rfl) : MtR X "list.extend" (rExtendT K) := by
  subst hK
  intro pins s σ H x vs v us Q I rx rv h
  obtain ⟨l, b, xs, zs, rfl, rfl, hH, hB, hz, q⟩ := h
  cases rx
  obtain ⟨u, rfl, ru⟩ := rv.one
  cases ru
  obtain ⟨z, its, n, r, hl, e⟩ := I.lstM hH
  obtain ⟨its2, r2, p2, hz2⟩ := I.tuple hB
  have l2 := r2.length
  have hsz : its.toArray.size + its2.toArray.size ≤ sizeLine := by rw [List.size_toArray, List.size_toArray]; omega
  have hlong : ¬ (!its.toArray.isEmpty && Builtin.List.listTooLong (its.toArray.size + its2.toArray.size)) = true := by
    rw [notLongL hsz, Bool.and_false]
    exact Bool.false_ne_true
  refine call_meets F.slot_list_extend ⟨_, e, rfl⟩ F.entry_list_extend (F.args_list_extend_2 _ _)
    (meets_extendT l its.toArray n b its2.toArray hlong (by rw [List.size_toArray]; omega) (by omega)) ⟨e, p2, ?_⟩
  refine ⟨.non, _, I.lset (its' := its ++ its2) hH e (by simp) (r.append r2) ?_, rfl, q⟩
  rw [List.length_append]
  omega
/-- None in a list of things none of which is equal to it, or some of which are None -/
def rAny (K : PySem.W.Frag) : List V → Hp → VK → Prop := fun xs H Q => ∃ (p : Addr) (bs : List Bool), xs = [.ref p] ∧ SqL K H p (bs.map V.bl) ∧ Q (.bl (bs.any id)) H
theorem call_anyL (hc : X.calm = true) (hK : X.K = K := by rfl) : CallR X (.builtin "any") (rAny K) := by
  subst hK
  intro pins s σ H xs us Q I r h
  obtain ⟨p, bs, rfl, hq, q⟩ := h
  obtain ⟨u, rfl, rx⟩ := vals1 r
  cases rx
  obtain ⟨its, rv, pl, hz⟩ := I.list hq
  have len : bs.length = its.length := by have := rv.length; rwa [List.length_map] at this
  have lt : p < s.heap.objs.size := by obtain ⟨o, e, _⟩ := pl.isList; exact Heap.lt_size e
  refine call_any_walk (wpAny_pyIter_list pl.isList ⟨s.heap.objs.size, _, _, _, _, _, fun i => bs.getD i false, rfl, Walks.list (by simpa using I.ok.hd hc) s.heap.objs.size p (Nat.ne_of_lt lt) its.toArray, ⟨⟨_, Heap.get?_push_size _ rfl, rfl, rfl⟩, pl.isList.push _⟩, fun i v s Q E hv hQ => ?_, fun h' tk kp => ?_⟩)
  · have hv' : its[i]? = some v := by simpa using hv
    have li : i < bs.length := by rw [len]; exact (List.getElem?_eq_some_iff.mp hv').1
    obtain ⟨u, hu, ru⟩ := rv.get (i := i) (x := V.bl bs[i]) (by rw [List.getElem?_map, List.getElem?_eq_getElem li]; rfl)
    rw [hv'] at hu
    cases hu
    cases ru
    have e : bs.getD i false = bs[i] := by rw [List.getD_eq_getElem?_getD, List.getElem?_eq_getElem li]; rfl
    dsimp only at hQ
    rw [e] at hQ
    exact wpAny_truthy_bool hQ
  · have I1 : Inv X pins σ H { s with heap := h', toks := tk } := I.kept fun b o e => kp b o (by simp only [List.mem_singleton]; exact Nat.ne_of_lt (Heap.lt_size e)) (Heap.get?_push_of_some _ e)
    have e : (List.range its.toArray.size).any (fun i => bs.getD i false) = bs.any id := by
      rw [List.size_toArray, ← len]
      clear q rv hz hq len
      induction bs with
      | nil => rfl
      | cons b bs ih =>
        rw [List.length_cons, List.range_succ_eq_map, List.any_cons, List.any_map, List.any_cons, ← ih]
        rfl
    rw [e]
    exact ⟨.bl (bs.any id), H, I1, rfl, q⟩
/-- None in a list of Nones and tuples -/
def isNon : V → Bool
  | .non => true
  | _ => false
def rInNone (K : PySem.W.Frag) : R2 := fun x y H Q => ∃ p xs, x = .non ∧ y = .ref p ∧ SqL K H p xs ∧ (∀ z ∈ xs, z = .non ∨ ∃ a vs, z = .ref a ∧ SqT K H a vs) ∧ Q (.bl (xs.any isNon)) H
def isNonU : Value → Bool
  | .none => true
  | _ => false
theorem op_inNone (hu : X.A.units + 66 < cLine) (hK : X.K = K := by rfl) : OpR X (compareOp .In) (rInNone K) := by
  subst hK
  intro pins s σ H x y v u Q I rx ry h
  obtain ⟨p, xs, rfl, rfl, hq, all, q⟩ := h
  cases rx
  cases ry
  obtain ⟨its, r, pl, hz⟩ := I.list hq
  have key : ∀ {xs : List V} {its : List Value}, Vals xs its → (∀ z ∈ xs, z = .non ∨ ∃ a vs, z = .ref a ∧ SqT X.K H a vs) → (its.any isNonU = xs.any isNon) ∧ ∀ w ∈ its, SeqAt.EqAt X.A.in1 s w .none (isNonU w) := by
    intro xs its r
    induction r with
    | nil => intro _; exact ⟨rfl, fun w hw => by cases hw⟩
    | @cons x u xs us rx rs ih =>
      intro all
      obtain ⟨e1, e2⟩ := ih fun z hz => all z (List.mem_cons_of_mem _ hz)
      rcases all x List.mem_cons_self with rfl | ⟨a, vs, rfl, hs⟩
      · cases rx
        refine ⟨by rw [List.any_cons, List.any_cons, e1]; rfl, fun w hw => ?_⟩
        rcases List.mem_cons.mp hw with rfl | hw
        · exact SeqAt.EqAt.same _
        · exact e2 w hw
      · cases rx
        obtain ⟨its2, _, p2, _⟩ := I.tuple hs
        refine ⟨by rw [List.any_cons, List.any_cons, e1]; rfl, fun w hw => ?_⟩
        rcases List.mem_cons.mp hw with rfl | hw
        · exact SeqAt.EqAt.tuple_none (show s.heap.IsTuple a its2.toArray from p2) (by show X.A.units + 1 < cLine; omega)
        · exact e2 w hw
  obtain ⟨e1, e2⟩ := key r all
  refine SeqAt.in_listAt isNonU pl.isList (fun w hw => e2 w (by simpa using hw)) ⟨.bl _, H, I, rfl, ?_⟩
  rw [show its.toArray.any isNonU = its.any isNonU by simp, e1]
  exact q
end
end L2

set_option Elab.async false
set_option linter.all false
set_option maxRecDepth 100000
namespace L2
open PySem PySem.Spec PyProof.Rows

/-! ### a dict of the module's text, keys that are texts, values that are ints: read only -/
def KDict (pr : Params) (K : PySem.W.Frag) (a : Addr) (kvs : List (Str × Int)) : Prop := (a == sysModules) = false ∧ (kvs.map (·.1)).Nodup ∧ ∃ (o : Obj) (es : Array DictEntry) (ep : Nat), K.lookup a = some o ∧ o.ExactDict ∧ o.data = .dict es ep ∧
  Paired (fun (p : Str × Int) (e : DictEntry) => e.hash = PyData.keyHash pr p.1 ∧ (∃ t, e.key = .str p.1 t) ∧ ∃ t, e.val = .int p.2 t) kvs es.toList
theorem kd_val {kvs : List (Str × Int)} {vs : List (Key × Value)} (r : Paired (fun (p : Str × Int) (q : Key × Value) => q.1 = .inr p.1 ∧ ∃ t, q.2 = .int p.2 t) kvs vs) (x : Str) :
    match kvs.lookup x with | some n => ∃ t, valueAt vs (.inr x) = some (.int n t) | none => valueAt vs (.inr x) = none := by
  induction r with
  | nil => rfl
  | @cons p q kvs vs h r ih =>
    obtain ⟨e, t, ev⟩ := h
    rw [List.lookup_cons]
    cases hb : x == p.1 with
    | true =>
      have hx : x = p.1 := beq_iff_eq.mp hb
      show ∃ t, valueAt (q :: vs) (.inr x) = some (.int p.2 t)
      refine ⟨t, ?_⟩
      unfold valueAt
      rw [List.find?_cons, show decide (q.1 = .inr x) = true by rw [e, hx]; simp]
      show some q.2 = _
      rw [ev]
    | false =>
      have hx : ¬ p.1 = x := fun z => by rw [z] at hb; simp at hb
      have e2 : valueAt (q :: vs) (.inr x) = valueAt vs (.inr x) := by
        unfold valueAt
        rw [List.find?_cons, show decide (q.1 = .inr x) = false by rw [e]; simpa using hx]
      rw [e2]
      exact ih
theorem KDict.dict {P : Program} {w : World} {pr : Params} {K : PySem.W.Frag} {a : Addr} {kvs : List (Str × Int)} {h : Heap} (D : KDict pr K a kvs) (hw : pr = w.params) (kx : K.In h) :
    ∃ vs, Paired (fun (p : Str × Int) (q : Key × Value) => q.1 = .inr p.1 ∧ ∃ t, q.2 = .int p.2 t) kvs vs ∧ h.DictOf (mixKind P w) a vs := by
  subst hw
  obtain ⟨_, nd, o, es, ep, lk, ex, hd, r⟩ := D
  have go : ∀ {kvs : List (Str × Int)} {es : List DictEntry}, Paired (fun (p : Str × Int) (e : DictEntry) => e.hash = PyData.keyHash w.params p.1 ∧ (∃ t, e.key = .str p.1 t) ∧ ∃ t, e.val = .int p.2 t) kvs es →
      ∃ vs, Paired (fun (p : Str × Int) (q : Key × Value) => q.1 = .inr p.1 ∧ ∃ t, q.2 = .int p.2 t) kvs vs ∧ Pairs (mixKind P w) es vs ∧ vs.map (·.1) = kvs.map (fun p => Sum.inr p.1) ∧ ∀ e ∈ es, ∃ k, (mixKind P w).is k e.key = true ∧ e.hash = (mixKind P w).hash k := by
    intro kvs es r
    induction r with
    | nil => exact ⟨[], .nil, .nil, rfl, fun e he => by cases he⟩
    | @cons p e kvs es h r ih =>
      obtain ⟨vs, r1, r2, r3, r4⟩ := ih
      obtain ⟨h1, ⟨t, h2⟩, u, h3⟩ := h
      refine ⟨(.inr p.1, e.val) :: vs, .cons ⟨rfl, u, h3⟩ r1, .cons (by rw [h2]; exact mixKind_str P w p.1 t) rfl r2, by rw [List.map_cons, List.map_cons, r3], fun e' he => ?_⟩
      rcases List.mem_cons.mp he with rfl | he
      · exact ⟨.inr p.1, by rw [h2]; exact mixKind_str P w p.1 t, h1⟩
      · exact r4 e' he
  obtain ⟨vs, r1, r2, r3, r4⟩ := go r
  refine ⟨vs, r1, o, es, ep, kx a o lk, ex, hd, fun e he => r4 e (Array.mem_toList_iff.mpr he), r2, ?_⟩
  rw [r3]
  have : (kvs.map fun p => (Sum.inr p.1 : Key)) = (kvs.map (·.1)).map Sum.inr := by rw [List.map_map]; rfl
  rw [this]
  exact List.Pairwise.map _ (fun a b h z => h (Sum.inr.inj z)) nd
section
variable {X : Cx} {pr : Params} {a : Addr} {kvs : List (Str × Int)} {name : Str} {i : Expr} {ty : TE} {p pos : Pos}
def tKGet (kvs : List (Str × Int)) (ty : TE) : TE := fun σ H Q => ty σ H fun y H1 => ∃ x n, y = .str x ∧ kvs.lookup x = some n ∧ Q (.int n) H1
def tKNotIn (kvs : List (Str × Int)) (ty : TE) : TE := fun σ H Q => ty σ H fun y H1 => ∃ x, y = .str x ∧ Q (.bl (!(kvs.lookup x).isSome)) H1
theorem pe_kget (D : KDict pr X.K a kvs) (hw : pr = X.w.params) (hg : Gl X name) (hm : X.mg name = some (.ref a)) (hi : PE X i ty) (hs : NoSl i) (hdb : (name == ("__debug__" : Str)) = false := by decide) : PE X (.Subscript (.Name name p) i pos) (tKGet kvs ty) := by
  intro pins s σ H Q I h
  refine subD_of PySem.F.slot_dict_getitem.lookup hs (ld_glob I hg hm (thn (hi pins s σ H _ I h) fun iv s2 ⟨y, H2, I2, ry, x, n, ey, l, q⟩ => ?_) hdb)
  subst ey
  obtain ⟨t, rfl⟩ := ry
  obtain ⟨vs, r, dd⟩ := D.dict (P := X.prog) (w := X.w) hw I2.kIn
  have v := kd_val r x
  rw [l] at v
  obtain ⟨t2, v⟩ := v
  exact ⟨dd.typeIs, wpAny_getItem_of (mixKind_str X.prog X.w x t) dd.mapOf v ⟨.int n, H2, I2.tok _, ⟨_, rfl⟩, q⟩⟩
theorem pc_knotin (D : KDict pr X.K a kvs) (hw : pr = X.w.params) (hg : Gl X name) (hm : X.mg name = some (.ref a)) (hi : PE X i ty) (hdb : (name == ("__debug__" : Str)) = false := by decide) : PC X .NotIn i (.Name name p) (tKNotIn kvs ty) := by
  intro pins s σ H Q I h
  refine thn (hi pins s σ H _ I h) fun iv s2 ⟨y, H2, I2, ry, x, ey, q⟩ => ld_glob I2 hg hm ?_ hdb
  subst ey
  obtain ⟨t, rfl⟩ := ry
  obtain ⟨vs, r, dd⟩ := D.dict (P := X.prog) (w := X.w) hw I2.kIn
  have v := kd_val r x
  refine wpAny_notIn_of (mixKind_str X.prog X.w x t) D.1 dd.mapOf ?_
  have e : (valueAt vs (.inr x)).isSome = (kvs.lookup x).isSome := by
    cases l : kvs.lookup x with
    | none => rw [l] at v; rw [show valueAt vs (.inr x) = none from v]; rfl
    | some n => rw [l] at v; obtain ⟨t2, v⟩ := v; rw [v]; rfl
  rw [e]
  exact ⟨.bl _, H2, I2.tok _, rfl, q⟩
/-- a text of the module -/
theorem pe_constS {x : Str} (hg : Gl X name) (hm : ∃ t, X.mg name = some (.str x t)) (hdb : (name == ("__debug__" : Str)) = false := by decide) : PE X (.Name name p) (tC (.str x)) := by
  obtain ⟨t, hm⟩ := hm
  exact pe_glob hg hm ⟨t, rfl⟩ hdb
end
end L2

set_option Elab.async false
set_option linter.all false
set_option maxRecDepth 100000
namespace L2
open PySem PySem.Spec PyProof.Rows

theorem Room.units66 {k : Nat} {A : Around} (r : Room k A) : A.units + 66 < cLine := by have := r.un; omega
section
variable {X : Cx} {K : PySem.W.Frag}
theorem call_lenS : CallR X (.builtin "len") (fun xs H Q => ∃ x : Str, xs = [.str x] ∧ x.length ≤ sizeLine ∧ Q (.int x.length) H) := by
  intro pins s σ H xs us Q I r h
  obtain ⟨x, rfl, hz, q⟩ := h
  exact call_len pins s σ H _ us Q I r ⟨.str x, x.length, rfl, ⟨hz, rfl⟩, q⟩

/-! ### text.replace(a, b, 1): whether a and b are one object is asked, so their marks must be true ones: the marks drawn so far are counted -/
/-- as PE, and behind it a mark has been drawn -/
def PEt (X : Cx) (e : Expr) (t : TE) : Prop :=
  ∀ (pins : List (Addr × Obj)) (s : Shared) (σ : St) (H : Hp) (Q : VK), Inv X pins σ H s → t σ H Q → wpAny (model X.prog X.w) X.A (eval e X.env) (fun u s' => EP X pins σ Q u s' ∧ 0 < s'.toks) X.xe s
def PTk (X : Cx) (body : List Stmt) (t : TE) : Prop :=
  ∀ (s : Shared) (σ : St) (H : Hp) (Q : VK), Inv X [] σ H s → t σ H Q → wpAny (model X.prog X.w) X.A (execs body X.env)
    (fun fl s' => ∃ u v σ' H', fl = .ret u ∧ Inv X [] σ' H' s' ∧ RelV v u ∧ Q v H' ∧ 0 < s'.toks) X.xe s
theorem ptk_cons {st : Stmt} {rest : List Stmt} {t : TS} {u : TE} (h1 : PS X st t) (h2 : PTk X rest u) : PTk X (st :: rest) (mSeq t u) := by
  intro s σ H Q I h
  refine wpAny_execs_cons (thn (h1 [] s σ H _ I h) fun f s1 q => ?_)
  cases f with
  | next =>
    obtain ⟨σ', H', I', q⟩ := q
    exact h2 s1 σ' H' Q I' q
  | ret v => obtain ⟨_, _, _, _, _, q⟩ := q; exact False.elim q
  | brk => obtain ⟨_, _, _, q⟩ := q; exact False.elim q
  | cont => obtain ⟨_, _, _, q⟩ := q; exact False.elim q
theorem ptk_ret {e : Expr} {te : TE} {pos : Pos} (he : PEt X e te) : PTk X [.Return (some e) pos] te := by
  intro s σ H Q I h
  refine wpAny_execs_cons (wpAny_Return_some (thn (he [] s σ H _ I h) fun v s1 ⟨⟨x, H1, I1, r1, q1⟩, tk⟩ => ⟨v, x, σ, H1, rfl, I1, r1, q1, tk⟩))
/-- sep.join(list) of two texts or more -/
def rJoin2 (K : PySem.W.Frag) : V → List V → Hp → VK → Prop := fun x vs H Q => ∃ (sep : Str) (p : Addr) (a b : Str) (xs : List Str), x = .str sep ∧ vs = [.ref p] ∧ SqL K H p (sV (a :: b :: xs)) ∧ JoinOk sep (a :: b :: xs) = true ∧ Q (.str (Txt.join sep (a :: b :: xs))) H
theorem pet_join {o e : Expr} {to : TE} {t : TA} {apos cpos : Pos} (ho : PE X o to) (ha : PA X [e] t) (hK : X.K = K := by rfl)
    (hbase : attributeBase o "join" X.env (eval o X.env) = eval o X.env := by rfl)
    (hfew : ((backTo cpos (starEach [e] X.env)).all (fun x => !x.1) && (backToKw cpos (keywordEach [] X.env)).all (fun x => x.1.isSome)
      && decide ([e].length + ([] : List Keyword).length + (if ([] : List Keyword).isEmpty then 0 else 1) < 30)) = true := by rfl)
    (hline : (apos.endLine == cpos.line) = true := by rfl) (hs : starEach [e] X.env = (false, eval e X.env) :: starEach [] X.env := by rfl) (hplain : (backTo cpos (starEach [] X.env)).any (·.1) = false := by rfl) :
    PEt X (.Call (.Attribute o "join" apos) [e] [] cpos) (tBM K "str" (rJoin2 K) to t) := by
  subst hK
  intro pins s σ H Q I h
  refine wpAny_Call_method_late hbase hfew hline rfl (thn (ho pins s σ H _ I h) fun v s1 ⟨x, H1, I1, r1, ty, q1⟩ => ?_)
  obtain ⟨h1, h2⟩ := tyV_is I1 r1 ty
  refine ⟨"str", "str.join", PySem.F.plainAttrs_str, PySem.F.slot_str_join, PySem.F.type_str_join, h1, h2, ?_⟩
  have hA := ha cpos pins s1 σ H1 _ I1 q1
  rw [hs] at hA ⊢
  refine Calls.callWith_builtin (by show (false || (backTo cpos (starEach [] X.env)).any (·.1)) = false; rw [hplain] <;> rfl) (Calls.evalArgs_plain ?_)
  refine thn hA fun us s2 ⟨vs, H2, I2, r2, q2⟩ => ?_
  obtain ⟨sep, p, a, b, xs, rfl, rfl, hq, ok, q⟩ := q2
  obtain ⟨tk, rfl⟩ := r1
  obtain ⟨u, rfl, rp⟩ := vals1 r2
  cases rp
  obtain ⟨its, r, pl, hz⟩ := I2.list hq
  obtain ⟨l, rfl, e⟩ := sV_vals r
  have ok' := ok
  unfold JoinOk at ok'
  rw [Bool.not_eq_true'] at ok'
  rw [← e] at ok'
  refine call_meets PySem.F.slot_str_join (typeIs_str _ _ _) PySem.F.entry_str_join (PySem.F.args_str_join_2 _ _) (meets_str_join_list sep tk p l ok') ⟨pl.isList, ?_⟩
  match l, e with
  | p1 :: p2 :: l, e =>
    refine ⟨joinFit_length ok', ⟨.str _, H2, I2.tok _, ⟨_, rfl⟩, ?_⟩, Nat.succ_pos _⟩
    have e2 : Builtin.Str.glued sep ((p1 :: p2 :: l).map (·.1)) = Txt.join sep (a :: b :: xs) := by rw [e]; rfl
    rw [e2]
    exact q
/-- as FnOk, and behind it a mark has been drawn -/
structure FnOkT (P : Program) (w : World) (K : PySem.W.Frag) (mg : Str → Option Value) (base : Heap) (CX : CXT) (k : Nat) (f : Addr) (fd : FuncData) (ps : List Str) (sp : Sp) : Prop where
  len : ∀ vs H Q E, sp vs H Q E → vs.length = ps.length
  run : ∀ (A : Around) (outer : List Env) (s : Shared) (H : Hp) (args : Args) (us : List Value) (vs : List V) (Q : VK) (E : XK), Room k A → Env0 P w K mg base A outer s H → BindsTo s fd args (ps.zip us) → Vals vs us → sp vs H Q E →
    codeAny (model P w) A (.call (.ref f) args) (fun r s' => CR CX outer P w H s Q E r s' ∧ 0 < s'.toks) s
theorem FnOkT.fn {P : Program} {w : World} {K : PySem.W.Frag} {mg : Str → Option Value} {base : Heap} {CX : CXT} {k : Nat} {f : Addr} {fd : FuncData} {ps : List Str} {sp : Sp} (F : FnOkT P w K mg base CX k f fd ps sp) : FnOk P w K mg base CX k f fd ps sp :=
  ⟨F.len, fun A outer s H args us vs Q E hr he hb hv hs => codeAny_mono (F.run A outer s H args us vs Q E hr he hb hv hs) fun _ _ h => h.1⟩
theorem tk_of {CX : CXT} {P : Program} {w : World} {K : PySem.W.Frag} {mg : Str → Option Value} {base : Heap} {k : Nat} {f : Addr} {name qual : Str} {params : Arguments} {body : List Stmt} {scope : Scope} {dV kV doc pm cdv ct oc : Value} {an od : Option Addr}
    {osl : Array (Option Value)} {N ps : List Str} {sp : Sp} (lk : K.lookup f = some ⟨oc, od, .func (PySem.W.fnOf name qual params body scope dV kV doc pm an cdv ct), osl⟩) (hcd : PySem.W.codeIn K cdv qual = true) (S : FnScope N ps scope)
    (len : ∀ vs H Q E, sp vs H Q E → vs.length = ps.length)
    (hbody : ∀ (A : Around) (outer : List Env) (s : Shared) (H : Hp) (vs : List V) (Q : VK) (E : XK), Room k (A.deeper (envOfC qual scope s.heap.objs.size f cdv)) → sp vs H Q E →
      ∃ t, PTk (cxOf CX P w K mg base N qual scope f cdv A outer s H E).nox body t ∧ t (start N vs) H Q) :
    FnOkT P w K mg base CX (k + 1) f (PySem.W.fnOf name qual params body scope dV kV doc pm an cdv ct) ps sp := by
  refine ⟨len, fun A outer s H args us vs Q E hr e0 hb r hsp => ?_⟩
  have hl := len _ _ _ _ hsp
  have KX : K.In s.heap := e0.mod.kin.keeps fun b o e => (e0.bs b o e).1
  have lim : s.heap.NoLimit := e0.mod.nolimit.keeps fun b o e => (e0.bs b o e).1
  have hkind : ∀ y ∈ ps.zip us, scope.names.lookup y.1 = some .local ∨ (scope.names.lookup y.1 = some .cell ∧ ((cellsFrom (s.heap.objs.size + 1) scope.names []).lookup y.1).isSome = true) := fun ⟨n, v⟩ hy => by
    rcases S.par n (List.of_mem_zip hy).1 with q | q
    · exact .inl q
    · exact .inr ⟨q, PySem.W.cellsFrom_some _ _ _ (.inl q)⟩
  refine codeAny_call_function hr.depth (KX _ _ lk) rfl S.co S.gen rfl (PySem.W.codeRec_of KX hcd) (hb _ _ _ _ ?_)
  refine wpAny_newFunctionEnv_cells S.kind hkind fun env he s1 x => ?_
  subst he
  refine ⟨lim.keeps x.toInCall.keep, codeAny_func ?_⟩
  obtain ⟨t, ht, hq⟩ := hbody A outer s H vs Q E (hr.deeper _) hsp
  have I : Inv (cxOf CX P w K mg base N qual scope f cdv A outer s H E) [] (start N vs) H s1 := inv_start S hr.hd e0 hl r x
  refine wpAny_mono (ht s1 (start N vs) H Q (I.wish _) hq) (fun fl s' hs => ?_) fun e s' hs => False.elim hs
  obtain ⟨u, v, σ', H', rfl, J, rv, q, tk⟩ := hs
  exact ⟨⟨v, H', J.os, J.bare, J.base, J.hok, rv, q⟩, tk⟩
theorem Fun.okT {CX : CXT} {P : Program} {w : World} {K : PySem.W.Frag} {mg : Str → Option Value} {base : Heap} {x qual : Str} {st : Stmt} {f : Addr} {fd : FuncData} {N ps : List Str} {k : Nat} {sp : Sp} (F : Fun K x qual st f fd) (S : FnScope N ps (defScope st)) (len : ∀ vs H Q E, sp vs H Q E → vs.length = ps.length)
    (hbody : ∀ (cdv : Value) (A : Around) (outer : List Env) (s : Shared) (H : Hp) (vs : List V) (Q : VK) (E : XK), Room k (A.deeper (envOfC qual (defScope st) s.heap.objs.size f cdv)) → sp vs H Q E →
      ∃ t, PTk (cxOf CX P w K mg base N qual (defScope st) f cdv A outer s H E).nox (defBody st) t ∧ t (start N vs) H Q) : FnOkT P w K mg base CX (k + 1) f fd ps sp := by
  obtain ⟨oc, od, kV, doc, pm, an, cdv, ct, osl, rfl, lk, hcd⟩ := F.ex
  exact tk_of lk hcd S len (hbody cdv)
theorem pet_call {CX : CXT} {k : Nat} {f : Addr} {fd : FuncData} {ps : List Str} {sp : Sp} {dvs : List V} {ds : List Value} {E : XK} {x : Str} {p pos : Pos} {e : Expr} {es : List Expr} {t : TA}
    (F : FnOkT X.prog X.w X.K X.mg X.base CX k f fd ps sp) (hr : Room k X.A) (hg : Gl X x) (hm : X.mg x = some (.ref f)) (hk : PySem.W.keepIn X.K (.ref f) = true) (hb : Binds X.K fd ps ds) (hd : Vals dvs ds) (hx : Passes CX X E)
    (ha : PA X (e :: es) t) (hdb : (x == ("__debug__" : Str)) = false := by decide) (he : starEach (e :: es) X.env = (false, eval e X.env) :: starEach es X.env := by rfl) (hpl : (backTo pos (starEach es X.env)).any (·.1) = false := by rfl) :
    PEt X (.Call (.Name x p) (e :: es) [] pos) (tCall sp dvs E t) := by
  intro pins s σ H Q I h
  refine wpAny_Call_Name_kw (ld_glob I hg hm ?_ hdb)
  refine PySem.W.callWith_K (h₀ := X.base) I.ok.mod.kin hk (thn (ha pos pins s σ H _ I h) fun us s1 ⟨vs, H1, I1, r, q⟩ => ⟨I1.kIn, ?_⟩) he hpl
  have r2 : Vals (vs ++ dvs) (us ++ ds) := r.append hd
  have hl : (us ++ ds).length = ps.length := by rw [← r2.length]; exact F.len _ _ _ _ q
  refine wpAny_call (codeAny_mono (F.run X.A X.stack s1 H1 ⟨us, []⟩ (us ++ ds) (vs ++ dvs) Q E hr I1.env0 (hb s1 us I1.kIn hl) r2 q) fun r s' ⟨hq, tk⟩ => ?_)
  cases r with
  | error e => exact hx pins σ H1 s1 e s' I1 hq
  | ok fl =>
    cases fl with
    | ret u => exact ⟨I1.after hq, tk⟩
    | next => exact False.elim hq
    | brk => exact False.elim hq
    | cont => exact False.elim hq
end

section
open PySem.Builtin PySem.Builtin.Str
theorem gives_replace1 (x y z : Str) (t u v k : Tok)
    (hf : ((occurrences x y 0 x.length 1).isEmpty || (y.length == 0 && z.length == 0)) = false → (u == 0 || v == 0) = false ∧ (u == v) = false ∧ (y == z) = false ∧ tooLong (x.length + (occurrences x y 0 x.length 1).length * z.length) = false) :
    Gives («str.replace» ⟨[.str x t, .str y u, .str z v, .int 1 k], []⟩) (if ((occurrences x y 0 x.length 1).isEmpty || (y.length == 0 && z.length == 0)) = true then .val (.str x t) else .str (glued z (partsBetween x (occurrences x y 0 x.length 1) y.length))) := by
  show Gives (if ((occurrences x y 0 x.length 1).isEmpty || (y.length == 0 && z.length == 0)) = true then (do rule "str.replace.nothing"; ret (.str x t)) else
          (do let same ← isSame (.str y u) (.str z v)
              if same = true then (do rule "str.replace.old-is-new"; ret (.str x t)) else
              if tooLong (x.length + (occurrences x y 0 x.length 1).length * z.length) = true then unsupported "str.replace:memory" else
              retStr (glued z (partsBetween x (occurrences x y 0 x.length 1) y.length)))) _
  cases hc : ((occurrences x y 0 x.length 1).isEmpty || (y.length == 0 && z.length == 0))
  · obtain ⟨h0, huv, hyz, hl⟩ := hf hc
    rw [isSame_str_other y z u v h0 huv hyz, hl]
    exact .of_eq rfl
  · exact .rule (.of_eq rfl)
def repl1 (x y z : Str) : Str := glued z (partsBetween x (occurrences x y 0 x.length 1) y.length)
end
section
variable {X : Cx}
def tRepl (a b : Str) (to : TE) : TE := fun σ H Q => to σ H fun x H1 => ∃ z, x = .str z ∧ (Builtin.Str.occurrences z a 0 z.length 1).isEmpty = false ∧ (repl1 z a b).length ≤ sizeLine ∧ Builtin.Str.tooLong (z.length + (Builtin.Str.occurrences z a 0 z.length 1).length * b.length) = false ∧ Q (.str (repl1 z a b)) H1
theorem pe_replace1 {o : Expr} {to : TE} {a b : Str} {i1 i2 i3 : Nat} {p1 p2 p3 apos cpos : Pos} (ho : PEt X o to) (ha : (a.length == 0) = false) (hab : (a == b) = false)
    (hbase : attributeBase o "replace" X.env (eval o X.env) = eval o X.env := by rfl)
    (hfew : ((backTo cpos (starEach [.Constant (.str a) i1 p1, .Constant (.str b) i2 p2, .Constant (.int 1) i3 p3] X.env)).all (fun x => !x.1) && (backToKw cpos (keywordEach [] X.env)).all (fun x => x.1.isSome)
      && decide ([Expr.Constant (.str a) i1 p1, .Constant (.str b) i2 p2, .Constant (.int 1) i3 p3].length + ([] : List Keyword).length + (if ([] : List Keyword).isEmpty then 0 else 1) < 30)) = true := by rfl)
    (hline : (apos.endLine == cpos.line) = true := by rfl) :
    PE X (.Call (.Attribute o "replace" apos) [.Constant (.str a) i1 p1, .Constant (.str b) i2 p2, .Constant (.int 1) i3 p3] [] cpos) (tRepl a b to) := by
  intro pins s σ H Q I h
  refine wpAny_Call_method_late hbase hfew hline rfl (thn (ho pins s σ H _ I h) fun v s1 ⟨⟨x, H1, I1, r1, z, ez, occ, fit, tl, q⟩, tk⟩ => ?_)
  subst ez
  obtain ⟨t, rfl⟩ := r1
  refine ⟨"str", "str.replace", PySem.F.plainAttrs_str, PySem.F.slot_str_replace, PySem.F.type_str_replace, typeIs_str _ _ _, (fun _ e => nomatch e), ?_⟩
  refine Calls.callWith_builtin rfl (Calls.evalArgs_plain (Calls.spliced_cons (Calls.Constant_str (k := i1) (pos := p1) (Calls.spliced_cons (Calls.Constant_str (k := i2) (pos := p2) (Calls.spliced_cons (wpAny_Constant_int (k := i3) (pos := p3) (Calls.spliced_nil ?_))))))))
  refine call_gives PySem.F.slot_str_replace (typeIs_str _ _ _) PySem.F.entry_str_replace (PySem.F.args_str_replace_4 _ _ _ _) (gives_replace1 z a b t _ _ _ fun _ => ⟨?_, ?_, hab, tl⟩) ?_
  · have : s1.toks ≠ 0 := by omega
    simp [this]
  · simp
  · rw [occ, ha]
    exact ⟨fit, .str _, H1, ((I1.tok _).tok _).tok _, ⟨_, rfl⟩, q⟩
end
end L2

set_option Elab.async false
set_option linter.all false
set_option maxRecDepth 100000
namespace L2
open PySem PySem.Spec PyProof.Rows

/-! ### joining and splitting by one sign -/
theorem app_list (x y : Str) : (x ++ y).cps.toList = x.cps.toList ++ y.cps.toList := PySem.W.KT.app_list x y
theorem str_ext {x y : Str} (h : x.cps.toList = y.cps.toList) : x = y := ext_toList h
theorem join_one (sep x : Str) : Str.join sep [x] = x := rfl
theorem join_cons (sep x y : Str) (r : List Str) : Str.join sep (x :: y :: r) = x ++ sep ++ Str.join sep (y :: r) := rfl
theorem cut_uniq {c : Nat} : ∀ {a b r q : List Nat}, c ∉ a → c ∉ b → a ++ c :: r = b ++ c :: q → a = b ∧ r = q
  | [], [], _, _, _, _, e => by simpa using e
  | [], y :: b, _, _, _, hb, e => by
    simp only [List.nil_append, List.cons_append, List.cons.injEq] at e
    exact absurd (by rw [e.1]; exact List.mem_cons_self) hb
  | x :: a, [], _, _, ha, _, e => by
    simp only [List.nil_append, List.cons_append, List.cons.injEq] at e
    exact absurd (by rw [← e.1]; exact List.mem_cons_self) ha
  | x :: a, y :: b, _, _, ha, hb, e => by
    simp only [List.cons_append, List.cons.injEq] at e
    obtain ⟨e1, e2⟩ := cut_uniq (fun h => ha (List.mem_cons_of_mem _ h)) (fun h => hb (List.mem_cons_of_mem _ h)) e.2
    exact ⟨by rw [e.1, e1], e2⟩
def Free (c : Nat) (xs : List Str) : Prop := ∀ p ∈ xs, c ∉ p.cps.toList
theorem join_uniq {c : Nat} : ∀ {xs ys : List Str}, xs ≠ [] → ys ≠ [] → Free c xs → Free c ys → Str.join ⟨#[c]⟩ xs = Str.join ⟨#[c]⟩ ys → xs = ys
  | [], _, h, _, _, _, _ => absurd rfl h
  | _, [], _, h, _, _, _ => absurd rfl h
  | [x], [y], _, _, _, _, e => by rw [join_one, join_one] at e; rw [e]
  | [x], y :: z :: r, _, _, fx, _, e => by
    rw [join_one, join_cons] at e
    have : c ∈ x.cps.toList := by rw [e, app_list, app_list]; simp
    exact absurd this (fx x List.mem_cons_self)
  | x :: z :: r, [y], _, _, _, fy, e => by
    rw [join_one, join_cons] at e
    have : c ∈ y.cps.toList := by rw [← e, app_list, app_list]; simp
    exact absurd this (fy y List.mem_cons_self)
  | x :: z :: r, y :: w :: q, _, _, fx, fy, e => by
    rw [join_cons, join_cons] at e
    have e' := congrArg (fun s : Str => s.cps.toList) e
    simp only [app_list, List.append_assoc] at e'
    have e2 : x.cps.toList ++ c :: (Str.join ⟨#[c]⟩ (z :: r)).cps.toList = y.cps.toList ++ c :: (Str.join ⟨#[c]⟩ (w :: q)).cps.toList := e'
    obtain ⟨h1, h2⟩ := cut_uniq (fx x List.mem_cons_self) (fy y List.mem_cons_self) e2
    rw [str_ext h1, join_uniq (List.cons_ne_nil _ _) (List.cons_ne_nil _ _) (fun p hp => fx p (List.mem_cons_of_mem _ hp)) (fun p hp => fy p (List.mem_cons_of_mem _ hp)) (str_ext h2)]
theorem split_join {c : Nat} {xs : List Str} (h : xs ≠ []) (f : Free c xs) : Txt.split (Str.join ⟨#[c]⟩ xs) ⟨#[c]⟩ = xs := by
  refine join_uniq ?_ h (StrLaws.split_free _ c) f (StrLaws.join_split _ _)
  intro e
  have := split_pos (Str.join ⟨#[c]⟩ xs) ⟨#[c]⟩
  rw [e] at this
  exact absurd this (by decide)
theorem txt_join (sep : Str) (xs : List Str) : Txt.join sep xs = Str.join sep xs := StrLaws.glued_eq_join sep xs
theorem join_snoc (sep y : Str) : ∀ (xs : List Str), xs ≠ [] → Str.join sep (xs ++ [y]) = Str.join sep xs ++ sep ++ y
  | [], h => absurd rfl h
  | [x], _ => rfl
  | x :: z :: r, _ => by
    rw [List.cons_append, List.cons_append, join_cons, join_cons, ← List.cons_append, join_snoc sep y (z :: r) (List.cons_ne_nil _ _)]
    apply str_ext
    simp only [app_list, List.append_assoc]
theorem join_len (sep : Str) : ∀ (xs : List Str), (Str.join sep xs).length ≤ (xs.map (·.length)).sum + xs.length * sep.length := StrLaws.join_length_le sep
theorem join_mem {sep y : Str} {c : Nat} (hc : c ∈ y.cps.toList) : ∀ {xs : List Str}, y ∈ xs → c ∈ (Str.join sep xs).cps.toList
  | [], h => by cases h
  | [x], h => by rw [List.mem_singleton.mp h] at hc; exact hc
  | x :: z :: r, h => by
    rw [join_cons, app_list, app_list]
    rcases List.mem_cons.mp h with rfl | h
    · exact List.mem_append_left _ (List.mem_append_left _ hc)
    · exact List.mem_append_right _ (join_mem hc h)
/-- all signs plain -/
def Asc (x : Str) : Prop := ∀ c ∈ x.cps.toList, c < 128
theorem Asc.all {x : Str} (h : Asc x) : x.cps.all (· < 128) = true := by
  rw [← Array.all_toList, List.all_eq_true]
  exact fun c hc => decide_eq_true (h c hc)
theorem Asc.app {x y : Str} (hx : Asc x) (hy : Asc y) : Asc (x ++ y) := fun c hc => by
  rw [app_list] at hc
  rcases List.mem_append.mp hc with h | h
  · exact hx c h
  · exact hy c h
theorem Asc.join {sep : Str} (hs : Asc sep) : ∀ {xs : List Str}, (∀ x ∈ xs, Asc x) → Asc (Str.join sep xs)
  | [], _ => fun c hc => by have : c ∈ ([] : List Nat) := hc; cases this
  | [x], h => h x List.mem_cons_self
  | x :: y :: r, h => by
    rw [join_cons]
    exact ((h x List.mem_cons_self).app hs).app (Asc.join hs fun z hz => h z (List.mem_cons_of_mem _ hz))

/-! ### the first sign of its kind, doubled -/
theorem repl_join {c : Nat} {z w0 : Str} {ws : List Str} (hw : ws ≠ []) (f : c ∉ w0.cps.toList) :
    (Builtin.Str.occurrences (Str.join ⟨#[c]⟩ (w0 :: ws)) ⟨#[c]⟩ 0 (Str.join ⟨#[c]⟩ (w0 :: ws)).length 1).isEmpty = false ∧ repl1 (Str.join ⟨#[c]⟩ (w0 :: ws)) ⟨#[c]⟩ z = w0 ++ z ++ Str.join ⟨#[c]⟩ ws := by
  obtain ⟨w1, r, rfl⟩ : ∃ w1 r, ws = w1 :: r := by cases ws with | nil => exact absurd rfl hw | cons a b => exact ⟨a, b, rfl⟩
  have ex : (Str.join ⟨#[c]⟩ (w0 :: w1 :: r)).cps.toList = w0.cps.toList ++ c :: (Str.join ⟨#[c]⟩ (w1 :: r)).cps.toList := by
    rw [join_cons, app_list, app_list, List.append_assoc]; rfl
  generalize Str.join ⟨#[c]⟩ (w0 :: w1 :: r) = x at ex ⊢
  generalize Str.join ⟨#[c]⟩ (w1 :: r) = y at ex ⊢
  have len1 : (⟨#[c]⟩ : Str).length = 1 := rfl
  rcases StrLaws.occ_head x ⟨#[c]⟩ 1 (Nat.le_refl _) with ⟨_, hn⟩ | ⟨i, r2, e, hi, hn⟩
  · have := StrLaws.part_free x c 0 x.length (Nat.le_refl _) fun k _ _ => hn k
    rw [StrLaws.sub_whole, ex] at this
    simp at this
  · have r0 : r2 = [] := by
      have := StrLaws.occ_length_le x ⟨#[c]⟩ 0 x.length 1
      rw [e] at this
      cases r2 with
      | nil => rfl
      | cons a b => simp at this
    subst r0
    have fr := StrLaws.part_free x c 0 i (by have := hi.1; omega) fun k _ hk => hn k hk
    have cat := StrLaws.sub_cat x ⟨#[c]⟩ (a := 0) (c := i) (Nat.zero_le _) hi
    rw [StrLaws.sub_whole] at cat
    have e2 := congrArg (fun s : Str => s.cps.toList) cat
    simp only [app_list, List.append_assoc] at e2
    rw [ex] at e2
    obtain ⟨h1, h2⟩ := cut_uniq fr f (show (Builtin.Str.strSub x 0 i).cps.toList ++ c :: (Builtin.Str.strSub x (i + (⟨#[c]⟩ : Str).length) x.length).cps.toList = w0.cps.toList ++ c :: y.cps.toList from e2)
    refine ⟨by rw [e]; rfl, ?_⟩
    unfold repl1
    rw [e, StrLaws.partsBetween_eq, StrLaws.glued_eq_join]
    show Builtin.Str.strSub x 0 i ++ z ++ Builtin.Str.strSub x (i + (⟨#[c]⟩ : Str).length) x.length = _
    rw [str_ext h1, str_ext h2]

/-! ### numbers as texts -/
abbrev numS (n : Int) : Str := Str.ofString (toString n)
theorem num_signs {n : Int} (h0 : 0 ≤ n) : (numS n).cps.toList = (Nat.toDigits 10 n.toNat).map Char.toNat := by
  obtain ⟨m, rfl⟩ := Int.eq_ofNat_of_zero_le h0
  exact PySem.W.KIN.signs_num m
theorem digits_len : ∀ (k n : Nat), 1 ≤ k → n < 10 ^ k → (Nat.toDigits 10 n).length ≤ k
  | 0, _, h, _ => absurd h (by decide)
  | 1, n, _, h => by rw [Nat.toDigits_of_lt_base (by simpa using h)]; exact Nat.le_refl _
  | k + 2, n, _, h => by
    by_cases h10 : n < 10
    · rw [Nat.toDigits_of_lt_base h10]; simp
    · have hm : n % 10 < 10 := Nat.mod_lt n (by decide)
      have t : Nat.toDigits 10 (n / 10) ++ Nat.toDigits 10 (n % 10) = Nat.toDigits 10 (10 * (n / 10) + n % 10) := Nat.toDigits_append_toDigits (by decide) (by omega) hm
      rw [Nat.div_add_mod] at t
      have ih := digits_len (k + 1) (n / 10) (by omega) (by rw [Nat.pow_succ] at h; omega)
      rw [← t, List.length_append, Nat.toDigits_of_lt_base hm]
      simpa using ih
theorem digits_head (n : Nat) (h : 0 < n) : ∃ c r, (Nat.toDigits 10 n).map Char.toNat = c :: r ∧ c ≠ 48 := by
  induction n using Nat.strongRecOn with
  | _ n ih =>
    by_cases h10 : n < 10
    · rw [Nat.toDigits_of_lt_base h10]
      refine ⟨(Nat.digitChar n).toNat, [], rfl, ?_⟩
      have := PySem.W.KIN.digit_back n h10
      omega
    · have hm : n % 10 < 10 := Nat.mod_lt n (by decide)
      have t : Nat.toDigits 10 (n / 10) ++ Nat.toDigits 10 (n % 10) = Nat.toDigits 10 (10 * (n / 10) + n % 10) := Nat.toDigits_append_toDigits (by decide) (by omega) hm
      rw [Nat.div_add_mod] at t
      obtain ⟨c, r, e, hc⟩ := ih (n / 10) (by omega) (by omega)
      exact ⟨c, r ++ (Nat.toDigits 10 (n % 10)).map Char.toNat, by rw [← t, List.map_append, e]; rfl, hc⟩
theorem num_digits {n : Int} (h0 : 0 ≤ n) : ∀ c ∈ (numS n).cps.toList, 48 ≤ c ∧ c ≤ 57 := fun c hc => by
  rw [num_signs h0] at hc
  obtain ⟨ch, hch, e⟩ := List.mem_map.mp hc
  have r := PyProof.Rows.digit_range (Nat.isDigit_of_mem_toDigits (by decide) (by decide) hch)
  rw [← e]
  exact r
theorem num_len {n : Int} (h0 : 0 ≤ n) (h1 : n < 1000000) : 1 ≤ (numS n).cps.toList.length ∧ (numS n).cps.toList.length ≤ 6 := by
  rw [num_signs h0, List.length_map]
  exact ⟨PySem.toDigits_len_ge 10 _, digits_len 6 _ (by decide) (by omega)⟩
theorem num_zero : numS 0 = "0" := rfl
theorem num_head {n : Int} (h0 : 0 < n) : ∃ c r, (numS n).cps.toList = c :: r ∧ c ≠ 48 := by
  rw [num_signs (Int.le_of_lt h0)]
  exact digits_head _ (by omega)
theorem contains_one (x : Str) (c : Nat) : Txt.contains x ⟨#[c]⟩ = decide (c ∈ x.cps.toList) := by
  unfold Txt.contains
  rcases StrLaws.occ_head x ⟨#[c]⟩ 1 (Nat.le_refl _) with ⟨e, hn⟩ | ⟨i, r, e, hi, _⟩
  · have := StrLaws.part_free x c 0 x.length (Nat.le_refl _) fun k _ _ => hn k
    rw [StrLaws.sub_whole] at this
    rw [e, decide_eq_false this]; rfl
  · have cat := StrLaws.sub_cat x ⟨#[c]⟩ (a := 0) (c := i) (Nat.zero_le _) hi
    rw [StrLaws.sub_whole] at cat
    have : c ∈ x.cps.toList := by rw [← cat, app_list, app_list]; simp
    rw [e, decide_eq_true this]; rfl
theorem num_asc {n : Int} (h0 : 0 ≤ n) : Asc (numS n) := fun c hc => by have := num_digits h0 c hc; omega
end L2

set_option Elab.async false
set_option linter.all false
set_option maxRecDepth 100000
namespace B
open PySem L2
def top (i : Nat) : Stmt := PySem.Challenge.pw_backline_k71_rows_as_text.main.body.getD i (.Pass ⟨0, 0, 0, 0⟩)
abbrev s_is_number : Stmt := top 10
abbrev s_are_numbers : Stmt := top 11
abbrev s_row_shown : Stmt := top 14
abbrev s_rows_shown : Stmt := top 15
abbrev s_row_in : Stmt := top 16
abbrev s_read_rows : Stmt := top 17
abbrev s__law_cell_at : Stmt := top 19
abbrev s__law_mixed : Stmt := top 20
abbrev s__law_number : Stmt := top 21
abbrev s__law_row : Stmt := top 22
abbrev s__law_text : Stmt := top 23
abbrev s__law_bad : Stmt := top 24
abbrev s__law_refused : Stmt := top 25
abbrev s__law_same : Stmt := top 26
abbrev s_law : Stmt := top 27
theorem sc_is_number : FnScope ["text", "most"] ["text", "most"] (defScope s_is_number) := ⟨rfl, rfl, rfl, by decide +kernel, rfl, by decide +kernel, by decide +kernel⟩
theorem sc_are_numbers : FnScope ["texts", "most"] ["texts", "most"] (defScope s_are_numbers) := ⟨rfl, rfl, rfl, by decide +kernel, rfl, by decide +kernel, by decide +kernel⟩
theorem sc_row_shown : FnScope ["row", "numbers"] ["row"] (defScope s_row_shown) := ⟨rfl, rfl, rfl, by decide +kernel, rfl, by decide +kernel, by decide +kernel⟩
theorem sc_rows_shown : FnScope ["rows"] ["rows"] (defScope s_rows_shown) := ⟨rfl, rfl, rfl, by decide +kernel, rfl, by decide +kernel, by decide +kernel⟩
theorem sc_row_in : FnScope ["text", "words", "numbers"] ["text"] (defScope s_row_in) := ⟨rfl, rfl, rfl, by decide +kernel, rfl, by decide +kernel, by decide +kernel⟩
theorem sc_read_rows : FnScope ["text", "rows"] ["text"] (defScope s_read_rows) := ⟨rfl, rfl, rfl, by decide +kernel, rfl, by decide +kernel, by decide +kernel⟩
theorem sc__law_cell_at : FnScope ["_law_script", "_law_k"] ["_law_script", "_law_k"] (defScope s__law_cell_at) := ⟨rfl, rfl, rfl, by decide +kernel, rfl, by decide +kernel, by decide +kernel⟩
theorem sc__law_mixed : FnScope ["_law_cell", "_law_k", "_law_number_here"] ["_law_cell", "_law_k"] (defScope s__law_mixed) := ⟨rfl, rfl, rfl, by decide +kernel, rfl, by decide +kernel, by decide +kernel⟩
theorem sc__law_number : FnScope ["_law_number_here"] ["_law_number_here"] (defScope s__law_number) := ⟨rfl, rfl, rfl, by decide +kernel, rfl, by decide +kernel, by decide +kernel⟩
theorem sc__law_row : FnScope ["_law_cell", "_law_k", "_law_number_here", "_law_hand"] ["_law_cell", "_law_k"] (defScope s__law_row) := ⟨rfl, rfl, rfl, by decide +kernel, rfl, by decide +kernel, by decide +kernel⟩
theorem sc__law_text : FnScope ["_law_row_here", "_law_words"] ["_law_row_here"] (defScope s__law_text) := ⟨rfl, rfl, rfl, by decide +kernel, rfl, by decide +kernel, by decide +kernel⟩
theorem sc__law_bad : FnScope ["_law_row_here", "_law_number_here", "_law_words", "_law_bad_here", "_law_at", "_law_way"] ["_law_row_here", "_law_number_here"] (defScope s__law_bad) := ⟨rfl, rfl, rfl, by decide +kernel, rfl, by decide +kernel, by decide +kernel⟩
theorem sc__law_refused : FnScope ["_law_text_here", "e", "_law_others"] ["_law_text_here"] (defScope s__law_refused) := ⟨rfl, rfl, rfl, by decide +kernel, rfl, by decide +kernel, by decide +kernel⟩
theorem sc__law_same : FnScope ["_law_found", "_law_rows", "_law_row_here"] ["_law_found", "_law_rows"] (defScope s__law_same) := ⟨rfl, rfl, rfl, by decide +kernel, rfl, by decide +kernel, by decide +kernel⟩
theorem sc_law : FnScope ["_law_script", "_law_many", "_law_rows", "_law_text_here", "_law_handed", "_law_found", "_law_number_here", "_law_at", "_law_bad_here", "_law_texts", "_law_behind"] ["_law_script"] (defScope s_law) := ⟨rfl, rfl, rfl, by decide +kernel, rfl, by decide +kernel, by decide +kernel⟩
theorem b_ValueError : bootBuiltins "ValueError" = some (.type "ValueError") := by decide +kernel
theorem b_all : bootBuiltins "all" = some (.builtin "all") := by decide +kernel
theorem b_any : bootBuiltins "any" = some (.builtin "any") := by decide +kernel
theorem b_bool : bootBuiltins "bool" = some (.type "bool") := by decide +kernel
theorem b_int : bootBuiltins "int" = some (.type "int") := by decide +kernel
theorem b_isinstance : bootBuiltins "isinstance" = some (.builtin "isinstance") := by decide +kernel
theorem b_len : bootBuiltins "len" = some (.builtin "len") := by decide +kernel
theorem b_list : bootBuiltins "list" = some (.type "list") := by decide +kernel
theorem b_str : bootBuiltins "str" = some (.type "str") := by decide +kernel
theorem b_tuple : bootBuiltins "tuple" = some (.type "tuple") := by decide +kernel
structure Adr where
  c_NoHand : Addr
  c_NoLetter : Addr
  c_NoPoint : Addr
  c_NoRow : Addr
  c_NoText : Addr
  c_WeaveError : Addr
  f_is_number : Addr
  f_are_numbers : Addr
  f_row_shown : Addr
  f_rows_shown : Addr
  f_row_in : Addr
  f_read_rows : Addr
  f__law_cell_at : Addr
  f__law_mixed : Addr
  f__law_number : Addr
  f__law_row : Addr
  f__law_text : Addr
  f__law_bad : Addr
  f__law_refused : Addr
  f__law_same : Addr
  f_law : Addr
  d_NUMBERS_BEHIND : Addr
  pr : Params
  fd_is_number : FuncData
  fd_are_numbers : FuncData
  fd_row_shown : FuncData
  fd_rows_shown : FuncData
  fd_row_in : FuncData
  fd_read_rows : FuncData
  fd__law_cell_at : FuncData
  fd__law_mixed : FuncData
  fd__law_number : FuncData
  fd__law_row : FuncData
  fd__law_text : FuncData
  fd__law_bad : FuncData
  fd__law_refused : FuncData
  fd__law_same : FuncData
  fd_law : FuncData
structure Txt (K : PySem.W.Frag) (mg : Str → Option Value) (t : Adr) : Prop where
  no_len : mg "len" = none
  no_all : mg "all" = none
  ms_FIGURES : ∃ t, mg "FIGURES" = some (.str "0123456789" t)
  mg_is_number : mg "is_number" = some (.ref t.f_is_number)
  kp_is_number : PySem.W.keepIn K (.ref t.f_is_number) = true
  b_is_number : Binds K t.fd_is_number ["text", "most"] []
  no_str : mg "str" = none
  mg_row_shown : mg "row_shown" = some (.ref t.f_row_shown)
  kp_row_shown : PySem.W.keepIn K (.ref t.f_row_shown) = true
  b_row_shown : Binds K t.fd_row_shown ["row"] []
  md_NUMBERS_BEHIND : mg "NUMBERS_BEHIND" = some (.ref t.d_NUMBERS_BEHIND)
  kd_NUMBERS_BEHIND : KDict t.pr K t.d_NUMBERS_BEHIND [("own", 1), ("use", 4), ("write", 1)]
  mv_MOST_FIGURES : ∃ t, mg "MOST_FIGURES" = some (.int 6 t)
  mg_are_numbers : mg "are_numbers" = some (.ref t.f_are_numbers)
  kp_are_numbers : PySem.W.keepIn K (.ref t.f_are_numbers) = true
  b_are_numbers : Binds K t.fd_are_numbers ["texts", "most"] []
  no_int : mg "int" = none
  no_isinstance : mg "isinstance" = none
  mg_NoText : mg "NoText" = some (.ref t.c_NoText)
  ex_NoText : ExcC K t.c_NoText
  mg_row_in : mg "row_in" = some (.ref t.f_row_in)
  kp_row_in : PySem.W.keepIn K (.ref t.f_row_in) = true
  b_row_in : Binds K t.fd_row_in ["text"] []
  mg__law_mixed : mg "_law_mixed" = some (.ref t.f__law_mixed)
  kp__law_mixed : PySem.W.keepIn K (.ref t.f__law_mixed) = true
  b__law_mixed : Binds K t.fd__law_mixed ["_law_cell", "_law_k"] []
  mg__law_number : mg "_law_number" = some (.ref t.f__law_number)
  kp__law_number : PySem.W.keepIn K (.ref t.f__law_number) = true
  b__law_number : Binds K t.fd__law_number ["_law_number_here"] []
  no_tuple : mg "tuple" = none
  no_range : mg "range" = none
  mg__law_text : mg "_law_text" = some (.ref t.f__law_text)
  kp__law_text : PySem.W.keepIn K (.ref t.f__law_text) = true
  b__law_text : Binds K t.fd__law_text ["_law_row_here"] []
  mg_read_rows : mg "read_rows" = some (.ref t.f_read_rows)
  kp_read_rows : PySem.W.keepIn K (.ref t.f_read_rows) = true
  b_read_rows : Binds K t.fd_read_rows ["text"] []
  mg_NoRow : mg "NoRow" = some (.ref t.c_NoRow)
  mg_NoPoint : mg "NoPoint" = some (.ref t.c_NoPoint)
  mg_NoLetter : mg "NoLetter" = some (.ref t.c_NoLetter)
  mg_NoHand : mg "NoHand" = some (.ref t.c_NoHand)
  no_ValueError : mg "ValueError" = none
  mg_WeaveError : mg "WeaveError" = some (.ref t.c_WeaveError)
  no_list : mg "list" = none
  no_bool : mg "bool" = none
  no_any : mg "any" = none
  mg__law_cell_at : mg "_law_cell_at" = some (.ref t.f__law_cell_at)
  kp__law_cell_at : PySem.W.keepIn K (.ref t.f__law_cell_at) = true
  b__law_cell_at : Binds K t.fd__law_cell_at ["_law_script", "_law_k"] []
  mg__law_row : mg "_law_row" = some (.ref t.f__law_row)
  kp__law_row : PySem.W.keepIn K (.ref t.f__law_row) = true
  b__law_row : Binds K t.fd__law_row ["_law_cell", "_law_k"] []
  mg_rows_shown : mg "rows_shown" = some (.ref t.f_rows_shown)
  kp_rows_shown : PySem.W.keepIn K (.ref t.f_rows_shown) = true
  b_rows_shown : Binds K t.fd_rows_shown ["rows"] []
  mg__law_same : mg "_law_same" = some (.ref t.f__law_same)
  kp__law_same : PySem.W.keepIn K (.ref t.f__law_same) = true
  b__law_same : Binds K t.fd__law_same ["_law_found", "_law_rows"] []
  mg__law_bad : mg "_law_bad" = some (.ref t.f__law_bad)
  kp__law_bad : PySem.W.keepIn K (.ref t.f__law_bad) = true
  b__law_bad : Binds K t.fd__law_bad ["_law_row_here", "_law_number_here"] []
  mg__law_refused : mg "_law_refused" = some (.ref t.f__law_refused)
  kp__law_refused : PySem.W.keepIn K (.ref t.f__law_refused) = true
  b__law_refused : Binds K t.fd__law_refused ["_law_text_here"] []
  F_is_number : Fun K "is_number" "is_number" s_is_number t.f_is_number t.fd_is_number
  F_are_numbers : Fun K "are_numbers" "are_numbers" s_are_numbers t.f_are_numbers t.fd_are_numbers
  F_row_shown : Fun K "row_shown" "row_shown" s_row_shown t.f_row_shown t.fd_row_shown
  F_rows_shown : Fun K "rows_shown" "rows_shown" s_rows_shown t.f_rows_shown t.fd_rows_shown
  F_row_in : Fun K "row_in" "row_in" s_row_in t.f_row_in t.fd_row_in
  F_read_rows : Fun K "read_rows" "read_rows" s_read_rows t.f_read_rows t.fd_read_rows
  F__law_cell_at : Fun K "_law_cell_at" "_law_cell_at" s__law_cell_at t.f__law_cell_at t.fd__law_cell_at
  F__law_mixed : Fun K "_law_mixed" "_law_mixed" s__law_mixed t.f__law_mixed t.fd__law_mixed
  F__law_number : Fun K "_law_number" "_law_number" s__law_number t.f__law_number t.fd__law_number
  F__law_row : Fun K "_law_row" "_law_row" s__law_row t.f__law_row t.fd__law_row
  F__law_text : Fun K "_law_text" "_law_text" s__law_text t.f__law_text t.fd__law_text
  F__law_bad : Fun K "_law_bad" "_law_bad" s__law_bad t.f__law_bad t.fd__law_bad
  F__law_refused : Fun K "_law_refused" "_law_refused" s__law_refused t.f__law_refused t.fd__law_refused
  F__law_same : Fun K "_law_same" "_law_same" s__law_same t.f__law_same t.fd__law_same
  F_law : Fun K "law" "law" s_law t.f_law t.fd_law
  b_law : Binds K t.fd_law ["_law_script"] []
  ki_b : PySem.W.kitOne K (.type "int") (.type "bool") = some false
  xk_NoText : ExcK K t.c_NoText
  kw_NoText : PySem.W.exmOne K (.ref t.c_NoText) (.ref t.c_WeaveError) = some true
  ke_1 : PySem.W.kitOne K (.ref t.c_NoText) (.ref t.c_NoHand) = some false
  ke_2 : PySem.W.kitOne K (.ref t.c_NoText) (.ref t.c_NoLetter) = some false
  ke_3 : PySem.W.kitOne K (.ref t.c_NoText) (.ref t.c_NoPoint) = some false
  ke_4 : PySem.W.kitOne K (.ref t.c_NoText) (.ref t.c_NoRow) = some false
  ke_6 : PySem.W.kitOne K (.ref t.c_NoText) (.type "ValueError") = some true
section
variable {P : Program} {w : World} {K : PySem.W.Frag} {mg : Str → Option Value} {base : Heap} {t : Adr}
abbrev figs : Str := "0123456789"
def isNumB (x : Str) (m : Int) : Bool := decide (1 ≤ x.length) && decide ((x.length : Int) ≤ m) && x.cps.toList.all (fun c => decide (c ∈ figs.cps.toList)) && (decide (x = "0") || !decide (x.cps.toList.head? = some 48))
def sp_is_number : Sp := fun vs H Q _ => ∃ x m, vs = [.str x, .int m] ∧ Asc x ∧ x.length ≤ 1000 ∧ ∀ H', Same H H' → Q (.bl (isNumB x m)) H'
theorem ok_is_number (T : Txt K mg t) : FnOk P w K mg base (CXr P w) 1 t.f_is_number t.fd_is_number ["text", "most"] sp_is_number := by
  refine T.F_is_number.okN sc_is_number (fun vs H Q E h => ?_) (fun cdv A outer s H vs Q E hr h => ?_)
  · obtain ⟨x, m, rfl, _⟩ := h; rfl
  · obtain ⟨x, m, rfl, asc, few, k⟩ := h
    refine ⟨_, (pss_cons (ps_if (PW.pt (pw_or (pt_cmpR op_lt (pe_callB call_lenS rfl T.no_len b_len (pa_c (pv 0) pa_nil)) pe_int (nomark _)) (pw_or1 (pt_cmpR op_gt (pe_callB call_lenS rfl T.no_len b_len (pa_c (pv 0) pa_nil)) (pv 1) (nomark _)))))
        (pss_one (ps_ret pe_bl))
        pss_nil)
      (pss_cons (ps_if (pt_not (pt_val (pe_callB (call_allL rfl (K := K)) rfl T.no_all b_all (pa_c (pe_comp ["text", "most", "sign"] 1 rfl (pi_str (pv 0)) (fun _ _ _ _ _ => ⟨(pg_name (i := 2) (show List.Nodup (["text", "most", "sign"] : List Str) from by decide +kernel) rfl (Or.inl rfl)), pts_nil, (pe_cmpR op_inS (pv 2) (pe_constS rfl T.ms_FIGURES) (by with_unfolding_all rfl))⟩)) pa_nil))))
        (pss_one (ps_ret pe_bl))
        pss_nil)
      (pss_one (ps_ret (pe_or (pe_cmpR op_eq (pv 0) pe_str (nomark _)) (pe_one (pe_cmpR op_ne (pe_ix ix_str (pv 0) pe_int (fun _ _ => rfl)) pe_str (nomark _)))))))), ?_⟩
    have hz : x.length ≤ sizeLine := Nat.le_trans few (by decide)
    have hl : x.cps.toList.length = x.length := Array.length_toList
    have no : isNumB x m = false → Q (.bl false) H := fun e => by have := k H (.refl _); rw [e] at this; exact this
    refine ⟨_, rfl, x, rfl, hz, _, _, rfl, rfl, _, rfl, ?_⟩
    by_cases c1 : (x.length : Int) < 1
    · refine iteTe (decide_eq_true c1) (iteT (no ?_))
      unfold isNumB
      rw [decide_eq_false (show ¬ 1 ≤ x.length by omega)]; simp
    refine iteFe (decide_eq_false c1) ⟨_, rfl, x, rfl, hz, _, rfl, _, _, rfl, rfl, _, rfl, ?_⟩
    by_cases c2 : m < (x.length : Int)
    · refine iteTe (decide_eq_true c2) (no ?_)
      unfold isNumB
      rw [decide_eq_false (show ¬ (x.length : Int) ≤ m by omega)]; simp
    refine iteFe (decide_eq_false c2) ?_
    refine ⟨_, rfl, x, rfl, asc.all, comp_str (by rw [hl]; exact few) fun acc hacc => ⟨fun i σ2 ys H2 => ys = ((x.cps.toList.take i).map fun c => decide (c ∈ figs.cps.toList)).map V.bl ∧ H2 = upd H acc (.lst ys) ∧ ∃ o, σ2 = [some (.str x), some (.int m), o], ⟨rfl, rfl, _, rfl⟩, ?_, ?_, ?_⟩⟩
    · rintro i σ2 ys H2 hi ⟨rfl, _⟩
      rw [List.length_map, List.length_map, List.length_take]; omega
    · rintro i c σ2 ys H2 hi hc ⟨rfl, rfl, o, rfl⟩
      dsimp only [gName, tYes]
      refine iteT ⟨_, rfl, _, _, rfl, rfl, upd_same, Nx.mk hi ⟨?_, by rw [upd_upd], _, rfl⟩⟩
      rw [List.take_add_one, hc, contains_one]
      simp
    · rintro σ2 ys H2 ⟨rfl, rfl, o, rfl⟩
      rw [List.take_length]
      refine ⟨acc, _, rfl, SqL.of upd_same, _, rfl, ?_⟩
      have ea : ((x.cps.toList.map fun c => decide (c ∈ figs.cps.toList)).all id) = x.cps.toList.all fun c => decide (c ∈ figs.cps.toList) := by rw [List.all_map]; rfl
      rw [ea]
      by_cases c3 : (x.cps.toList.all fun c => decide (c ∈ figs.cps.toList)) = true
      · rw [c3]
        refine iteF ⟨_, rfl, rfl, _, rfl, ?_⟩
        have e1 : isNumB x m = (decide (x = "0") || !decide (x.cps.toList.head? = some 48)) := by
          unfold isNumB
          rw [c3, decide_eq_true (show 1 ≤ x.length by omega), decide_eq_true (show (x.length : Int) ≤ m by omega)]; rfl
        have kk := k _ (Same.new (o := .lst ((x.cps.toList.map fun c => decide (c ∈ figs.cps.toList)).map V.bl)) hacc)
        rw [e1] at kk
        by_cases c4 : x = "0"
        · refine iteTe (decide_eq_true (by rw [c4])) ?_
          rw [decide_eq_true c4] at kk
          exact kk
        · refine iteFe (decide_eq_false fun z => c4 (V.str.inj z)) ?_
          obtain ⟨c, r, ec⟩ : ∃ c r, x.cps.toList = c :: r := by
            cases q : x.cps.toList with
            | nil => rw [q] at hl; simp at hl; omega
            | cons c r => exact ⟨c, r, rfl⟩
          refine ⟨_, rfl, x, 0, c, rfl, rfl, hz, by unfold atI ixN; rw [ec]; simp, rfl, ?_⟩
          have e3 : (decide (x = "0") || !decide (x.cps.toList.head? = some 48)) = !decide (c = 48) := by rw [decide_eq_false c4, ec]; simp
          rw [e3] at kk
          have e2 : decide (V.str ⟨#[c]⟩ = V.str (Str.ofString "0")) = decide (c = 48) := by
            by_cases z : c = 48
            · rw [decide_eq_true z, decide_eq_true (by rw [z]; rfl)]
            · rw [decide_eq_false z, decide_eq_false fun q => z (by
                have q1 : (⟨#[c]⟩ : Str) = ⟨#[48]⟩ := V.str.inj q
                have q2 := congrArg (fun s : Str => s.cps.toList) q1
                simpa using q2)]
          rw [e2]
          exact kk
      · have c3' : (x.cps.toList.all fun c => decide (c ∈ figs.cps.toList)) = false := by simpa using c3
        rw [c3']
        refine iteT ?_
        have e1 : isNumB x m = false := by unfold isNumB; rw [c3']; simp
        have kk := k _ (Same.new (o := .lst ((x.cps.toList.map fun c => decide (c ∈ figs.cps.toList)).map V.bl)) hacc)
        rw [e1] at kk
        exact kk
def sp_are_numbers (K : PySem.W.Frag) : Sp := fun vs H Q _ => ∃ a xs m, vs = [.ref a, .int m] ∧ SqL K H a (sV xs) ∧ xs.length ≤ 1000 ∧ (∀ x ∈ xs, Asc x ∧ x.length ≤ 1000) ∧ ∀ H', Same H H' → Q (.bl (xs.all fun x => isNumB x m)) H'
theorem ok_are_numbers (T : Txt K mg t) : FnOk P w K mg base (CXr P w) 2 t.f_are_numbers t.fd_are_numbers ["texts", "most"] (sp_are_numbers K) := by
  refine T.F_are_numbers.okN sc_are_numbers (fun vs H Q E h => ?_) (fun cdv A outer s H vs Q E hr h => ?_)
  · obtain ⟨a, xs, m, rfl, _⟩ := h; rfl
  · obtain ⟨a, xs, m, rfl, hq, few, asc, k⟩ := h
    refine ⟨_, (pss_one (ps_ret (pe_callB (call_allL rfl (K := K)) rfl T.no_all b_all (pa_c (pe_comp ["texts", "most", "text"] 1 rfl (pi_listK (K := K) (pv 0)) (fun _ _ _ _ _ => ⟨(pg_name (i := 2) (show List.Nodup (["texts", "most", "text"] : List Str) from by decide +kernel) rfl (Or.inl rfl)), pts_nil, (pe_call (ok_is_number T) (hr.mono (by decide)) rfl T.mg_is_number T.kp_is_number T.b_is_number .nil passr0 (pa_c (pv 2) (pa_c (pv 1) pa_nil)))⟩)) pa_nil)))), ?_⟩
    refine ⟨_, rfl, a, rfl, ⟨_, hq⟩, comp_list (xs := sV xs) (by simpa using few) fun acc hacc => ⟨fun i σ2 ys H2 => ys = ((xs.take i).map fun x => isNumB x m).map V.bl ∧ H2 acc = some (.lst ys) ∧ Same H H2 ∧ ∃ o, σ2 = [some (.ref a), some (.int m), o], ⟨rfl, upd_same, Same.new hacc, _, rfl⟩, ?_, ?_, ?_⟩⟩
    · rintro i σ2 ys H2 hi ⟨rfl, _, s2, _⟩
      exact ⟨s2.seq hq, by rw [List.length_map, List.length_map, List.length_take]; omega⟩
    · rintro i x σ2 ys H2 hi hx ⟨rfl, e2, s2, o, rfl⟩
      obtain ⟨y, hy, rfl⟩ : ∃ y, xs[i]? = some y ∧ x = .str y := by
        rw [List.getElem?_map] at hx
        cases q : xs[i]? with
        | none => rw [q] at hx; cases hx
        | some y => rw [q] at hx; cases hx; exact ⟨y, rfl, rfl⟩
      dsimp only [gName, tYes]
      obtain ⟨h1, h2⟩ := asc y (List.mem_of_getElem? hy)
      refine iteT ⟨_, rfl, _, rfl, y, m, rfl, h1, h2, fun H3 s3 => ⟨s3 _ _ e2, Nx.mk hi ⟨?_, upd_same, fun b u e => ?_, _, rfl⟩⟩⟩
      · rw [List.take_add_one, hy]; simp
      · rw [upd_ne (ne_of_none e hacc)]; exact s3 _ _ (s2 _ _ e)
    · rintro σ2 ys H2 ⟨rfl, e2, s2, o, rfl⟩
      have lx : (sV xs).length = xs.length := by simp
      rw [lx, List.take_length] at e2
      refine ⟨acc, _, rfl, SqL.of e2, ?_⟩
      have ea : ((xs.map fun x => isNumB x m).all id) = xs.all fun x => isNumB x m := by rw [List.all_map]; rfl
      rw [ea]
      exact k H2 s2
theorem at0 {α : Type} {x : α} {r : List α} : atI (x :: r) 0 = some x := by unfold atI ixN; simp
/-! rows -/
inductive Row where
  | own (h : Int) | write (h : Int) | use (h a b c : Int)
def Row.kind : Row → Str
  | .own _ => "own"
  | .write _ => "write"
  | .use _ _ _ _ => "use"
def Row.nums : Row → List Int
  | .own h => [h]
  | .write h => [h]
  | .use h a b c => [h, a, b, c]
def Row.ok (r : Row) : Prop := ∀ n ∈ r.nums, 0 ≤ n ∧ n < 1000000
abbrev spc : Str := ⟨#[32]⟩
abbrev nl : Str := ⟨#[10]⟩
def Row.words (r : Row) : List Str := r.kind :: r.nums.map numS
def Row.text (r : Row) : Str := Str.join spc r.words
def Row.data : Row → PyData
  | .own h => .tuple [.str "own", .int h]
  | .write h => .tuple [.str "write", .int h]
  | .use h a b c => .tuple [.str "use", .int h, .tuple [.int a, .int b, .int c]]
/-- the row lies at v -/
def RowAt (K : PySem.W.Frag) (H : Hp) (v : V) : Row → Prop
  | .own h => ∃ p, v = .ref p ∧ H p = some (.tup [.str "own", .int h])
  | .write h => ∃ p, v = .ref p ∧ H p = some (.tup [.str "write", .int h])
  | .use h a b c => ∃ p q, v = .ref p ∧ H p = some (.tup [.str "use", .int h, .ref q]) ∧ H q = some (.tup [.int a, .int b, .int c])
theorem RowAt.same {H H' : Hp} {v : V} {r : Row} (s : Same H H') (h : RowAt K H v r) : RowAt K H' v r := by
  cases r with
  | own h0 => obtain ⟨p, e, h⟩ := h; exact ⟨p, e, s _ _ h⟩
  | write h0 => obtain ⟨p, e, h⟩ := h; exact ⟨p, e, s _ _ h⟩
  | use h0 a b c => obtain ⟨p, q, e, h, h2⟩ := h; exact ⟨p, q, e, s _ _ h, s _ _ h2⟩
theorem RowAt.rp {H : Hp} {v : V} {r : Row} (h : RowAt K H v r) : Rp K H v r.data := by
  cases r with
  | own h0 => obtain ⟨p, rfl, h⟩ := h; exact .tup (SqT.of h) (.cons (.str _) (.cons (.int _) .nil))
  | write h0 => obtain ⟨p, rfl, h⟩ := h; exact .tup (SqT.of h) (.cons (.str _) (.cons (.int _) .nil))
  | use h0 a b c => obtain ⟨p, q, rfl, h, h2⟩ := h; exact .tup (SqT.of h) (.cons (.str _) (.cons (.int _) (.cons (.tup (SqT.of h2) (.cons (.int _) (.cons (.int _) (.cons (.int _) .nil)))) .nil)))
/-- rows side by side -/
def RowsAt (K : PySem.W.Frag) (H : Hp) (vs : List V) (rs : List Row) : Prop := Paired (RowAt K H) vs rs
theorem RowsAt.same {H H' : Hp} (s : Same H H') {vs : List V} {rs : List Row} (h : RowsAt K H vs rs) : RowsAt K H' vs rs := Paired.imp' (fun _ _ z => RowAt.same s z) h
theorem RowsAt.rp {H : Hp} : ∀ {vs : List V} {rs : List Row}, RowsAt K H vs rs → RpAll K H vs (rs.map Row.data)
  | _, _, .nil => .nil
  | _, _, .cons a b => .cons a.rp (RowsAt.rp b)
theorem RowsAt.get {H : Hp} : ∀ {vs : List V} {rs : List Row} {i : Nat} {v : V}, RowsAt K H vs rs → vs[i]? = some v → ∃ r, rs[i]? = some r ∧ RowAt K H v r
  | _, _, _, _, .nil, e => by simp at e
  | _, _, 0, _, .cons a _, e => by simp at e; subst e; exact ⟨_, rfl, a⟩
  | _, _, i + 1, v, .cons _ b, e => by
    obtain ⟨r, h1, h2⟩ := RowsAt.get (i := i) b (by simpa using e)
    exact ⟨r, by simpa using h1, h2⟩
theorem RowsAt.snoc {H : Hp} {v : V} {r : Row} : ∀ {vs : List V} {rs : List Row}, RowsAt K H vs rs → RowAt K H v r → RowsAt K H (vs ++ [v]) (rs ++ [r])
  | _, _, .nil, h => .cons h .nil
  | _, _, .cons a b, h => .cons a (RowsAt.snoc b h)
theorem RowsAt.length {H : Hp} {vs : List V} {rs : List Row} (h : RowsAt K H vs rs) : vs.length = rs.length := Paired.length h
/-! the signs of the words -/
theorem kind_in (r : Row) : r.kind = "own" ∨ r.kind = "write" ∨ r.kind = "use" := by
  cases r with
  | own h => exact .inl rfl
  | write h => exact .inr (.inl rfl)
  | use h a b c => exact .inr (.inr rfl)
theorem kind_asc (r : Row) : Asc r.kind := by
  rcases kind_in r with e | e | e <;> (rw [e]; unfold Asc; decide)
theorem kind_free (r : Row) : 32 ∉ r.kind.cps.toList ∧ 10 ∉ r.kind.cps.toList := by
  rcases kind_in r with e | e | e <;> (rw [e]; decide)
theorem kind_len (r : Row) : r.kind.length ≤ 6 := by
  rcases kind_in r with e | e | e <;> (rw [e]; decide)
theorem num_free {n c : Int} {d : Nat} (h0 : 0 ≤ n) (hd : d < 48) : d ∉ (numS n).cps.toList := fun z => by have := num_digits h0 d z; omega
theorem words_free {r : Row} (ok : r.ok) : Free 32 r.words ∧ Free 10 r.words ∧ ∀ x ∈ r.words, Asc x ∧ x.length ≤ 6 := by
  refine ⟨fun x hx => ?_, fun x hx => ?_, fun x hx => ?_⟩
  · rcases List.mem_cons.mp hx with rfl | hx
    · exact (kind_free r).1
    · obtain ⟨n, hn, rfl⟩ := List.mem_map.mp hx
      exact num_free (c := 0) (ok n hn).1 (by decide)
  · rcases List.mem_cons.mp hx with rfl | hx
    · exact (kind_free r).2
    · obtain ⟨n, hn, rfl⟩ := List.mem_map.mp hx
      exact num_free (c := 0) (ok n hn).1 (by decide)
  · rcases List.mem_cons.mp hx with rfl | hx
    · exact ⟨kind_asc r, kind_len r⟩
    · obtain ⟨n, hn, rfl⟩ := List.mem_map.mp hx
      refine ⟨num_asc (ok n hn).1, ?_⟩
      have := (num_len (ok n hn).1 (ok n hn).2).2
      rw [Array.length_toList] at this
      exact this
theorem words_ne (r : Row) : r.words ≠ [] := List.cons_ne_nil _ _
theorem words_len (r : Row) : r.words.length = r.nums.length + 1 ∧ 1 ≤ r.nums.length ∧ r.nums.length ≤ 4 := by
  refine ⟨by unfold Row.words; simp, ?_⟩
  cases r with
  | own h => exact ⟨Nat.le_refl 1, by show 1 ≤ 4; decide⟩
  | write h => exact ⟨Nat.le_refl 1, by show 1 ≤ 4; decide⟩
  | use h a b c => exact ⟨by show 1 ≤ 4; decide, Nat.le_refl 4⟩
theorem sum_le {xs : List Str} {b : Nat} (h : ∀ x ∈ xs, x.length ≤ b) : (xs.map (·.length)).sum ≤ xs.length * b := StrLaws.sumLen_le xs h
theorem text_len {r : Row} (ok : r.ok) : r.text.length ≤ 40 := by
  have h1 := join_len spc r.words
  have h2 := sum_le (b := 6) fun x hx => ((words_free ok).2.2 x hx).2
  have h3 := words_len r
  have h4 : spc.length = 1 := rfl
  unfold Row.text
  rw [h4] at h1
  omega
theorem text_asc {r : Row} (ok : r.ok) : Asc r.text := Asc.join (by intro c hc; revert c; decide) fun x hx => ((words_free ok).2.2 x hx).1
theorem join_free {c : Nat} {sep : Str} (hs : c ∉ sep.cps.toList) : ∀ {xs : List Str}, Free c xs → c ∉ (Str.join sep xs).cps.toList
  | [], _ => by intro h; have : c ∈ ([] : List Nat) := h; cases this
  | [x], h => h x List.mem_cons_self
  | x :: y :: r, h => by
    rw [join_cons, app_list, app_list]
    intro z
    rcases List.mem_append.mp z with z | z
    · rcases List.mem_append.mp z with z | z
      · exact h x List.mem_cons_self z
      · exact hs z
    · exact join_free hs (xs := y :: r) (fun p hp => h p (List.mem_cons_of_mem _ hp)) z
theorem text_free {r : Row} (ok : r.ok) : 10 ∉ r.text.cps.toList := join_free (by decide) (words_free ok).2.1
theorem split_text {r : Row} (ok : r.ok) : Txt.split r.text spc = r.words := split_join (words_ne r) (words_free ok).1
theorem joinOk {sep : Str} {xs : List Str} {b : Nat} (h : ∀ x ∈ xs, x.length ≤ b) (hb : xs.length * b + xs.length * sep.length ≤ 16777216) : JoinOk sep xs = true := by
  have := StrLaws.joinFits h hb
  unfold JoinOk
  simpa using this
def sp_row_shown (K : PySem.W.Frag) : Sp := fun vs H Q _ => ∃ v r, vs = [v] ∧ RowAt K H v r ∧ r.ok ∧ ∀ H', Same H H' → Q (.str r.text) H'
set_option maxHeartbeats 4000000 in
theorem ok_row_shown (T : Txt K mg t) : FnOk P w K mg base (CXr P w) 1 t.f_row_shown t.fd_row_shown ["row"] (sp_row_shown K) := by
  refine T.F_row_shown.okN sc_row_shown (fun vs H Q E h => ?_) (fun cdv A outer s H vs Q E hr h => ?_)
  · obtain ⟨v, r, rfl, _⟩ := h; rfl
  · obtain ⟨v, r, rfl, hv, ok, k⟩ := h
    refine ⟨_, (pss_cons (ps_set (i := 1) sc_row_shown.nd rfl (Or.inl rfl) (pe_lst (pa_c (pe_ix (ix_tupK (K := K)) (pv 0) pe_int (fun _ _ => rfl)) pa_nil)))
      (pss_cons (ps_if (pt_cmpR op_eq (pe_ix (ix_tupK (K := K)) (pv 0) pe_int (fun _ _ => rfl)) pe_str (nomark _))
        (pss_one (ps_expr (pe_bmK (K := K) PySem.F.plainAttrs_list PySem.F.slot_list_extend PySem.F.type_list_extend (mt_extendT (K := K)) (pv 1) (pa_c (pe_ix (ix_tupK (K := K)) (pv 0) pe_int (fun _ _ => rfl)) pa_nil))))
        pss_nil)
      (pss_one (ps_ret (pe_bmK (K := K) PySem.F.plainAttrs_str PySem.F.slot_str_join PySem.F.type_str_join (mt_join (K := K)) pe_str (pa_c (pe_op op_cat (pe_lst (pa_c (pe_ix (ix_tupK (K := K)) (pv 0) pe_int (fun _ _ => rfl)) pa_nil)) (pe_comp ["row", "numbers", "number"] 1 rfl (pi_listK (K := K) (pv 1)) (fun _ _ _ _ _ => ⟨(pg_name (i := 2) (show List.Nodup (["row", "numbers", "number"] : List Str) from by decide +kernel) rfl (Or.inl rfl)), pts_nil, (pe_callTy call_strI rfl T.no_str b_str (pa_c (pv 2) pa_nil))⟩))) pa_nil)))))), ?_⟩
    have rest : ∀ l H', Same H H' → H' l = some (.lst (iV r.nums)) → (∃ p vs, v = .ref p ∧ SqT K H' p (.str r.kind :: vs)) →
        (tRet (tBM K "str" (rJoin K) (tC (V.str (Str.ofString " "))) (tCons (tOp rCat (tLst (tCons (tOp (rIxT K) (tVar 0) (tC (V.int 0))) tNil)) (tComp (iList K (tVar 1)) 1 (gName 2) tYes (tCB rStrI (tCons (tVar 2) tNil)))) tNil)))
          { nx := fun x H' => Q V.non H', rt := Q } [some v, some (.ref l)] H' := by
      intro l H' s' hl hp
      obtain ⟨p, vs, rfl, hp⟩ := hp
      refine ⟨rfl, _, rfl, p, _, 0, .str r.kind, rfl, rfl, hp, at0, by show 1 ≤ sizeLine; decide, fun l1 h1 => ?_⟩
      have s1 := Same.new (o := .lst [.str r.kind]) h1
      have len := words_len r
      refine ⟨_, rfl, l, rfl, ⟨_, SqL.of (s1 _ _ hl)⟩, comp_list (xs := iV r.nums) (by unfold iV; rw [List.length_map]; omega) fun acc hacc => ⟨fun i σ2 ys H2 => ys = sV ((r.nums.take i).map numS) ∧ H2 = upd (upd H' l1 (.lst [.str r.kind])) acc (.lst ys) ∧ ∃ o, σ2 = [some (.ref p), some (.ref l), o], ⟨rfl, rfl, _, rfl⟩, ?_, ?_, ?_⟩⟩
      · rintro i σ2 ys H2 hi ⟨rfl, rfl, _⟩
        exact ⟨SqL.of ((Same.new hacc) _ _ (s1 _ _ hl)), by simp; omega⟩
      · rintro i x σ2 ys H2 hi hx ⟨rfl, rfl, o, rfl⟩
        obtain ⟨n, hn, rfl⟩ : ∃ n, r.nums[i]? = some n ∧ x = .int n := by
          unfold iV at hx
          rw [List.getElem?_map] at hx
          cases q : r.nums[i]? with
          | none => rw [q] at hx; cases hx
          | some y => rw [q] at hx; cases hx; exact ⟨y, rfl, rfl⟩
        obtain ⟨n0, n1⟩ := ok n (List.mem_of_getElem? hn)
        dsimp only [gName, tYes]
        refine iteT ⟨_, rfl, n, rfl, ?_, upd_same, Nx.mk hi ⟨?_, by rw [upd_upd], _, rfl⟩⟩
        · have : n.natAbs < 2 ^ 20 := by omega
          by_cases z : n.natAbs = 0
          · rw [z]; decide
          · exact Nat.lt_trans ((Nat.log2_lt z).mpr this) (by decide)
        · rw [List.take_add_one, hn, List.map_append]; unfold sV; rw [List.map_append]; rfl
      · rintro σ2 ys H2 ⟨rfl, rfl, o, rfl⟩
        have ln : (iV r.nums).length = r.nums.length := by unfold iV; simp
        rw [ln, List.take_length]
        have na : l1 ≠ acc := ne_of_none upd_same hacc
        refine ⟨l1, acc, _, _, rfl, rfl, by rw [upd_ne na, upd_same], upd_same, by simp; exact Nat.le_trans (show _ ≤ 5 by omega) (by decide), fun p2 h2 => ?_⟩
        have ok2 : ∀ x ∈ r.words, x.length ≤ 6 := fun x hx => ((words_free ok).2.2 x hx).2
        refine ⟨_, p2, r.words, rfl, rfl, SqL.of upd_same, joinOk ok2 ?_, ?_⟩
        · have : (Str.ofString " ").length = 1 := rfl
          rw [this]; omega
        · rw [txt_join]
          exact k _ ((s'.trans s1).trans ((Same.new hacc).trans (Same.new h2)))
    cases r with
    | own h0 =>
      obtain ⟨p, rfl, hp'⟩ := hv
      have hp := SqT.of (K := K) hp'
      refine ⟨_, rfl, p, _, 1, .int h0, rfl, rfl, hp, rfl, by show 1 ≤ sizeLine; decide, fun l hl => ?_⟩
      have s1 := Same.new (o := .lst [.int h0]) hl
      exact ⟨_, rfl, p, _, 0, .str "own", rfl, rfl, s1.tup hp, rfl, rfl, _, rfl, iteFe (by decide) (rest l _ s1 upd_same ⟨p, _, rfl, s1.tup hp⟩)⟩
    | write h0 =>
      obtain ⟨p, rfl, hp'⟩ := hv
      have hp := SqT.of (K := K) hp'
      refine ⟨_, rfl, p, _, 1, .int h0, rfl, rfl, hp, rfl, by show 1 ≤ sizeLine; decide, fun l hl => ?_⟩
      have s1 := Same.new (o := .lst [.int h0]) hl
      exact ⟨_, rfl, p, _, 0, .str "write", rfl, rfl, s1.tup hp, rfl, rfl, _, rfl, iteFe (by decide) (rest l _ s1 upd_same ⟨p, _, rfl, s1.tup hp⟩)⟩
    | use h0 a b c =>
      obtain ⟨p, q, rfl, hp', hq'⟩ := hv
      have hp := SqT.of (K := K) hp'
      have hq := SqT.of (K := K) hq'
      refine ⟨_, rfl, p, _, 1, .int h0, rfl, rfl, hp, rfl, by show 1 ≤ sizeLine; decide, fun l hl => ?_⟩
      have s1 := Same.new (o := .lst [.int h0]) hl
      refine ⟨_, rfl, p, _, 0, .str "use", rfl, rfl, s1.tup hp, rfl, rfl, _, rfl, iteTe (by decide) ?_⟩
      refine ⟨_, rfl, .inl ⟨rfl, _, SqL.of upd_same⟩, _, rfl, p, _, 2, .ref q, rfl, rfl, s1.tup hp, rfl, l, q, _, _, rfl, rfl, upd_same, s1.tup hq, by show 4 ≤ sizeLine; decide, ?_⟩
      rw [upd_upd]
      have s2 := Same.new (o := .lst (iV [h0, a, b, c])) hl
      exact rest l _ s2 upd_same ⟨p, _, rfl, s2.tup hp⟩
def sp_rows_shown (K : PySem.W.Frag) : Sp := fun vs H Q _ => ∃ a xs rs, vs = [.ref a] ∧ SqL K H a xs ∧ RowsAt K H xs rs ∧ (∀ r ∈ rs, r.ok) ∧ rs.length ≤ 100 ∧ ∀ H', Same H H' → Q (.str (Str.join nl (rs.map Row.text))) H'
theorem ok_rows_shown (T : Txt K mg t) : FnOk P w K mg base (CXr P w) 2 t.f_rows_shown t.fd_rows_shown ["rows"] (sp_rows_shown K) := by
  refine T.F_rows_shown.okN sc_rows_shown (fun vs H Q E h => ?_) (fun cdv A outer s H vs Q E hr h => ?_)
  · obtain ⟨a, xs, rs, rfl, _⟩ := h; rfl
  · obtain ⟨a, xs, rs, rfl, hq, hx, ok, few, k⟩ := h
    refine ⟨_, (pss_one (ps_ret (pe_bmK (K := K) PySem.F.plainAttrs_str PySem.F.slot_str_join PySem.F.type_str_join (mt_join (K := K)) pe_str (pa_c (pe_comp ["rows", "row"] 1 rfl (pi_listK (K := K) (pv 0)) (fun _ _ _ _ _ => ⟨(pg_name (i := 1) (show List.Nodup (["rows", "row"] : List Str) from by decide +kernel) rfl (Or.inl rfl)), pts_nil, (pe_call (ok_row_shown T) (hr.mono (by decide)) rfl T.mg_row_shown T.kp_row_shown T.b_row_shown .nil passr0 (pa_c (pv 1) pa_nil))⟩)) pa_nil)))), ?_⟩
    have lx := hx.length
    refine ⟨rfl, _, rfl, a, rfl, ⟨_, hq⟩, comp_list (xs := xs) (by omega) fun acc hacc => ⟨fun i σ2 ys H2 => ys = sV ((rs.take i).map Row.text) ∧ H2 acc = some (.lst ys) ∧ Same H H2 ∧ ∃ o, σ2 = [some (.ref a), o], ⟨rfl, upd_same, Same.new hacc, _, rfl⟩, ?_, ?_, ?_⟩⟩
    · rintro i σ2 ys H2 hi ⟨rfl, _, s2, _⟩
      exact ⟨s2.seq hq, by simp; omega⟩
    · rintro i x σ2 ys H2 hi hxi ⟨rfl, e2, s2, o, rfl⟩
      obtain ⟨r, hr, hv⟩ := hx.get hxi
      dsimp only [gName, tYes]
      refine iteT ⟨_, rfl, x, r, rfl, hv.same s2, ok r (List.mem_of_getElem? hr), fun H3 s3 => ⟨s3 _ _ e2, Nx.mk hi ⟨?_, upd_same, fun b u e => ?_, _, rfl⟩⟩⟩
      · rw [List.take_add_one, hr]; simp
      · rw [upd_ne (ne_of_none e hacc)]; exact s3 _ _ (s2 _ _ e)
    · rintro σ2 ys H2 ⟨rfl, e2, s2, o, rfl⟩
      rw [lx, List.take_length] at e2
      have ok2 : ∀ x ∈ rs.map Row.text, x.length ≤ 40 := fun x hx => by
        obtain ⟨r, hr, rfl⟩ := List.mem_map.mp hx
        exact text_len (ok r hr)
      refine ⟨_, acc, _, rfl, rfl, SqL.of e2, joinOk ok2 ?_, ?_⟩
      · have : (Str.ofString "\n").length = 1 := rfl
        rw [this, List.length_map]; omega
      · rw [txt_join]
        exact k H2 s2
/-- a line that is no row -/
def NB : List (Str × Int) := [("own", 1), ("use", 4), ("write", 1)]
def Bad (x : Str) : Prop := ∃ w0 ws, Txt.split x spc = w0 :: ws ∧ match NB.lookup w0 with
  | none => True
  | some n => (ws.length : Int) ≠ n ∨ (ws.all fun y => isNumB y 6) = false
def sp_row_in (K : PySem.W.Frag) : Sp := fun vs H Q _ => ∃ x, vs = [.str x] ∧ Asc x ∧ x.length ≤ 100 ∧ ((Bad x ∧ ∀ H', Same H H' → Q .non H') ∨ ∃ r, r.ok ∧ x = r.text ∧ ∀ v H', Same H H' → RowAt K H' v r → Q v H')
theorem num_isNum {n : Int} (h0 : 0 ≤ n) (h1 : n < 1000000) : isNumB (numS n) 6 = true := by
  have hl := num_len h0 h1
  have e : (numS n).cps.toList.length = (numS n).length := Array.length_toList
  rw [e] at hl
  unfold isNumB
  have a : ((numS n).cps.toList.all fun c => decide (c ∈ figs.cps.toList)) = true := by
    rw [List.all_eq_true]
    intro c hc
    have := num_digits h0 c hc
    have q : c = 48 ∨ c = 49 ∨ c = 50 ∨ c = 51 ∨ c = 52 ∨ c = 53 ∨ c = 54 ∨ c = 55 ∨ c = 56 ∨ c = 57 := by omega
    rcases q with rfl | rfl | rfl | rfl | rfl | rfl | rfl | rfl | rfl | rfl <;> decide
  have b : (decide (numS n = "0") || !decide ((numS n).cps.toList.head? = some 48)) = true := by
    by_cases z : n = 0
    · subst z; rfl
    · obtain ⟨c, r, ec, hc⟩ := num_head (n := n) (by omega)
      rw [ec]; simp [hc]
  rw [a, b, decide_eq_true hl.1, decide_eq_true (show ((numS n).length : Int) ≤ 6 by omega)]; rfl
theorem nb_row (r : Row) : NB.lookup r.kind = some (r.nums.length : Int) := by
  cases r with
  | own h => rfl
  | write h => rfl
  | use h a b c => rfl
theorem cut_tail {α : Type} (x : V) (xs : List V) : cutV (x :: xs) (some 1) none = xs := by
  unfold cutV HT.sIx
  simp
theorem ok_row_in (T : Txt K mg t) (Tb : t.pr = w.params) : FnOk P w K mg base (CXr P w) 3 t.f_row_in t.fd_row_in ["text"] (sp_row_in K) := by
  refine T.F_row_in.okN sc_row_in (fun vs H Q E h => ?_) (fun cdv A outer s H vs Q E hr h => ?_)
  · obtain ⟨x, rfl, _⟩ := h; rfl
  · obtain ⟨x, rfl, asc, few, k⟩ := h
    refine ⟨_, (pss_cons (ps_set (i := 1) sc_row_in.nd rfl (Or.inl rfl) (pe_bmK (K := K) PySem.F.plainAttrs_str PySem.F.slot_str_split PySem.F.type_str_split mt_split (pv 0) (pa_c pe_str pa_nil)))
      (pss_cons (ps_if (PW.pt (pw_or (pt_cmp (pc_knotin T.kd_NUMBERS_BEHIND Tb rfl T.md_NUMBERS_BEHIND (pe_ix (ix_listK (K := K)) (pv 1) pe_int (fun _ _ => rfl)))) (pw_or1 (pt_cmpR op_ne (pe_op op_sub (pe_callB (call_lenK (K := K)) rfl T.no_len b_len (pa_c (pv 1) pa_nil)) pe_int) (pe_kget T.kd_NUMBERS_BEHIND Tb rfl T.md_NUMBERS_BEHIND (pe_ix (ix_listK (K := K)) (pv 1) pe_int (fun _ _ => rfl)) (fun _ _ => rfl)) (nomark _)))))
        (pss_one (ps_ret pe_non))
        pss_nil)
      (pss_cons (ps_if (pt_not (pt_val (pe_call (ok_are_numbers T) (hr.mono (by decide)) rfl T.mg_are_numbers T.kp_are_numbers T.b_are_numbers .nil passr0 (pa_c (pe_slice (sl_listK (K := K)) (pv 1) (po_some pe_int) po_none) (pa_c (pe_constI rfl T.mv_MOST_FIGURES) pa_nil)))))
        (pss_one (ps_ret pe_non))
        pss_nil)
      (pss_cons (ps_setcomp ["text", "words", "numbers", "word"] 1 (i := 2) rfl sc_row_in.nd rfl (Or.inl rfl) (pi_listK (K := K) (pe_slice (sl_listK (K := K)) (pv 1) (po_some pe_int) po_none)) (fun _ _ _ _ _ => ⟨(pg_name (i := 3) (show List.Nodup (["text", "words", "numbers", "word"] : List Str) from by decide +kernel) rfl (Or.inl rfl)), pts_nil, (pe_callTy call_intS rfl T.no_int b_int (pa_c (pv 3) pa_nil))⟩))
      (pss_cons (ps_if (pt_cmpR op_eq (pe_ix (ix_listK (K := K)) (pv 1) pe_int (fun _ _ => rfl)) pe_str (nomark _))
        (pss_one (ps_ret (pe_tup (pa_c pe_str (pa_c (pe_ix (ix_listK (K := K)) (pv 2) pe_int (fun _ _ => rfl)) (pa_c (pe_tup (pa_c (pe_ix (ix_listK (K := K)) (pv 2) pe_int (fun _ _ => rfl)) (pa_c (pe_ix (ix_listK (K := K)) (pv 2) pe_int (fun _ _ => rfl)) (pa_c (pe_ix (ix_listK (K := K)) (pv 2) pe_int (fun _ _ => rfl)) pa_nil)))) pa_nil))))))
        pss_nil)
      (pss_one (ps_ret (pe_tup (pa_c (pe_ix (ix_listK (K := K)) (pv 1) pe_int (fun _ _ => rfl)) (pa_c (pe_ix (ix_listK (K := K)) (pv 2) pe_int (fun _ _ => rfl)) pa_nil)))))))))), ?_⟩
    refine ⟨_, rfl, rfl, x, _, rfl, rfl, rfl, by omega, fun l hl => ?_⟩
    have s1 := Same.new (o := .lst (sV (Txt.split x spc))) hl
    have hl1 : upd H l (.lst (sV (Txt.split x spc))) l = some (.lst (sV (Txt.split x spc))) := upd_same
    change tSeq _ _ _ _ (upd H l (.lst (sV (Txt.split x spc))))
    generalize upd H l (.lst (sV (Txt.split x spc))) = H1 at s1 hl1 ⊢
    have wlen : (Txt.split x spc).length ≤ 102 := Nat.le_trans (PyProof.Rows.split_le x spc) (by omega)
    have wasc : ∀ y ∈ Txt.split x spc, Asc y ∧ y.length ≤ 1000 := fun y hy => by
      refine ⟨fun c hc => ?_, Nat.le_trans (PyProof.Rows.part_short hy) (by omega)⟩
      have : c ∈ x.cps.toList := by
        rw [← StrLaws.join_split x spc]
        exact join_mem hc hy
      exact asc c this
    obtain ⟨w0, ws, ew⟩ : ∃ w0 ws, Txt.split x spc = w0 :: ws := by
      cases q : Txt.split x spc with
      | nil => have := PyProof.Rows.split_pos x spc; rw [q] at this; exact absurd this (by decide)
      | cons a b => exact ⟨a, b, rfl⟩
    rw [ew] at hl1 wlen wasc
    have hq : SqL K H1 l (.str w0 :: sV ws) := SqL.of hl1
    refine ⟨_, rfl, l, _, 0, .str w0, rfl, rfl, hq, at0, w0, rfl, _, rfl, ?_⟩
    cases hn : NB.lookup w0 with
    | none =>
      have hn' : List.lookup w0 [(Str.ofString "own", (1 : Int)), (Str.ofString "use", 4), (Str.ofString "write", 1)] = none := hn
      rw [hn']
      refine iteT (iteT ?_)
      rcases k with ⟨_, k⟩ | ⟨r, ok, e, k⟩
      · exact k H1 s1
      · exfalso
        rw [e, split_text ok] at ew
        have e0 : r.kind = w0 := (List.cons.inj ew).1
        rw [← e0, nb_row] at hn
        cases hn
    | some n =>
      have hn' : List.lookup w0 [(Str.ofString "own", (1 : Int)), (Str.ofString "use", 4), (Str.ofString "write", 1)] = some n := hn
      rw [hn']
      refine iteF ⟨_, rfl, l, _, rfl, .inl hq, _, _, rfl, rfl, _, rfl, l, _, 0, .str w0, rfl, rfl, hq, at0, w0, n, rfl, hn', rfl, _, rfl, ?_⟩
      have el : ((((V.str w0 :: sV ws).length : Nat) : Int) - 1) = (ws.length : Int) := by simp
      by_cases cl : (ws.length : Int) = n
      case neg =>
        refine iteTe (by show (!decide (V.int (((V.str w0 :: sV ws).length : Int) - 1) = V.int n)) = true; rw [el]; simp [cl]) ?_
        rcases k with ⟨_, k⟩ | ⟨r, ok, e, k⟩
        · exact k H1 s1
        · exfalso
          rw [e, split_text ok] at ew
          obtain ⟨e0, e1⟩ := List.cons.inj ew
          rw [← e0, nb_row] at hn
          rw [← e1, List.length_map] at cl
          exact cl (Option.some.inj hn)
      case pos =>
        refine iteFe (by show (!decide (V.int (((V.str w0 :: sV ws).length : Int) - 1) = V.int n)) = false; rw [el]; simp [cl]) ?_
        refine ⟨_, rfl, 1, rfl, l, _, rfl, hq, fun l2 h2 => ?_⟩
        rw [cut_tail (α := V)]
        have s2 := Same.new (o := .lst (sV ws)) h2
        have hl2 : upd H1 l2 (.lst (sV ws)) l2 = some (.lst (sV ws)) := upd_same
        generalize upd H1 l2 (.lst (sV ws)) = H2 at s2 hl2 ⊢
        refine ⟨l2, ws, 6, rfl, SqL.of hl2, by simp at wlen; omega, fun y hy => wasc y (List.mem_cons_of_mem _ hy), fun H3 s3 => ⟨_, rfl, ?_⟩⟩
        by_cases ca : (ws.all fun y => isNumB y 6) = true
        case neg =>
          have ca' : (ws.all fun y => isNumB y 6) = false := by simpa using ca
          rw [ca']
          refine iteT ?_
          rcases k with ⟨_, k⟩ | ⟨r, ok, e, k⟩
          · exact k H3 ((s1.trans s2).trans s3)
          · exfalso
            rw [e, split_text ok] at ew
            obtain ⟨e0, e1⟩ := List.cons.inj ew
            apply ca
            rw [← e1, List.all_map, List.all_eq_true]
            exact fun m hm => num_isNum (ok m hm).1 (ok m hm).2
        case pos =>
          rw [ca]
          refine iteF ?_
          rcases k with ⟨⟨v0, vs, ev, bad⟩, k⟩ | ⟨r, ok, e, k⟩
          · exfalso
            rw [ew] at ev
            obtain ⟨rfl, rfl⟩ := List.cons.inj ev
            rw [hn] at bad
            rcases bad with b | b
            · exact b cl
            · rw [ca] at b; cases b
          · rw [e, split_text ok] at ew
            obtain ⟨e0, e1⟩ := List.cons.inj ew
            subst e0; subst e1
            have hq3 : SqL K H3 l (.str r.kind :: sV (r.nums.map numS)) := (s2.trans s3).seq hq
            refine ⟨_, rfl, 1, rfl, l, _, rfl, hq3, fun l3 h3 => ⟨l3, rfl, ⟨_, SqL.of upd_same⟩, ?_⟩⟩
            rw [cut_tail (α := V)]
            have s4 := Same.new (o := .lst (sV (r.nums.map numS))) h3
            have hl4 : upd H3 l3 (.lst (sV (r.nums.map numS))) l3 = some (.lst (sV (r.nums.map numS))) := upd_same
            generalize upd H3 l3 (.lst (sV (r.nums.map numS))) = H4 at s4 hl4 ⊢
            have len := words_len r
            refine comp_list (xs := sV (r.nums.map numS)) (by simp; omega) fun acc hacc => ⟨fun i σ2 ys H5 => ys = iV (r.nums.take i) ∧ H5 = upd H4 acc (.lst ys) ∧ ∃ o, σ2 = [some (.str x), some (.ref l), none, o], ⟨rfl, rfl, _, rfl⟩, ?_, ?_, ?_⟩
            · rintro i σ2 ys H5 hi ⟨rfl, rfl, _⟩
              exact ⟨SqL.of ((Same.new hacc) _ _ hl4), by unfold iV; rw [List.length_map, List.length_take]; omega⟩
            · rintro i v σ2 ys H5 hi hx ⟨rfl, rfl, o, rfl⟩
              obtain ⟨n, hn1, rfl⟩ : ∃ n, r.nums[i]? = some n ∧ v = .str (numS n) := by
                unfold sV at hx
                rw [List.getElem?_map, List.getElem?_map] at hx
                cases q : r.nums[i]? with
                | none => rw [q] at hx; cases hx
                | some y => rw [q] at hx; cases hx; exact ⟨y, rfl, rfl⟩
              obtain ⟨n0, n1⟩ := ok n (List.mem_of_getElem? hn1)
              have nl := (num_len n0 n1).2
              rw [Array.length_toList] at nl
              dsimp only [gName, tYes]
              refine iteT ⟨_, rfl, numS n, n, rfl, PySem.W.KIN.num_reads n0 (by omega), Nat.le_trans nl (by decide), upd_same, Nx.mk hi ⟨?_, by rw [upd_upd], _, rfl⟩⟩
              rw [List.take_add_one, hn1]; unfold iV; rw [List.map_append]; rfl
            · rintro σ2 ys H5 ⟨rfl, rfl, o, rfl⟩
              have ln : (sV (r.nums.map numS)).length = r.nums.length := by simp
              rw [ln, List.take_length]
              have s5 := Same.new (o := .lst (iV r.nums)) hacc
              have hl5 : upd H4 acc (.lst (iV r.nums)) acc = some (.lst (iV r.nums)) := upd_same
              generalize upd H4 acc (.lst (iV r.nums)) = H5 at s5 hl5 ⊢
              have S5 : Same H H5 := (s1.trans s2).trans ((s3.trans s4).trans s5)
              have hq5 : SqL K H5 l (.str r.kind :: sV (r.nums.map numS)) := (s4.trans s5).seq hq3
              have hn5 : SqL K H5 acc (iV r.nums) := SqL.of hl5
              refine ⟨_, rfl, l, _, 0, .str r.kind, rfl, rfl, hq5, at0, rfl, _, rfl, ?_⟩
              cases r with
              | own h0 =>
                refine iteFe (show decide (V.str "own" = V.str (Str.ofString "use")) = false by decide) ⟨_, rfl, l, _, 0, .str "own", rfl, rfl, hq5, at0, _, rfl, acc, _, 0, .int h0, rfl, rfl, hn5, at0, by show 2 ≤ sizeLine; decide, fun p hp => ?_⟩
                exact k _ _ (S5.trans (Same.new hp)) ⟨p, rfl, upd_same⟩
              | write h0 =>
                refine iteFe (show decide (V.str "write" = V.str (Str.ofString "use")) = false by decide) ⟨_, rfl, l, _, 0, .str "write", rfl, rfl, hq5, at0, _, rfl, acc, _, 0, .int h0, rfl, rfl, hn5, at0, by show 2 ≤ sizeLine; decide, fun p hp => ?_⟩
                exact k _ _ (S5.trans (Same.new hp)) ⟨p, rfl, upd_same⟩
              | use h0 a b c =>
                refine iteTe (show decide (V.str "use" = V.str (Str.ofString "use")) = true by decide) ⟨_, rfl, acc, _, 0, .int h0, rfl, rfl, hn5, at0, _, rfl, acc, _, 1, .int a, rfl, rfl, hn5, rfl, _, rfl, acc, _, 2, .int b, rfl, rfl, hn5, rfl, _, rfl, acc, _, 3, .int c, rfl, rfl, hn5, rfl, by show 3 ≤ sizeLine; decide, fun q hq => ⟨by show 3 ≤ sizeLine; decide, fun p hp => ?_⟩⟩
                exact k _ _ ((S5.trans (Same.new hq)).trans (Same.new hp)) ⟨p, q, rfl, upd_same, (Same.new hp) _ _ upd_same⟩
theorem tup_set {H : Hp} {a p : Addr} {xs ys zs : List V} (e : H p = some (.lst ys)) (h : H a = some (.tup xs)) : upd H p (.lst zs) a = some (.tup xs) := by
  have ne : a ≠ p := by
    rintro rfl
    rw [e] at h; cases h
  rw [upd_ne ne]; exact h
theorem RowAt.set {H : Hp} {v : V} {r : Row} {p : Addr} {ys zs : List V} (e : H p = some (.lst ys)) (h : RowAt K H v r) : RowAt K (upd H p (.lst zs)) v r := by
  cases r with
  | own h0 => obtain ⟨p, q, h⟩ := h; exact ⟨p, q, tup_set e h⟩
  | write h0 => obtain ⟨p, q, h⟩ := h; exact ⟨p, q, tup_set e h⟩
  | use h0 a b c => obtain ⟨p, q, f, h, h2⟩ := h; exact ⟨p, q, f, tup_set e h, tup_set e h2⟩
theorem RowsAt.set {H : Hp} {vs : List V} {rs : List Row} {p : Addr} {ys zs : List V} (e : H p = some (.lst ys)) (h : RowsAt K H vs rs) : RowsAt K (upd H p (.lst zs)) vs rs := Paired.imp' (fun _ _ z => RowAt.set e z) h
theorem RowAt.ref {H : Hp} {v : V} {r : Row} (h : RowAt K H v r) : ∃ a vs, v = .ref a ∧ SqT K H a vs := by
  cases r with
  | own h0 => obtain ⟨p, q, h⟩ := h; exact ⟨_, _, q, SqT.of h⟩
  | write h0 => obtain ⟨p, q, h⟩ := h; exact ⟨_, _, q, SqT.of h⟩
  | use h0 a b c => obtain ⟨p, q, f, h, h2⟩ := h; exact ⟨_, _, f, SqT.of h⟩
theorem isNum_words {r : Row} (ok : r.ok) : ¬ Bad r.text := by
  rintro ⟨v0, vs, ev, bad⟩
  rw [split_text ok] at ev
  obtain ⟨rfl, rfl⟩ := List.cons.inj ev
  rw [nb_row] at bad
  rcases bad with b | b
  · rw [List.length_map] at b; exact b rfl
  · have : ((r.nums.map numS).all fun y => isNumB y 6) = true := by
      rw [List.all_map, List.all_eq_true]
      exact fun m hm => num_isNum (ok m hm).1 (ok m hm).2
    rw [this] at b; cases b
theorem text_ne {r : Row} (ok : r.ok) : r.text ≠ "" := fun e => by
  have h1 := split_text ok
  rw [e] at h1
  have h2 : Txt.split ("" : Str) spc = [("" : Str)] := by decide
  rw [h2] at h1
  have := words_len r
  have h3 := congrArg List.length h1
  simp at h3; omega
theorem rows_ne {rs : List Row} (ok : ∀ r ∈ rs, r.ok) (h : rs ≠ []) : Str.join nl (rs.map Row.text) ≠ "" := by
  cases rs with
  | nil => exact absurd rfl h
  | cons r q =>
    have h0 : r.text ≠ "" := text_ne (ok r List.mem_cons_self)
    obtain ⟨c, hc⟩ : ∃ c, c ∈ r.text.cps.toList := by
      cases z : r.text.cps.toList with
      | nil => exact absurd (str_ext (y := "") z) h0
      | cons c _ => exact ⟨c, List.mem_cons_self⟩
    intro e
    have := join_mem (sep := nl) hc (xs := (r :: q).map Row.text) List.mem_cons_self
    rw [e] at this
    have h2 : c ∈ ([] : List Nat) := this
    cases h2
/-- the value that a line gives -/
def LnAt (K : PySem.W.Frag) (H : Hp) (v : V) (l : Str) : Prop := (v = .non ∧ Bad l) ∨ ∃ r : Row, r.ok ∧ l = r.text ∧ RowAt K H v r
theorem LnAt.same {H H' : Hp} {v : V} {l : Str} (s : Same H H') (h : LnAt K H v l) : LnAt K H' v l := by
  rcases h with h | ⟨r, h1, h2, h3⟩
  · exact .inl h
  · exact .inr ⟨r, h1, h2, h3.same s⟩
theorem LnAt.set {H : Hp} {v : V} {l : Str} {p : Addr} {ys zs : List V} (e : H p = some (.lst ys)) (h : LnAt K H v l) : LnAt K (upd H p (.lst zs)) v l := by
  rcases h with h | ⟨r, h1, h2, h3⟩
  · exact .inl h
  · exact .inr ⟨r, h1, h2, h3.set e⟩
theorem Paired.snoc {α β : Type} {F : α → β → Prop} {a : α} {b : β} : ∀ {xs : List α} {ys : List β}, Paired F xs ys → F a b → Paired F (xs ++ [a]) (ys ++ [b])
  | _, _, .nil, h => .cons h .nil
  | _, _, .cons x r, h => .cons x (Paired.snoc r h)
theorem Paired.left {α β : Type} {F : α → β → Prop} {a : α} : ∀ {xs : List α} {ys : List β}, Paired F xs ys → a ∈ xs → ∃ b ∈ ys, F a b
  | _, _, .nil, h => by cases h
  | _, _, .cons x r, h => by
    rcases List.mem_cons.mp h with rfl | h
    · exact ⟨_, List.mem_cons_self, x⟩
    · obtain ⟨b, h1, h2⟩ := Paired.left r h
      exact ⟨b, List.mem_cons_of_mem _ h1, h2⟩
theorem Paired.right {α β : Type} {F : α → β → Prop} {b : β} : ∀ {xs : List α} {ys : List β}, Paired F xs ys → b ∈ ys → ∃ a ∈ xs, F a b
  | _, _, .nil, h => by cases h
  | _, _, .cons x r, h => by
    rcases List.mem_cons.mp h with rfl | h
    · exact ⟨_, List.mem_cons_self, x⟩
    · obtain ⟨b, h1, h2⟩ := Paired.right r h
      exact ⟨b, List.mem_cons_of_mem _ h1, h2⟩
theorem LnAt.good {H : Hp} {v : V} {r : Row} (ok : r.ok) (h : LnAt K H v r.text) : RowAt K H v r := by
  rcases h with ⟨_, b⟩ | ⟨r', ok', e, h⟩
  · exact absurd b (isNum_words ok)
  · have hw : r.words = r'.words := by rw [← split_text ok, ← split_text ok', e]
    obtain ⟨hk, hn⟩ := List.cons.inj hw
    have inj : ∀ {a b : List Int}, (∀ n ∈ a, 0 ≤ n ∧ n < 1000000) → (∀ n ∈ b, 0 ≤ n ∧ n < 1000000) → a.map numS = b.map numS → a = b := by
      intro a
      induction a with
      | nil => intro b _ _ e; cases b with
        | nil => rfl
        | cons _ _ => cases e
      | cons x a ih => intro b ha hb e; cases b with
        | nil => cases e
        | cons y b =>
          obtain ⟨e1, e2⟩ := List.cons.inj e
          have hx := PySem.W.KIN.num_reads (ha x List.mem_cons_self).1 (Int.lt_trans (ha x List.mem_cons_self).2 (by decide))
          have hy := PySem.W.KIN.num_reads (hb y List.mem_cons_self).1 (Int.lt_trans (hb y List.mem_cons_self).2 (by decide))
          have e1' : Str.ofString (toString x) = Str.ofString (toString y) := e1
          rw [e1', hy] at hx
          rw [Option.some.inj hx, ih (fun n h => ha n (List.mem_cons_of_mem _ h)) (fun n h => hb n (List.mem_cons_of_mem _ h)) e2]
    have hn' := inj ok ok' hn
    have : r = r' := by
      cases r with
      | own a => cases r' with
        | own b => cases hn'; rfl
        | write b => exact absurd (show ("own" : Str) = "write" from hk) (by decide)
        | use a b c d => cases hn'
      | write a => cases r' with
        | own b => exact absurd (show ("write" : Str) = "own" from hk) (by decide)
        | write b => cases hn'; rfl
        | use a b c d => cases hn'
      | use a b c d => cases r' with
        | own b => cases hn'
        | write b => cases hn'
        | use a b c d => cases hn'; rfl
    rw [this]; exact h
theorem LnsAt.good {H : Hp} : ∀ {vs : List V} {rs : List Row}, (∀ r ∈ rs, r.ok) → Paired (LnAt K H) vs (rs.map Row.text) → RowsAt K H vs rs
  | vs, [], _, h => by cases h; exact .nil
  | vs, r :: rs, ok, h => by
    cases h with
    | cons a b => exact .cons (a.good (ok r List.mem_cons_self)) (LnsAt.good (fun r h => ok r (List.mem_cons_of_mem _ h)) b)
def LnOk (x : Str) : Prop := Bad x ∨ ∃ r : Row, r.ok ∧ x = r.text
def sp_read_rows (K : PySem.W.Frag) (t : Adr) : Sp := fun vs H Q E => ∃ x ls, vs = [.str x] ∧ Asc x ∧ x.length ≤ 9000 ∧ Txt.split x nl = ls ∧ ls.length ≤ 50 ∧ (∀ l ∈ ls, Asc l ∧ l.length ≤ 100) ∧
  ((x ≠ "" ∧ (∃ l ∈ ls, Bad l) ∧ (∀ l ∈ ls, LnOk l) ∧ ∀ H', Same H H' → E (.ref t.c_NoText) none H') ∨
   ∃ rs : List Row, (∀ r ∈ rs, r.ok) ∧ x = Str.join nl (rs.map Row.text) ∧ ∀ p vs H', Same H H' → H p = none → H' p = some (.lst vs) → RowsAt K H' vs rs → Q (.ref p) H')
theorem ok_read_rows (T : Txt K mg t) (Tb : t.pr = w.params) : FnOk P w K mg base (CXr P w) 4 t.f_read_rows t.fd_read_rows ["text"] (sp_read_rows K t) := by
  refine T.F_read_rows.okR sc_read_rows (fun vs H Q E h => ?_) (fun cdv A outer s H vs Q E hh hr h => ?_)
  · obtain ⟨x, ls, rfl, _⟩ := h; rfl
  · obtain ⟨x, ls, rfl, asc, few, es, el, hl, k⟩ := h
    refine ⟨_, (pss_cons (ps_if (pt_not (pt_val (pe_callB (call_isinstK (K := K)) rfl T.no_isinstance b_isinstance (pa_c (pv 0) (pa_c (pe_bltn (v := .ty "str") rfl T.no_str b_str rfl) pa_nil)))))
        (pss_one (ps_raise hh rfl T.mg_NoText T.ex_NoText (pa_c pe_str pa_nil)))
        pss_nil)
      (pss_cons (ps_if (pt_cmpR op_eq (pv 0) pe_str (nomark _))
        (pss_one (ps_ret (pe_lst pa_nil)))
        pss_nil)
      (pss_cons (ps_setcomp ["text", "rows", "line"] 1 (i := 1) rfl sc_read_rows.nd rfl (Or.inl rfl) (pi_listK (K := K) (pe_bmK (K := K) PySem.F.plainAttrs_str PySem.F.slot_str_split PySem.F.type_str_split mt_split (pv 0) (pa_c pe_str pa_nil))) (fun _ _ _ _ _ => ⟨(pg_name (i := 2) (show List.Nodup (["text", "rows", "line"] : List Str) from by decide +kernel) rfl (Or.inl rfl)), pts_nil, (pe_call (ok_row_in T Tb) (hr.mono (by decide)) rfl T.mg_row_in T.kp_row_in T.b_row_in .nil passr0 (pa_c (pv 2) pa_nil))⟩))
      (pss_cons (ps_if (pt_cmpR (op_inNone hr.units66 (K := K)) pe_non (pv 1) (by with_unfolding_all rfl))
        (pss_one (ps_raise hh rfl T.mg_NoText T.ex_NoText (pa_c pe_str pa_nil)))
        pss_nil)
      (pss_one (ps_ret (pv 1))))))), ?_⟩
    refine ⟨_, rfl, _, _, .plain (.str x), rfl, _, rfl, iteF ⟨_, rfl, rfl, _, rfl, ?_⟩⟩
    by_cases x0 : x = ""
    · refine iteTe (decide_eq_true (by rw [x0])) ?_
      rcases k with ⟨n, _⟩ | ⟨rs, ok, e, k⟩
      · exact absurd x0 n
      · have : rs = [] := Classical.byContradiction fun z => rows_ne ok z (by rw [← e]; exact x0)
        subst this
        exact ⟨by show 0 ≤ sizeLine; decide, fun p hp => k p [] _ (Same.new hp) hp upd_same .nil⟩
    · refine iteFe (decide_eq_false fun z => x0 (V.str.inj z)) ?_
      refine ⟨_, rfl, rfl, x, _, rfl, rfl, rfl, by omega, fun l hn => ⟨l, rfl, ⟨_, SqL.of upd_same⟩, ?_⟩⟩
      have es' : Txt.split x (Str.ofString "\n") = ls := es
      rw [es']
      have s1 := Same.new (o := .lst (sV ls)) hn
      have hl1 : upd H l (.lst (sV ls)) l = some (.lst (sV ls)) := upd_same
      generalize upd H l (.lst (sV ls)) = H1 at s1 hl1 ⊢
      have lnok : ∀ y ∈ ls, LnOk y := by
        rcases k with ⟨_, _, k, _⟩ | ⟨rs, ok, e, k⟩
        · exact k
        · intro y hy
          have : rs ≠ [] := by rintro rfl; exact x0 e
          rw [e, split_join (by simpa using this) fun z hz => by
            obtain ⟨r, hr, rfl⟩ := List.mem_map.mp hz
            exact text_free (ok r hr)] at es
          rw [← es] at hy
          obtain ⟨r, hr, rfl⟩ := List.mem_map.mp hy
          exact .inr ⟨r, ok r hr, rfl⟩
      refine comp_list (xs := sV ls) (by simp; omega) fun acc hacc => ⟨fun i σ2 ys H2 => Paired (LnAt K H2) ys (ls.take i) ∧ H2 acc = some (.lst ys) ∧ Same H1 H2 ∧ ∃ o, σ2 = [some (.str x), none, o], ⟨.nil, upd_same, Same.new hacc, _, rfl⟩, ?_, ?_, ?_⟩
      · rintro i σ2 ys H2 hi ⟨hp, e2, s2, _⟩
        exact ⟨SqL.of (s2 _ _ hl1), by rw [Paired.length hp, List.length_take]; omega⟩
      · rintro i v σ2 ys H2 hi hx ⟨hp, e2, s2, o, rfl⟩
        obtain ⟨y, hy, rfl⟩ : ∃ y, ls[i]? = some y ∧ v = .str y := by
          unfold sV at hx
          rw [List.getElem?_map] at hx
          cases q : ls[i]? with
          | none => rw [q] at hx; cases hx
          | some y => rw [q] at hx; cases hx; exact ⟨y, rfl, rfl⟩
        have my := List.mem_of_getElem? hy
        dsimp only [gName, tYes]
        have step : ∀ v H3, Same H2 H3 → LnAt K H3 v y → ∃ ys2, H3 acc = some (.lst ys2) ∧ ys2 = ys ∧ (Paired (LnAt K (upd H3 acc (.lst (ys ++ [v])))) (ys ++ [v]) (ls.take (i + 1)) ∧ Same H1 (upd H3 acc (.lst (ys ++ [v])))) := fun v H3 s3 hv => by
          refine ⟨ys, s3 _ _ e2, rfl, ?_, fun b u e => ?_⟩
          · rw [List.take_add_one, hy]
            exact Paired.snoc (Paired.imp' (fun _ _ z => (LnAt.same s3 z).set (s3 _ _ e2)) hp) (hv.set (s3 _ _ e2))
          · rw [upd_ne (ne_of_none e hacc)]; exact s3 _ _ (s2 _ _ e)
        refine iteT ⟨_, rfl, y, rfl, (hl y my).1, (hl y my).2, ?_⟩
        rcases lnok y my with b | ⟨r, ok, e⟩
        · refine .inl ⟨b, fun H3 s3 => ?_⟩
          obtain ⟨_, h1, rfl, h2, h3⟩ := step .non H3 s3 (.inl ⟨rfl, b⟩)
          exact ⟨h1, Nx.mk hi ⟨h2, upd_same, h3, _, rfl⟩⟩
        · refine .inr ⟨r, ok, e, fun v H3 s3 hv => ?_⟩
          obtain ⟨_, h1, rfl, h2, h3⟩ := step v H3 s3 (.inr ⟨r, ok, e, hv⟩)
          exact ⟨h1, Nx.mk hi ⟨h2, upd_same, h3, _, rfl⟩⟩
      · rintro σ2 ys H2 ⟨hp, e2, s2, o, rfl⟩
        have ln : (sV ls).length = ls.length := by simp
        rw [ln, List.take_length] at hp
        refine ⟨_, rfl, acc, ys, rfl, rfl, SqL.of e2, fun z hz => ?_, _, rfl, ?_⟩
        · obtain ⟨b, _, h⟩ := Paired.left hp hz
          rcases h with ⟨h, _⟩ | ⟨r, _, _, h⟩
          · exact .inl h
          · exact .inr h.ref
        · rcases k with ⟨_, ⟨y, my, b⟩, _, k⟩ | ⟨rs, ok, e, k⟩
          · refine iteTe ?_ ⟨by show 1 ≤ 100; decide, k H2 (s1.trans s2)⟩
            obtain ⟨v, mv, h⟩ := Paired.right hp my
            rcases h with ⟨rfl, _⟩ | ⟨r, ok, e, _⟩
            · exact List.any_eq_true.mpr ⟨_, mv, rfl⟩
            · rw [e] at b; exact absurd b (isNum_words ok)
          · have : rs ≠ [] := by rintro rfl; exact x0 e
            rw [e, split_join (by simpa using this) fun z hz => by
              obtain ⟨r, hr, rfl⟩ := List.mem_map.mp hz
              exact text_free (ok r hr)] at es
            rw [← es] at hp
            have fr : H acc = none := by
              cases z : H acc with
              | none => rfl
              | some o => have := s1 _ _ z; rw [hacc] at this; cases this
            have kk := k acc ys H2 (s1.trans s2) fr e2 (LnsAt.good ok hp)
            refine iteFe ?_ ⟨_, rfl, kk⟩
            rw [Bool.eq_false_iff]
            intro z
            obtain ⟨v, mv, h⟩ := List.any_eq_true.mp z
            obtain ⟨b, mb, h2⟩ := Paired.left (LnsAt.good ok hp) mv
            obtain ⟨a, vs, rfl, _⟩ := h2.ref
            cases h
def sp_cell_at (K : PySem.W.Frag) : Sp := fun vs H Q _ => ∃ a ns k, vs = [.ref a, .int k] ∧ SqL K H a (iV ns) ∧ 0 ≤ k ∧ ∀ c : Int, Q (.int c) H
theorem ok__law_cell_at (T : Txt K mg t) : FnOk P w K mg base (CXr P w) 1 t.f__law_cell_at t.fd__law_cell_at ["_law_script", "_law_k"] (sp_cell_at K) := by
  refine T.F__law_cell_at.okN sc__law_cell_at (fun vs H Q E h => ?_) (fun cdv A outer s H vs Q E hr h => ?_)
  · obtain ⟨a, ns, k, rfl, _⟩ := h; rfl
  · obtain ⟨a, ns, k, rfl, hS, h0, q⟩ := h
    refine ⟨_, (pss_cons (ps_if (pt_cmpR op_lt (pv 1) (pe_callB (call_lenK (K := K)) rfl T.no_len b_len (pa_c (pv 0) pa_nil)) (nomark _))
        (pss_one (ps_ret (pe_ix (ix_listK (K := K)) (pv 0) (pv 1) (fun _ _ => rfl))))
        pss_nil)
      (pss_one (ps_ret pe_int))), ?_⟩
    refine ⟨_, rfl, _, rfl, a, _, rfl, .inl hS, _, _, rfl, rfl, _, rfl, ite2 (fun z => ?_) fun _ => q 0⟩
    have lt : k < (iV ns).length := of_decide_eq_true z
    have lt' : k.toNat < ns.length := by unfold iV at lt; rw [List.length_map] at lt; omega
    refine ⟨_, rfl, _, rfl, a, _, k, .int ns[k.toNat], rfl, rfl, hS, ?_, q _⟩
    unfold atI ixN
    rw [if_pos h0, if_pos lt]
    show (iV ns)[k.toNat]? = _
    unfold iV
    rw [List.getElem?_map, List.getElem?_eq_getElem lt']
    rfl
def sp_mixed : Sp := fun vs H Q _ => ∃ c k : Int, vs = [.int c, .int k] ∧ 0 ≤ k ∧ k ≤ 1000 ∧ ∀ c : Int, Q (.int c) H
theorem ok__law_mixed (T : Txt K mg t) : FnOk P w K mg base (CXr P w) 1 t.f__law_mixed t.fd__law_mixed ["_law_cell", "_law_k"] sp_mixed := by
  refine T.F__law_mixed.okN sc__law_mixed (fun vs H Q E h => ?_) (fun cdv A outer s H vs Q E hr h => ?_)
  · obtain ⟨c, k, rfl, _⟩ := h; rfl
  · obtain ⟨c, k, rfl, h0, h1, q⟩ := h
    refine ⟨_, (pss_cons (ps_set (i := 2) sc__law_mixed.nd rfl (Or.inl rfl) (pe_op op_mod (pe_op op_mul (pe_op op_add (pe_op op_add (pe_op op_and (pv 0) pe_int) (pe_op op_mul pe_int (pv 1))) pe_int) pe_int) pe_int))
      (pss_cons (ps_set (i := 2) sc__law_mixed.nd rfl (Or.inl rfl) (pe_op op_mod (pe_op op_mul (pv 2) (pe_op op_add (pe_op op_fdiv (pv 2) pe_int) pe_int)) pe_int))
      (pss_cons (ps_set (i := 2) sc__law_mixed.nd rfl (Or.inl rfl) (pe_op op_mod (pe_op op_mul (pv 2) (pe_op op_add (pe_op op_fdiv (pv 2) pe_int) pe_int)) pe_int))
      (pss_one (ps_ret (pe_op op_xor (pv 2) (pe_op op_and (pe_op op_shr (pv 0) (pe_op op_add (pe_op op_mul pe_int (pv 1)) pe_int)) pe_int))))))), ?_⟩
    refine ⟨_, rfl, _, _, rfl, rfl, _, rfl, _, _, rfl, rfl, .inl ⟨by decide, by decide⟩, _, _, rfl, rfl, _, _, rfl, rfl, _, _, rfl, rfl, .inr ⟨by decide, by decide⟩, _, _, rfl, rfl, by show (0 : Int) < 2147483647; decide, ?_⟩
    have mb : ∀ x : Int, -(2 ^ 64) < x % 2147483647 ∧ x % 2147483647 < 2 ^ 64 := fun x => by
      have h1 := Int.emod_nonneg x (b := 2147483647) (by decide)
      have h2 := Int.emod_lt_of_pos x (b := 2147483647) (by decide)
      omega
    refine ⟨_, rfl, _, rfl, _, _, rfl, rfl, ⟨by decide, by decide⟩, _, _, rfl, rfl, _, _, rfl, rfl, .inl (mb _), _, _, rfl, rfl, by show (0 : Int) < 2147483647; decide, ?_⟩
    refine ⟨_, rfl, _, rfl, _, _, rfl, rfl, ⟨by decide, by decide⟩, _, _, rfl, rfl, _, _, rfl, rfl, .inl (mb _), _, _, rfl, rfl, by show (0 : Int) < 2147483647; decide, ?_⟩
    exact ⟨_, rfl, _, rfl, _, rfl, _, _, rfl, rfl, .inl ⟨by decide, by decide⟩, _, _, rfl, rfl, _, _, rfl, rfl, by show (0 : Int) ≤ 31 * k + 31; omega, _, _, rfl, rfl, _, _, rfl, rfl, q _⟩
def sp__law_number : Sp := fun vs H Q _ => ∃ c : Int, vs = [.int c] ∧ ∀ n H', 0 ≤ n → n < 1000000 → Same H H' → Q (.int n) H'
theorem ok__law_number (T : Txt K mg t) : FnOk P w K mg base (CXr P w) 1 t.f__law_number t.fd__law_number ["_law_number_here"] sp__law_number := by
  refine T.F__law_number.okN sc__law_number (fun vs H Q E h => ?_) (fun cdv A outer s H vs Q E hr h => ?_)
  · obtain ⟨c, rfl, _⟩ := h; rfl
  · obtain ⟨c, rfl, k⟩ := h
    refine ⟨_, (pss_one (ps_ret (pe_ix (ix_listK (K := K)) (pe_lst (pa_c (pe_op op_mod (pv 0) pe_int) (pa_c (pe_op op_mod (pv 0) pe_int) (pa_c (pe_op op_mod (pv 0) (pe_op op_pow pe_int pe_int)) pa_nil)))) (pe_op op_mod (pe_op op_fdiv (pv 0) (pe_op op_pow pe_int pe_int)) pe_int) (fun _ _ => rfl)))), ?_⟩
    have cp : CPow 10 6 := ⟨by decide, by decide, by decide⟩
    refine ⟨_, rfl, c, 10, rfl, rfl, by show (0 : Int) < 10; decide, _, rfl, c, 1000, rfl, rfl, by show (0 : Int) < 1000; decide, _, rfl, 10, 6, rfl, rfl, cp, c, 1000000, rfl, rfl, by show (0 : Int) < 1000000; decide, by show 3 ≤ sizeLine; decide, fun l hl => ?_⟩
    refine ⟨_, rfl, 10, 6, rfl, rfl, cp, c, 1000000, rfl, rfl, ⟨by decide, by decide⟩, c / 1000000, 3, rfl, rfl, by show (0 : Int) < 3; decide, ?_⟩
    have s1 := Same.new (o := .lst [.int (c % 10), .int (c % 1000), .int (c % 1000000)]) hl
    have d : c / 1000000 % 3 = 0 ∨ c / 1000000 % 3 = 1 ∨ c / 1000000 % 3 = 2 := by omega
    rcases d with e | e | e
    · exact ⟨l, _, c / 1000000 % 3, .int (c % 10), rfl, rfl, SqL.of upd_same, by rw [e]; rfl, k _ _ (by omega) (by omega) s1⟩
    · exact ⟨l, _, c / 1000000 % 3, .int (c % 1000), rfl, rfl, SqL.of upd_same, by rw [e]; rfl, k _ _ (by omega) (by omega) s1⟩
    · exact ⟨l, _, c / 1000000 % 3, .int (c % 1000000), rfl, rfl, SqL.of upd_same, by rw [e]; rfl, k _ _ (by omega) (by omega) s1⟩
def sp__law_row (K : PySem.W.Frag) : Sp := fun vs H Q _ => ∃ c k : Int, vs = [.int c, .int k] ∧ 0 ≤ k ∧ k ≤ 100 ∧ ∀ v r H', r.ok → Same H H' → RowAt K H' v r → Q v H'
theorem ok__law_row (T : Txt K mg t) : FnOk P w K mg base (CXr P w) 2 t.f__law_row t.fd__law_row ["_law_cell", "_law_k"] (sp__law_row K) := by
  refine T.F__law_row.okN sc__law_row (fun vs H Q E h => ?_) (fun cdv A outer s H vs Q E hr h => ?_)
  · obtain ⟨c, n, rfl, _⟩ := h; rfl
  · obtain ⟨c, n, rfl, n0, n1, k⟩ := h
    refine ⟨_, (pss_cons (ps_set (i := 2) sc__law_row.nd rfl (Or.inl rfl) (pe_call (ok__law_mixed T) (hr.mono (by decide)) rfl T.mg__law_mixed T.kp__law_mixed T.b__law_mixed .nil passr0 (pa_c (pv 0) (pa_c (pe_op op_mul pe_int (pv 1)) pa_nil))))
      (pss_cons (ps_set (i := 3) sc__law_row.nd rfl (Or.inl rfl) (pe_call (ok__law_number T) (hr.mono (by decide)) rfl T.mg__law_number T.kp__law_number T.b__law_number .nil passr0 (pa_c (pe_call (ok__law_mixed T) (hr.mono (by decide)) rfl T.mg__law_mixed T.kp__law_mixed T.b__law_mixed .nil passr0 (pa_c (pv 0) (pa_c (pe_op op_add (pe_op op_mul pe_int (pv 1)) pe_int) pa_nil))) pa_nil)))
      (pss_cons (ps_if (pt_cmpR op_lt (pe_op op_mod (pv 2) pe_int) pe_int (nomark _))
        (pss_one (ps_ret (pe_tup (pa_c (pe_ix (ix_listK (K := K)) (pe_lst (pa_c pe_str (pa_c pe_str pa_nil))) (pe_op op_mod (pv 2) pe_int) (fun _ _ => rfl)) (pa_c (pv 3) pa_nil)))))
        pss_nil)
      (pss_one (ps_ret (pe_tup (pa_c pe_str (pa_c (pv 3) (pa_c (pe_callTy (call_tupleK (K := K)) rfl T.no_tuple b_tuple (pa_c (pe_comp ["_law_cell", "_law_k", "_law_number_here", "_law_hand", "_law_j"] 1 rfl (pi_range1 rfl T.no_range (pa_c pe_int pa_nil)) (fun _ _ _ _ _ => ⟨(pg_name (i := 4) (show List.Nodup (["_law_cell", "_law_k", "_law_number_here", "_law_hand", "_law_j"] : List Str) from by decide +kernel) rfl (Or.inl rfl)), pts_nil, (pe_call (ok__law_number T) (hr.mono (by decide)) rfl T.mg__law_number T.kp__law_number T.b__law_number .nil passr0 (pa_c (pe_call (ok__law_mixed T) (hr.mono (by decide)) rfl T.mg__law_mixed T.kp__law_mixed T.b__law_mixed .nil passr0 (pa_c (pv 0) (pa_c (pe_op op_add (pe_op op_add (pe_op op_mul pe_int (pv 1)) pe_int) (pv 4)) pa_nil))) pa_nil))⟩)) pa_nil)) pa_nil))))))))), ?_⟩
    refine ⟨_, rfl, _, rfl, 5, n, rfl, rfl, .inl ⟨by decide, by decide⟩, c, 5 * n, rfl, by omega, by omega, fun m => ?_⟩
    refine ⟨_, rfl, _, rfl, 5, n, rfl, rfl, .inl ⟨by decide, by decide⟩, 5 * n, 1, rfl, rfl, c, 5 * n + 1, rfl, by omega, by omega, fun m2 => ⟨m2, rfl, fun h H1 h0 h1 s1 => ?_⟩⟩
    refine ⟨_, rfl, m, 4, rfl, rfl, by show (0 : Int) < 4; decide, m % 4, 2, rfl, rfl, _, rfl, ite2 (fun z => ?_) fun _ => ?_⟩
    · have lt : m % 4 < 2 := of_decide_eq_true z
      refine ⟨by show 2 ≤ sizeLine; decide, fun l hl => ⟨_, rfl, m, 4, rfl, rfl, by show (0 : Int) < 4; decide, ?_⟩⟩
      have s2 := Same.new (o := .lst [.str "own", .str "write"]) hl
      have d : m % 4 = 0 ∨ m % 4 = 1 := by omega
      rcases d with e | e
      · exact ⟨l, _, m % 4, .str "own", rfl, rfl, SqL.of upd_same, by rw [e]; rfl, _, rfl, by show 2 ≤ sizeLine; decide, fun p hp => k (.ref p) (.own h) _ (by intro x hx; rw [List.mem_singleton.mp hx]; exact ⟨h0, h1⟩) ((s1.trans s2).trans (Same.new hp)) ⟨p, rfl, upd_same⟩⟩
      · exact ⟨l, _, m % 4, .str "write", rfl, rfl, SqL.of upd_same, by rw [e]; rfl, _, rfl, by show 2 ≤ sizeLine; decide, fun p hp => k (.ref p) (.write h) _ (by intro x hx; rw [List.mem_singleton.mp hx]; exact ⟨h0, h1⟩) ((s1.trans s2).trans (Same.new hp)) ⟨p, rfl, upd_same⟩⟩
    · refine ⟨_, rfl, 3, rfl, by decide, by decide, comp_range (by decide) fun acc hacc => ⟨fun i σ2 ys H2 => (∃ zs : List Int, ys = iV zs ∧ zs.length = i ∧ ∀ z ∈ zs, 0 ≤ z ∧ z < 1000000) ∧ H2 acc = some (.lst ys) ∧ Same H1 H2 ∧ ∃ o, σ2 = [some (.int c), some (.int n), some (.int m), some (.int h), o], ⟨⟨[], rfl, rfl, fun z hz => by cases hz⟩, upd_same, Same.new hacc, _, rfl⟩, ?_, ?_, ?_⟩⟩
      · rintro i σ2 ys H2 hi ⟨⟨zs, rfl, hz, _⟩, _⟩
        unfold iV; rw [List.length_map]; omega
      · rintro i σ2 ys H2 hi ⟨⟨zs, rfl, hz, hb⟩, e2, s2, o, rfl⟩
        have i3 : i < 3 := hi
        dsimp only [gName, tYes]
        refine iteT ⟨_, rfl, _, rfl, 5, n, rfl, rfl, .inl ⟨by decide, by decide⟩, 5 * n, 2, rfl, rfl, _, rfl, 5 * n + 2, 0 + (i : Int), rfl, rfl, c, 5 * n + 2 + (0 + (i : Int)), rfl, by omega, by omega, fun m3 => ⟨m3, rfl, fun z H3 z0 z1 s3 => ⟨s3 _ _ e2, Nx.mk hi ⟨⟨zs ++ [z], by unfold iV; rw [List.map_append]; rfl, by simp [hz], fun y hy => ?_⟩, upd_same, fun b u e => ?_, _, rfl⟩⟩⟩⟩
        · rcases List.mem_append.mp hy with hy | hy
          · exact hb y hy
          · rw [List.mem_singleton.mp hy]; exact ⟨z0, z1⟩
        · rw [upd_ne (ne_of_none e hacc)]; exact s3 _ _ (s2 _ _ e)
      · rintro σ2 ys H2 ⟨⟨zs, rfl, hz, hb⟩, e2, s2, o, rfl⟩
        have hz3 : zs.length = 3 := hz
        obtain ⟨a, b, d, rfl⟩ : ∃ a b d, zs = [a, b, d] := by
          match zs, hz3 with
          | [a, b, d], _ => exact ⟨a, b, d, rfl⟩
        refine ⟨acc, _, rfl, .inl ⟨SqL.of e2, fun q hq => ⟨by show 3 ≤ sizeLine; decide, fun p hp => ?_⟩⟩⟩
        refine k (.ref p) (.use h a b d) _ (fun x hx => ?_) ((s1.trans s2).trans ((Same.new hq).trans (Same.new hp))) ⟨p, q, rfl, upd_same, (Same.new hp) _ _ upd_same⟩
        rcases List.mem_cons.mp hx with rfl | hx
        · exact ⟨h0, h1⟩
        · exact hb x hx
def sp__law_text (K : PySem.W.Frag) : Sp := fun vs H Q _ => ∃ v r, vs = [v] ∧ RowAt K H v r ∧ r.ok ∧ ∀ H', Same H H' → Q (.str r.text) H'
theorem okT__law_text (T : Txt K mg t) : FnOkT P w K mg base (CXr P w) 1 t.f__law_text t.fd__law_text ["_law_row_here"] (sp__law_text K) := by
  refine T.F__law_text.okT sc__law_text (fun vs H Q E h => ?_) (fun cdv A outer s H vs Q E hr h => ?_)
  · obtain ⟨v, r, rfl, _⟩ := h; rfl
  · obtain ⟨v, r, rfl, hv, ok, k⟩ := h
    refine ⟨_, (ptk_cons (ps_set (i := 1) sc__law_text.nd rfl (Or.inl rfl) (pe_lst (pa_c (pe_ix (ix_tupK (K := K)) (pv 0) pe_int (fun _ _ => rfl)) (pa_c (pe_callTy call_strI rfl T.no_str b_str (pa_c (pe_ix (ix_tupK (K := K)) (pv 0) pe_int (fun _ _ => rfl)) pa_nil)) pa_nil))))
      (ptk_cons (ps_if (pt_cmpR op_eq (pe_ix (ix_tupK (K := K)) (pv 0) pe_int (fun _ _ => rfl)) pe_str (nomark _))
        (pss_one (ps_set (i := 1) sc__law_text.nd rfl (Or.inl rfl) (pe_op op_cat (pv 1) (pe_comp ["_law_row_here", "_law_words", "_law_part"] 1 rfl (pi_tupK (K := K) (pe_ix (ix_tupK (K := K)) (pv 0) pe_int (fun _ _ => rfl))) (fun _ _ _ _ _ => ⟨(pg_name (i := 2) (show List.Nodup (["_law_row_here", "_law_words", "_law_part"] : List Str) from by decide +kernel) rfl (Or.inl rfl)), pts_nil, (pe_callTy call_strI rfl T.no_str b_str (pa_c (pv 2) pa_nil))⟩)))))
        pss_nil)
      (ptk_ret (pet_join (K := K) pe_str (pa_c (pv 1) pa_nil))))), ?_⟩
    have lg : ∀ n ∈ r.nums, n.natAbs.log2 < 1920 := fun n hn => by
      obtain ⟨n0, n1⟩ := ok n hn
      have : n.natAbs < 2 ^ 20 := by omega
      by_cases z : n.natAbs = 0
      · rw [z]; decide
      · exact Nat.lt_trans ((Nat.log2_lt z).mpr this) (by decide)
    have ok2 : ∀ x ∈ r.words, x.length ≤ 6 := fun x hx => ((words_free ok).2.2 x hx).2
    have jo : JoinOk (Str.ofString " ") r.words = true := joinOk ok2 (by
      have e : (Str.ofString " ").length = 1 := rfl
      have := words_len r
      rw [e]; omega)
    cases r with
    | own h0 =>
      obtain ⟨p, rfl, hp'⟩ := hv
      have hp := SqT.of (K := K) hp'
      refine ⟨_, rfl, p, _, 0, .str "own", rfl, rfl, hp, at0, _, rfl, p, _, 1, .int h0, rfl, rfl, hp, rfl, h0, rfl, lg h0 List.mem_cons_self, by show 2 ≤ sizeLine; decide, fun l hl => ?_⟩
      have s1 := Same.new (o := .lst (sV [("own" : Str), numS h0])) hl
      have kk := k _ s1
      exact ⟨_, rfl, p, _, 0, .str "own", rfl, rfl, s1.tup hp, rfl, rfl, _, rfl, iteFe (show decide (V.str "own" = V.str (Str.ofString "use")) = false by decide) ⟨rfl, _, rfl, _, l, "own", numS h0, [], rfl, rfl, SqL.of upd_same, jo, by rw [txt_join]; exact kk⟩⟩
    | write h0 =>
      obtain ⟨p, rfl, hp'⟩ := hv
      have hp := SqT.of (K := K) hp'
      refine ⟨_, rfl, p, _, 0, .str "write", rfl, rfl, hp, at0, _, rfl, p, _, 1, .int h0, rfl, rfl, hp, rfl, h0, rfl, lg h0 List.mem_cons_self, by show 2 ≤ sizeLine; decide, fun l hl => ?_⟩
      have s1 := Same.new (o := .lst (sV [("write" : Str), numS h0])) hl
      have kk := k _ s1
      exact ⟨_, rfl, p, _, 0, .str "write", rfl, rfl, s1.tup hp, rfl, rfl, _, rfl, iteFe (show decide (V.str "write" = V.str (Str.ofString "use")) = false by decide) ⟨rfl, _, rfl, _, l, "write", numS h0, [], rfl, rfl, SqL.of upd_same, jo, by rw [txt_join]; exact kk⟩⟩
    | use h0 a b c =>
      obtain ⟨p, q, rfl, hp', hq'⟩ := hv
      have hp := SqT.of (K := K) hp'
      have hq := SqT.of (K := K) hq'
      refine ⟨_, rfl, p, _, 0, .str "use", rfl, rfl, hp, at0, _, rfl, p, _, 1, .int h0, rfl, rfl, hp, rfl, h0, rfl, lg h0 List.mem_cons_self, by show 2 ≤ sizeLine; decide, fun l hl => ?_⟩
      have s1 := Same.new (o := .lst (sV [("use" : Str), numS h0])) hl
      have hl1 : upd H l (.lst (sV [("use" : Str), numS h0])) l = some (.lst (sV [("use" : Str), numS h0])) := upd_same
      change mSeq _ _ _ (upd H l (.lst (sV [("use" : Str), numS h0]))) _
      generalize upd H l (.lst (sV [("use" : Str), numS h0])) = H1 at s1 hl1 ⊢
      refine ⟨_, rfl, p, _, 0, .str "use", rfl, rfl, s1.tup hp, rfl, rfl, _, rfl, iteTe (show decide (V.str "use" = V.str (Str.ofString "use")) = true by decide) ?_⟩
      refine ⟨_, rfl, _, rfl, p, _, 2, .ref q, rfl, rfl, s1.tup hp, rfl, q, rfl, ⟨_, s1.tup hq⟩, comp_tup (xs := iV [a, b, c]) (by show 3 ≤ 1000; decide) fun acc hacc => ⟨fun i σ2 ys H2 => ys = sV (([a, b, c].take i).map numS) ∧ H2 = upd H1 acc (.lst ys) ∧ ∃ o, σ2 = [some (.ref p), some (.ref l), o], ⟨rfl, rfl, _, rfl⟩, ?_, ?_, ?_⟩⟩
      · rintro i σ2 ys H2 hi ⟨rfl, rfl, _⟩
        exact ⟨(Same.new hacc).tup (s1.tup hq), by unfold sV; rw [List.length_map, List.length_map, List.length_take]; omega⟩
      · rintro i x σ2 ys H2 hi hx ⟨rfl, rfl, o, rfl⟩
        obtain ⟨n, hn, rfl⟩ : ∃ n, ([a, b, c] : List Int)[i]? = some n ∧ x = .int n := by
          unfold iV at hx
          rw [List.getElem?_map] at hx
          cases z : ([a, b, c] : List Int)[i]? with
          | none => rw [z] at hx; cases hx
          | some y => rw [z] at hx; cases hx; exact ⟨y, rfl, rfl⟩
        dsimp only [gName, tYes]
        refine iteT ⟨_, rfl, n, rfl, lg n (List.mem_cons_of_mem _ (List.mem_of_getElem? hn)), upd_same, Nx.mk hi ⟨?_, by rw [upd_upd], _, rfl⟩⟩
        rw [List.take_add_one, hn, List.map_append]; unfold sV; rw [List.map_append]; rfl
      · rintro σ2 ys H2 ⟨rfl, rfl, o, rfl⟩
        have na : l ≠ acc := ne_of_none hl1 hacc
        refine ⟨l, acc, _, _, rfl, rfl, by rw [upd_ne na]; exact hl1, upd_same, by show 5 ≤ sizeLine; decide, fun p2 h2 => ?_⟩
        have kk := k _ (s1.trans ((Same.new hacc).trans (Same.new (o := .lst (sV (Row.use h0 a b c).words)) h2)))
        exact ⟨rfl, _, rfl, _, p2, "use", numS h0, [numS a, numS b, numS c], rfl, rfl, SqL.of upd_same, jo, by rw [txt_join]; exact kk⟩
theorem ok__law_text (T : Txt K mg t) : FnOk P w K mg base (CXr P w) 1 t.f__law_text t.fd__law_text ["_law_row_here"] (sp__law_text K) := (okT__law_text T).fn
/-! the bad lines -/
def WordOk (x : Str) : Prop := Asc x ∧ 32 ∉ x.cps.toList ∧ 10 ∉ x.cps.toList ∧ x.length ≤ 8
theorem words_ok {r : Row} (ok : r.ok) : ∀ x ∈ r.words, WordOk x := fun x hx => by
  obtain ⟨h1, h2, h3⟩ := words_free ok
  exact ⟨(h3 x hx).1, h1 x hx, h2 x hx, Nat.le_trans (h3 x hx).2 (by decide)⟩
theorem wordOk {x : Str} (h1 : x.cps.toList.all (fun c => decide (c < 128) && !decide (c = 32) && !decide (c = 10)) = true) (h2 : x.length ≤ 8) : WordOk x := by
  rw [List.all_eq_true] at h1
  refine ⟨fun c hc => ?_, fun hc => ?_, fun hc => ?_, h2⟩
  · have := h1 c hc; simp at this; exact this.1.1
  · have := h1 _ hc; simp at this
  · have := h1 _ hc; simp at this
def BadOk (x : Str) : Prop := Bad x ∧ Asc x ∧ 10 ∉ x.cps.toList ∧ x.length ≤ 100
theorem bad_words {w0 : Str} {ws : List Str} (h : ∀ x ∈ w0 :: ws, WordOk x) (few : ws.length ≤ 6) (c : match NB.lookup w0 with
  | none => True
  | some n => (ws.length : Int) ≠ n ∨ (ws.all fun y => isNumB y 6) = false) : BadOk (Str.join spc (w0 :: ws)) := by
  refine ⟨⟨w0, ws, split_join (List.cons_ne_nil _ _) fun x hx => (h x hx).2.1, c⟩, Asc.join (by intro c hc; revert c; decide) fun x hx => (h x hx).1, join_free (by decide) fun x hx => (h x hx).2.2.1, ?_⟩
  have h1 := join_len spc (w0 :: ws)
  have h2 := sum_le (b := 8) fun x hx => (h x hx).2.2.2
  have h4 : spc.length = 1 := rfl
  rw [h4] at h1
  rw [List.length_cons] at h1 h2
  omega
theorem jo8 {xs : List Str} (h : ∀ x ∈ xs, WordOk x) (few : xs.length ≤ 10) : JoinOk (Str.ofString " ") xs = true := joinOk (fun x hx => (h x hx).2.2.2) (by
  have e : (Str.ofString " ").length = 1 := rfl
  rw [e]; omega)
theorem cut_take (xs : List V) (n : Nat) : cutV xs none (some (n : Int)) = xs.take n := by
  unfold cutV HT.sIx
  simp
  rw [if_neg (by omega)]
  omega
theorem cut_drop (xs : List V) (n : Nat) : cutV xs (some (n : Int)) none = xs.drop n := by
  unfold cutV HT.sIx
  simp
  rw [if_neg (by omega)]
  by_cases h : n ≤ xs.length
  · rw [Nat.min_eq_left h, List.take_of_length_le (by rw [List.length_drop]; omega)]
  · rw [Nat.min_eq_right (by omega), List.drop_of_length_le (Nat.le_refl _), List.take_nil, List.drop_of_length_le (by omega)]
theorem cut_last (xs : List V) (h : xs ≠ []) : cutV xs none (some (-1)) = xs.dropLast := by
  unfold cutV HT.sIx
  simp
  rw [List.dropLast_eq_take]
  congr 1
  omega
theorem sV_app (a b : List Str) : sV (a ++ b) = sV a ++ sV b := List.map_append
theorem sz (n : Nat) (h : n ≤ 1000) : n ≤ sizeLine := Nat.le_trans h (by decide)
theorem sV_len (a : List Str) : (sV a).length = a.length := List.length_map ..
theorem bad0 {v : V} {r : Row} {n : Int} {l : Addr} {y : Str} {a : Nat} {H : Hp} {Q : VK} (hv : RowAt K H v r) (ok : r.ok) (hl : H l = some (.lst (sV r.words))) (k : ∀ x H', Same H H' → BadOk x → Q (.str x) H') : (tBM K "str" (rJoin K) (tC (V.str " ")) (tCons (tOp rCat (tVar 2) (tLst (tCons (tC (V.str "0")) tNil))) tNil)) [some v, some (.int n), some (.ref l), some (.str y), some (.int (a : Int)), some (.int (n % 8))] H Q := by
  have len := words_len r
  refine ⟨rfl, _, rfl, sz _ (by show 1 ≤ 1000; decide), fun b hb => ⟨l, b, sV r.words, _, rfl, rfl, (Same.new hb) _ _ hl, upd_same, sz _ (by rw [sV_len]; show _ + 1 ≤ 1000; omega), fun p hp => ?_⟩⟩
  have wk : ∀ x ∈ r.words ++ [("0" : Str)], WordOk x := fun x hx => by
    rcases List.mem_append.mp hx with hx | hx
    · exact words_ok ok x hx
    · rw [List.mem_singleton.mp hx]; exact wordOk (by decide) (by decide)
  refine ⟨_, p, r.words ++ [("0" : Str)], rfl, rfl, SqL.of (by rw [upd_same, sV_app]; rfl), jo8 wk (by simp; omega), ?_⟩
  rw [txt_join]
  refine k _ _ ((Same.new hb).trans (Same.new hp)) (bad_words (w0 := r.kind) (ws := r.nums.map numS ++ [("0" : Str)]) wk (by simp; omega) ?_)
  rw [nb_row]
  refine .inl ?_
  simp
  omega
theorem bad1 {v : V} {r : Row} {n : Int} {l : Addr} {y : Str} {a : Nat} {H : Hp} {Q : VK} (hv : RowAt K H v r) (ok : r.ok) (hl : H l = some (.lst (sV r.words))) (k : ∀ x H', Same H H' → BadOk x → Q (.str x) H') : (tBM K "str" (rJoin K) (tC (V.str " ")) (tCons (tSl (rSlL K) (tVar 2) tNoPart (tPart (tUn (rU fun i => V.int (-i)) (tC (V.int 1))))) tNil)) [some v, some (.int n), some (.ref l), some (.str y), some (.int (a : Int)), some (.int (n % 8))] H Q := by
  have len := words_len r
  refine ⟨rfl, _, rfl, 1, rfl, -1, rfl, l, sV r.words, rfl, SqL.of hl, fun p hp => ?_⟩
  have e : cutV (sV r.words) none (some (-1)) = sV (r.kind :: (r.nums.map numS).dropLast) := by
    rw [cut_last _ (by unfold Row.words; simp)]
    unfold sV
    rw [← List.map_dropLast]
    unfold Row.words
    rw [List.dropLast_cons_of_ne_nil]
    intro z
    have := congrArg List.length z
    simp at this
    rw [this] at len
    simp at len
  rw [e]
  have wk : ∀ x ∈ r.kind :: (r.nums.map numS).dropLast, WordOk x := fun x hx => by
    refine words_ok ok x ?_
    rcases List.mem_cons.mp hx with rfl | hx
    · exact List.mem_cons_self
    · exact List.mem_cons_of_mem _ (List.dropLast_subset _ hx)
  refine ⟨_, p, r.kind :: (r.nums.map numS).dropLast, rfl, rfl, SqL.of upd_same, jo8 wk (by simp; omega), ?_⟩
  rw [txt_join]
  refine k _ _ (Same.new hp) (bad_words wk (by simp; omega) ?_)
  rw [nb_row]
  refine .inl ?_
  rw [List.length_dropLast, List.length_map]; omega
theorem bad2 {v : V} {r : Row} {n : Int} {l : Addr} {y : Str} {a : Nat} {H : Hp} {Q : VK} (hv : RowAt K H v r) (ok : r.ok) (hl : H l = some (.lst (sV r.words))) (k : ∀ x H', Same H H' → BadOk x → Q (.str x) H') : (tOp rAddS (tCall (sp__law_text K) [] ER0 (tCons (tVar 0) tNil)) (tC (V.str " "))) [some v, some (.int n), some (.ref l), some (.str y), some (.int (a : Int)), some (.int (n % 8))] H Q := by
  have len := words_len r
  have tl := text_len ok
  refine ⟨_, rfl, v, r, rfl, hv, ok, fun H3 s3 => ⟨r.text, Str.ofString " ", rfl, rfl, sz _ (by have e : (Str.ofString " ").length = 1 := rfl
                                                                                                rw [e]; omega), ?_⟩⟩
  have wk : ∀ x ∈ r.words ++ [("" : Str)], WordOk x := fun x hx => by
    rcases List.mem_append.mp hx with hx | hx
    · exact words_ok ok x hx
    · rw [List.mem_singleton.mp hx]; exact wordOk (by decide) (by decide)
  have e : r.text ++ Str.ofString " " = Str.join spc (r.words ++ [("" : Str)]) := by
    rw [join_snoc _ _ _ (words_ne r)]
    apply str_ext
    rw [app_list, app_list, app_list]
    show _ = r.text.cps.toList ++ _ ++ []
    rw [List.append_nil]; rfl
  rw [e]
  refine k _ _ s3 (bad_words (w0 := r.kind) (ws := r.nums.map numS ++ [("" : Str)]) wk (by simp; omega) ?_)
  rw [nb_row]
  refine .inl ?_
  simp
  omega
theorem bad3 {v : V} {r : Row} {n : Int} {l : Addr} {y : Str} {a : Nat} {H : Hp} {Q : VK} (hv : RowAt K H v r) (ok : r.ok) (hl : H l = some (.lst (sV r.words))) (k : ∀ x H', Same H H' → BadOk x → Q (.str x) H') : (tOp rAddS (tC (V.str " ")) (tCall (sp__law_text K) [] ER0 (tCons (tVar 0) tNil))) [some v, some (.int n), some (.ref l), some (.str y), some (.int (a : Int)), some (.int (n % 8))] H Q := by
  have len := words_len r
  have tl := text_len ok
  refine ⟨_, rfl, v, r, rfl, hv, ok, fun H3 s3 => ⟨Str.ofString " ", r.text, rfl, rfl, sz _ (by have e : (Str.ofString " ").length = 1 := rfl
                                                                                                rw [e]; omega), ?_⟩⟩
  have wk : ∀ x ∈ ("" : Str) :: r.words, WordOk x := fun x hx => by
    rcases List.mem_cons.mp hx with rfl | hx
    · exact wordOk (by decide) (by decide)
    · exact words_ok ok x hx
  have e : Str.ofString " " ++ r.text = Str.join spc ("" :: r.words) := by
    unfold Row.text Row.words
    rw [join_cons]
    apply str_ext
    rw [app_list, app_list, app_list]
    rfl
  rw [e]
  exact k _ _ s3 (bad_words wk (by omega) trivial)
theorem bad4 {v : V} {r : Row} {n : Int} {l : Addr} {y : Str} {a : Nat} {H : Hp} {Q : VK} (hv : RowAt K H v r) (ok : r.ok) (hl : H l = some (.lst (sV r.words))) (k : ∀ x H', Same H H' → BadOk x → Q (.str x) H') : (tOp rAddS (tOp rAddS (tOp (rIxL K) (tLst (tCons (tC (V.str "Own")) (tCons (tC (V.str "uses")) (tCons (tC (V.str "")) (tCons (tC (V.str "writes")) (tCons (tC (V.str "own,")) tNil)))))) (tOp (rI (fun _ j => 0 < j) fun i j => V.int (i % j)) (tOp (rI CDiv fun i j => V.int (i / j)) (tVar 1) (tC (V.int 16))) (tC (V.int 5)))) (tC (V.str " "))) (tBM K "str" (rJoin K) (tC (V.str " ")) (tCons (tSl (rSlL K) (tVar 2) (tPart (tC (V.int 1))) tNoPart) tNil))) [some v, some (.int n), some (.ref l), some (.str y), some (.int (a : Int)), some (.int (n % 8))] H Q := by
  have len := words_len r
  obtain ⟨x, he, wx, nx⟩ : ∃ x : Str, atI [V.str "Own", .str "uses", .str "", .str "writes", .str "own,"] (n / 16 % 5) = some (.str x) ∧ WordOk x ∧ NB.lookup x = none := by
    have d : n / 16 % 5 = 0 ∨ n / 16 % 5 = 1 ∨ n / 16 % 5 = 2 ∨ n / 16 % 5 = 3 ∨ n / 16 % 5 = 4 := by omega
    rcases d with e | e | e | e | e <;> rw [e]
    · exact ⟨"Own", rfl, wordOk (by decide) (by decide), by decide⟩
    · exact ⟨"uses", rfl, wordOk (by decide) (by decide), by decide⟩
    · exact ⟨"", rfl, wordOk (by decide) (by decide), by decide⟩
    · exact ⟨"writes", rfl, wordOk (by decide) (by decide), by decide⟩
    · exact ⟨"own,", rfl, wordOk (by decide) (by decide), by decide⟩
  have e1 : (Str.ofString " ").length = 1 := rfl
  refine ⟨sz _ (by show 5 ≤ 1000; decide), fun b hb => ⟨_, rfl, n, 16, rfl, rfl, ⟨by decide, by decide⟩, n / 16, 5, rfl, rfl, by show (0 : Int) < 5; decide, b, _, n / 16 % 5, .str x, rfl, rfl, SqL.of upd_same, he, x, Str.ofString " ", rfl, rfl, sz _ (by rw [e1]; have := wx.2.2.2; omega), rfl, _, rfl, 1, rfl, l, sV r.words, rfl, SqL.of ((Same.new hb) _ _ hl), fun p hp => ?_⟩⟩
  have e : cutV (sV r.words) (some 1) none = sV (r.nums.map numS) := cut_tail (α := V) (.str r.kind) (sV (r.nums.map numS))
  rw [e]
  have wk : ∀ z ∈ x :: r.nums.map numS, WordOk z := fun z hz => by
    rcases List.mem_cons.mp hz with rfl | hz
    · exact wx
    · exact words_ok ok z (List.mem_cons_of_mem _ hz)
  have wk2 : ∀ z ∈ r.nums.map numS, WordOk z := fun z hz => wk z (List.mem_cons_of_mem _ hz)
  have ml : (r.nums.map numS).length ≤ 4 := by rw [List.length_map]; omega
  have nn : r.nums.map numS ≠ [] := fun z => by
    have := congrArg List.length z
    rw [List.length_map] at this
    simp at this; rw [this] at len; simp at len
  have l2 := join_len (Str.ofString " ") (r.nums.map numS)
  have l3 := sum_le (b := 8) fun x hx => (wk2 x hx).2.2.2
  rw [e1] at l2
  refine ⟨_, p, r.nums.map numS, rfl, rfl, SqL.of upd_same, jo8 wk2 (by omega), x ++ Str.ofString " ", _, rfl, rfl, sz _ ?_, ?_⟩
  · rw [txt_join]
    have l4 : (x ++ Str.ofString " ").length = x.length + 1 := by
      show (x ++ Str.ofString " ").cps.size = x.cps.size + 1
      rw [← Array.length_toList, app_list, List.length_append, Array.length_toList]; rfl
    rw [l4]
    have := wx.2.2.2
    omega
  · rw [txt_join]
    have e2 : x ++ Str.ofString " " ++ Str.join (Str.ofString " ") (r.nums.map numS) = Str.join spc (x :: r.nums.map numS) := by
      cases z : r.nums.map numS with
      | nil => exact absurd z nn
      | cons c d => rw [join_cons]; rfl
    rw [e2]
    refine k _ _ ((Same.new hb).trans (Same.new hp)) (bad_words wk (by omega) ?_)
    rw [nx]; trivial
theorem bad5 {v : V} {r : Row} {n : Int} {l : Addr} {y : Str} {a : Nat} {H : Hp} {Q : VK} (hv : RowAt K H v r) (ok : r.ok) (hl : H l = some (.lst (sV r.words))) (k : ∀ x H', Same H H' → BadOk x → Q (.str x) H') : (tRepl " " "  " (tCall (sp__law_text K) [] ER0 (tCons (tVar 0) tNil))) [some v, some (.int n), some (.ref l), some (.str y), some (.int (a : Int)), some (.int (n % 8))] H Q := by
  have len := words_len r
  have tl := text_len ok
  have nn : r.nums.map numS ≠ [] := fun z => by
    have := congrArg List.length z
    rw [List.length_map] at this
    simp at this; rw [this] at len; simp at len
  obtain ⟨h1, h2⟩ := repl_join (c := 32) (z := Str.ofString "  ") (w0 := r.kind) nn (kind_free r).1
  have h2' : repl1 r.text (Str.ofString " ") (Str.ofString "  ") = Str.join spc (r.kind :: "" :: r.nums.map numS) := by
    refine Eq.trans h2 ?_
    cases z : r.nums.map numS with
    | nil => exact absurd z nn
    | cons c d =>
      rw [join_cons, join_cons]
      apply str_ext
      simp only [app_list, List.append_assoc]
      rfl
  have wk : ∀ x ∈ r.kind :: ("" : Str) :: r.nums.map numS, WordOk x := fun x hx => by
    rcases List.mem_cons.mp hx with rfl | hx
    · exact words_ok ok _ List.mem_cons_self
    · rcases List.mem_cons.mp hx with rfl | hx
      · exact wordOk (by decide) (by decide)
      · exact words_ok ok x (List.mem_cons_of_mem _ hx)
  have bd : BadOk (Str.join spc (r.kind :: "" :: r.nums.map numS)) := by
    refine bad_words wk (by simp; omega) ?_
    rw [nb_row]
    refine .inl ?_
    simp
    omega
  refine ⟨_, rfl, v, r, rfl, hv, ok, fun H3 s3 => ⟨r.text, rfl, h1, ?_, ?_, ?_⟩⟩
  · rw [h2']; exact sz _ (Nat.le_trans bd.2.2.2 (by decide))
  · have := StrLaws.occ_length_le r.text (Str.ofString " ") 0 r.text.length 1
    have e2 : (Str.ofString "  ").length = 2 := rfl
    unfold Builtin.Str.tooLong
    rw [e2]
    have s0 : 100 ≤ sizeLine := by decide
    rw [decide_eq_false]
    omega
  · rw [h2']; exact k _ _ s3 bd
theorem bad6 {v : V} {r : Row} {n : Int} {l : Addr} {y : Str} {a : Nat} {H : Hp} {Q : VK} (hv : RowAt K H v r) (ok : r.ok) (hl : H l = some (.lst (sV r.words))) (k : ∀ x H', Same H H' → BadOk x → Q (.str x) H') : (tOp (rIxL K) (tLst (tCons (tC (V.str "")) (tCons (tC (V.str "own")) (tCons (tC (V.str "use")) (tCons (tC (V.str "write")) (tCons (tC (V.str "own 1 2")) (tCons (tC (V.str "use 1 2 3")) (tCons (tC (V.str "write 1 2 3 4")) tNil)))))))) (tOp (rI (fun _ j => 0 < j) fun i j => V.int (i % j)) (tOp (rI CDiv fun i j => V.int (i / j)) (tVar 1) (tC (V.int 16))) (tC (V.int 7)))) [some v, some (.int n), some (.ref l), some (.str y), some (.int (a : Int)), some (.int (n % 8))] H Q := by
  obtain ⟨x, he, bx⟩ : ∃ x : Str, atI [V.str "", .str "own", .str "use", .str "write", .str "own 1 2", .str "use 1 2 3", .str "write 1 2 3 4"] (n / 16 % 7) = some (.str x) ∧ BadOk x := by
    have d : n / 16 % 7 = 0 ∨ n / 16 % 7 = 1 ∨ n / 16 % 7 = 2 ∨ n / 16 % 7 = 3 ∨ n / 16 % 7 = 4 ∨ n / 16 % 7 = 5 ∨ n / 16 % 7 = 6 := by omega
    rcases d with e | e | e | e | e | e | e <;> rw [e]
    · exact ⟨"", rfl, bad_words (w0 := "") (ws := []) (by intro z hz; simp only [List.mem_cons, List.not_mem_nil, or_false] at hz; subst hz; exact wordOk (by decide) (by decide)) (by decide) trivial⟩
    · exact ⟨"own", rfl, bad_words (w0 := "own") (ws := []) (by intro z hz; simp only [List.mem_cons, List.not_mem_nil, or_false] at hz; subst hz; exact wordOk (by decide) (by decide)) (by decide) (.inl (by decide))⟩
    · exact ⟨"use", rfl, bad_words (w0 := "use") (ws := []) (by intro z hz; simp only [List.mem_cons, List.not_mem_nil, or_false] at hz; subst hz; exact wordOk (by decide) (by decide)) (by decide) (.inl (by decide))⟩
    · exact ⟨"write", rfl, bad_words (w0 := "write") (ws := []) (by intro z hz; simp only [List.mem_cons, List.not_mem_nil, or_false] at hz; subst hz; exact wordOk (by decide) (by decide)) (by decide) (.inl (by decide))⟩
    · exact ⟨"own 1 2", rfl, bad_words (w0 := "own") (ws := ["1", "2"]) (by intro z hz; simp only [List.mem_cons, List.not_mem_nil, or_false] at hz; rcases hz with rfl | rfl | rfl <;> exact wordOk (by decide) (by decide)) (by decide) (.inl (by decide))⟩
    · exact ⟨"use 1 2 3", rfl, bad_words (w0 := "use") (ws := ["1", "2", "3"]) (by intro z hz; simp only [List.mem_cons, List.not_mem_nil, or_false] at hz; rcases hz with rfl | rfl | rfl | rfl <;> exact wordOk (by decide) (by decide)) (by decide) (.inl (by decide))⟩
    · exact ⟨"write 1 2 3 4", rfl, bad_words (w0 := "write") (ws := ["1", "2", "3", "4"]) (by intro z hz; simp only [List.mem_cons, List.not_mem_nil, or_false] at hz; rcases hz with rfl | rfl | rfl | rfl | rfl <;> exact wordOk (by decide) (by decide)) (by decide) (.inl (by decide))⟩
  exact ⟨sz _ (by show 7 ≤ 1000; decide), fun b hb => ⟨_, rfl, n, 16, rfl, rfl, ⟨by decide, by decide⟩, n / 16, 7, rfl, rfl, by show (0 : Int) < 7; decide, b, _, n / 16 % 7, .str x, rfl, rfl, SqL.of upd_same, he, k _ _ (Same.new hb) bx⟩⟩
theorem bad7 {v : V} {r : Row} {n : Int} {l : Addr} {y : Str} {a : Nat} {H : Hp} {Q : VK} (hv : RowAt K H v r) (ok : r.ok) (hl : H l = some (.lst (sV r.words))) (k : ∀ x H', Same H H' → BadOk x → Q (.str x) H') (wy : WordOk y) (ny : isNumB y 6 = false) (a1 : 1 ≤ a) (a2 : a ≤ r.nums.length) : (tBM K "str" (rJoin K) (tC (V.str " ")) (tCons (tOp rCat (tOp rCat (tSl (rSlL K) (tVar 2) tNoPart (tPart (tVar 4))) (tLst (tCons (tVar 3) tNil))) (tSl (rSlL K) (tVar 2) (tPart (tOp (rI0 fun i j => V.int (i + j)) (tVar 4) (tC (V.int 1)))) tNoPart)) tNil)) [some v, some (.int n), some (.ref l), some (.str y), some (.int (a : Int)), some (.int (n % 8))] H Q := by
  have len := words_len r
  have wk : ∀ x ∈ r.words.take a ++ [y] ++ r.words.drop (a + 1), WordOk x := fun x hx => by
    rcases List.mem_append.mp hx with hx | hx
    · rcases List.mem_append.mp hx with hx | hx
      · exact words_ok ok x (List.mem_of_mem_take hx)
      · rw [List.mem_singleton.mp hx]; exact wy
    · exact words_ok ok x (List.mem_of_mem_drop hx)
  have wl : (r.words.take a ++ [y] ++ r.words.drop (a + 1)).length = r.nums.length + 1 := by
    simp only [List.length_append, List.length_take, List.length_drop, List.length_singleton]
    omega
  have c1 : cutV (sV r.words) none (some (a : Int)) = sV (r.words.take a) := by rw [cut_take]; unfold sV; rw [List.map_take]
  have c2 : cutV (sV r.words) (some ((a : Int) + 1)) none = sV (r.words.drop (a + 1)) := by
    have := cut_drop (sV r.words) (a + 1)
    rw [Int.natCast_add] at this
    refine Eq.trans this ?_
    unfold sV; rw [List.map_drop]
  refine ⟨rfl, _, rfl, _, rfl, (a : Int), rfl, l, sV r.words, rfl, SqL.of hl, fun p1 h1 => ?_⟩
  rw [c1]
  have s1 := Same.new (o := .lst (sV (r.words.take a))) h1
  have hl1 := s1 _ _ hl
  have e1 : upd H p1 (.lst (sV (r.words.take a))) p1 = some (.lst (sV (r.words.take a))) := upd_same
  generalize upd H p1 (.lst (sV (r.words.take a))) = H1 at s1 hl1 e1 ⊢
  refine ⟨_, rfl, sz _ (by show 1 ≤ 1000; decide), fun p2 h2 => ?_⟩
  have s2 := Same.new (o := .lst (sV [y])) h2
  have hl2 := s2 _ _ hl1
  have e2 := s2 _ _ e1
  have f2 : upd H1 p2 (.lst (sV [y])) p2 = some (.lst (sV [y])) := upd_same
  refine ⟨p1, p2, sV (r.words.take a), sV [y], rfl, rfl, e2, f2, sz _ (by rw [sV_len, sV_len, List.length_take]; show _ + 1 ≤ 1000; omega), fun p3 h3 => ?_⟩
  rw [← sV_app]
  have s3 := Same.new (o := .lst (sV (r.words.take a ++ [y]))) h3
  have hl3 := s3 _ _ hl2
  have e3 : upd (upd H1 p2 (.lst (sV [y]))) p3 (.lst (sV (r.words.take a ++ [y]))) p3 = some (.lst (sV (r.words.take a ++ [y]))) := upd_same
  have s23 := s2.trans s3
  refine ⟨_, rfl, _, rfl, (a : Int), 1, rfl, rfl, (a : Int) + 1, rfl, l, sV r.words, rfl, SqL.of hl3, fun p4 h4 => ?_⟩
  rw [c2]
  have s4 := Same.new (o := .lst (sV (r.words.drop (a + 1)))) h4
  refine ⟨p3, p4, _, _, rfl, rfl, s4 _ _ e3, upd_same, sz _ (by rw [sV_len, sV_len, List.length_append, List.length_take, List.length_drop]; show _ + 1 + _ ≤ 1000; omega), fun p5 h5 => ?_⟩
  rw [← sV_app]
  have s5 := Same.new (o := .lst (sV (r.words.take a ++ [y] ++ r.words.drop (a + 1)))) h5
  refine ⟨_, p5, r.words.take a ++ [y] ++ r.words.drop (a + 1), rfl, rfl, SqL.of upd_same, jo8 wk (by omega), ?_⟩
  rw [txt_join]
  refine k _ _ (s1.trans (s23.trans (s4.trans s5))) ?_
  obtain ⟨b, rfl⟩ : ∃ b, a = b + 1 := ⟨a - 1, by omega⟩
  have ew : r.words.take (b + 1) ++ [y] ++ r.words.drop (b + 1 + 1) = r.kind :: ((r.nums.map numS).take b ++ [y] ++ (r.nums.map numS).drop (b + 1)) := by
    unfold Row.words
    rw [List.take_succ_cons, List.drop_succ_cons]
    rfl
  rw [ew] at wk wl ⊢
  refine bad_words wk (by simp at wl; simp; omega) ?_
  rw [nb_row]
  refine .inr ?_
  rw [List.all_append, List.all_append]
  simp [ny]
theorem run_bad3 {v : V} {r : Row} {n : Int} {l : Addr} {y : Str} {a : Nat} {z : Int} {H : Hp} {Q : VK} (hv : RowAt K H v r) (ok : r.ok) (hl : H l = some (.lst (sV r.words))) (k : ∀ x H', Same H H' → BadOk x → Q (.str x) H') (wy : WordOk y) (ny : isNumB y 6 = false) (a1 : 1 ≤ a) (a2 : a ≤ r.nums.length) (ea : z = (a : Int)) :
  (tSeq (tAsg (tOp (rI (fun _ j => 0 < j) fun i j => V.int (i % j)) (tVar 1) (tC (V.int 8))) (gName 5)) (tSeq (tIfS (tTest (tOp rEq (tVar 5) (tC (V.int 0)))) (tRet (tBM K "str" (rJoin K) (tC (V.str " ")) (tCons (tOp rCat (tVar 2) (tLst (tCons (tC (V.str "0")) tNil))) tNil))) tNext) (tSeq (tIfS (tTest (tOp rEq (tVar 5) (tC (V.int 1)))) (tRet (tBM K "str" (rJoin K) (tC (V.str " ")) (tCons (tSl (rSlL K) (tVar 2) tNoPart (tPart (tUn (rU fun i => V.int (-i)) (tC (V.int 1))))) tNil))) tNext) (tSeq (tIfS (tTest (tOp rEq (tVar 5) (tC (V.int 2)))) (tRet (tOp rAddS (tCall (sp__law_text K) [] ER0 (tCons (tVar 0) tNil)) (tC (V.str " ")))) tNext) (tSeq (tIfS (tTest (tOp rEq (tVar 5) (tC (V.int 3)))) (tRet (tOp rAddS (tC (V.str " ")) (tCall (sp__law_text K) [] ER0 (tCons (tVar 0) tNil)))) tNext) (tSeq (tIfS (tTest (tOp rEq (tVar 5) (tC (V.int 4)))) (tRet (tOp rAddS (tOp rAddS (tOp (rIxL K) (tLst (tCons (tC (V.str "Own")) (tCons (tC (V.str "uses")) (tCons (tC (V.str "")) (tCons (tC (V.str "writes")) (tCons (tC (V.str "own,")) tNil)))))) (tOp (rI (fun _ j => 0 < j) fun i j => V.int (i % j)) (tOp (rI CDiv fun i j => V.int (i / j)) (tVar 1) (tC (V.int 16))) (tC (V.int 5)))) (tC (V.str " "))) (tBM K "str" (rJoin K) (tC (V.str " ")) (tCons (tSl (rSlL K) (tVar 2) (tPart (tC (V.int 1))) tNoPart) tNil)))) tNext) (tSeq (tIfS (tTest (tOp rEq (tVar 5) (tC (V.int 5)))) (tRet (tRepl " " "  " (tCall (sp__law_text K) [] ER0 (tCons (tVar 0) tNil)))) tNext) (tSeq (tIfS (tTest (tOp rEq (tVar 5) (tC (V.int 6)))) (tRet (tOp (rIxL K) (tLst (tCons (tC (V.str "")) (tCons (tC (V.str "own")) (tCons (tC (V.str "use")) (tCons (tC (V.str "write")) (tCons (tC (V.str "own 1 2")) (tCons (tC (V.str "use 1 2 3")) (tCons (tC (V.str "write 1 2 3 4")) tNil)))))))) (tOp (rI (fun _ j => 0 < j) fun i j => V.int (i % j)) (tOp (rI CDiv fun i j => V.int (i / j)) (tVar 1) (tC (V.int 16))) (tC (V.int 7))))) tNext) (tRet (tBM K "str" (rJoin K) (tC (V.str " ")) (tCons (tOp rCat (tOp rCat (tSl (rSlL K) (tVar 2) tNoPart (tPart (tVar 4))) (tLst (tCons (tVar 3) tNil))) (tSl (rSlL K) (tVar 2) (tPart (tOp (rI0 fun i j => V.int (i + j)) (tVar 4) (tC (V.int 1)))) tNoPart)) tNil))))))))))) { nx := fun _ H' => Q V.non H', rt := Q } [some v, some (.int n), some (.ref l), some (.str y), some (.int z), none] H := by
  subst ea
  refine ⟨_, rfl, n, 8, rfl, rfl, by show (0 : Int) < 8; decide, ?_⟩
  refine ⟨_, rfl, rfl, _, rfl, ?_⟩
  by_cases c0 : n % 8 = 0
  · exact iteTe (decide_eq_true (show V.int (n % 8) = V.int 0 by rw [c0])) (bad0 hv ok hl k)
  refine iteFe (decide_eq_false fun z => c0 (V.int.inj z)) ?_
  refine ⟨_, rfl, rfl, _, rfl, ?_⟩
  by_cases c1 : n % 8 = 1
  · exact iteTe (decide_eq_true (show V.int (n % 8) = V.int 1 by rw [c1])) (bad1 hv ok hl k)
  refine iteFe (decide_eq_false fun z => c1 (V.int.inj z)) ?_
  refine ⟨_, rfl, rfl, _, rfl, ?_⟩
  by_cases c2 : n % 8 = 2
  · exact iteTe (decide_eq_true (show V.int (n % 8) = V.int 2 by rw [c2])) (bad2 hv ok hl k)
  refine iteFe (decide_eq_false fun z => c2 (V.int.inj z)) ?_
  refine ⟨_, rfl, rfl, _, rfl, ?_⟩
  by_cases c3 : n % 8 = 3
  · exact iteTe (decide_eq_true (show V.int (n % 8) = V.int 3 by rw [c3])) (bad3 hv ok hl k)
  refine iteFe (decide_eq_false fun z => c3 (V.int.inj z)) ?_
  refine ⟨_, rfl, rfl, _, rfl, ?_⟩
  by_cases c4 : n % 8 = 4
  · exact iteTe (decide_eq_true (show V.int (n % 8) = V.int 4 by rw [c4])) (bad4 hv ok hl k)
  refine iteFe (decide_eq_false fun z => c4 (V.int.inj z)) ?_
  refine ⟨_, rfl, rfl, _, rfl, ?_⟩
  by_cases c5 : n % 8 = 5
  · exact iteTe (decide_eq_true (show V.int (n % 8) = V.int 5 by rw [c5])) (bad5 hv ok hl k)
  refine iteFe (decide_eq_false fun z => c5 (V.int.inj z)) ?_
  refine ⟨_, rfl, rfl, _, rfl, ?_⟩
  by_cases c6 : n % 8 = 6
  · exact iteTe (decide_eq_true (show V.int (n % 8) = V.int 6 by rw [c6])) (bad6 hv ok hl k)
  refine iteFe (decide_eq_false fun z => c6 (V.int.inj z)) ?_
  exact bad7 hv ok hl k wy ny a1 a2
theorem run_bad2 {v : V} {r : Row} {n : Int} {l : Addr} {H : Hp} {Q : VK} (hv : RowAt K H v r) (ok : r.ok) (hl : H l = some (.lst (sV r.words))) (k : ∀ x H', Same H H' → BadOk x → Q (.str x) H') :
  (tSeq (tAsg (tOp (rIxL K) (tLst (tCons (tC (V.str "01")) (tCons (tC (V.str "")) (tCons (tC (V.str "-1")) (tCons (tC (V.str "+1")) (tCons (tC (V.str "1000000")) (tCons (tC (V.str "1_0")) (tCons (tC (V.str "x")) (tCons (tC (V.str "1.0")) (tCons (tC (V.str "00")) tNil)))))))))) (tOp (rI (fun _ j => 0 < j) fun i j => V.int (i % j)) (tOp (rI CDiv fun i j => V.int (i / j)) (tVar 1) (tC (V.int 16))) (tC (V.int 9)))) (gName 3)) (tSeq (tAsg (tOp (rI0 fun i j => V.int (i + j)) (tC (V.int 1)) (tOp (rI (fun _ j => 0 < j) fun i j => V.int (i % j)) (tOp (rI CDiv fun i j => V.int (i / j)) (tOp (rI CDiv fun i j => V.int (i / j)) (tVar 1) (tC (V.int 16))) (tC (V.int 9))) (tOp (rI0 fun i j => V.int (i - j)) (tCB (rLen K) (tCons (tVar 2) tNil)) (tC (V.int 1))))) (gName 4)) (tSeq (tAsg (tOp (rI (fun _ j => 0 < j) fun i j => V.int (i % j)) (tVar 1) (tC (V.int 8))) (gName 5)) (tSeq (tIfS (tTest (tOp rEq (tVar 5) (tC (V.int 0)))) (tRet (tBM K "str" (rJoin K) (tC (V.str " ")) (tCons (tOp rCat (tVar 2) (tLst (tCons (tC (V.str "0")) tNil))) tNil))) tNext) (tSeq (tIfS (tTest (tOp rEq (tVar 5) (tC (V.int 1)))) (tRet (tBM K "str" (rJoin K) (tC (V.str " ")) (tCons (tSl (rSlL K) (tVar 2) tNoPart (tPart (tUn (rU fun i => V.int (-i)) (tC (V.int 1))))) tNil))) tNext) (tSeq (tIfS (tTest (tOp rEq (tVar 5) (tC (V.int 2)))) (tRet (tOp rAddS (tCall (sp__law_text K) [] ER0 (tCons (tVar 0) tNil)) (tC (V.str " ")))) tNext) (tSeq (tIfS (tTest (tOp rEq (tVar 5) (tC (V.int 3)))) (tRet (tOp rAddS (tC (V.str " ")) (tCall (sp__law_text K) [] ER0 (tCons (tVar 0) tNil)))) tNext) (tSeq (tIfS (tTest (tOp rEq (tVar 5) (tC (V.int 4)))) (tRet (tOp rAddS (tOp rAddS (tOp (rIxL K) (tLst (tCons (tC (V.str "Own")) (tCons (tC (V.str "uses")) (tCons (tC (V.str "")) (tCons (tC (V.str "writes")) (tCons (tC (V.str "own,")) tNil)))))) (tOp (rI (fun _ j => 0 < j) fun i j => V.int (i % j)) (tOp (rI CDiv fun i j => V.int (i / j)) (tVar 1) (tC (V.int 16))) (tC (V.int 5)))) (tC (V.str " "))) (tBM K "str" (rJoin K) (tC (V.str " ")) (tCons (tSl (rSlL K) (tVar 2) (tPart (tC (V.int 1))) tNoPart) tNil)))) tNext) (tSeq (tIfS (tTest (tOp rEq (tVar 5) (tC (V.int 5)))) (tRet (tRepl " " "  " (tCall (sp__law_text K) [] ER0 (tCons (tVar 0) tNil)))) tNext) (tSeq (tIfS (tTest (tOp rEq (tVar 5) (tC (V.int 6)))) (tRet (tOp (rIxL K) (tLst (tCons (tC (V.str "")) (tCons (tC (V.str "own")) (tCons (tC (V.str "use")) (tCons (tC (V.str "write")) (tCons (tC (V.str "own 1 2")) (tCons (tC (V.str "use 1 2 3")) (tCons (tC (V.str "write 1 2 3 4")) tNil)))))))) (tOp (rI (fun _ j => 0 < j) fun i j => V.int (i % j)) (tOp (rI CDiv fun i j => V.int (i / j)) (tVar 1) (tC (V.int 16))) (tC (V.int 7))))) tNext) (tRet (tBM K "str" (rJoin K) (tC (V.str " ")) (tCons (tOp rCat (tOp rCat (tSl (rSlL K) (tVar 2) tNoPart (tPart (tVar 4))) (tLst (tCons (tVar 3) tNil))) (tSl (rSlL K) (tVar 2) (tPart (tOp (rI0 fun i j => V.int (i + j)) (tVar 4) (tC (V.int 1)))) tNoPart)) tNil))))))))))))) { nx := fun _ H' => Q V.non H', rt := Q } [some v, some (.int n), some (.ref l), none, none, none] H := by
  have len := words_len r
  obtain ⟨y, he, wy, ny⟩ : ∃ y : Str, atI [V.str "01", .str "", .str "-1", .str "+1", .str "1000000", .str "1_0", .str "x", .str "1.0", .str "00"] (n / 16 % 9) = some (.str y) ∧ WordOk y ∧ isNumB y 6 = false := by
    have d : n / 16 % 9 = 0 ∨ n / 16 % 9 = 1 ∨ n / 16 % 9 = 2 ∨ n / 16 % 9 = 3 ∨ n / 16 % 9 = 4 ∨ n / 16 % 9 = 5 ∨ n / 16 % 9 = 6 ∨ n / 16 % 9 = 7 ∨ n / 16 % 9 = 8 := by omega
    rcases d with e | e | e | e | e | e | e | e | e <;> rw [e]
    · exact ⟨"01", rfl, wordOk (by decide) (by decide), by decide⟩
    · exact ⟨"", rfl, wordOk (by decide) (by decide), by decide⟩
    · exact ⟨"-1", rfl, wordOk (by decide) (by decide), by decide⟩
    · exact ⟨"+1", rfl, wordOk (by decide) (by decide), by decide⟩
    · exact ⟨"1000000", rfl, wordOk (by decide) (by decide), by decide⟩
    · exact ⟨"1_0", rfl, wordOk (by decide) (by decide), by decide⟩
    · exact ⟨"x", rfl, wordOk (by decide) (by decide), by decide⟩
    · exact ⟨"1.0", rfl, wordOk (by decide) (by decide), by decide⟩
    · exact ⟨"00", rfl, wordOk (by decide) (by decide), by decide⟩
  refine ⟨sz _ (by show 9 ≤ 1000; decide), fun b hb => ⟨_, rfl, n, 16, rfl, rfl, ⟨by decide, by decide⟩, n / 16, 9, rfl, rfl, by show (0 : Int) < 9; decide, b, _, n / 16 % 9, .str y, rfl, rfl, SqL.of upd_same, he, ?_⟩⟩
  have s1 := Same.new (o := .lst [V.str "01", .str "", .str "-1", .str "+1", .str "1000000", .str "1_0", .str "x", .str "1.0", .str "00"]) hb
  have el : (((sV r.words).length : Nat) : Int) - 1 = (r.nums.length : Int) := by rw [sV_len]; omega
  refine ⟨_, rfl, n, 16, rfl, rfl, ⟨by decide, by decide⟩, n / 16, 9, rfl, rfl, ⟨by decide, by decide⟩, _, rfl, l, sV r.words, rfl, .inl (SqL.of (s1 _ _ hl)), _, 1, rfl, rfl, n / 16 / 9, _, rfl, rfl, by rw [el]; show (0 : Int) < _; omega, 1, _, rfl, rfl, ?_⟩
  obtain ⟨a, ea, a1, a2⟩ : ∃ a : Nat, 1 + n / 16 / 9 % ((((sV r.words).length : Nat) : Int) - 1) = (a : Int) ∧ 1 ≤ a ∧ a ≤ r.nums.length := by
    rw [el]
    have h1 := Int.emod_nonneg (n / 16 / 9) (b := (r.nums.length : Int)) (by omega)
    have h2 := Int.emod_lt_of_pos (n / 16 / 9) (b := (r.nums.length : Int)) (by omega)
    exact ⟨(1 + n / 16 / 9 % (r.nums.length : Int)).toNat, by omega, by omega, by omega⟩
  have hv' := hv.same s1
  have hl' := s1 _ _ hl
  have k' : ∀ x H', Same (upd H b (.lst [V.str "01", .str "", .str "-1", .str "+1", .str "1000000", .str "1_0", .str "x", .str "1.0", .str "00"])) H' → BadOk x → Q (.str x) H' := fun x H' s b => k x H' (s1.trans s) b
  refine run_bad3 (y := y) hv' ok hl' k' wy ny a1 a2 ea
theorem run__law_bad {v : V} {r : Row} {n : Int} {H : Hp} {Q : VK} (hv : RowAt K H v r) (ok : r.ok) (k : ∀ x H', Same H H' → BadOk x → Q (.str x) H') :
  (tSeq (tAsg (tBM K "str" rSplit (tCall (sp__law_text K) [] ER0 (tCons (tVar 0) tNil)) (tCons (tC (V.str " ")) tNil)) (gName 2)) (tSeq (tAsg (tOp (rIxL K) (tLst (tCons (tC (V.str "01")) (tCons (tC (V.str "")) (tCons (tC (V.str "-1")) (tCons (tC (V.str "+1")) (tCons (tC (V.str "1000000")) (tCons (tC (V.str "1_0")) (tCons (tC (V.str "x")) (tCons (tC (V.str "1.0")) (tCons (tC (V.str "00")) tNil)))))))))) (tOp (rI (fun _ j => 0 < j) fun i j => V.int (i % j)) (tOp (rI CDiv fun i j => V.int (i / j)) (tVar 1) (tC (V.int 16))) (tC (V.int 9)))) (gName 3)) (tSeq (tAsg (tOp (rI0 fun i j => V.int (i + j)) (tC (V.int 1)) (tOp (rI (fun _ j => 0 < j) fun i j => V.int (i % j)) (tOp (rI CDiv fun i j => V.int (i / j)) (tOp (rI CDiv fun i j => V.int (i / j)) (tVar 1) (tC (V.int 16))) (tC (V.int 9))) (tOp (rI0 fun i j => V.int (i - j)) (tCB (rLen K) (tCons (tVar 2) tNil)) (tC (V.int 1))))) (gName 4)) (tSeq (tAsg (tOp (rI (fun _ j => 0 < j) fun i j => V.int (i % j)) (tVar 1) (tC (V.int 8))) (gName 5)) (tSeq (tIfS (tTest (tOp rEq (tVar 5) (tC (V.int 0)))) (tRet (tBM K "str" (rJoin K) (tC (V.str " ")) (tCons (tOp rCat (tVar 2) (tLst (tCons (tC (V.str "0")) tNil))) tNil))) tNext) (tSeq (tIfS (tTest (tOp rEq (tVar 5) (tC (V.int 1)))) (tRet (tBM K "str" (rJoin K) (tC (V.str " ")) (tCons (tSl (rSlL K) (tVar 2) tNoPart (tPart (tUn (rU fun i => V.int (-i)) (tC (V.int 1))))) tNil))) tNext) (tSeq (tIfS (tTest (tOp rEq (tVar 5) (tC (V.int 2)))) (tRet (tOp rAddS (tCall (sp__law_text K) [] ER0 (tCons (tVar 0) tNil)) (tC (V.str " ")))) tNext) (tSeq (tIfS (tTest (tOp rEq (tVar 5) (tC (V.int 3)))) (tRet (tOp rAddS (tC (V.str " ")) (tCall (sp__law_text K) [] ER0 (tCons (tVar 0) tNil)))) tNext) (tSeq (tIfS (tTest (tOp rEq (tVar 5) (tC (V.int 4)))) (tRet (tOp rAddS (tOp rAddS (tOp (rIxL K) (tLst (tCons (tC (V.str "Own")) (tCons (tC (V.str "uses")) (tCons (tC (V.str "")) (tCons (tC (V.str "writes")) (tCons (tC (V.str "own,")) tNil)))))) (tOp (rI (fun _ j => 0 < j) fun i j => V.int (i % j)) (tOp (rI CDiv fun i j => V.int (i / j)) (tVar 1) (tC (V.int 16))) (tC (V.int 5)))) (tC (V.str " "))) (tBM K "str" (rJoin K) (tC (V.str " ")) (tCons (tSl (rSlL K) (tVar 2) (tPart (tC (V.int 1))) tNoPart) tNil)))) tNext) (tSeq (tIfS (tTest (tOp rEq (tVar 5) (tC (V.int 5)))) (tRet (tRepl " " "  " (tCall (sp__law_text K) [] ER0 (tCons (tVar 0) tNil)))) tNext) (tSeq (tIfS (tTest (tOp rEq (tVar 5) (tC (V.int 6)))) (tRet (tOp (rIxL K) (tLst (tCons (tC (V.str "")) (tCons (tC (V.str "own")) (tCons (tC (V.str "use")) (tCons (tC (V.str "write")) (tCons (tC (V.str "own 1 2")) (tCons (tC (V.str "use 1 2 3")) (tCons (tC (V.str "write 1 2 3 4")) tNil)))))))) (tOp (rI (fun _ j => 0 < j) fun i j => V.int (i % j)) (tOp (rI CDiv fun i j => V.int (i / j)) (tVar 1) (tC (V.int 16))) (tC (V.int 7))))) tNext) (tRet (tBM K "str" (rJoin K) (tC (V.str " ")) (tCons (tOp rCat (tOp rCat (tSl (rSlL K) (tVar 2) tNoPart (tPart (tVar 4))) (tLst (tCons (tVar 3) tNil))) (tSl (rSlL K) (tVar 2) (tPart (tOp (rI0 fun i j => V.int (i + j)) (tVar 4) (tC (V.int 1)))) tNoPart)) tNil)))))))))))))) { nx := fun _ H' => Q V.non H', rt := Q } [some v, some (.int n), none, none, none, none] H := by
  refine ⟨_, rfl, v, r, rfl, hv, ok, fun H1 s1 => ⟨rfl, _, _, rfl, rfl, rfl, ?_, fun l hl => ?_⟩⟩
  · have := text_len ok; omega
  have es : Txt.split r.text (Str.ofString " ") = r.words := split_text ok
  have s2 := Same.new (o := .lst (sV (Txt.split r.text (Str.ofString " ")))) hl
  exact run_bad2 (hv.same (s1.trans s2)) ok (by rw [upd_same, es]) fun x H' s b => k x H' ((s1.trans s2).trans s) b
def sp__law_bad (K : PySem.W.Frag) : Sp := fun vs H Q _ => ∃ v r n, vs = [v, .int n] ∧ RowAt K H v r ∧ r.ok ∧ ∀ x H', Same H H' → BadOk x → Q (.str x) H'
set_option maxHeartbeats 4000000 in
theorem ok__law_bad (T : Txt K mg t) : FnOk P w K mg base (CXr P w) 2 t.f__law_bad t.fd__law_bad ["_law_row_here", "_law_number_here"] (sp__law_bad K) := by
  refine T.F__law_bad.okNi sc__law_bad (fun vs H Q E h => ?_) (fun cdv A outer s H vs Q E hr h => ?_)
  · obtain ⟨v, r, n, rfl, _⟩ := h; rfl
  · obtain ⟨v, r, n, rfl, hv, ok, k⟩ := h
    refine ⟨_, (pssi_cons (PSi.of (ps_set (i := 2) sc__law_bad.nd rfl (Or.inl rfl) (pe_bmK (K := K) PySem.F.plainAttrs_str PySem.F.slot_str_split PySem.F.type_str_split mt_split (pe_call (ok__law_text T) (hr.mono (by decide)) rfl T.mg__law_text T.kp__law_text T.b__law_text .nil passr0 (pa_c (pv 0) pa_nil)) (pa_c pe_str pa_nil))))
      (pssi_cons (psi_set (i := 3) sc__law_bad.nd rfl (Or.inl rfl) (pei_ix (ix_listK (K := K)) (pei_lst (pai_c pei_str (pai_c pei_str (pai_c pei_str (pai_c pei_str (pai_c pei_str (pai_c pei_str (pai_c pei_str (pai_c pei_str (pai_c pei_str pai_nil)))))))))) (PEi.of (pe_op op_mod (pe_op op_fdiv (pv 1) pe_int) pe_int)) (fun _ _ => rfl)))
      (pssi_cons (PSi.of (ps_set (i := 4) sc__law_bad.nd rfl (Or.inl rfl) (pe_op op_add pe_int (pe_op op_mod (pe_op op_fdiv (pe_op op_fdiv (pv 1) pe_int) pe_int) (pe_op op_sub (pe_callB (call_lenK (K := K)) rfl T.no_len b_len (pa_c (pv 2) pa_nil)) pe_int)))))
      (pssi_cons (PSi.of (ps_set (i := 5) sc__law_bad.nd rfl (Or.inl rfl) (pe_op op_mod (pv 1) pe_int)))
      (pssi_cons (psi_if (pt_cmpR op_eq (pv 5) pe_int (nomark _))
        (pssi_one (psi_retI (PEi.of (pe_bmK (K := K) PySem.F.plainAttrs_str PySem.F.slot_str_join PySem.F.type_str_join (mt_join (K := K)) pe_str (pa_c (pe_op op_cat (pv 2) (pe_lst (pa_c pe_str pa_nil))) pa_nil)))))
        (PSsi.of pss_nil))
      (pssi_cons (psi_if (pt_cmpR op_eq (pv 5) pe_int (nomark _))
        (pssi_one (psi_retI (PEi.of (pe_bmK (K := K) PySem.F.plainAttrs_str PySem.F.slot_str_join PySem.F.type_str_join (mt_join (K := K)) pe_str (pa_c (pe_slice (sl_listK (K := K)) (pv 2) po_none (po_some (pe_un un_neg pe_int))) pa_nil)))))
        (PSsi.of pss_nil))
      (pssi_cons (psi_if (pt_cmpR op_eq (pv 5) pe_int (nomark _))
        (pssi_one (psi_retI (PEi.of (pe_op op_addS (pe_call (ok__law_text T) (hr.mono (by decide)) rfl T.mg__law_text T.kp__law_text T.b__law_text .nil passr0 (pa_c (pv 0) pa_nil)) pe_str))))
        (PSsi.of pss_nil))
      (pssi_cons (psi_if (pt_cmpR op_eq (pv 5) pe_int (nomark _))
        (pssi_one (psi_retI (PEi.of (pe_op op_addS pe_str (pe_call (ok__law_text T) (hr.mono (by decide)) rfl T.mg__law_text T.kp__law_text T.b__law_text .nil passr0 (pa_c (pv 0) pa_nil))))))
        (PSsi.of pss_nil))
      (pssi_cons (psi_if (pt_cmpR op_eq (pv 5) pe_int (nomark _))
        (pssi_one (psi_retI (pei_op op_addS (pei_op op_addS (pei_ix (ix_listK (K := K)) (pei_lst (pai_c pei_str (pai_c pei_str (pai_c pei_str (pai_c pei_str (pai_c pei_str pai_nil)))))) (PEi.of (pe_op op_mod (pe_op op_fdiv (pv 1) pe_int) pe_int)) (fun _ _ => rfl)) (PEi.of pe_str)) (PEi.of (pe_bmK (K := K) PySem.F.plainAttrs_str PySem.F.slot_str_join PySem.F.type_str_join (mt_join (K := K)) pe_str (pa_c (pe_slice (sl_listK (K := K)) (pv 2) (po_some pe_int) po_none) pa_nil))))))
        (PSsi.of pss_nil))
      (pssi_cons (psi_if (pt_cmpR op_eq (pv 5) pe_int (nomark _))
        (pssi_one (psi_retI (PEi.of (pe_replace1 (pet_call (okT__law_text T) (hr.mono (by decide)) rfl T.mg__law_text T.kp__law_text T.b__law_text .nil passr0 (pa_c (pv 0) pa_nil)) (by decide) (by decide)))))
        (PSsi.of pss_nil))
      (pssi_cons (psi_if (pt_cmpR op_eq (pv 5) pe_int (nomark _))
        (pssi_one (psi_retI (pei_ix (ix_listK (K := K)) (pei_lst (pai_c pei_str (pai_c pei_str (pai_c pei_str (pai_c pei_str (pai_c pei_str (pai_c pei_str (pai_c pei_str pai_nil)))))))) (PEi.of (pe_op op_mod (pe_op op_fdiv (pv 1) pe_int) pe_int)) (fun _ _ => rfl))))
        (PSsi.of pss_nil))
      (pssi_one (psi_retI (PEi.of (pe_bmK (K := K) PySem.F.plainAttrs_str PySem.F.slot_str_join PySem.F.type_str_join (mt_join (K := K)) pe_str (pa_c (pe_op op_cat (pe_op op_cat (pe_slice (sl_listK (K := K)) (pv 2) po_none (po_some (pv 4))) (pe_lst (pa_c (pv 3) pa_nil))) (pe_slice (sl_listK (K := K)) (pv 2) (po_some (pe_op op_add (pv 4) pe_int)) po_none)) pa_nil)))))))))))))))), ?_⟩
    exact run__law_bad hv ok k
def sp__law_refused : Sp := fun vs H Q _ => ∃ x ls, vs = [.str x] ∧ Asc x ∧ x.length ≤ 9000 ∧ Txt.split x nl = ls ∧ ls.length ≤ 50 ∧ (∀ l ∈ ls, Asc l ∧ l.length ≤ 100) ∧ x ≠ "" ∧ (∃ l ∈ ls, Bad l) ∧ (∀ l ∈ ls, LnOk l) ∧ ∀ H', Same H H' → Q (.bl true) H'
theorem ok__law_refused (T : Txt K mg t) (Tb : t.pr = w.params) : FnOk P w K mg base (CXr P w) 5 t.f__law_refused t.fd__law_refused ["_law_text_here"] sp__law_refused := by
  refine T.F__law_refused.okN sc__law_refused (fun vs H Q E h => ?_) (fun cdv A outer s H vs Q E hr h => ?_)
  · obtain ⟨x, ls, rfl, _⟩ := h; rfl
  · obtain ⟨x, ls, rfl, h1, h2, h3, h4, h5, h6, h7, h8, k⟩ := h
    refine ⟨_, (pss_cons (ps_tryAs (i := 1) rfl rfl (px_call (ok_read_rows T Tb) (hr.mono (by decide)) rfl T.mg_read_rows T.kp_read_rows T.b_read_rows (pa_c (pv 0) pa_nil)) rfl T.mg_WeaveError sc__law_refused.nd rfl rfl (fun _ => (pss_cons (ps_set (i := 2) sc__law_refused.nd rfl (Or.inl rfl) (pe_or (pe_callB (call_isinstK (K := K)) rfl T.no_isinstance b_isinstance (pa_c (pv 1) (pa_c (pe_glob (v := .ref t.c_NoHand) rfl T.mg_NoHand rfl) pa_nil))) (pe_or (pe_callB (call_isinstK (K := K)) rfl T.no_isinstance b_isinstance (pa_c (pv 1) (pa_c (pe_glob (v := .ref t.c_NoLetter) rfl T.mg_NoLetter rfl) pa_nil))) (pe_or (pe_callB (call_isinstK (K := K)) rfl T.no_isinstance b_isinstance (pa_c (pv 1) (pa_c (pe_glob (v := .ref t.c_NoPoint) rfl T.mg_NoPoint rfl) pa_nil))) (pe_one (pe_callB (call_isinstK (K := K)) rfl T.no_isinstance b_isinstance (pa_c (pv 1) (pa_c (pe_glob (v := .ref t.c_NoRow) rfl T.mg_NoRow rfl) pa_nil))))))))
      (pss_one (ps_ret (pe_and (pe_callB (call_isinstK (K := K)) rfl T.no_isinstance b_isinstance (pa_c (pv 1) (pa_c (pe_glob (v := .ref t.c_NoText) rfl T.mg_NoText rfl) pa_nil))) (pe_and (pe_callB (call_isinstK (K := K)) rfl T.no_isinstance b_isinstance (pa_c (pv 1) (pa_c (pe_bltn (v := .ty "ValueError") rfl T.no_ValueError b_ValueError rfl) pa_nil))) (pe_one (pe_not (pv 2))))))))))
      (pss_one (ps_ret pe_bl))), ?_⟩
    refine ⟨_, rfl, x, ls, rfl, h1, h2, h3, h4, h5, .inl ⟨h6, h7, h8, fun H1 s1 => ⟨T.kw_NoText, fun a ha => ?_⟩⟩⟩
    have ex : ∀ H', H' = upd H1 a (ExcO a (.ref t.c_NoText)) → TyX K H' (.ref a) (.ref t.c_NoText) := fun H' e => .exc (by rw [e, upd_same]) T.xk_NoText
    refine ⟨_, rfl, _, _, ex _ rfl, T.ke_1, _, rfl, iteF ?_⟩
    refine ⟨_, rfl, _, _, ex _ rfl, T.ke_2, _, rfl, iteF ?_⟩
    refine ⟨_, rfl, _, _, ex _ rfl, T.ke_3, _, rfl, iteF ?_⟩
    refine ⟨_, rfl, _, _, ex _ rfl, T.ke_4, ?_⟩
    refine ⟨_, rfl, _, _, ex _ rfl, kitOne_self _ _, _, rfl, iteT ?_⟩
    refine ⟨_, rfl, _, _, ex _ rfl, T.ke_6, _, rfl, iteT ?_⟩
    exact ⟨_, rfl, _, rfl, k _ (s1.trans (Same.new ha))⟩
theorem asc_ok {x : Str} (h : Asc x) : PyData.strOk x = true := by
  unfold PyData.strOk
  rw [← Array.all_toList, List.all_eq_true]
  intro c hc
  have := h c hc
  exact decide_eq_true (by omega)
theorem okD_str {n : Nat} {x : Str} (h : (PyData.str x).canLay0 = true) : okD n (.str x) := ⟨h, by simp [PyData.depth], by simp [noDict]⟩
theorem row_ok (r : Row) : okD 9 r.data := by
  cases r with
  | own h => exact .mono (.tuple (n := 5) fun d hd => by
      rcases List.mem_cons.mp hd with rfl | hd
      · exact okD_str (by rw [PyData.canLay0]; exact asc_ok (by unfold Asc; decide))
      · rw [List.mem_singleton.mp hd]; exact .int) (by decide)
  | write h => exact .mono (.tuple (n := 5) fun d hd => by
      rcases List.mem_cons.mp hd with rfl | hd
      · exact okD_str (by rw [PyData.canLay0]; exact asc_ok (by unfold Asc; decide))
      · rw [List.mem_singleton.mp hd]; exact .int) (by decide)
  | use h a b c => exact .mono (.tuple (n := 5) fun d hd => by
      rcases List.mem_cons.mp hd with rfl | hd
      · exact okD_str (by rw [PyData.canLay0]; exact asc_ok (by unfold Asc; decide))
      rcases List.mem_cons.mp hd with rfl | hd
      · exact .int
      · rw [List.mem_singleton.mp hd]
        exact .mono (.tuple (n := 3) (xs := [a, b, c].map PyData.int) okD_ints) (by decide)) (by decide)
theorem rows_ok (rs : List Row) : okD 10 (PyData.list (rs.map Row.data)) := .list fun d hd => by
  obtain ⟨r, _, rfl⟩ := List.mem_map.mp hd
  exact row_ok r
theorem iV_at {ns : List Int} {i : Nat} {x : V} (h : (iV ns)[i]? = some x) : ∃ n, x = .int n ∧ ns[i]? = some n := by
  unfold iV at h
  rw [List.getElem?_map] at h
  cases q : ns[i]? with
  | none => rw [q] at h; cases h
  | some y => rw [q] at h; cases h; exact ⟨y, rfl, rfl⟩
def sp__law_same (K : PySem.W.Frag) : Sp := fun vs H Q _ => ∃ a b xs ys rs, vs = [.ref a, .ref b] ∧ H a = some (.lst xs) ∧ H b = some (.lst ys) ∧ RowsAt K H xs rs ∧ RowsAt K H ys rs ∧ rs.length ≤ 50 ∧ ∀ H', Same H H' → Q (.bl true) H'
theorem ok__law_same (T : Txt K mg t) : FnOk P w K mg base (CXr P w) 1 t.f__law_same t.fd__law_same ["_law_found", "_law_rows"] (sp__law_same K) := by
  refine T.F__law_same.okN sc__law_same (fun vs H Q E h => ?_) (fun cdv A outer s H vs Q E hr h => ?_)
  · obtain ⟨a, b, xs, ys, rs, rfl, _⟩ := h; rfl
  · obtain ⟨a, b, xs, ys, rs, rfl, ha, hb, hx, hy, few, k⟩ := h
    refine ⟨_, (pss_cons (ps_if (PW.pt (pw_or (pt_not (pt_val (pe_callB (call_isinstK (K := K)) rfl T.no_isinstance b_isinstance (pa_c (pv 0) (pa_c (pe_bltn (v := .ty "list") rfl T.no_list b_list rfl) pa_nil))))) (pw_or1 (pt_cmpR (op_neDK (K := K) hr.units) (pv 0) (pv 1) (nomark _)))))
        (pss_one (ps_ret pe_bl))
        pss_nil)
      (pss_cons (ps_for PassesOwn.never rfl (pi_listK (K := K) (pv 0)) (pg_name (i := 2) sc__law_same.nd rfl (Or.inl rfl))
        (pss_cons (ps_if (PW.pt (pw_or (pt_not (pt_val (pe_callB (call_isinstK (K := K)) rfl T.no_isinstance b_isinstance (pa_c (pv 2) (pa_c (pe_bltn (v := .ty "tuple") rfl T.no_tuple b_tuple rfl) pa_nil))))) (pw_or1 (pt_val (pe_callB (call_isinstK (K := K)) rfl T.no_isinstance b_isinstance (pa_c (pe_ix (ix_tupK (K := K)) (pv 2) pe_int (fun _ _ => rfl)) (pa_c (pe_bltn (v := .ty "bool") rfl T.no_bool b_bool rfl) pa_nil)))))))
        (pss_one (ps_ret pe_bl))
        pss_nil)
      (pss_cons (ps_if (PW.pt (pw_and (pt_cmpR op_eq (pe_ix (ix_tupK (K := K)) (pv 2) pe_int (fun _ _ => rfl)) pe_str (nomark _)) (pw_and1 (pt_not (pt_val (pe_callB (call_isinstK (K := K)) rfl T.no_isinstance b_isinstance (pa_c (pe_ix (ix_tupK (K := K)) (pv 2) pe_int (fun _ _ => rfl)) (pa_c (pe_bltn (v := .ty "tuple") rfl T.no_tuple b_tuple rfl) pa_nil))))))))
        (pss_one (ps_ret pe_bl))
        pss_nil)
      (pss_one (ps_if (PW.pt (pw_and (pt_cmpR op_eq (pe_ix (ix_tupK (K := K)) (pv 2) pe_int (fun _ _ => rfl)) pe_str (nomark _)) (pw_and1 (pt_val (pe_callB (call_anyL rfl (K := K)) rfl T.no_any b_any (pa_c (pe_comp ["_law_found", "_law_rows", "_law_row_here", "_law_part"] 1 rfl (pi_tupK (K := K) (pe_ix (ix_tupK (K := K)) (pv 2) pe_int (fun _ _ => rfl))) (fun _ _ _ _ _ => ⟨(pg_name (i := 3) (show List.Nodup (["_law_found", "_law_rows", "_law_row_here", "_law_part"] : List Str) from by decide +kernel) rfl (Or.inl rfl)), pts_nil, (pe_callB (call_isinstK (K := K)) rfl T.no_isinstance b_isinstance (pa_c (pv 3) (pa_c (pe_bltn (v := .ty "bool") rfl T.no_bool b_bool rfl) pa_nil)))⟩)) pa_nil))))))
        (pss_one (ps_ret pe_bl))
        pss_nil)))))
      (pss_one (ps_ret pe_bl)))), ?_⟩
    have okl : okD 10 (PyData.list (rs.map Row.data)) := rows_ok rs
    have lx := hx.length
    refine ⟨_, rfl, _, _, .plain (.lst ha), kitOne_self _ _, _, rfl, iteF ⟨_, rfl, _, rfl, _, _, .lst (SqL.of ha) hx.rp, .lst (SqL.of hb) hy.rp, okl.shaped (by decide), okl.shaped (by decide), _, rfl, iteFe (by rw [if_pos rfl, okl.self]; rfl) ?_⟩⟩
    refine ⟨_, rfl, a, rfl, ⟨_, SqL.of ha⟩, for_list (xs := xs) (fun i σ2 H2 => Same H H2 ∧ ∃ o, σ2 = [some (.ref a), some (.ref b), o]) ⟨.refl _, _, rfl⟩ (fun i σ2 H2 _ q => SqL.of (q.1 _ _ ha)) ?_ ?_⟩
    · rintro i x σ2 H2 hxi ⟨s2, o, rfl⟩
      obtain ⟨r, hr, hv⟩ := hx.get hxi
      have hv := hv.same s2
      cases r with
      | own h0 =>
        obtain ⟨p, rfl, hp⟩ := hv
        refine ⟨_, rfl, _, _, .plain (.tup hp), kitOne_self _ _, _, rfl, iteF ⟨_, rfl, p, _, 1, .int h0, rfl, rfl, SqT.of hp, rfl, _, _, .plain (.int h0), T.ki_b, _, rfl, iteF ?_⟩⟩
        refine ⟨_, rfl, p, _, 0, .str "own", rfl, rfl, SqT.of hp, rfl, rfl, _, rfl, iteFe (show decide (V.str "own" = V.str (Str.ofString "use")) = false by decide) (iteF ?_)⟩
        exact ⟨_, rfl, p, _, 0, .str "own", rfl, rfl, SqT.of hp, rfl, rfl, _, rfl, iteFe (show decide (V.str "own" = V.str (Str.ofString "use")) = false by decide) (iteF ⟨s2, _, rfl⟩)⟩
      | write h0 =>
        obtain ⟨p, rfl, hp⟩ := hv
        refine ⟨_, rfl, _, _, .plain (.tup hp), kitOne_self _ _, _, rfl, iteF ⟨_, rfl, p, _, 1, .int h0, rfl, rfl, SqT.of hp, rfl, _, _, .plain (.int h0), T.ki_b, _, rfl, iteF ?_⟩⟩
        refine ⟨_, rfl, p, _, 0, .str "write", rfl, rfl, SqT.of hp, rfl, rfl, _, rfl, iteFe (show decide (V.str "write" = V.str (Str.ofString "use")) = false by decide) (iteF ?_)⟩
        exact ⟨_, rfl, p, _, 0, .str "write", rfl, rfl, SqT.of hp, rfl, rfl, _, rfl, iteFe (show decide (V.str "write" = V.str (Str.ofString "use")) = false by decide) (iteF ⟨s2, _, rfl⟩)⟩
      | use h0 c d e =>
        obtain ⟨p, q, rfl, hp, hq⟩ := hv
        refine ⟨_, rfl, _, _, .plain (.tup hp), kitOne_self _ _, _, rfl, iteF ⟨_, rfl, p, _, 1, .int h0, rfl, rfl, SqT.of hp, rfl, _, _, .plain (.int h0), T.ki_b, _, rfl, iteF ?_⟩⟩
        refine ⟨_, rfl, p, _, 0, .str "use", rfl, rfl, SqT.of hp, rfl, rfl, _, rfl, iteTe (show decide (V.str "use" = V.str (Str.ofString "use")) = true by decide) ?_⟩
        refine ⟨_, rfl, p, _, 2, .ref q, rfl, rfl, SqT.of hp, rfl, _, _, .plain (.tup hq), kitOne_self _ _, _, rfl, iteF ?_⟩
        refine ⟨_, rfl, p, _, 0, .str "use", rfl, rfl, SqT.of hp, rfl, rfl, _, rfl, iteTe (show decide (V.str "use" = V.str (Str.ofString "use")) = true by decide) ?_⟩
        refine ⟨_, rfl, p, _, 2, .ref q, rfl, rfl, SqT.of hp, rfl, q, rfl, ⟨_, SqT.of hq⟩, comp_tup (xs := iV [c, d, e]) (by show 3 ≤ 1000; decide) fun acc hacc => ⟨fun i σ3 ys H3 => ys = (List.replicate i false).map V.bl ∧ H3 = upd H2 acc (.lst ys) ∧ ∃ o, σ3 = [some (.ref a), some (.ref b), some (.ref p), o], ⟨rfl, rfl, _, rfl⟩, ?_, ?_, ?_⟩⟩
        · rintro i σ3 ys H3 hi ⟨rfl, rfl, _⟩
          exact ⟨SqT.of ((Same.new hacc) _ _ hq), by rw [List.length_map, List.length_replicate]; exact Nat.le_refl _⟩
        · rintro i x σ3 ys H3 hi hx ⟨rfl, rfl, o, rfl⟩
          obtain ⟨n, rfl, hn⟩ := iV_at hx
          dsimp only [gName, tYes]
          refine iteT ⟨_, rfl, _, _, .plain (.int n), T.ki_b, upd_same, Nx.mk hi ⟨?_, by rw [upd_upd], _, rfl⟩⟩
          rw [List.replicate_succ', List.map_append]; rfl
        · rintro σ3 ys H3 ⟨rfl, rfl, o, rfl⟩
          refine ⟨acc, _, rfl, SqL.of upd_same, _, rfl, iteF ⟨s2.trans (Same.new hacc), _, rfl⟩⟩
    · rintro σ2 H2 ⟨s2, o, rfl⟩
      exact k H2 s2
/-! the law -/
def LineOk (x : Str) : Prop := LnOk x ∧ Asc x ∧ 10 ∉ x.cps.toList ∧ x.length ≤ 100
theorem BadOk.line {x : Str} (h : BadOk x) : LineOk x := ⟨.inl h.1, h.2⟩
theorem text_line {r : Row} (ok : r.ok) : LineOk r.text := ⟨.inr ⟨r, ok, rfl⟩, text_asc ok, text_free ok, Nat.le_trans (text_len ok) (by decide)⟩
theorem bad_empty : BadOk "" := bad_words (w0 := "") (ws := []) (by intro z hz; rw [List.mem_singleton.mp hz]; exact wordOk (by decide) (by decide)) (by decide) trivial
theorem join_two : ∀ {L : List Str}, 2 ≤ L.length → Str.join nl L ≠ ""
  | [], h => absurd h (by simp)
  | [_], h => absurd h (by simp)
  | x :: y :: r, _ => fun e => by
    rw [join_cons] at e
    have := congrArg (fun s : Str => s.cps.toList) e
    simp only [app_list] at this
    have h2 : x.cps.toList ++ [10] ++ (Str.join nl (y :: r)).cps.toList = [] := this
    simp at h2
theorem jo100 {xs : List Str} (h : ∀ x ∈ xs, LineOk x) (few : xs.length ≤ 50) : JoinOk (Str.ofString "\n") xs = true := joinOk (fun x hx => (h x hx).2.2.2) (by
  have e : (Str.ofString "\n").length = 1 := rfl
  rw [e]; omega)
theorem line_len {L : List Str} (h : ∀ x ∈ L, LineOk x) (few : L.length ≤ 40) : (Str.join nl L).length ≤ 4040 := by
  have h1 := join_len nl L
  have h2 := sum_le (b := 100) fun x hx => (h x hx).2.2.2
  have h4 : nl.length = 1 := rfl
  rw [h4] at h1
  omega
theorem refuse {x : Str} {L : List Str} (e : x = Str.join nl L) (h : ∀ y ∈ L, LineOk y) (hb : ∃ y ∈ L, Bad y) (few : L.length ≤ 40) (two : 2 ≤ L.length) :
    Asc x ∧ x.length ≤ 9000 ∧ Txt.split x nl = L ∧ L.length ≤ 50 ∧ (∀ l ∈ L, Asc l ∧ l.length ≤ 100) ∧ x ≠ "" ∧ (∃ l ∈ L, Bad l) ∧ (∀ l ∈ L, LnOk l) := by
  subst e
  exact ⟨Asc.join (by intro c hc; revert c; decide) fun y hy => (h y hy).2.1, Nat.le_trans (line_len h few) (by decide), split_join (by rintro rfl; exact absurd two (by decide)) fun y hy => (h y hy).2.2.1, by omega, fun y hy => ⟨(h y hy).2.1, (h y hy).2.2.2⟩, join_two two, hb, fun y hy => (h y hy).1⟩
theorem law16 {a l l9 l10 : Addr} {m num : Int} {n : Nat} {o3 o4 o5 : Option V} {bad : Str} {tl bl : List Str} {H : Hp} {Q : VK} (h9 : H l9 = some (.lst (sV tl))) (h10 : H l10 = some (.lst (sV bl))) (ht : ∀ x ∈ tl, LineOk x) (hb : ∀ x ∈ bl, LineOk x) (t0 : tl ≠ []) (t1 : tl.length ≤ 31) (b1 : bl.length ≤ 1) (bd : BadOk bad) (k : ∀ H, Q (.bl true) H) :
  (tRet (tAndV (tCall sp__law_refused [] ER0 (tCons (tBM K "str" (rJoin K) (tC (V.str "\n")) (tCons (tOp rCat (tOp rCat (tOp rCat (tSl (rSlL K) (tVar 9) tNoPart (tPart (tVar 7))) (tLst (tCons (tVar 8) tNil))) (tSl (rSlL K) (tVar 9) (tPart (tVar 7)) tNoPart)) (tVar 10)) tNil)) tNil)) (tCall sp__law_refused [] ER0 (tCons (tBM K "str" (rJoin K) (tC (V.str "\n")) (tCons (tOp rCat (tVar 9) (tLst (tCons (tVar 8) tNil))) tNil)) tNil)))) { nx := fun _ H' => Q V.non H', rt := Q } [some (.ref a), some (.int m), some (.ref l), o3, o4, o5, some (.int num), some (.int (n : Int)), some (.str bad), some (.ref l9), some (.ref l10)] H := by
  have t2 : 1 ≤ tl.length := by cases tl with | nil => exact absurd rfl t0 | cons _ _ => simp
  have c1 : cutV (sV tl) none (some (n : Int)) = sV (tl.take n) := by rw [cut_take]; unfold sV; rw [List.map_take]
  have c2 : cutV (sV tl) (some (n : Int)) none = sV (tl.drop n) := by rw [cut_drop]; unfold sV; rw [List.map_drop]
  have wk : ∀ x ∈ tl.take n ++ [bad] ++ tl.drop n ++ bl, LineOk x := fun x hx => by
    rcases List.mem_append.mp hx with hx | hx
    · rcases List.mem_append.mp hx with hx | hx
      · rcases List.mem_append.mp hx with hx | hx
        · exact ht x (List.mem_of_mem_take hx)
        · rw [List.mem_singleton.mp hx]; exact bd.line
      · exact ht x (List.mem_of_mem_drop hx)
    · exact hb x hx
  have wl : (tl.take n ++ [bad] ++ tl.drop n ++ bl).length = tl.length + 1 + bl.length := by
    simp only [List.length_append, List.length_take, List.length_drop, List.length_singleton]
    omega
  refine ⟨rfl, _, rfl, _, rfl, (n : Int), rfl, l9, sV tl, rfl, SqL.of h9, fun p1 q1 => ?_⟩
  rw [c1]
  have s1 := Same.new (o := .lst (sV (tl.take n))) q1
  have e1 : upd H p1 (.lst (sV (tl.take n))) p1 = some (.lst (sV (tl.take n))) := upd_same
  generalize upd H p1 (.lst (sV (tl.take n))) = H1 at s1 e1 ⊢
  refine ⟨_, rfl, sz _ (by show 1 ≤ 1000; decide), fun p2 q2 => ?_⟩
  have s2 := Same.new (o := .lst (sV [bad])) q2
  have e2 := s2 _ _ e1
  have f2 : upd H1 p2 (.lst (sV [bad])) p2 = some (.lst (sV [bad])) := upd_same
  refine ⟨p1, p2, sV (tl.take n), sV [bad], rfl, rfl, e2, f2, sz _ (by rw [sV_len, sV_len, List.length_take]; show _ + 1 ≤ 1000; omega), fun p3 q3 => ?_⟩
  rw [← sV_app]
  have s3 := Same.new (o := .lst (sV (tl.take n ++ [bad]))) q3
  have e3 : upd (upd H1 p2 (.lst (sV [bad]))) p3 (.lst (sV (tl.take n ++ [bad]))) p3 = some (.lst (sV (tl.take n ++ [bad]))) := upd_same
  have s13 := s1.trans (s2.trans s3)
  refine ⟨_, rfl, _, rfl, (n : Int), rfl, l9, sV tl, rfl, SqL.of (s13 _ _ h9), fun p4 q4 => ?_⟩
  rw [c2]
  have s4 := Same.new (o := .lst (sV (tl.drop n))) q4
  refine ⟨p3, p4, _, _, rfl, rfl, s4 _ _ e3, upd_same, sz _ (by rw [sV_len, sV_len, List.length_append, List.length_take, List.length_drop]; show _ + 1 + _ ≤ 1000; omega), fun p5 q5 => ?_⟩
  rw [← sV_app]
  have s5 := Same.new (o := .lst (sV (tl.take n ++ [bad] ++ tl.drop n))) q5
  refine ⟨_, rfl, p5, l10, _, sV bl, rfl, rfl, upd_same, s5 _ _ (s4 _ _ (s13 _ _ h10)), sz _ (by rw [sV_len, sV_len, List.length_append, List.length_append, List.length_take, List.length_drop]; show _ + 1 + _ + _ ≤ 1000; omega), fun p6 q6 => ?_⟩
  rw [← sV_app]
  have s6 := Same.new (o := .lst (sV (tl.take n ++ [bad] ++ tl.drop n ++ bl))) q6
  have S6 := s13.trans (s4.trans (s5.trans s6))
  refine ⟨_, p6, tl.take n ++ [bad] ++ tl.drop n ++ bl, rfl, rfl, SqL.of upd_same, jo100 wk (by omega), ?_⟩
  rw [txt_join]
  obtain ⟨r1, r2, r3, r4, r5, r6, r7, r8⟩ := refuse rfl wk ⟨bad, by simp, bd.1⟩ (by omega) (by omega)
  refine ⟨_, _, rfl, r1, r2, r3, r4, r5, r6, r7, r8, fun H7 s7 => ⟨true, rfl, iteT ?_⟩⟩
  clear r1 r2 r3 r4 r5 r6 r7 r8
  have g9 := s7 _ _ (S6 _ _ h9)
  refine ⟨rfl, _, rfl, _, rfl, sz _ (by show 1 ≤ 1000; decide), fun p8 q8 => ⟨l9, p8, sV tl, sV [bad], rfl, rfl, (Same.new q8) _ _ g9, upd_same, sz _ (by rw [sV_len, sV_len]; show _ + 1 ≤ 1000; omega), fun p9 q9 => ?_⟩⟩
  rw [← sV_app]
  have wk2 : ∀ x ∈ tl ++ [bad], LineOk x := fun x hx => by
    rcases List.mem_append.mp hx with hx | hx
    · exact ht x hx
    · rw [List.mem_singleton.mp hx]; exact bd.line
  refine ⟨_, p9, tl ++ [bad], rfl, rfl, SqL.of upd_same, jo100 wk2 (by simp; omega), ?_⟩
  rw [txt_join]
  obtain ⟨r1, r2, r3, r4, r5, r6, r7, r8⟩ := refuse rfl wk2 ⟨bad, by simp, bd.1⟩ (by simp; omega) (by simp; omega)
  exact ⟨_, _, rfl, r1, r2, r3, r4, r5, r6, r7, r8, fun H7 _ => k H7⟩
theorem law14 {a l l9 : Addr} {m num : Int} {n : Nat} {o4 o5 : Option V} {txt bad : Str} {tl L : List Str} {H : Hp} {Q : VK} (hT : txt = Str.join nl L) (L0 : L ≠ []) (L1 : L.length ≤ 31) (hL : ∀ x ∈ L, LineOk x) (h9 : H l9 = some (.lst (sV tl))) (ht : ∀ x ∈ tl, LineOk x) (t0 : tl ≠ []) (t1 : tl.length ≤ 31) (bd : BadOk bad) (k : ∀ H, Q (.bl true) H) :
  (tSeq (tIfS (tOr (tNot (tB (tCall sp__law_refused [] ER0 (tCons (tOp rAddS (tVar 3) (tC (V.str "\n"))) tNil)))) (tNot (tB (tCall sp__law_refused [] ER0 (tCons (tOp rAddS (tC (V.str "\n")) (tVar 3)) tNil))))) (tRet (tC (V.bl false))) tNext) (tSeq (tAsg (tOp (rIxL K) (tLst (tCons (tLst (tCons (tC (V.str "write 0")) tNil)) (tCons (tLst tNil) tNil))) (tOp (rI (fun _ j => 0 < j) fun i j => V.int (i % j)) (tOp (rI CDiv fun i j => V.int (i / j)) (tVar 6) (tC (V.int 8))) (tC (V.int 2)))) (gName 10)) (tRet (tAndV (tCall sp__law_refused [] ER0 (tCons (tBM K "str" (rJoin K) (tC (V.str "\n")) (tCons (tOp rCat (tOp rCat (tOp rCat (tSl (rSlL K) (tVar 9) tNoPart (tPart (tVar 7))) (tLst (tCons (tVar 8) tNil))) (tSl (rSlL K) (tVar 9) (tPart (tVar 7)) tNoPart)) (tVar 10)) tNil)) tNil)) (tCall sp__law_refused [] ER0 (tCons (tBM K "str" (rJoin K) (tC (V.str "\n")) (tCons (tOp rCat (tVar 9) (tLst (tCons (tVar 8) tNil))) tNil)) tNil)))))) { nx := fun _ H' => Q V.non H', rt := Q } [some (.ref a), some (.int m), some (.ref l), some (.str txt), o4, o5, some (.int num), some (.int (n : Int)), some (.str bad), some (.ref l9), none] H := by
  have L2 : 1 ≤ L.length := by cases L with | nil => exact absurd rfl L0 | cons _ _ => simp
  have ln : txt.length ≤ 4040 := by rw [hT]; exact line_len hL (by omega)
  have en : (Str.ofString "\n").length = 1 := rfl
  have sL : 5000 ≤ sizeLine := by decide
  have eA : txt ++ Str.ofString "\n" = Str.join nl (L ++ [("" : Str)]) := by
    rw [join_snoc _ _ _ L0, hT]
    apply str_ext
    rw [app_list, app_list, app_list]
    show _ = _ ++ _ ++ []
    rw [List.append_nil]; rfl
  have eB : Str.ofString "\n" ++ txt = Str.join nl (("" : Str) :: L) := by
    cases L with
    | nil => exact absurd rfl L0
    | cons c d =>
      rw [join_cons, hT]
      apply str_ext
      rw [app_list, app_list, app_list]
      rfl
  have wA : ∀ x ∈ L ++ [("" : Str)], LineOk x := fun x hx => by
    rcases List.mem_append.mp hx with hx | hx
    · exact hL x hx
    · rw [List.mem_singleton.mp hx]; exact bad_empty.line
  have wB : ∀ x ∈ ("" : Str) :: L, LineOk x := fun x hx => by
    rcases List.mem_cons.mp hx with rfl | hx
    · exact bad_empty.line
    · exact hL x hx
  obtain ⟨r1, r2, r3, r4, r5, r6, r7, r8⟩ := refuse eA wA ⟨"", by simp, bad_empty.1⟩ (by simp; omega) (by simp; omega)
  refine ⟨_, rfl, txt, Str.ofString "\n", rfl, rfl, by rw [en]; omega, _, _, rfl, r1, r2, r3, r4, r5, r6, r7, r8, fun H1 s1 => ⟨_, rfl, iteF ?_⟩⟩
  clear r1 r2 r3 r4 r5 r6 r7 r8
  obtain ⟨r1, r2, r3, r4, r5, r6, r7, r8⟩ := refuse eB wB ⟨"", by simp, bad_empty.1⟩ (by simp; omega) (by simp; omega)
  refine ⟨_, rfl, Str.ofString "\n", txt, rfl, rfl, by rw [en]; omega, _, _, rfl, r1, r2, r3, r4, r5, r6, r7, r8, fun H2 s2 => ⟨_, rfl, iteF ?_⟩⟩
  clear r1 r2 r3 r4 r5 r6 r7 r8
  have g9 := s2 _ _ (s1 _ _ h9)
  refine ⟨sz _ (by show 1 ≤ 1000; decide), fun p1 q1 => ⟨sz _ (by show 0 ≤ 1000; decide), fun p2 q2 => ⟨sz _ (by show 2 ≤ 1000; decide), fun p3 q3 => ⟨_, rfl, num, 8, rfl, rfl, ⟨by decide, by decide⟩, num / 8, 2, rfl, rfl, by show (0 : Int) < 2; decide, ?_⟩⟩⟩⟩
  have S := (Same.new (o := .lst (sV ["write 0"])) q1).trans ((Same.new (o := .lst (sV [])) q2).trans (Same.new (o := .lst [.ref p1, .ref p2]) q3))
  have f1 := (Same.new (o := .lst [.ref p1, .ref p2]) q3) _ _ ((Same.new (o := .lst (sV [])) q2) _ _ (upd_same (o := .lst (sV ["write 0"]))))
  have f2 := (Same.new (o := .lst [.ref p1, .ref p2]) q3) _ _ (upd_same (o := .lst (sV [])))
  have d : num / 8 % 2 = 0 ∨ num / 8 % 2 = 1 := by omega
  rcases d with e | e
  · refine ⟨p3, _, num / 8 % 2, .ref p1, rfl, rfl, SqL.of upd_same, by rw [e]; rfl, ?_⟩
    refine law16 (bl := ["write 0"]) (S _ _ g9) f1 ht (fun x hx => ?_) t0 t1 (by decide) bd k
    rw [List.mem_singleton.mp hx]
    exact text_line (r := .write 0) (by intro n hn; rw [List.mem_singleton.mp hn]; decide)
  · refine ⟨p3, _, num / 8 % 2, .ref p2, rfl, rfl, SqL.of upd_same, by rw [e]; rfl, ?_⟩
    exact law16 (bl := []) (S _ _ g9) f2 ht (fun x hx => by cases hx) t0 t1 (by decide) bd k
theorem law11 {a l : Addr} {z num : Int} {n : Nat} {o4 o5 : Option V} {txt : Str} {vs : List V} {rs : List Row} {H : Hp} {Q : VK} (en : z = (n : Int)) (n1 : n ≤ rs.length) (hl : H l = some (.lst vs)) (hv : RowsAt K H vs rs) (ok : ∀ r ∈ rs, r.ok) (few : rs.length ≤ 30) (hT : txt = Str.join nl (rs.map Row.text)) (k : ∀ H, Q (.bl true) H) :
  (tSeq (tAsg (tCall (sp__law_bad K) [] ER0 (tCons (tOp (rIxL K) (tOp rCat (tVar 2) (tLst (tCons (tTup (tCons (tC (V.str "own")) (tCons (tC (V.int 0)) tNil))) tNil))) (tVar 7)) (tCons (tVar 6) tNil))) (gName 8)) (tSeq (tAsg (tComp (iList K (tVar 2)) 1 (gName 11) tYes (tCall (sp__law_text K) [] ER0 (tCons (tVar 11) tNil))) (gName 9)) (tSeq (tIfS (tTest (tOp rEq (tVar 1) (tC (V.int 0)))) (tAsg (tLst (tCons (tC (V.str "own 3")) tNil)) (gName 9)) tNext) (tSeq (tIfS (tOr (tNot (tB (tCall sp__law_refused [] ER0 (tCons (tOp rAddS (tVar 3) (tC (V.str "\n"))) tNil)))) (tNot (tB (tCall sp__law_refused [] ER0 (tCons (tOp rAddS (tC (V.str "\n")) (tVar 3)) tNil))))) (tRet (tC (V.bl false))) tNext) (tSeq (tAsg (tOp (rIxL K) (tLst (tCons (tLst (tCons (tC (V.str "write 0")) tNil)) (tCons (tLst tNil) tNil))) (tOp (rI (fun _ j => 0 < j) fun i j => V.int (i % j)) (tOp (rI CDiv fun i j => V.int (i / j)) (tVar 6) (tC (V.int 8))) (tC (V.int 2)))) (gName 10)) (tRet (tAndV (tCall sp__law_refused [] ER0 (tCons (tBM K "str" (rJoin K) (tC (V.str "\n")) (tCons (tOp rCat (tOp rCat (tOp rCat (tSl (rSlL K) (tVar 9) tNoPart (tPart (tVar 7))) (tLst (tCons (tVar 8) tNil))) (tSl (rSlL K) (tVar 9) (tPart (tVar 7)) tNoPart)) (tVar 10)) tNil)) tNil)) (tCall sp__law_refused [] ER0 (tCons (tBM K "str" (rJoin K) (tC (V.str "\n")) (tCons (tOp rCat (tVar 9) (tLst (tCons (tVar 8) tNil))) tNil)) tNil))))))))) { nx := fun _ H' => Q V.non H', rt := Q } [some (.ref a), some (.int (rs.length : Int)), some (.ref l), some (.str txt), o4, o5, some (.int num), some (.int z), none, none, none] H := by
  subst en
  have lv := hv.length
  refine ⟨_, rfl, sz _ (by show 2 ≤ 1000; decide), fun p1 q1 => ⟨sz _ (by show 1 ≤ 1000; decide), fun p2 q2 => ?_⟩⟩
  have s1 := Same.new (o := .tup [.str "own", .int 0]) q1
  have s2 := Same.new (o := .lst [.ref p1]) q2
  have f1 := s2 _ _ (upd_same (o := .tup [.str "own", .int 0]))
  have S2 := s1.trans s2
  refine ⟨l, p2, vs, [.ref p1], rfl, rfl, S2 _ _ hl, upd_same, sz _ (by show _ + 1 ≤ 1000; omega), fun p3 q3 => ?_⟩
  have s3 := Same.new (o := .lst (vs ++ [.ref p1])) q3
  have hv3 : RowsAt K _ (vs ++ [.ref p1]) (rs ++ [.own 0]) := RowsAt.snoc (hv.same (S2.trans s3)) (r := .own 0) ⟨p1, rfl, s3 _ _ f1⟩
  have ok3 : ∀ r ∈ rs ++ [Row.own 0], r.ok := fun r hr => by
    rcases List.mem_append.mp hr with hr | hr
    · exact ok r hr
    · rw [List.mem_singleton.mp hr]; intro n hn; rw [List.mem_singleton.mp hn]; decide
  obtain ⟨v, hvn⟩ : ∃ v, (vs ++ [V.ref p1])[n]? = some v := ⟨_, List.getElem?_eq_getElem (by rw [List.length_append]; show n < _ + 1; omega)⟩
  obtain ⟨r, hr, hrv⟩ := hv3.get hvn
  refine ⟨_, rfl, p3, _, (n : Int), v, rfl, rfl, SqL.of upd_same, atI_nat hvn, _, rfl, v, r, num, rfl, hrv, ok3 r (List.mem_of_getElem? hr), fun bad H4 s4 bd => ?_⟩
  have S4 := (S2.trans s3).trans s4
  have hl4 := S4 _ _ hl
  have hv4 := hv.same S4
  refine ⟨_, rfl, l, rfl, ⟨_, SqL.of hl4⟩, comp_list (xs := vs) (by omega) fun acc hacc => ⟨fun i σ2 ys H5 => ys = sV ((rs.take i).map Row.text) ∧ H5 acc = some (.lst ys) ∧ Same H4 H5 ∧ ∃ o, σ2 = [some (.ref a), some (.int (rs.length : Int)), some (.ref l), some (.str txt), o4, o5, some (.int num), some (.int (n : Int)), some (.str bad), none, none, o], ⟨rfl, upd_same, Same.new hacc, _, rfl⟩, ?_, ?_, ?_⟩⟩
  · rintro i σ2 ys H5 hi ⟨rfl, _, s5, _⟩
    exact ⟨SqL.of (s5 _ _ hl4), by rw [sV_len, List.length_map, List.length_take]; omega⟩
  · rintro i x σ2 ys H5 hi hxi ⟨rfl, e5, s5, o, rfl⟩
    obtain ⟨r, hr, hv⟩ := hv4.get hxi
    dsimp only [gName, tYes]
    refine iteT ⟨_, rfl, x, r, rfl, hv.same s5, ok r (List.mem_of_getElem? hr), fun H6 s6 => ⟨s6 _ _ e5, Nx.mk hi ⟨?_, upd_same, fun b u e => ?_, _, rfl⟩⟩⟩
    · rw [List.take_add_one, hr]; simp
    · rw [upd_ne (ne_of_none e hacc)]; exact s6 _ _ (s5 _ _ e)
  · rintro σ2 ys H5 ⟨rfl, e5, s5, o, rfl⟩
    rw [lv, List.take_length] at e5
    refine ⟨_, rfl, rfl, _, rfl, ?_⟩
    by_cases r0 : rs = []
    · subst r0
      refine iteTe (by decide) ⟨sz _ (by show 1 ≤ 1000; decide), fun p9 q9 => ?_⟩
      refine law14 (L := [("" : Str)]) (tl := ["own 3"]) (hT.trans rfl) (by simp) (by decide) (fun x hx => by rw [List.mem_singleton.mp hx]; exact bad_empty.line) upd_same (fun x hx => ?_) (by simp) (by decide) bd k
      rw [List.mem_singleton.mp hx]
      exact text_line (r := .own 3) (by intro n hn; rw [List.mem_singleton.mp hn]; decide)
    · have r1 : 1 ≤ rs.length := by cases rs with | nil => exact absurd rfl r0 | cons _ _ => simp
      have lo : ∀ x ∈ rs.map Row.text, LineOk x := fun x hx => by
        obtain ⟨r, hr, rfl⟩ := List.mem_map.mp hx
        exact text_line (ok r hr)
      refine iteFe (decide_eq_false fun z => ?_) ?_
      · have := V.int.inj z; omega
      · exact law14 (L := rs.map Row.text) (tl := rs.map Row.text) hT (by simpa using r0) (by rw [List.length_map]; omega) lo e5 lo (by simpa using r0) (by rw [List.length_map]; omega) bd k
theorem law9 {a l : Addr} {o4 o5 : Option V} {txt : Str} {ns : List Int} {vs : List V} {rs : List Row} {H : Hp} {Q : VK} (ha : SqL K H a (iV ns)) (hl : H l = some (.lst vs)) (hv : RowsAt K H vs rs) (ok : ∀ r ∈ rs, r.ok) (few : rs.length ≤ 30) (hT : txt = Str.join nl (rs.map Row.text)) (k : ∀ H, Q (.bl true) H) :
  (tSeq (tAsg (tCall sp_mixed [] ER0 (tCons (tCall (sp_cell_at K) [] ER0 (tCons (tVar 0) (tCons (tC (V.int 2)) tNil))) (tCons (tC (V.int 0)) tNil))) (gName 6)) (tSeq (tAsg (tOp (rI (fun _ j => 0 < j) fun i j => V.int (i % j)) (tCall sp_mixed [] ER0 (tCons (tCall (sp_cell_at K) [] ER0 (tCons (tVar 0) (tCons (tC (V.int 2)) tNil))) (tCons (tC (V.int 1)) tNil))) (tOp (rI0 fun i j => V.int (i + j)) (tVar 1) (tC (V.int 1)))) (gName 7)) (tSeq (tAsg (tCall (sp__law_bad K) [] ER0 (tCons (tOp (rIxL K) (tOp rCat (tVar 2) (tLst (tCons (tTup (tCons (tC (V.str "own")) (tCons (tC (V.int 0)) tNil))) tNil))) (tVar 7)) (tCons (tVar 6) tNil))) (gName 8)) (tSeq (tAsg (tComp (iList K (tVar 2)) 1 (gName 11) tYes (tCall (sp__law_text K) [] ER0 (tCons (tVar 11) tNil))) (gName 9)) (tSeq (tIfS (tTest (tOp rEq (tVar 1) (tC (V.int 0)))) (tAsg (tLst (tCons (tC (V.str "own 3")) tNil)) (gName 9)) tNext) (tSeq (tIfS (tOr (tNot (tB (tCall sp__law_refused [] ER0 (tCons (tOp rAddS (tVar 3) (tC (V.str "\n"))) tNil)))) (tNot (tB (tCall sp__law_refused [] ER0 (tCons (tOp rAddS (tC (V.str "\n")) (tVar 3)) tNil))))) (tRet (tC (V.bl false))) tNext) (tSeq (tAsg (tOp (rIxL K) (tLst (tCons (tLst (tCons (tC (V.str "write 0")) tNil)) (tCons (tLst tNil) tNil))) (tOp (rI (fun _ j => 0 < j) fun i j => V.int (i % j)) (tOp (rI CDiv fun i j => V.int (i / j)) (tVar 6) (tC (V.int 8))) (tC (V.int 2)))) (gName 10)) (tRet (tAndV (tCall sp__law_refused [] ER0 (tCons (tBM K "str" (rJoin K) (tC (V.str "\n")) (tCons (tOp rCat (tOp rCat (tOp rCat (tSl (rSlL K) (tVar 9) tNoPart (tPart (tVar 7))) (tLst (tCons (tVar 8) tNil))) (tSl (rSlL K) (tVar 9) (tPart (tVar 7)) tNoPart)) (tVar 10)) tNil)) tNil)) (tCall sp__law_refused [] ER0 (tCons (tBM K "str" (rJoin K) (tC (V.str "\n")) (tCons (tOp rCat (tVar 9) (tLst (tCons (tVar 8) tNil))) tNil)) tNil))))))))))) { nx := fun _ H' => Q V.non H', rt := Q } [some (.ref a), some (.int (rs.length : Int)), some (.ref l), some (.str txt), o4, o5, none, none, none, none, none] H := by
  have lv := hv.length
  refine ⟨_, rfl, a, ns, 2, rfl, ha, by decide, fun c => ⟨c, 0, rfl, by decide, by decide, fun num => ?_⟩⟩
  refine ⟨_, rfl, a, ns, 2, rfl, ha, by decide, fun c2 => ⟨c2, 1, rfl, by decide, by decide, fun z => ⟨_, rfl, (rs.length : Int), 1, rfl, rfl, z, (rs.length : Int) + 1, rfl, rfl, by show (0 : Int) < _; omega, ?_⟩⟩⟩
  obtain ⟨n, en, n1⟩ : ∃ n : Nat, z % ((rs.length : Int) + 1) = (n : Int) ∧ n ≤ rs.length := by
    have h1 := Int.emod_nonneg z (b := (rs.length : Int) + 1) (by omega)
    have h2 := Int.emod_lt_of_pos z (b := (rs.length : Int) + 1) (by omega)
    exact ⟨(z % ((rs.length : Int) + 1)).toNat, by omega, by omega⟩
  refine law11 (z := z % ((rs.length : Int) + 1)) en n1 hl hv ok few hT k
theorem law8 {a l : Addr} {o4 o5 : Option V} {txt : Str} {ns : List Int} {vs : List V} {rs : List Row} {H : Hp} {Q : VK} (ha : SqL K H a (iV ns)) (hl : H l = some (.lst vs)) (hv : RowsAt K H vs rs) (ok : ∀ r ∈ rs, r.ok) (few : rs.length ≤ 30) (hT : txt = Str.join nl (rs.map Row.text))
    {LL : List Str} (c1 : Asc txt) (c2 : txt.length ≤ 9000) (c3 : Txt.split txt nl = LL) (c4 : LL.length ≤ 50) (c5 : ∀ l ∈ LL, Asc l ∧ l.length ≤ 100) (k : ∀ H, Q (.bl true) H) :
  (tSeq (tIfS (tOr (tNot (tB (tCall (sp__law_same K) [] ER0 (tCons (tCall (sp_read_rows K t) [] ER0 (tCons (tVar 3) tNil)) (tCons (tVar 2) tNil))))) (tOr (tTest (tOp rNe (tCall (sp_rows_shown K) [] ER0 (tCons (tLst tNil) tNil)) (tC (V.str "")))) (tTest (tOp (rEqD K true) (tCall (sp_read_rows K t) [] ER0 (tCons (tC (V.str "")) tNil)) (tLst tNil))))) (tRet (tC (V.bl false))) tNext) (tSeq (tAsg (tCall sp_mixed [] ER0 (tCons (tCall (sp_cell_at K) [] ER0 (tCons (tVar 0) (tCons (tC (V.int 2)) tNil))) (tCons (tC (V.int 0)) tNil))) (gName 6)) (tSeq (tAsg (tOp (rI (fun _ j => 0 < j) fun i j => V.int (i % j)) (tCall sp_mixed [] ER0 (tCons (tCall (sp_cell_at K) [] ER0 (tCons (tVar 0) (tCons (tC (V.int 2)) tNil))) (tCons (tC (V.int 1)) tNil))) (tOp (rI0 fun i j => V.int (i + j)) (tVar 1) (tC (V.int 1)))) (gName 7)) (tSeq (tAsg (tCall (sp__law_bad K) [] ER0 (tCons (tOp (rIxL K) (tOp rCat (tVar 2) (tLst (tCons (tTup (tCons (tC (V.str "own")) (tCons (tC (V.int 0)) tNil))) tNil))) (tVar 7)) (tCons (tVar 6) tNil))) (gName 8)) (tSeq (tAsg (tComp (iList K (tVar 2)) 1 (gName 11) tYes (tCall (sp__law_text K) [] ER0 (tCons (tVar 11) tNil))) (gName 9)) (tSeq (tIfS (tTest (tOp rEq (tVar 1) (tC (V.int 0)))) (tAsg (tLst (tCons (tC (V.str "own 3")) tNil)) (gName 9)) tNext) (tSeq (tIfS (tOr (tNot (tB (tCall sp__law_refused [] ER0 (tCons (tOp rAddS (tVar 3) (tC (V.str "\n"))) tNil)))) (tNot (tB (tCall sp__law_refused [] ER0 (tCons (tOp rAddS (tC (V.str "\n")) (tVar 3)) tNil))))) (tRet (tC (V.bl false))) tNext) (tSeq (tAsg (tOp (rIxL K) (tLst (tCons (tLst (tCons (tC (V.str "write 0")) tNil)) (tCons (tLst tNil) tNil))) (tOp (rI (fun _ j => 0 < j) fun i j => V.int (i % j)) (tOp (rI CDiv fun i j => V.int (i / j)) (tVar 6) (tC (V.int 8))) (tC (V.int 2)))) (gName 10)) (tRet (tAndV (tCall sp__law_refused [] ER0 (tCons (tBM K "str" (rJoin K) (tC (V.str "\n")) (tCons (tOp rCat (tOp rCat (tOp rCat (tSl (rSlL K) (tVar 9) tNoPart (tPart (tVar 7))) (tLst (tCons (tVar 8) tNil))) (tSl (rSlL K) (tVar 9) (tPart (tVar 7)) tNoPart)) (tVar 10)) tNil)) tNil)) (tCall sp__law_refused [] ER0 (tCons (tBM K "str" (rJoin K) (tC (V.str "\n")) (tCons (tOp rCat (tVar 9) (tLst (tCons (tVar 8) tNil))) tNil)) tNil)))))))))))) { nx := fun _ H' => Q V.non H', rt := Q } [some (.ref a), some (.int (rs.length : Int)), some (.ref l), some (.str txt), o4, o5, none, none, none, none, none] H := by
  have ok0 : okD 2 (PyData.list []) := .list (n := 1) fun d hd => by cases hd
  refine ⟨_, rfl, _, LL, rfl, c1, c2, c3, c4, c5, .inr ⟨rs, ok, hT, fun p5 v5 H1 s1 n5 e5 r5 => ⟨_, rfl, p5, l, v5, vs, rs, rfl, e5, s1 _ _ hl, r5, hv.same s1, by omega, fun H2 s2 => ⟨_, rfl, iteF ?_⟩⟩⟩⟩
  refine ⟨sz _ (by show 0 ≤ 1000; decide), fun p6 q6 => ⟨p6, [], [], rfl, SqL.of upd_same, .nil, (fun r hr => by cases hr), by decide, fun H3 s3 => ⟨rfl, _, rfl, iteFe (show (!decide (V.str (Str.join nl []) = V.str (Str.ofString ""))) = false by decide) ?_⟩⟩⟩
  refine ⟨_, [("" : Str)], rfl, by unfold Asc; decide, by decide, by decide, by decide, (fun x hx => by rw [List.mem_singleton.mp hx]; exact ⟨by unfold Asc; decide, by decide⟩), .inr ⟨[], (fun r hr => by cases hr), rfl, fun p7 w7 H4 s4 _ e7 r7 => ?_⟩⟩
  cases r7
  refine ⟨sz _ (by show 0 ≤ 1000; decide), fun p8 q8 => ⟨_, _, .lst (SqL.of ((Same.new q8) _ _ e7)) .nil, .lst (SqL.of upd_same) .nil, ok0.shaped (by decide), ok0.shaped (by decide), _, rfl, iteFe (by rw [if_pos rfl, ok0.self]; rfl) ?_⟩⟩
  have S := (s1.trans s2).trans ((Same.new (o := .lst []) q6).trans (s3.trans (s4.trans (Same.new (o := .lst []) q8))))
  exact law9 (S.seq ha) (S _ _ hl) (hv.same S) ok few hT k
theorem law5 {a l : Addr} {o4 : Option V} {txt : Str} {ns : List Int} {vs : List V} {rs : List Row} {H : Hp} {Q : VK} (ha : SqL K H a (iV ns)) (hl : H l = some (.lst vs)) (hv : RowsAt K H vs rs) (ok : ∀ r ∈ rs, r.ok) (few : rs.length ≤ 30) (hT : txt = Str.join nl (rs.map Row.text)) (k : ∀ H, Q (.bl true) H) :
  (tSeq (tAsg (tCall (sp_read_rows K t) [] ER0 (tCons (tVar 3) tNil)) (gName 5)) (tSeq (tIfS (tNot (tB (tCall (sp__law_same K) [] ER0 (tCons (tVar 5) (tCons (tVar 2) tNil))))) (tRet (tC (V.bl false))) tNext) (tSeq (tDrop (tBM K "list" rAppend (tVar 5) (tCons (tTup (tCons (tC (V.str "own")) (tCons (tC (V.int 1)) tNil))) tNil))) (tSeq (tIfS (tOr (tNot (tB (tCall (sp__law_same K) [] ER0 (tCons (tCall (sp_read_rows K t) [] ER0 (tCons (tVar 3) tNil)) (tCons (tVar 2) tNil))))) (tOr (tTest (tOp rNe (tCall (sp_rows_shown K) [] ER0 (tCons (tLst tNil) tNil)) (tC (V.str "")))) (tTest (tOp (rEqD K true) (tCall (sp_read_rows K t) [] ER0 (tCons (tC (V.str "")) tNil)) (tLst tNil))))) (tRet (tC (V.bl false))) tNext) (tSeq (tAsg (tCall sp_mixed [] ER0 (tCons (tCall (sp_cell_at K) [] ER0 (tCons (tVar 0) (tCons (tC (V.int 2)) tNil))) (tCons (tC (V.int 0)) tNil))) (gName 6)) (tSeq (tAsg (tOp (rI (fun _ j => 0 < j) fun i j => V.int (i % j)) (tCall sp_mixed [] ER0 (tCons (tCall (sp_cell_at K) [] ER0 (tCons (tVar 0) (tCons (tC (V.int 2)) tNil))) (tCons (tC (V.int 1)) tNil))) (tOp (rI0 fun i j => V.int (i + j)) (tVar 1) (tC (V.int 1)))) (gName 7)) (tSeq (tAsg (tCall (sp__law_bad K) [] ER0 (tCons (tOp (rIxL K) (tOp rCat (tVar 2) (tLst (tCons (tTup (tCons (tC (V.str "own")) (tCons (tC (V.int 0)) tNil))) tNil))) (tVar 7)) (tCons (tVar 6) tNil))) (gName 8)) (tSeq (tAsg (tComp (iList K (tVar 2)) 1 (gName 11) tYes (tCall (sp__law_text K) [] ER0 (tCons (tVar 11) tNil))) (gName 9)) (tSeq (tIfS (tTest (tOp rEq (tVar 1) (tC (V.int 0)))) (tAsg (tLst (tCons (tC (V.str "own 3")) tNil)) (gName 9)) tNext) (tSeq (tIfS (tOr (tNot (tB (tCall sp__law_refused [] ER0 (tCons (tOp rAddS (tVar 3) (tC (V.str "\n"))) tNil)))) (tNot (tB (tCall sp__law_refused [] ER0 (tCons (tOp rAddS (tC (V.str "\n")) (tVar 3)) tNil))))) (tRet (tC (V.bl false))) tNext) (tSeq (tAsg (tOp (rIxL K) (tLst (tCons (tLst (tCons (tC (V.str "write 0")) tNil)) (tCons (tLst tNil) tNil))) (tOp (rI (fun _ j => 0 < j) fun i j => V.int (i % j)) (tOp (rI CDiv fun i j => V.int (i / j)) (tVar 6) (tC (V.int 8))) (tC (V.int 2)))) (gName 10)) (tRet (tAndV (tCall sp__law_refused [] ER0 (tCons (tBM K "str" (rJoin K) (tC (V.str "\n")) (tCons (tOp rCat (tOp rCat (tOp rCat (tSl (rSlL K) (tVar 9) tNoPart (tPart (tVar 7))) (tLst (tCons (tVar 8) tNil))) (tSl (rSlL K) (tVar 9) (tPart (tVar 7)) tNoPart)) (tVar 10)) tNil)) tNil)) (tCall sp__law_refused [] ER0 (tCons (tBM K "str" (rJoin K) (tC (V.str "\n")) (tCons (tOp rCat (tVar 9) (tLst (tCons (tVar 8) tNil))) tNil)) tNil))))))))))))))) { nx := fun _ H' => Q V.non H', rt := Q } [some (.ref a), some (.int (rs.length : Int)), some (.ref l), some (.str txt), o4, none, none, none, none, none, none] H := by
  have lo : ∀ x ∈ rs.map Row.text, LineOk x := fun x hx => by
    obtain ⟨r, hr, rfl⟩ := List.mem_map.mp hx
    exact text_line (ok r hr)
  obtain ⟨LL, c1, c2, c3, c4, c5⟩ : ∃ LL : List Str, Asc txt ∧ txt.length ≤ 9000 ∧ Txt.split txt nl = LL ∧ LL.length ≤ 50 ∧ ∀ l ∈ LL, Asc l ∧ l.length ≤ 100 := by
    by_cases r0 : rs = []
    · subst r0
      subst hT
      exact ⟨[("" : Str)], by unfold Asc; decide, by decide, by decide, by decide, fun x hx => by rw [List.mem_singleton.mp hx]; exact ⟨by unfold Asc; decide, by decide⟩⟩
    · exact ⟨rs.map Row.text, by rw [hT]; exact Asc.join (by intro c hc; revert c; decide) fun y hy => (lo y hy).2.1, by rw [hT]; exact Nat.le_trans (line_len lo (by rw [List.length_map]; omega)) (by decide), by rw [hT]; exact split_join (by simpa using r0) fun y hy => (lo y hy).2.2.1, by rw [List.length_map]; omega, fun y hy => ⟨(lo y hy).2.1, (lo y hy).2.2.2⟩⟩
  refine ⟨_, rfl, _, LL, rfl, c1, c2, c3, c4, c5, .inr ⟨rs, ok, hT, fun p5 v5 H1 s1 n5 e5 r5 => ?_⟩⟩
  refine ⟨_, rfl, _, rfl, p5, l, v5, vs, rs, rfl, e5, s1 _ _ hl, r5, hv.same s1, by omega, fun H2 s2 => ⟨_, rfl, iteF ?_⟩⟩
  have len5 := r5.length
  refine ⟨_, rfl, .inl ⟨rfl, _, SqL.of (s2 _ _ e5)⟩, sz _ (by show 2 ≤ 1000; decide), fun p6 q6 => ⟨p5, v5, _, rfl, rfl, (Same.new q6) _ _ (s2 _ _ e5), Nat.lt_of_le_of_lt (show _ ≤ 50 by omega) (by decide), ?_⟩⟩
  have S3 : Same H (upd (upd H2 p6 (.tup [.str "own", .int 1])) p5 (.lst (v5 ++ [.ref p6]))) := fun b u e => by
    rw [upd_ne (ne_of_none e n5)]; exact (Same.new q6) _ _ (s2 _ _ (s1 _ _ e))
  refine law8 (S3.seq ha) (S3 _ _ hl) (hv.same S3) ok few hT c1 c2 c3 c4 c5 k
theorem law2 {a l : Addr} {ns : List Int} {vs : List V} {rs : List Row} {H : Hp} {Q : VK} (ha : SqL K H a (iV ns)) (hl : H l = some (.lst vs)) (hv : RowsAt K H vs rs) (ok : ∀ r ∈ rs, r.ok) (few : rs.length ≤ 30) (k : ∀ H, Q (.bl true) H) :
  (tSeq (tAsg (tBM K "str" (rJoin K) (tC (V.str "\n")) (tCons (tComp (iList K (tVar 2)) 1 (gName 11) tYes (tCall (sp__law_text K) [] ER0 (tCons (tVar 11) tNil))) tNil)) (gName 3)) (tSeq (tAsg (tCB (rListOf K) (tCons (tVar 2) tNil)) (gName 4)) (tSeq (tIfS (tOr (tTest (tOp rNe (tCall (sp_rows_shown K) [] ER0 (tCons (tVar 4) tNil)) (tVar 3))) (tTest (tOp (rEqD K true) (tVar 4) (tVar 2)))) (tRet (tC (V.bl false))) tNext) (tSeq (tAsg (tCall (sp_read_rows K t) [] ER0 (tCons (tVar 3) tNil)) (gName 5)) (tSeq (tIfS (tNot (tB (tCall (sp__law_same K) [] ER0 (tCons (tVar 5) (tCons (tVar 2) tNil))))) (tRet (tC (V.bl false))) tNext) (tSeq (tDrop (tBM K "list" rAppend (tVar 5) (tCons (tTup (tCons (tC (V.str "own")) (tCons (tC (V.int 1)) tNil))) tNil))) (tSeq (tIfS (tOr (tNot (tB (tCall (sp__law_same K) [] ER0 (tCons (tCall (sp_read_rows K t) [] ER0 (tCons (tVar 3) tNil)) (tCons (tVar 2) tNil))))) (tOr (tTest (tOp rNe (tCall (sp_rows_shown K) [] ER0 (tCons (tLst tNil) tNil)) (tC (V.str "")))) (tTest (tOp (rEqD K true) (tCall (sp_read_rows K t) [] ER0 (tCons (tC (V.str "")) tNil)) (tLst tNil))))) (tRet (tC (V.bl false))) tNext) (tSeq (tAsg (tCall sp_mixed [] ER0 (tCons (tCall (sp_cell_at K) [] ER0 (tCons (tVar 0) (tCons (tC (V.int 2)) tNil))) (tCons (tC (V.int 0)) tNil))) (gName 6)) (tSeq (tAsg (tOp (rI (fun _ j => 0 < j) fun i j => V.int (i % j)) (tCall sp_mixed [] ER0 (tCons (tCall (sp_cell_at K) [] ER0 (tCons (tVar 0) (tCons (tC (V.int 2)) tNil))) (tCons (tC (V.int 1)) tNil))) (tOp (rI0 fun i j => V.int (i + j)) (tVar 1) (tC (V.int 1)))) (gName 7)) (tSeq (tAsg (tCall (sp__law_bad K) [] ER0 (tCons (tOp (rIxL K) (tOp rCat (tVar 2) (tLst (tCons (tTup (tCons (tC (V.str "own")) (tCons (tC (V.int 0)) tNil))) tNil))) (tVar 7)) (tCons (tVar 6) tNil))) (gName 8)) (tSeq (tAsg (tComp (iList K (tVar 2)) 1 (gName 11) tYes (tCall (sp__law_text K) [] ER0 (tCons (tVar 11) tNil))) (gName 9)) (tSeq (tIfS (tTest (tOp rEq (tVar 1) (tC (V.int 0)))) (tAsg (tLst (tCons (tC (V.str "own 3")) tNil)) (gName 9)) tNext) (tSeq (tIfS (tOr (tNot (tB (tCall sp__law_refused [] ER0 (tCons (tOp rAddS (tVar 3) (tC (V.str "\n"))) tNil)))) (tNot (tB (tCall sp__law_refused [] ER0 (tCons (tOp rAddS (tC (V.str "\n")) (tVar 3)) tNil))))) (tRet (tC (V.bl false))) tNext) (tSeq (tAsg (tOp (rIxL K) (tLst (tCons (tLst (tCons (tC (V.str "write 0")) tNil)) (tCons (tLst tNil) tNil))) (tOp (rI (fun _ j => 0 < j) fun i j => V.int (i % j)) (tOp (rI CDiv fun i j => V.int (i / j)) (tVar 6) (tC (V.int 8))) (tC (V.int 2)))) (gName 10)) (tRet (tAndV (tCall sp__law_refused [] ER0 (tCons (tBM K "str" (rJoin K) (tC (V.str "\n")) (tCons (tOp rCat (tOp rCat (tOp rCat (tSl (rSlL K) (tVar 9) tNoPart (tPart (tVar 7))) (tLst (tCons (tVar 8) tNil))) (tSl (rSlL K) (tVar 9) (tPart (tVar 7)) tNoPart)) (tVar 10)) tNil)) tNil)) (tCall sp__law_refused [] ER0 (tCons (tBM K "str" (rJoin K) (tC (V.str "\n")) (tCons (tOp rCat (tVar 9) (tLst (tCons (tVar 8) tNil))) tNil)) tNil)))))))))))))))))) { nx := fun _ H' => Q V.non H', rt := Q } [some (.ref a), some (.int (rs.length : Int)), some (.ref l), none, none, none, none, none, none, none, none] H := by
  have lv := hv.length
  have lo : ∀ x ∈ rs.map Row.text, LineOk x := fun x hx => by
    obtain ⟨r, hr, rfl⟩ := List.mem_map.mp hx
    exact text_line (ok r hr)
  refine ⟨rfl, _, rfl, l, rfl, ⟨_, SqL.of hl⟩, comp_list (xs := vs) (by omega) fun acc hacc => ⟨fun i σ2 ys H5 => ys = sV ((rs.take i).map Row.text) ∧ H5 acc = some (.lst ys) ∧ Same H H5 ∧ ∃ o, σ2 = [some (.ref a), some (.int (rs.length : Int)), some (.ref l), none, none, none, none, none, none, none, none, o], ⟨rfl, upd_same, Same.new hacc, _, rfl⟩, ?_, ?_, ?_⟩⟩
  · rintro i σ2 ys H5 hi ⟨rfl, _, s5, _⟩
    exact ⟨SqL.of (s5 _ _ hl), by rw [sV_len, List.length_map, List.length_take]; omega⟩
  · rintro i x σ2 ys H5 hi hxi ⟨rfl, e5, s5, o, rfl⟩
    obtain ⟨r, hr, hv⟩ := hv.get hxi
    dsimp only [gName, tYes]
    refine iteT ⟨_, rfl, x, r, rfl, hv.same s5, ok r (List.mem_of_getElem? hr), fun H6 s6 => ⟨s6 _ _ e5, Nx.mk hi ⟨?_, upd_same, fun b u e => ?_, _, rfl⟩⟩⟩
    · rw [List.take_add_one, hr]; simp
    · rw [upd_ne (ne_of_none e hacc)]; exact s6 _ _ (s5 _ _ e)
  · rintro σ2 ys H5 ⟨rfl, e5, s5, o, rfl⟩
    rw [lv, List.take_length] at e5
    refine ⟨_, acc, rs.map Row.text, rfl, rfl, SqL.of e5, jo100 lo (by rw [List.length_map]; omega), ?_⟩
    rw [txt_join]
    have hl5 := s5 _ _ hl
    refine ⟨_, rfl, l, vs, rfl, .inl (SqL.of hl5), fun l4 n4 => ?_⟩
    have s6 := s5.trans (Same.new (o := .lst vs) n4)
    have okl : okD 10 (PyData.list (rs.map Row.data)) := rows_ok rs
    refine ⟨_, rfl, l4, vs, rs, rfl, SqL.of upd_same, hv.same s6, ok, by omega, fun H7 s7 => ⟨_, rfl, rfl, _, rfl, iteFe (show (!decide (V.str (Str.join nl (rs.map Row.text)) = V.str (Str.join (Str.ofString "\n") (rs.map Row.text)))) = false from congrArg not (decide_eq_true rfl)) ?_⟩⟩
    have S7 := s6.trans s7
    refine ⟨_, rfl, _, rfl, _, _, .lst (SqL.of (s7 _ _ upd_same)) (hv.same S7).rp, .lst (SqL.of (S7 _ _ hl)) (hv.same S7).rp, okl.shaped (by decide), okl.shaped (by decide), _, rfl, iteFe (by rw [if_pos rfl, okl.self]; rfl) ?_⟩
    exact law5 (S7.seq ha) (S7 _ _ hl) (hv.same S7) ok few rfl k
theorem law1 {a : Addr} {z : Int} {m : Nat} {ns : List Int} {H : Hp} {Q : VK} (em : z = (m : Int)) (m1 : m ≤ 30) (ha : SqL K H a (iV ns)) (k : ∀ H, Q (.bl true) H) :
  (tSeq (tAsg (tComp (iRng1 (tCons (tVar 1) tNil)) 1 (gName 11) tYes (tCall (sp__law_row K) [] ER0 (tCons (tCall (sp_cell_at K) [] ER0 (tCons (tVar 0) (tCons (tC (V.int 1)) tNil))) (tCons (tVar 11) tNil)))) (gName 2)) (tSeq (tAsg (tBM K "str" (rJoin K) (tC (V.str "\n")) (tCons (tComp (iList K (tVar 2)) 1 (gName 11) tYes (tCall (sp__law_text K) [] ER0 (tCons (tVar 11) tNil))) tNil)) (gName 3)) (tSeq (tAsg (tCB (rListOf K) (tCons (tVar 2) tNil)) (gName 4)) (tSeq (tIfS (tOr (tTest (tOp rNe (tCall (sp_rows_shown K) [] ER0 (tCons (tVar 4) tNil)) (tVar 3))) (tTest (tOp (rEqD K true) (tVar 4) (tVar 2)))) (tRet (tC (V.bl false))) tNext) (tSeq (tAsg (tCall (sp_read_rows K t) [] ER0 (tCons (tVar 3) tNil)) (gName 5)) (tSeq (tIfS (tNot (tB (tCall (sp__law_same K) [] ER0 (tCons (tVar 5) (tCons (tVar 2) tNil))))) (tRet (tC (V.bl false))) tNext) (tSeq (tDrop (tBM K "list" rAppend (tVar 5) (tCons (tTup (tCons (tC (V.str "own")) (tCons (tC (V.int 1)) tNil))) tNil))) (tSeq (tIfS (tOr (tNot (tB (tCall (sp__law_same K) [] ER0 (tCons (tCall (sp_read_rows K t) [] ER0 (tCons (tVar 3) tNil)) (tCons (tVar 2) tNil))))) (tOr (tTest (tOp rNe (tCall (sp_rows_shown K) [] ER0 (tCons (tLst tNil) tNil)) (tC (V.str "")))) (tTest (tOp (rEqD K true) (tCall (sp_read_rows K t) [] ER0 (tCons (tC (V.str "")) tNil)) (tLst tNil))))) (tRet (tC (V.bl false))) tNext) (tSeq (tAsg (tCall sp_mixed [] ER0 (tCons (tCall (sp_cell_at K) [] ER0 (tCons (tVar 0) (tCons (tC (V.int 2)) tNil))) (tCons (tC (V.int 0)) tNil))) (gName 6)) (tSeq (tAsg (tOp (rI (fun _ j => 0 < j) fun i j => V.int (i % j)) (tCall sp_mixed [] ER0 (tCons (tCall (sp_cell_at K) [] ER0 (tCons (tVar 0) (tCons (tC (V.int 2)) tNil))) (tCons (tC (V.int 1)) tNil))) (tOp (rI0 fun i j => V.int (i + j)) (tVar 1) (tC (V.int 1)))) (gName 7)) (tSeq (tAsg (tCall (sp__law_bad K) [] ER0 (tCons (tOp (rIxL K) (tOp rCat (tVar 2) (tLst (tCons (tTup (tCons (tC (V.str "own")) (tCons (tC (V.int 0)) tNil))) tNil))) (tVar 7)) (tCons (tVar 6) tNil))) (gName 8)) (tSeq (tAsg (tComp (iList K (tVar 2)) 1 (gName 11) tYes (tCall (sp__law_text K) [] ER0 (tCons (tVar 11) tNil))) (gName 9)) (tSeq (tIfS (tTest (tOp rEq (tVar 1) (tC (V.int 0)))) (tAsg (tLst (tCons (tC (V.str "own 3")) tNil)) (gName 9)) tNext) (tSeq (tIfS (tOr (tNot (tB (tCall sp__law_refused [] ER0 (tCons (tOp rAddS (tVar 3) (tC (V.str "\n"))) tNil)))) (tNot (tB (tCall sp__law_refused [] ER0 (tCons (tOp rAddS (tC (V.str "\n")) (tVar 3)) tNil))))) (tRet (tC (V.bl false))) tNext) (tSeq (tAsg (tOp (rIxL K) (tLst (tCons (tLst (tCons (tC (V.str "write 0")) tNil)) (tCons (tLst tNil) tNil))) (tOp (rI (fun _ j => 0 < j) fun i j => V.int (i % j)) (tOp (rI CDiv fun i j => V.int (i / j)) (tVar 6) (tC (V.int 8))) (tC (V.int 2)))) (gName 10)) (tRet (tAndV (tCall sp__law_refused [] ER0 (tCons (tBM K "str" (rJoin K) (tC (V.str "\n")) (tCons (tOp rCat (tOp rCat (tOp rCat (tSl (rSlL K) (tVar 9) tNoPart (tPart (tVar 7))) (tLst (tCons (tVar 8) tNil))) (tSl (rSlL K) (tVar 9) (tPart (tVar 7)) tNoPart)) (tVar 10)) tNil)) tNil)) (tCall sp__law_refused [] ER0 (tCons (tBM K "str" (rJoin K) (tC (V.str "\n")) (tCons (tOp rCat (tVar 9) (tLst (tCons (tVar 8) tNil))) tNil)) tNil))))))))))))))))))) { nx := fun _ H' => Q V.non H', rt := Q } [some (.ref a), some (.int z), none, none, none, none, none, none, none, none, none] H := by
  subst em
  refine ⟨_, rfl, (m : Int), rfl, by omega, by omega, comp_range (n := m) (by omega) fun acc hacc => ⟨fun i σ2 ys H2 => (∃ rs : List Row, RowsAt K H2 ys rs ∧ rs.length = i ∧ ∀ r ∈ rs, r.ok) ∧ H2 acc = some (.lst ys) ∧ Same H H2 ∧ ∃ o, σ2 = [some (.ref a), some (.int (m : Int)), none, none, none, none, none, none, none, none, none, o], ⟨⟨[], .nil, rfl, fun r hr => by cases hr⟩, upd_same, Same.new hacc, _, rfl⟩, ?_, ?_, ?_⟩⟩
  · rintro i σ2 ys H2 hi ⟨⟨rs, hr, hn, _⟩, _⟩
    rw [hr.length]; omega
  · rintro i σ2 ys H2 hi ⟨⟨rs, hr, hn, ok⟩, e2, s2, o, rfl⟩
    dsimp only [gName, tYes]
    refine iteT ⟨_, rfl, a, ns, 1, rfl, s2.seq ha, by decide, fun c => ⟨_, rfl, c, 0 + (i : Int), rfl, by omega, by omega, fun v r H3 okr s3 hv => ⟨s3 _ _ e2, Nx.mk hi ⟨⟨rs ++ [r], ?_, by simp [hn], fun y hy => ?_⟩, upd_same, fun b u e => ?_, _, rfl⟩⟩⟩⟩
    · exact RowsAt.set (s3 _ _ e2) (RowsAt.snoc (hr.same s3) hv)
    · rcases List.mem_append.mp hy with hy | hy
      · exact ok y hy
      · rw [List.mem_singleton.mp hy]; exact okr
    · rw [upd_ne (ne_of_none e hacc)]; exact s3 _ _ (s2 _ _ e)
  · rintro σ2 ys H2 ⟨⟨rs, hr, hn, ok⟩, e2, s2, o, rfl⟩
    subst hn
    exact law2 (s2.seq ha) e2 hr ok m1 k
theorem run_law {a : Addr} {ns : List Int} {H : Hp} {Q : VK} (ha : SqL K H a (iV ns)) (k : ∀ H, Q (.bl true) H) :
  (tSeq (tAsg (tOp (rI (fun _ j => 0 < j) fun i j => V.int (i % j)) (tCall sp_mixed [] ER0 (tCons (tCall (sp_cell_at K) [] ER0 (tCons (tVar 0) (tCons (tC (V.int 0)) tNil))) (tCons (tC (V.int 0)) tNil))) (tC (V.int 31))) (gName 1)) (tSeq (tAsg (tComp (iRng1 (tCons (tVar 1) tNil)) 1 (gName 11) tYes (tCall (sp__law_row K) [] ER0 (tCons (tCall (sp_cell_at K) [] ER0 (tCons (tVar 0) (tCons (tC (V.int 1)) tNil))) (tCons (tVar 11) tNil)))) (gName 2)) (tSeq (tAsg (tBM K "str" (rJoin K) (tC (V.str "\n")) (tCons (tComp (iList K (tVar 2)) 1 (gName 11) tYes (tCall (sp__law_text K) [] ER0 (tCons (tVar 11) tNil))) tNil)) (gName 3)) (tSeq (tAsg (tCB (rListOf K) (tCons (tVar 2) tNil)) (gName 4)) (tSeq (tIfS (tOr (tTest (tOp rNe (tCall (sp_rows_shown K) [] ER0 (tCons (tVar 4) tNil)) (tVar 3))) (tTest (tOp (rEqD K true) (tVar 4) (tVar 2)))) (tRet (tC (V.bl false))) tNext) (tSeq (tAsg (tCall (sp_read_rows K t) [] ER0 (tCons (tVar 3) tNil)) (gName 5)) (tSeq (tIfS (tNot (tB (tCall (sp__law_same K) [] ER0 (tCons (tVar 5) (tCons (tVar 2) tNil))))) (tRet (tC (V.bl false))) tNext) (tSeq (tDrop (tBM K "list" rAppend (tVar 5) (tCons (tTup (tCons (tC (V.str "own")) (tCons (tC (V.int 1)) tNil))) tNil))) (tSeq (tIfS (tOr (tNot (tB (tCall (sp__law_same K) [] ER0 (tCons (tCall (sp_read_rows K t) [] ER0 (tCons (tVar 3) tNil)) (tCons (tVar 2) tNil))))) (tOr (tTest (tOp rNe (tCall (sp_rows_shown K) [] ER0 (tCons (tLst tNil) tNil)) (tC (V.str "")))) (tTest (tOp (rEqD K true) (tCall (sp_read_rows K t) [] ER0 (tCons (tC (V.str "")) tNil)) (tLst tNil))))) (tRet (tC (V.bl false))) tNext) (tSeq (tAsg (tCall sp_mixed [] ER0 (tCons (tCall (sp_cell_at K) [] ER0 (tCons (tVar 0) (tCons (tC (V.int 2)) tNil))) (tCons (tC (V.int 0)) tNil))) (gName 6)) (tSeq (tAsg (tOp (rI (fun _ j => 0 < j) fun i j => V.int (i % j)) (tCall sp_mixed [] ER0 (tCons (tCall (sp_cell_at K) [] ER0 (tCons (tVar 0) (tCons (tC (V.int 2)) tNil))) (tCons (tC (V.int 1)) tNil))) (tOp (rI0 fun i j => V.int (i + j)) (tVar 1) (tC (V.int 1)))) (gName 7)) (tSeq (tAsg (tCall (sp__law_bad K) [] ER0 (tCons (tOp (rIxL K) (tOp rCat (tVar 2) (tLst (tCons (tTup (tCons (tC (V.str "own")) (tCons (tC (V.int 0)) tNil))) tNil))) (tVar 7)) (tCons (tVar 6) tNil))) (gName 8)) (tSeq (tAsg (tComp (iList K (tVar 2)) 1 (gName 11) tYes (tCall (sp__law_text K) [] ER0 (tCons (tVar 11) tNil))) (gName 9)) (tSeq (tIfS (tTest (tOp rEq (tVar 1) (tC (V.int 0)))) (tAsg (tLst (tCons (tC (V.str "own 3")) tNil)) (gName 9)) tNext) (tSeq (tIfS (tOr (tNot (tB (tCall sp__law_refused [] ER0 (tCons (tOp rAddS (tVar 3) (tC (V.str "\n"))) tNil)))) (tNot (tB (tCall sp__law_refused [] ER0 (tCons (tOp rAddS (tC (V.str "\n")) (tVar 3)) tNil))))) (tRet (tC (V.bl false))) tNext) (tSeq (tAsg (tOp (rIxL K) (tLst (tCons (tLst (tCons (tC (V.str "write 0")) tNil)) (tCons (tLst tNil) tNil))) (tOp (rI (fun _ j => 0 < j) fun i j => V.int (i % j)) (tOp (rI CDiv fun i j => V.int (i / j)) (tVar 6) (tC (V.int 8))) (tC (V.int 2)))) (gName 10)) (tRet (tAndV (tCall sp__law_refused [] ER0 (tCons (tBM K "str" (rJoin K) (tC (V.str "\n")) (tCons (tOp rCat (tOp rCat (tOp rCat (tSl (rSlL K) (tVar 9) tNoPart (tPart (tVar 7))) (tLst (tCons (tVar 8) tNil))) (tSl (rSlL K) (tVar 9) (tPart (tVar 7)) tNoPart)) (tVar 10)) tNil)) tNil)) (tCall sp__law_refused [] ER0 (tCons (tBM K "str" (rJoin K) (tC (V.str "\n")) (tCons (tOp rCat (tVar 9) (tLst (tCons (tVar 8) tNil))) tNil)) tNil)))))))))))))))))))) { nx := fun _ H' => Q V.non H', rt := Q } [some (.ref a), none, none, none, none, none, none, none, none, none, none] H := by
  refine ⟨_, rfl, a, ns, 0, rfl, ha, by decide, fun c => ⟨c, 0, rfl, by decide, by decide, fun z => ⟨z, 31, rfl, rfl, by show (0 : Int) < 31; decide, ?_⟩⟩⟩
  obtain ⟨m, em, m1⟩ : ∃ m : Nat, z % 31 = (m : Int) ∧ m ≤ 30 := ⟨(z % 31).toNat, by omega, by omega⟩
  refine law1 em m1 ha k
def spLaw (K : PySem.W.Frag) : Sp := fun vs H Q _ => ∃ a ns, vs = [.ref a] ∧ SqL K H a (iV ns) ∧ ns.length ≤ 63 ∧ ∀ H, Q (.bl true) H
set_option maxHeartbeats 8000000 in
theorem ok_law (T : Txt K mg t) (Tb : t.pr = w.params) : FnOk P w K mg base (CXr P w) 6 t.f_law t.fd_law ["_law_script"] (spLaw K) := by
  refine T.F_law.okN sc_law (fun vs H Q E h => ?_) (fun cdv A outer s H vs Q E hr h => ?_)
  · obtain ⟨a, ns, rfl, _⟩ := h; rfl
  · obtain ⟨a, ns, rfl, ha, few, k⟩ := h
    refine ⟨_, (pss_cons (ps_set (i := 1) sc_law.nd rfl (Or.inl rfl) (pe_op op_mod (pe_call (ok__law_mixed T) (hr.mono (by decide)) rfl T.mg__law_mixed T.kp__law_mixed T.b__law_mixed .nil passr0 (pa_c (pe_call (ok__law_cell_at T) (hr.mono (by decide)) rfl T.mg__law_cell_at T.kp__law_cell_at T.b__law_cell_at .nil passr0 (pa_c (pv 0) (pa_c pe_int pa_nil))) (pa_c pe_int pa_nil))) pe_int))
      (pss_cons (ps_setcomp ["_law_script", "_law_many", "_law_rows", "_law_text_here", "_law_handed", "_law_found", "_law_number_here", "_law_at", "_law_bad_here", "_law_texts", "_law_behind", "_law_k"] 1 (i := 2) rfl sc_law.nd rfl (Or.inl rfl) (pi_range1 rfl T.no_range (pa_c (pv 1) pa_nil)) (fun _ _ _ _ _ => ⟨(pg_name (i := 11) (show List.Nodup (["_law_script", "_law_many", "_law_rows", "_law_text_here", "_law_handed", "_law_found", "_law_number_here", "_law_at", "_law_bad_here", "_law_texts", "_law_behind", "_law_k"] : List Str) from by decide +kernel) rfl (Or.inl rfl)), pts_nil, (pe_call (ok__law_row T) (hr.mono (by decide)) rfl T.mg__law_row T.kp__law_row T.b__law_row .nil passr0 (pa_c (pe_call (ok__law_cell_at T) (hr.mono (by decide)) rfl T.mg__law_cell_at T.kp__law_cell_at T.b__law_cell_at .nil passr0 (pa_c (pv 0) (pa_c pe_int pa_nil))) (pa_c (pv 11) pa_nil)))⟩))
      (pss_cons (ps_set (i := 3) sc_law.nd rfl (Or.inl rfl) (pe_bmK (K := K) PySem.F.plainAttrs_str PySem.F.slot_str_join PySem.F.type_str_join (mt_join (K := K)) pe_str (pa_c (pe_comp ["_law_script", "_law_many", "_law_rows", "_law_text_here", "_law_handed", "_law_found", "_law_number_here", "_law_at", "_law_bad_here", "_law_texts", "_law_behind", "_law_row_here"] 1 rfl (pi_listK (K := K) (pv 2)) (fun _ _ _ _ _ => ⟨(pg_name (i := 11) (show List.Nodup (["_law_script", "_law_many", "_law_rows", "_law_text_here", "_law_handed", "_law_found", "_law_number_here", "_law_at", "_law_bad_here", "_law_texts", "_law_behind", "_law_row_here"] : List Str) from by decide +kernel) rfl (Or.inl rfl)), pts_nil, (pe_call (ok__law_text T) (hr.mono (by decide)) rfl T.mg__law_text T.kp__law_text T.b__law_text .nil passr0 (pa_c (pv 11) pa_nil))⟩)) pa_nil)))
      (pss_cons (ps_set (i := 4) sc_law.nd rfl (Or.inl rfl) (pe_callTy (call_listK (K := K)) rfl T.no_list b_list (pa_c (pv 2) pa_nil)))
      (pss_cons (ps_if (PW.pt (pw_or (pt_cmpR op_ne (pe_call (ok_rows_shown T) (hr.mono (by decide)) rfl T.mg_rows_shown T.kp_rows_shown T.b_rows_shown .nil passr0 (pa_c (pv 4) pa_nil)) (pv 3) (nomark _)) (pw_or1 (pt_cmpR (op_neDK (K := K) hr.units) (pv 4) (pv 2) (nomark _)))))
        (pss_one (ps_ret pe_bl))
        pss_nil)
      (pss_cons (ps_set (i := 5) sc_law.nd rfl (Or.inl rfl) (pe_call (ok_read_rows T Tb) (hr.mono (by decide)) rfl T.mg_read_rows T.kp_read_rows T.b_read_rows .nil passr0 (pa_c (pv 3) pa_nil)))
      (pss_cons (ps_if (pt_not (pt_val (pe_call (ok__law_same T) (hr.mono (by decide)) rfl T.mg__law_same T.kp__law_same T.b__law_same .nil passr0 (pa_c (pv 5) (pa_c (pv 2) pa_nil)))))
        (pss_one (ps_ret pe_bl))
        pss_nil)
      (pss_cons (ps_expr (pe_bmK (K := K) PySem.F.plainAttrs_list PySem.F.slot_list_append PySem.F.type_list_append mt_append (pv 5) (pa_c (pe_tup (pa_c pe_str (pa_c pe_int pa_nil))) pa_nil)))
      (pss_cons (ps_if (PW.pt (pw_or (pt_not (pt_val (pe_call (ok__law_same T) (hr.mono (by decide)) rfl T.mg__law_same T.kp__law_same T.b__law_same .nil passr0 (pa_c (pe_call (ok_read_rows T Tb) (hr.mono (by decide)) rfl T.mg_read_rows T.kp_read_rows T.b_read_rows .nil passr0 (pa_c (pv 3) pa_nil)) (pa_c (pv 2) pa_nil))))) (pw_or (pt_cmpR op_ne (pe_call (ok_rows_shown T) (hr.mono (by decide)) rfl T.mg_rows_shown T.kp_rows_shown T.b_rows_shown .nil passr0 (pa_c (pe_lst pa_nil) pa_nil)) pe_str (nomark _)) (pw_or1 (pt_cmpR (op_neDK (K := K) hr.units) (pe_call (ok_read_rows T Tb) (hr.mono (by decide)) rfl T.mg_read_rows T.kp_read_rows T.b_read_rows .nil passr0 (pa_c pe_str pa_nil)) (pe_lst pa_nil) (nomark _))))))
        (pss_one (ps_ret pe_bl))
        pss_nil)
      (pss_cons (ps_set (i := 6) sc_law.nd rfl (Or.inl rfl) (pe_call (ok__law_mixed T) (hr.mono (by decide)) rfl T.mg__law_mixed T.kp__law_mixed T.b__law_mixed .nil passr0 (pa_c (pe_call (ok__law_cell_at T) (hr.mono (by decide)) rfl T.mg__law_cell_at T.kp__law_cell_at T.b__law_cell_at .nil passr0 (pa_c (pv 0) (pa_c pe_int pa_nil))) (pa_c pe_int pa_nil))))
      (pss_cons (ps_set (i := 7) sc_law.nd rfl (Or.inl rfl) (pe_op op_mod (pe_call (ok__law_mixed T) (hr.mono (by decide)) rfl T.mg__law_mixed T.kp__law_mixed T.b__law_mixed .nil passr0 (pa_c (pe_call (ok__law_cell_at T) (hr.mono (by decide)) rfl T.mg__law_cell_at T.kp__law_cell_at T.b__law_cell_at .nil passr0 (pa_c (pv 0) (pa_c pe_int pa_nil))) (pa_c pe_int pa_nil))) (pe_op op_add (pv 1) pe_int)))
      (pss_cons (ps_set (i := 8) sc_law.nd rfl (Or.inl rfl) (pe_call (ok__law_bad T) (hr.mono (by decide)) rfl T.mg__law_bad T.kp__law_bad T.b__law_bad .nil passr0 (pa_c (pe_ix (ix_listK (K := K)) (pe_op op_cat (pv 2) (pe_lst (pa_c (pe_tup (pa_c pe_str (pa_c pe_int pa_nil))) pa_nil))) (pv 7) (fun _ _ => rfl)) (pa_c (pv 6) pa_nil))))
      (pss_cons (ps_setcomp ["_law_script", "_law_many", "_law_rows", "_law_text_here", "_law_handed", "_law_found", "_law_number_here", "_law_at", "_law_bad_here", "_law_texts", "_law_behind", "_law_row_here"] 1 (i := 9) rfl sc_law.nd rfl (Or.inl rfl) (pi_listK (K := K) (pv 2)) (fun _ _ _ _ _ => ⟨(pg_name (i := 11) (show List.Nodup (["_law_script", "_law_many", "_law_rows", "_law_text_here", "_law_handed", "_law_found", "_law_number_here", "_law_at", "_law_bad_here", "_law_texts", "_law_behind", "_law_row_here"] : List Str) from by decide +kernel) rfl (Or.inl rfl)), pts_nil, (pe_call (ok__law_text T) (hr.mono (by decide)) rfl T.mg__law_text T.kp__law_text T.b__law_text .nil passr0 (pa_c (pv 11) pa_nil))⟩))
      (pss_cons (ps_if (pt_cmpR op_eq (pv 1) pe_int (nomark _))
        (pss_one (ps_set (i := 9) sc_law.nd rfl (Or.inl rfl) (pe_lst (pa_c pe_str pa_nil))))
        pss_nil)
      (pss_cons (ps_if (PW.pt (pw_or (pt_not (pt_val (pe_call (ok__law_refused T Tb) (hr.mono (by decide)) rfl T.mg__law_refused T.kp__law_refused T.b__law_refused .nil passr0 (pa_c (pe_op op_addS (pv 3) pe_str) pa_nil)))) (pw_or1 (pt_not (pt_val (pe_call (ok__law_refused T Tb) (hr.mono (by decide)) rfl T.mg__law_refused T.kp__law_refused T.b__law_refused .nil passr0 (pa_c (pe_op op_addS pe_str (pv 3)) pa_nil)))))))
        (pss_one (ps_ret pe_bl))
        pss_nil)
      (pss_cons (ps_set (i := 10) sc_law.nd rfl (Or.inl rfl) (pe_ix (ix_listK (K := K)) (pe_lst (pa_c (pe_lst (pa_c pe_str pa_nil)) (pa_c (pe_lst pa_nil) pa_nil))) (pe_op op_mod (pe_op op_fdiv (pv 6) pe_int) pe_int) (fun _ _ => rfl)))
      (pss_one (ps_ret (pe_and (pe_call (ok__law_refused T Tb) (hr.mono (by decide)) rfl T.mg__law_refused T.kp__law_refused T.b__law_refused .nil passr0 (pa_c (pe_bmK (K := K) PySem.F.plainAttrs_str PySem.F.slot_str_join PySem.F.type_str_join (mt_join (K := K)) pe_str (pa_c (pe_op op_cat (pe_op op_cat (pe_op op_cat (pe_slice (sl_listK (K := K)) (pv 9) po_none (po_some (pv 7))) (pe_lst (pa_c (pv 8) pa_nil))) (pe_slice (sl_listK (K := K)) (pv 9) (po_some (pv 7)) po_none)) (pv 10)) pa_nil)) pa_nil)) (pe_one (pe_call (ok__law_refused T Tb) (hr.mono (by decide)) rfl T.mg__law_refused T.kp__law_refused T.b__law_refused .nil passr0 (pa_c (pe_bmK (K := K) PySem.F.plainAttrs_str PySem.F.slot_str_join PySem.F.type_str_join (mt_join (K := K)) pe_str (pa_c (pe_op op_cat (pv 9) (pe_lst (pa_c (pv 8) pa_nil))) pa_nil)) pa_nil)))))))))))))))))))))), ?_⟩
    exact run_law ha k

end
set_option maxHeartbeats 0 in
theorem txt_mk {K : PySem.W.Frag} {h : Heap} {mg : Str → Option Value} {c_NoHand c_NoLetter c_NoPoint c_NoRow c_NoText c_WeaveError f_is_number f_are_numbers f_row_shown f_rows_shown f_row_in f_read_rows f__law_cell_at f__law_mixed f__law_number f__law_row f__law_text f__law_bad f__law_refused f__law_same f_law dA_NUMBERS_BEHIND fa : Addr} {pr : Params} (kin : K.In h) (G : h.Ns mainGlobals mg) (hfa : mg "law" = some (.ref fa))
    {od_is_number an_is_number : Option Addr} {sl_is_number : Array (Option Value)} {oc_is_number kV_is_number dc_is_number pm_is_number cd_is_number ct_is_number : Value}
    {od_are_numbers an_are_numbers : Option Addr} {sl_are_numbers : Array (Option Value)} {oc_are_numbers kV_are_numbers dc_are_numbers pm_are_numbers cd_are_numbers ct_are_numbers : Value}
    {od_row_shown an_row_shown : Option Addr} {sl_row_shown : Array (Option Value)} {oc_row_shown kV_row_shown dc_row_shown pm_row_shown cd_row_shown ct_row_shown : Value}
    {od_rows_shown an_rows_shown : Option Addr} {sl_rows_shown : Array (Option Value)} {oc_rows_shown kV_rows_shown dc_rows_shown pm_rows_shown cd_rows_shown ct_rows_shown : Value}
    {od_row_in an_row_in : Option Addr} {sl_row_in : Array (Option Value)} {oc_row_in kV_row_in dc_row_in pm_row_in cd_row_in ct_row_in : Value}
    {od_read_rows an_read_rows : Option Addr} {sl_read_rows : Array (Option Value)} {oc_read_rows kV_read_rows dc_read_rows pm_read_rows cd_read_rows ct_read_rows : Value}
    {od__law_cell_at an__law_cell_at : Option Addr} {sl__law_cell_at : Array (Option Value)} {oc__law_cell_at kV__law_cell_at dc__law_cell_at pm__law_cell_at cd__law_cell_at ct__law_cell_at : Value}
    {od__law_mixed an__law_mixed : Option Addr} {sl__law_mixed : Array (Option Value)} {oc__law_mixed kV__law_mixed dc__law_mixed pm__law_mixed cd__law_mixed ct__law_mixed : Value}
    {od__law_number an__law_number : Option Addr} {sl__law_number : Array (Option Value)} {oc__law_number kV__law_number dc__law_number pm__law_number cd__law_number ct__law_number : Value}
    {od__law_row an__law_row : Option Addr} {sl__law_row : Array (Option Value)} {oc__law_row kV__law_row dc__law_row pm__law_row cd__law_row ct__law_row : Value}
    {od__law_text an__law_text : Option Addr} {sl__law_text : Array (Option Value)} {oc__law_text kV__law_text dc__law_text pm__law_text cd__law_text ct__law_text : Value}
    {od__law_bad an__law_bad : Option Addr} {sl__law_bad : Array (Option Value)} {oc__law_bad kV__law_bad dc__law_bad pm__law_bad cd__law_bad ct__law_bad : Value}
    {od__law_refused an__law_refused : Option Addr} {sl__law_refused : Array (Option Value)} {oc__law_refused kV__law_refused dc__law_refused pm__law_refused cd__law_refused ct__law_refused : Value}
    {od__law_same an__law_same : Option Addr} {sl__law_same : Array (Option Value)} {oc__law_same kV__law_same dc__law_same pm__law_same cd__law_same ct__law_same : Value}
    {od_law an_law : Option Addr} {sl_law : Array (Option Value)} {oc_law kV_law dc_law pm_law cd_law ct_law : Value}
    {tk_ms_FIGURES : Tok}
    {tk0_NUMBERS_BEHIND tv0_NUMBERS_BEHIND tk1_NUMBERS_BEHIND tv1_NUMBERS_BEHIND tk2_NUMBERS_BEHIND tv2_NUMBERS_BEHIND : Tok} {ep_NUMBERS_BEHIND : Nat}
    {tk_mv_MOST_FIGURES : Tok}
    (aC_NoHand : PySem.W.nsIn K mainGlobals "NoHand" = some (some (.ref c_NoHand)))
    (aC_NoLetter : PySem.W.nsIn K mainGlobals "NoLetter" = some (some (.ref c_NoLetter)))
    (aC_NoPoint : PySem.W.nsIn K mainGlobals "NoPoint" = some (some (.ref c_NoPoint)))
    (aC_NoRow : PySem.W.nsIn K mainGlobals "NoRow" = some (some (.ref c_NoRow)))
    (aC_NoText : PySem.W.nsIn K mainGlobals "NoText" = some (some (.ref c_NoText)))
    (aC_WeaveError : PySem.W.nsIn K mainGlobals "WeaveError" = some (some (.ref c_WeaveError)))
    (aD_is_number : PySem.W.nsIn K mainGlobals "is_number" = some (some (.ref f_is_number)))
    (lk_is_number : K.lookup f_is_number = some ⟨oc_is_number, od_is_number, .func (PySem.W.fnOf "is_number" "is_number" (defArgs s_is_number) (defBody s_is_number) (defScope s_is_number) .none kV_is_number dc_is_number pm_is_number an_is_number cd_is_number ct_is_number), sl_is_number⟩)
    (cd__is_number : PySem.W.codeIn K cd_is_number "is_number" = true)
    (kp__is_number : PySem.W.keepIn K (.ref f_is_number) = true)
    (aD_are_numbers : PySem.W.nsIn K mainGlobals "are_numbers" = some (some (.ref f_are_numbers)))
    (lk_are_numbers : K.lookup f_are_numbers = some ⟨oc_are_numbers, od_are_numbers, .func (PySem.W.fnOf "are_numbers" "are_numbers" (defArgs s_are_numbers) (defBody s_are_numbers) (defScope s_are_numbers) .none kV_are_numbers dc_are_numbers pm_are_numbers an_are_numbers cd_are_numbers ct_are_numbers), sl_are_numbers⟩)
    (cd__are_numbers : PySem.W.codeIn K cd_are_numbers "are_numbers" = true)
    (kp__are_numbers : PySem.W.keepIn K (.ref f_are_numbers) = true)
    (aD_row_shown : PySem.W.nsIn K mainGlobals "row_shown" = some (some (.ref f_row_shown)))
    (lk_row_shown : K.lookup f_row_shown = some ⟨oc_row_shown, od_row_shown, .func (PySem.W.fnOf "row_shown" "row_shown" (defArgs s_row_shown) (defBody s_row_shown) (defScope s_row_shown) .none kV_row_shown dc_row_shown pm_row_shown an_row_shown cd_row_shown ct_row_shown), sl_row_shown⟩)
    (cd__row_shown : PySem.W.codeIn K cd_row_shown "row_shown" = true)
    (kp__row_shown : PySem.W.keepIn K (.ref f_row_shown) = true)
    (aD_rows_shown : PySem.W.nsIn K mainGlobals "rows_shown" = some (some (.ref f_rows_shown)))
    (lk_rows_shown : K.lookup f_rows_shown = some ⟨oc_rows_shown, od_rows_shown, .func (PySem.W.fnOf "rows_shown" "rows_shown" (defArgs s_rows_shown) (defBody s_rows_shown) (defScope s_rows_shown) .none kV_rows_shown dc_rows_shown pm_rows_shown an_rows_shown cd_rows_shown ct_rows_shown), sl_rows_shown⟩)
    (cd__rows_shown : PySem.W.codeIn K cd_rows_shown "rows_shown" = true)
    (kp__rows_shown : PySem.W.keepIn K (.ref f_rows_shown) = true)
    (aD_row_in : PySem.W.nsIn K mainGlobals "row_in" = some (some (.ref f_row_in)))
    (lk_row_in : K.lookup f_row_in = some ⟨oc_row_in, od_row_in, .func (PySem.W.fnOf "row_in" "row_in" (defArgs s_row_in) (defBody s_row_in) (defScope s_row_in) .none kV_row_in dc_row_in pm_row_in an_row_in cd_row_in ct_row_in), sl_row_in⟩)
    (cd__row_in : PySem.W.codeIn K cd_row_in "row_in" = true)
    (kp__row_in : PySem.W.keepIn K (.ref f_row_in) = true)
    (aD_read_rows : PySem.W.nsIn K mainGlobals "read_rows" = some (some (.ref f_read_rows)))
    (lk_read_rows : K.lookup f_read_rows = some ⟨oc_read_rows, od_read_rows, .func (PySem.W.fnOf "read_rows" "read_rows" (defArgs s_read_rows) (defBody s_read_rows) (defScope s_read_rows) .none kV_read_rows dc_read_rows pm_read_rows an_read_rows cd_read_rows ct_read_rows), sl_read_rows⟩)
    (cd__read_rows : PySem.W.codeIn K cd_read_rows "read_rows" = true)
    (kp__read_rows : PySem.W.keepIn K (.ref f_read_rows) = true)
    (aD__law_cell_at : PySem.W.nsIn K mainGlobals "_law_cell_at" = some (some (.ref f__law_cell_at)))
    (lk__law_cell_at : K.lookup f__law_cell_at = some ⟨oc__law_cell_at, od__law_cell_at, .func (PySem.W.fnOf "_law_cell_at" "_law_cell_at" (defArgs s__law_cell_at) (defBody s__law_cell_at) (defScope s__law_cell_at) .none kV__law_cell_at dc__law_cell_at pm__law_cell_at an__law_cell_at cd__law_cell_at ct__law_cell_at), sl__law_cell_at⟩)
    (cd___law_cell_at : PySem.W.codeIn K cd__law_cell_at "_law_cell_at" = true)
    (kp___law_cell_at : PySem.W.keepIn K (.ref f__law_cell_at) = true)
    (aD__law_mixed : PySem.W.nsIn K mainGlobals "_law_mixed" = some (some (.ref f__law_mixed)))
    (lk__law_mixed : K.lookup f__law_mixed = some ⟨oc__law_mixed, od__law_mixed, .func (PySem.W.fnOf "_law_mixed" "_law_mixed" (defArgs s__law_mixed) (defBody s__law_mixed) (defScope s__law_mixed) .none kV__law_mixed dc__law_mixed pm__law_mixed an__law_mixed cd__law_mixed ct__law_mixed), sl__law_mixed⟩)
    (cd___law_mixed : PySem.W.codeIn K cd__law_mixed "_law_mixed" = true)
    (kp___law_mixed : PySem.W.keepIn K (.ref f__law_mixed) = true)
    (aD__law_number : PySem.W.nsIn K mainGlobals "_law_number" = some (some (.ref f__law_number)))
    (lk__law_number : K.lookup f__law_number = some ⟨oc__law_number, od__law_number, .func (PySem.W.fnOf "_law_number" "_law_number" (defArgs s__law_number) (defBody s__law_number) (defScope s__law_number) .none kV__law_number dc__law_number pm__law_number an__law_number cd__law_number ct__law_number), sl__law_number⟩)
    (cd___law_number : PySem.W.codeIn K cd__law_number "_law_number" = true)
    (kp___law_number : PySem.W.keepIn K (.ref f__law_number) = true)
    (aD__law_row : PySem.W.nsIn K mainGlobals "_law_row" = some (some (.ref f__law_row)))
    (lk__law_row : K.lookup f__law_row = some ⟨oc__law_row, od__law_row, .func (PySem.W.fnOf "_law_row" "_law_row" (defArgs s__law_row) (defBody s__law_row) (defScope s__law_row) .none kV__law_row dc__law_row pm__law_row an__law_row cd__law_row ct__law_row), sl__law_row⟩)
    (cd___law_row : PySem.W.codeIn K cd__law_row "_law_row" = true)
    (kp___law_row : PySem.W.keepIn K (.ref f__law_row) = true)
    (aD__law_text : PySem.W.nsIn K mainGlobals "_law_text" = some (some (.ref f__law_text)))
    (lk__law_text : K.lookup f__law_text = some ⟨oc__law_text, od__law_text, .func (PySem.W.fnOf "_law_text" "_law_text" (defArgs s__law_text) (defBody s__law_text) (defScope s__law_text) .none kV__law_text dc__law_text pm__law_text an__law_text cd__law_text ct__law_text), sl__law_text⟩)
    (cd___law_text : PySem.W.codeIn K cd__law_text "_law_text" = true)
    (kp___law_text : PySem.W.keepIn K (.ref f__law_text) = true)
    (aD__law_bad : PySem.W.nsIn K mainGlobals "_law_bad" = some (some (.ref f__law_bad)))
    (lk__law_bad : K.lookup f__law_bad = some ⟨oc__law_bad, od__law_bad, .func (PySem.W.fnOf "_law_bad" "_law_bad" (defArgs s__law_bad) (defBody s__law_bad) (defScope s__law_bad) .none kV__law_bad dc__law_bad pm__law_bad an__law_bad cd__law_bad ct__law_bad), sl__law_bad⟩)
    (cd___law_bad : PySem.W.codeIn K cd__law_bad "_law_bad" = true)
    (kp___law_bad : PySem.W.keepIn K (.ref f__law_bad) = true)
    (aD__law_refused : PySem.W.nsIn K mainGlobals "_law_refused" = some (some (.ref f__law_refused)))
    (lk__law_refused : K.lookup f__law_refused = some ⟨oc__law_refused, od__law_refused, .func (PySem.W.fnOf "_law_refused" "_law_refused" (defArgs s__law_refused) (defBody s__law_refused) (defScope s__law_refused) .none kV__law_refused dc__law_refused pm__law_refused an__law_refused cd__law_refused ct__law_refused), sl__law_refused⟩)
    (cd___law_refused : PySem.W.codeIn K cd__law_refused "_law_refused" = true)
    (kp___law_refused : PySem.W.keepIn K (.ref f__law_refused) = true)
    (aD__law_same : PySem.W.nsIn K mainGlobals "_law_same" = some (some (.ref f__law_same)))
    (lk__law_same : K.lookup f__law_same = some ⟨oc__law_same, od__law_same, .func (PySem.W.fnOf "_law_same" "_law_same" (defArgs s__law_same) (defBody s__law_same) (defScope s__law_same) .none kV__law_same dc__law_same pm__law_same an__law_same cd__law_same ct__law_same), sl__law_same⟩)
    (cd___law_same : PySem.W.codeIn K cd__law_same "_law_same" = true)
    (kp___law_same : PySem.W.keepIn K (.ref f__law_same) = true)
    (aD_law : PySem.W.nsIn K mainGlobals "law" = some (some (.ref f_law)))
    (lk_law : K.lookup f_law = some ⟨oc_law, od_law, .func (PySem.W.fnOf "law" "law" (defArgs s_law) (defBody s_law) (defScope s_law) .none kV_law dc_law pm_law an_law cd_law ct_law), sl_law⟩)
    (cd__law : PySem.W.codeIn K cd_law "law" = true)
    (kp__law : PySem.W.keepIn K (.ref f_law) = true)
    (z_no_len : PySem.W.nsIn K mainGlobals "len" = some none)
    (z_no_all : PySem.W.nsIn K mainGlobals "all" = some none)
    (z_ms_FIGURES : PySem.W.nsIn K mainGlobals "FIGURES" = some (some (.str "0123456789" tk_ms_FIGURES)))
    (z_no_str : PySem.W.nsIn K mainGlobals "str" = some none)
    (z_md_NUMBERS_BEHIND : PySem.W.nsIn K mainGlobals "NUMBERS_BEHIND" = some (some (.ref dA_NUMBERS_BEHIND)))
    (z1_md_NUMBERS_BEHIND : K.lookup dA_NUMBERS_BEHIND = some ⟨.type "dict", none, .dict #[⟨PyData.keyHash pr "own", .str "own" tk0_NUMBERS_BEHIND, .int 1 tv0_NUMBERS_BEHIND⟩, ⟨PyData.keyHash pr "use", .str "use" tk1_NUMBERS_BEHIND, .int 4 tv1_NUMBERS_BEHIND⟩, ⟨PyData.keyHash pr "write", .str "write" tk2_NUMBERS_BEHIND, .int 1 tv2_NUMBERS_BEHIND⟩] ep_NUMBERS_BEHIND, #[]⟩)
    (tN_md_NUMBERS_BEHIND : (dA_NUMBERS_BEHIND == sysModules) = false)
    (z_mv_MOST_FIGURES : PySem.W.nsIn K mainGlobals "MOST_FIGURES" = some (some (.int 6 tk_mv_MOST_FIGURES)))
    (z_no_int : PySem.W.nsIn K mainGlobals "int" = some none)
    (z_no_isinstance : PySem.W.nsIn K mainGlobals "isinstance" = some none)
    (q_ex_NoText : PySem.W.excIn K c_NoText [.type "ValueError", .type "Exception", .type "BaseException", .type "object"] "ValueError.__new__" = true)
    (z_no_tuple : PySem.W.nsIn K mainGlobals "tuple" = some none)
    (z_no_range : PySem.W.nsIn K mainGlobals "range" = some none)
    (z_no_ValueError : PySem.W.nsIn K mainGlobals "ValueError" = some none)
    (z_no_list : PySem.W.nsIn K mainGlobals "list" = some none)
    (z_no_bool : PySem.W.nsIn K mainGlobals "bool" = some none)
    (z_no_any : PySem.W.nsIn K mainGlobals "any" = some none)
    (q_ki_b : PySem.W.kitOne K (.type "int") (.type "bool") = some false)
    (ga_xk_NoText : PySem.W.findIn K (.ref c_NoText) "__getattribute__" = some (some (.builtin "BaseException.__getattribute__")))
    (gb_xk_NoText : PySem.W.findIn K (.ref c_NoText) "__getattr__" = some none)
    (ha_xk_NoText : PySem.W.findIn K (.ref c_NoText) "__class__" = some (some (.builtin "object.__class__")))
    (hn_xk_NoText : PySem.W.specialIn K (.builtin "object.__class__") "__get__" = some (some (.builtin "getset_descriptor.__get__")))
    (ht_xk_NoText : PySem.W.takesIn K (.builtin "object.__class__") = some true)
    (hm_xk_NoText : PySem.W.mroIn K c_NoText (.type "object") = some true)
    (hb_xk_NoText : PySem.W.mroIn K c_NoText (.type "BaseException") = some true)
    (w1_kw_NoText : PySem.W.mroIn K c_WeaveError (.type "BaseException") = some true)
    (w2_kw_NoText : PySem.W.typeIn K (.ref c_WeaveError) = some (.type "type"))
    (w3_kw_NoText : PySem.W.mroIn K c_NoText (.ref c_WeaveError) = some true)
    (q_ke_1 : PySem.W.kitOne K (.ref c_NoText) (.ref c_NoHand) = some false)
    (q_ke_2 : PySem.W.kitOne K (.ref c_NoText) (.ref c_NoLetter) = some false)
    (q_ke_3 : PySem.W.kitOne K (.ref c_NoText) (.ref c_NoPoint) = some false)
    (q_ke_4 : PySem.W.kitOne K (.ref c_NoText) (.ref c_NoRow) = some false)
    (q_ke_6 : PySem.W.kitOne K (.ref c_NoText) (.type "ValueError") = some true)
    : ∃ t : Adr, Txt K mg t ∧ t.f_law = fa ∧ t.pr = pr ∧ ∀ (s : Shared) (v : Value), BindsTo s t.fd_law ⟨[v], []⟩ [("_law_script", v)] := by
  have e := hfa.symm.trans (PySem.W.mg_of kin G aD_law)
  cases e
  have F_is_number := fun_mk (st := s_is_number) lk_is_number cd__is_number kp__is_number
  have b_is_number := F_is_number.binds (ps := ["text", "most"]) fun _ _ _ _ _ _ us hl => match us, hl with | [_, _], _ => rfl
  have F_are_numbers := fun_mk (st := s_are_numbers) lk_are_numbers cd__are_numbers kp__are_numbers
  have b_are_numbers := F_are_numbers.binds (ps := ["texts", "most"]) fun _ _ _ _ _ _ us hl => match us, hl with | [_, _], _ => rfl
  have F_row_shown := fun_mk (st := s_row_shown) lk_row_shown cd__row_shown kp__row_shown
  have b_row_shown := F_row_shown.binds (ps := ["row"]) fun _ _ _ _ _ _ us hl => match us, hl with | [_], _ => rfl
  have F_rows_shown := fun_mk (st := s_rows_shown) lk_rows_shown cd__rows_shown kp__rows_shown
  have b_rows_shown := F_rows_shown.binds (ps := ["rows"]) fun _ _ _ _ _ _ us hl => match us, hl with | [_], _ => rfl
  have F_row_in := fun_mk (st := s_row_in) lk_row_in cd__row_in kp__row_in
  have b_row_in := F_row_in.binds (ps := ["text"]) fun _ _ _ _ _ _ us hl => match us, hl with | [_], _ => rfl
  have F_read_rows := fun_mk (st := s_read_rows) lk_read_rows cd__read_rows kp__read_rows
  have b_read_rows := F_read_rows.binds (ps := ["text"]) fun _ _ _ _ _ _ us hl => match us, hl with | [_], _ => rfl
  have F__law_cell_at := fun_mk (st := s__law_cell_at) lk__law_cell_at cd___law_cell_at kp___law_cell_at
  have b__law_cell_at := F__law_cell_at.binds (ps := ["_law_script", "_law_k"]) fun _ _ _ _ _ _ us hl => match us, hl with | [_, _], _ => rfl
  have F__law_mixed := fun_mk (st := s__law_mixed) lk__law_mixed cd___law_mixed kp___law_mixed
  have b__law_mixed := F__law_mixed.binds (ps := ["_law_cell", "_law_k"]) fun _ _ _ _ _ _ us hl => match us, hl with | [_, _], _ => rfl
  have F__law_number := fun_mk (st := s__law_number) lk__law_number cd___law_number kp___law_number
  have b__law_number := F__law_number.binds (ps := ["_law_number_here"]) fun _ _ _ _ _ _ us hl => match us, hl with | [_], _ => rfl
  have F__law_row := fun_mk (st := s__law_row) lk__law_row cd___law_row kp___law_row
  have b__law_row := F__law_row.binds (ps := ["_law_cell", "_law_k"]) fun _ _ _ _ _ _ us hl => match us, hl with | [_, _], _ => rfl
  have F__law_text := fun_mk (st := s__law_text) lk__law_text cd___law_text kp___law_text
  have b__law_text := F__law_text.binds (ps := ["_law_row_here"]) fun _ _ _ _ _ _ us hl => match us, hl with | [_], _ => rfl
  have F__law_bad := fun_mk (st := s__law_bad) lk__law_bad cd___law_bad kp___law_bad
  have b__law_bad := F__law_bad.binds (ps := ["_law_row_here", "_law_number_here"]) fun _ _ _ _ _ _ us hl => match us, hl with | [_, _], _ => rfl
  have F__law_refused := fun_mk (st := s__law_refused) lk__law_refused cd___law_refused kp___law_refused
  have b__law_refused := F__law_refused.binds (ps := ["_law_text_here"]) fun _ _ _ _ _ _ us hl => match us, hl with | [_], _ => rfl
  have F__law_same := fun_mk (st := s__law_same) lk__law_same cd___law_same kp___law_same
  have b__law_same := F__law_same.binds (ps := ["_law_found", "_law_rows"]) fun _ _ _ _ _ _ us hl => match us, hl with | [_, _], _ => rfl
  have F_law := fun_mk (st := s_law) lk_law cd__law kp__law
  have b_law := F_law.binds (ps := ["_law_script"]) fun _ _ _ _ _ _ us hl => match us, hl with | [_], _ => rfl
  exact ⟨⟨c_NoHand, c_NoLetter, c_NoPoint, c_NoRow, c_NoText, c_WeaveError, f_is_number, f_are_numbers, f_row_shown, f_rows_shown, f_row_in, f_read_rows, f__law_cell_at, f__law_mixed, f__law_number, f__law_row, f__law_text, f__law_bad, f__law_refused, f__law_same, f_law, dA_NUMBERS_BEHIND, pr, PySem.W.fnOf "is_number" "is_number" (defArgs s_is_number) (defBody s_is_number) (defScope s_is_number) .none kV_is_number dc_is_number pm_is_number an_is_number cd_is_number ct_is_number, PySem.W.fnOf "are_numbers" "are_numbers" (defArgs s_are_numbers) (defBody s_are_numbers) (defScope s_are_numbers) .none kV_are_numbers dc_are_numbers pm_are_numbers an_are_numbers cd_are_numbers ct_are_numbers, PySem.W.fnOf "row_shown" "row_shown" (defArgs s_row_shown) (defBody s_row_shown) (defScope s_row_shown) .none kV_row_shown dc_row_shown pm_row_shown an_row_shown cd_row_shown ct_row_shown, PySem.W.fnOf "rows_shown" "rows_shown" (defArgs s_rows_shown) (defBody s_rows_shown) (defScope s_rows_shown) .none kV_rows_shown dc_rows_shown pm_rows_shown an_rows_shown cd_rows_shown ct_rows_shown, PySem.W.fnOf "row_in" "row_in" (defArgs s_row_in) (defBody s_row_in) (defScope s_row_in) .none kV_row_in dc_row_in pm_row_in an_row_in cd_row_in ct_row_in, PySem.W.fnOf "read_rows" "read_rows" (defArgs s_read_rows) (defBody s_read_rows) (defScope s_read_rows) .none kV_read_rows dc_read_rows pm_read_rows an_read_rows cd_read_rows ct_read_rows, PySem.W.fnOf "_law_cell_at" "_law_cell_at" (defArgs s__law_cell_at) (defBody s__law_cell_at) (defScope s__law_cell_at) .none kV__law_cell_at dc__law_cell_at pm__law_cell_at an__law_cell_at cd__law_cell_at ct__law_cell_at, PySem.W.fnOf "_law_mixed" "_law_mixed" (defArgs s__law_mixed) (defBody s__law_mixed) (defScope s__law_mixed) .none kV__law_mixed dc__law_mixed pm__law_mixed an__law_mixed cd__law_mixed ct__law_mixed, PySem.W.fnOf "_law_number" "_law_number" (defArgs s__law_number) (defBody s__law_number) (defScope s__law_number) .none kV__law_number dc__law_number pm__law_number an__law_number cd__law_number ct__law_number, PySem.W.fnOf "_law_row" "_law_row" (defArgs s__law_row) (defBody s__law_row) (defScope s__law_row) .none kV__law_row dc__law_row pm__law_row an__law_row cd__law_row ct__law_row, PySem.W.fnOf "_law_text" "_law_text" (defArgs s__law_text) (defBody s__law_text) (defScope s__law_text) .none kV__law_text dc__law_text pm__law_text an__law_text cd__law_text ct__law_text, PySem.W.fnOf "_law_bad" "_law_bad" (defArgs s__law_bad) (defBody s__law_bad) (defScope s__law_bad) .none kV__law_bad dc__law_bad pm__law_bad an__law_bad cd__law_bad ct__law_bad, PySem.W.fnOf "_law_refused" "_law_refused" (defArgs s__law_refused) (defBody s__law_refused) (defScope s__law_refused) .none kV__law_refused dc__law_refused pm__law_refused an__law_refused cd__law_refused ct__law_refused, PySem.W.fnOf "_law_same" "_law_same" (defArgs s__law_same) (defBody s__law_same) (defScope s__law_same) .none kV__law_same dc__law_same pm__law_same an__law_same cd__law_same ct__law_same, PySem.W.fnOf "law" "law" (defArgs s_law) (defBody s_law) (defScope s_law) .none kV_law dc_law pm_law an_law cd_law ct_law⟩, ⟨PySem.W.mg_none_of kin G z_no_len, PySem.W.mg_none_of kin G z_no_all, ⟨_, PySem.W.mg_of kin G z_ms_FIGURES⟩, PySem.W.mg_of kin G aD_is_number, kp__is_number, b_is_number, PySem.W.mg_none_of kin G z_no_str, PySem.W.mg_of kin G aD_row_shown, kp__row_shown, b_row_shown, PySem.W.mg_of kin G z_md_NUMBERS_BEHIND, ⟨tN_md_NUMBERS_BEHIND, by decide +kernel, _, _, _, z1_md_NUMBERS_BEHIND, ⟨rfl, rfl, rfl⟩, rfl, .cons ⟨rfl, ⟨_, rfl⟩, _, rfl⟩ (.cons ⟨rfl, ⟨_, rfl⟩, _, rfl⟩ (.cons ⟨rfl, ⟨_, rfl⟩, _, rfl⟩ .nil))⟩, ⟨_, PySem.W.mg_of kin G z_mv_MOST_FIGURES⟩, PySem.W.mg_of kin G aD_are_numbers, kp__are_numbers, b_are_numbers, PySem.W.mg_none_of kin G z_no_int, PySem.W.mg_none_of kin G z_no_isinstance, PySem.W.mg_of kin G aC_NoText, q_ex_NoText, PySem.W.mg_of kin G aD_row_in, kp__row_in, b_row_in, PySem.W.mg_of kin G aD__law_mixed, kp___law_mixed, b__law_mixed, PySem.W.mg_of kin G aD__law_number, kp___law_number, b__law_number, PySem.W.mg_none_of kin G z_no_tuple, PySem.W.mg_none_of kin G z_no_range, PySem.W.mg_of kin G aD__law_text, kp___law_text, b__law_text, PySem.W.mg_of kin G aD_read_rows, kp__read_rows, b_read_rows, PySem.W.mg_of kin G aC_NoRow, PySem.W.mg_of kin G aC_NoPoint, PySem.W.mg_of kin G aC_NoLetter, PySem.W.mg_of kin G aC_NoHand, PySem.W.mg_none_of kin G z_no_ValueError, PySem.W.mg_of kin G aC_WeaveError, PySem.W.mg_none_of kin G z_no_list, PySem.W.mg_none_of kin G z_no_bool, PySem.W.mg_none_of kin G z_no_any, PySem.W.mg_of kin G aD__law_cell_at, kp___law_cell_at, b__law_cell_at, PySem.W.mg_of kin G aD__law_row, kp___law_row, b__law_row, PySem.W.mg_of kin G aD_rows_shown, kp__rows_shown, b_rows_shown, PySem.W.mg_of kin G aD__law_same, kp___law_same, b__law_same, PySem.W.mg_of kin G aD__law_bad, kp___law_bad, b__law_bad, PySem.W.mg_of kin G aD__law_refused, kp___law_refused, b__law_refused, F_is_number, F_are_numbers, F_row_shown, F_rows_shown, F_row_in, F_read_rows, F__law_cell_at, F__law_mixed, F__law_number, F__law_row, F__law_text, F__law_bad, F__law_refused, F__law_same, F_law, b_law, q_ki_b, ⟨ga_xk_NoText, gb_xk_NoText, ha_xk_NoText, hn_xk_NoText, ht_xk_NoText, hm_xk_NoText, hb_xk_NoText⟩, exm_of w1_kw_NoText w2_kw_NoText w3_kw_NoText, q_ke_1, q_ke_2, q_ke_3, q_ke_4, q_ke_6⟩, rfl, rfl, fun s v => .of_eq rfl⟩
theorem walk {l : PySem.W.OpenLaw} {q : Program} {loose : List Str} {XP : (Str → Option Value) → Heap → Prop} {YP : World → Heap → Prop} {d : DefRec} {K : Params → PySem.W.Frag} (hn : l.most = some 63) (hdf : d.params.defaults = [])
    (hY : ∀ (w : World) (h : Heap), YP w h → (K w.params).In h)
    (F : ∀ (w : World) (mg : Str → Option Value) (fa : Addr) (h : Heap), (K w.params).In h → h.Ns mainGlobals mg → mg d.name = some (.ref fa) →
      ∃ t : Adr, Txt (K w.params) mg t ∧ t.f_law = fa ∧ t.pr = w.params ∧ ∀ (s : Shared) (v : Value), BindsTo s t.fd_law ⟨[v], []⟩ [("_law_script", v)]) :
    PySem.W.WalkO q loose XP YP l.row.toRowW d [] (fun f vs => PySem.call f vs) :=
  L2.walk_of (n := 63) (k := 6) (x := "_law_script") (CX := fun w => CXr l.prog w) (sp := fun w => spLaw (K w.params)) hn (by decide) hdf ⟨rfl, by decide, by decide⟩ hY
    (fun w mg fa h kin G hmg => by
      obtain ⟨t, T, e, e2, b⟩ := F w mg fa h kin G hmg
      subst e
      exact ⟨t.fd_law, b, fun base _ _ => ok_law T e2⟩)
    (fun _ _ a ns hl _ hS => ⟨a, ns, rfl, hS, hl, fun _ => rfl⟩) fun _ _ _ _ _ z => by
      obtain ⟨_, _, _, _, _, _, z⟩ := z
      exact z
end B
open PySem PySem.W PyProof.Rows
set_option maxRecDepth 100000 in
set_option maxHeartbeats 0 in
theorem PySem.Challenge.cw_backline_k71_rows_as_text_holds : PySem.Challenge.rw_backline_k71_rows_as_text.Holds := by
  w_on; o_law; k_head; (case hw => w_witness2)
  k_fill
  refine B.walk (l := PySem.Challenge.rw_backline_k71_rows_as_text) rfl rfl (fun w h Y => PySem.W.kIn_of Y) ?F
  case F =>
    intro w mg fa h kin G hmg
    refine' B.txt_mk kin G hmg ?aC_NoHand ?aC_NoLetter ?aC_NoPoint ?aC_NoRow ?aC_NoText ?aC_WeaveError ?aD_is_number ?lk_is_number ?cd__is_number ?kp__is_number ?aD_are_numbers ?lk_are_numbers ?cd__are_numbers ?kp__are_numbers ?aD_row_shown ?lk_row_shown ?cd__row_shown ?kp__row_shown ?aD_rows_shown ?lk_rows_shown ?cd__rows_shown ?kp__rows_shown ?aD_row_in ?lk_row_in ?cd__row_in ?kp__row_in ?aD_read_rows ?lk_read_rows ?cd__read_rows ?kp__read_rows ?aD__law_cell_at ?lk__law_cell_at ?cd___law_cell_at ?kp___law_cell_at ?aD__law_mixed ?lk__law_mixed ?cd___law_mixed ?kp___law_mixed ?aD__law_number ?lk__law_number ?cd___law_number ?kp___law_number ?aD__law_row ?lk__law_row ?cd___law_row ?kp___law_row ?aD__law_text ?lk__law_text ?cd___law_text ?kp___law_text ?aD__law_bad ?lk__law_bad ?cd___law_bad ?kp___law_bad ?aD__law_refused ?lk__law_refused ?cd___law_refused ?kp___law_refused ?aD__law_same ?lk__law_same ?cd___law_same ?kp___law_same ?aD_law ?lk_law ?cd__law ?kp__law ?z_no_len ?z_no_all ?z_ms_FIGURES ?z_no_str ?z_md_NUMBERS_BEHIND ?z1_md_NUMBERS_BEHIND ?tN_md_NUMBERS_BEHIND ?z_mv_MOST_FIGURES ?z_no_int ?z_no_isinstance ?q_ex_NoText ?z_no_tuple ?z_no_range ?z_no_ValueError ?z_no_list ?z_no_bool ?z_no_any ?q_ki_b ?ga_xk_NoText ?gb_xk_NoText ?ha_xk_NoText ?hn_xk_NoText ?ht_xk_NoText ?hm_xk_NoText ?hb_xk_NoText ?w1_kw_NoText ?w2_kw_NoText ?w3_kw_NoText ?q_ke_1 ?q_ke_2 ?q_ke_3 ?q_ke_4 ?q_ke_6
    (case aC_NoHand => k_is)
    (case aC_NoLetter => k_is)
    (case aC_NoPoint => k_is)
    (case aC_NoRow => k_is)
    (case aC_NoText => k_is)
    (case aC_WeaveError => k_is)
    (case aD_is_number => k_is)
    (case lk_is_number => k_is)
    (case cd__is_number => k_is)
    (case kp__is_number => k_is)
    (case aD_are_numbers => k_is)
    (case lk_are_numbers => k_is)
    (case cd__are_numbers => k_is)
    (case kp__are_numbers => k_is)
    (case aD_row_shown => k_is)
    (case lk_row_shown => k_is)
    (case cd__row_shown => k_is)
    (case kp__row_shown => k_is)
    (case aD_rows_shown => k_is)
    (case lk_rows_shown => k_is)
    (case cd__rows_shown => k_is)
    (case kp__rows_shown => k_is)
    (case aD_row_in => k_is)
    (case lk_row_in => k_is)
    (case cd__row_in => k_is)
    (case kp__row_in => k_is)
    (case aD_read_rows => k_is)
    (case lk_read_rows => k_is)
    (case cd__read_rows => k_is)
    (case kp__read_rows => k_is)
    (case aD__law_cell_at => k_is)
    (case lk__law_cell_at => k_is)
    (case cd___law_cell_at => k_is)
    (case kp___law_cell_at => k_is)
    (case aD__law_mixed => k_is)
    (case lk__law_mixed => k_is)
    (case cd___law_mixed => k_is)
    (case kp___law_mixed => k_is)
    (case aD__law_number => k_is)
    (case lk__law_number => k_is)
    (case cd___law_number => k_is)
    (case kp___law_number => k_is)
    (case aD__law_row => k_is)
    (case lk__law_row => k_is)
    (case cd___law_row => k_is)
    (case kp___law_row => k_is)
    (case aD__law_text => k_is)
    (case lk__law_text => k_is)
    (case cd___law_text => k_is)
    (case kp___law_text => k_is)
    (case aD__law_bad => k_is)
    (case lk__law_bad => k_is)
    (case cd___law_bad => k_is)
    (case kp___law_bad => k_is)
    (case aD__law_refused => k_is)
    (case lk__law_refused => k_is)
    (case cd___law_refused => k_is)
    (case kp___law_refused => k_is)
    (case aD__law_same => k_is)
    (case lk__law_same => k_is)
    (case cd___law_same => k_is)
    (case kp___law_same => k_is)
    (case aD_law => k_is)
    (case lk_law => k_is)
    (case cd__law => k_is)
    (case kp__law => k_is)
    (case z_no_len => k_is)
    (case z_no_all => k_is)
    (case z_ms_FIGURES => k_is)
    (case z_no_str => k_is)
    (case z_md_NUMBERS_BEHIND => k_is)
    (case z1_md_NUMBERS_BEHIND => k_is)
    (case tN_md_NUMBERS_BEHIND => first | rfl | decide | kernel_rfl)
    (case z_mv_MOST_FIGURES => k_is)
    (case z_no_int => k_is)
    (case z_no_isinstance => k_is)
    (case q_ex_NoText => k_exc)
    (case z_no_tuple => k_is)
    (case z_no_range => k_is)
    (case z_no_ValueError => k_is)
    (case z_no_list => k_is)
    (case z_no_bool => k_is)
    (case z_no_any => k_is)
    (case q_ki_b => first | kit_is | k_is)
    (case ga_xk_NoText => k_is)
    (case gb_xk_NoText => k_is)
    (case ha_xk_NoText => k_is)
    (case hn_xk_NoText => k_is)
    (case ht_xk_NoText => k_is)
    (case hm_xk_NoText => k_is)
    (case hb_xk_NoText => k_is)
    (case w1_kw_NoText => k_is)
    (case w2_kw_NoText => k_is)
    (case w3_kw_NoText => k_is)
    (case q_ke_1 => first | kit_is | k_is)
    (case q_ke_2 => first | kit_is | k_is)
    (case q_ke_3 => first | kit_is | k_is)
    (case q_ke_4 => first | kit_is | k_is)
    (case q_ke_6 => first | kit_is | k_is)


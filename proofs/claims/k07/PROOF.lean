import PyProof.Rows.All
import Wide.All
import OpenK.AllK
import Wide.FinOn
import Lean
import PyProof.EqAt
import PyProof.EqKinds
import PyProof.TupleCall
import KE.KDictSum
import PySem.Challenge.RW_evenrounds_k07_whole_rounds
set_option Elab.async false
set_option linter.all false
set_option maxRecDepth 100000
/-! THE HAND LAYER, for ints, bools, texts, own classes, LISTS and tuples (index, slices, in, append, pop ..), calls, loops. Paste it whole ahead of your own text; what your proof does not reach may be deleted. -/
namespace L2
open PySem PySem.Spec PyProof.Rows

/-- a key: an int or a str -/
abbrev Key := Sum Int Str
def keyIs : Key → Value → Bool
  | .inl k, v => Value.isInt k v
  | .inr x, v => Value.isStrOf x v
def keyH (w : World) : Key → Int
  | .inl k => hashInt k
  | .inr x => hashStr w x
theorem keyIs_shape : ∀ {k : Key} {v : Value}, keyIs k v = true → (∃ i t, k = Sum.inl i ∧ v = Value.int i t) ∨ (∃ x t, k = Sum.inr x ∧ v = Value.str x t)
  | .inl i, v, h => by
    obtain ⟨t, e⟩ := Value.isInt_shape (k := i) (v := v) h
    exact .inl ⟨i, t, rfl, e⟩
  | .inr x, v, h => by
    obtain ⟨t, e⟩ := Value.isStrOf_shape (x := x) (v := v) h
    exact .inr ⟨x, t, rfl, e⟩
theorem keyIs_int (i : Int) (t : Tok) : keyIs (.inl i) (.int i t) = true := by simp [keyIs, Value.isInt]
theorem keyIs_str (x : Str) (t : Tok) : keyIs (.inr x) (.str x t) = true := by simp [keyIs, Value.isStrOf]
theorem key_ll (a b : Int) : decide ((Sum.inl a : Key) = Sum.inl b) = (a == b) := by
  by_cases e : a = b
  · subst e; simp
  · have h : ¬ (Sum.inl a : Key) = Sum.inl b := fun q => e (Sum.inl.inj q)
    rw [decide_eq_false h]
    exact (beq_eq_false_iff_ne.mpr e).symm
theorem key_rr (a b : Str) : decide ((Sum.inr a : Key) = Sum.inr b) = decide (a = b) := by
  by_cases e : a = b
  · subst e; simp
  · have h : ¬ (Sum.inr a : Key) = Sum.inr b := fun q => e (Sum.inr.inj q)
    rw [decide_eq_false h, decide_eq_false e]
theorem key_lr (a : Int) (b : Str) : decide ((Sum.inl a : Key) = Sum.inr b) = false := decide_eq_false (fun q => nomatch q)
theorem key_rl (a : Str) (b : Int) : decide ((Sum.inr a : Key) = Sum.inl b) = false := decide_eq_false (fun q => nomatch q)

def mixKind (prog : Program) (w : World) : PySem.KeyKind prog w Key where
  is := keyIs
  hash := keyH w
  inj := fun v a b ha hb => by
    rcases keyIs_shape ha with ⟨i, t, rfl, rfl⟩ | ⟨x, t, rfl, rfl⟩
    · rcases keyIs_shape hb with ⟨j, u, rfl, e⟩ | ⟨y, u, rfl, e⟩
      · injection e with e1 _; rw [e1]
      · exact nomatch e
    · rcases keyIs_shape hb with ⟨j, u, rfl, e⟩ | ⟨y, u, rfl, e⟩
      · exact nomatch e
      · injection e with e1 _; rw [e1]
  byValue := fun k v h => by
    rcases keyIs_shape h with ⟨i, t, rfl, rfl⟩ | ⟨x, t, rfl, rfl⟩ <;> rfl
  pyHash := fun hv h => by
    rcases keyIs_shape hv with ⟨i, t, rfl, rfl⟩ | ⟨x, t, rfl, rfl⟩
    · exact wpAny_pyHash_int h
    · exact wpAny_pyHash_str h
  eqBool := fun hu hv h => by
    rcases keyIs_shape hu with ⟨i, t, rfl, rfl⟩ | ⟨x, t, rfl, rfl⟩
    · rcases keyIs_shape hv with ⟨j, u, rfl, rfl⟩ | ⟨y, u, rfl, rfl⟩
      · rw [key_ll] at h; exact wpAny_eqBool_int h
      · rw [key_lr] at h; exact SeqAt.EqAt.int_str i t y u _ _ _ _ h
    · rcases keyIs_shape hv with ⟨j, u, rfl, rfl⟩ | ⟨y, u, rfl, rfl⟩
      · rw [key_rl] at h; exact SeqAt.EqAt.str_int x t j u _ _ _ _ h
      · rw [key_rr] at h; exact wpAny_eqBool_str h
  «strs» := fun k x t v h => by
    rcases keyIs_shape h with ⟨i, u, rfl, e⟩ | ⟨y, u, rfl, e⟩
    · exact nomatch e
    · injection e with e1 _
      subst e1
      cases v <;> rfl

theorem mixKind_is (prog : Program) (w : World) (k : Key) (v : Value) : (mixKind prog w).is k v = keyIs k v := rfl
theorem mixKind_int (prog : Program) (w : World) (i : Int) (t : Tok) : (mixKind prog w).is (.inl i) (.int i t) = true := keyIs_int i t
theorem mixKind_str (prog : Program) (w : World) (x : Str) (t : Tok) : (mixKind prog w).is (.inr x) (.str x t) = true := keyIs_str x t
end L2

namespace L2
open PySem PySem.Spec PyProof.Rows

/-- a value, without the heap -/
inductive V where
  | non | bl (b : Bool) | int (i : Int) | str (x : Str) | byt (b : Array UInt8) | flt (b : UInt64) | ref (a : Addr) | ty (n : String)
  deriving DecidableEq

def RelV : V → Value → Prop
  | .non, u => u = Value.none
  | .bl b, u => u = Value.bool b
  | .int i, u => ∃ t, u = Value.int i t
  | .str x, u => ∃ t, u = Value.str x t
  | .byt b, u => ∃ t, u = Value.bytes b t
  | .flt b, u => ∃ t, u = Value.float b t
  | .ref a, u => u = Value.ref a
  | .ty n, u => u = Value.type n

abbrev Vals : List V → List Value → Prop := Paired RelV
theorem Vals.length {xs : List V} {us : List Value} (r : Vals xs us) : xs.length = us.length := Paired.length r
theorem Vals.get : ∀ {xs : List V} {us : List Value} {i : Nat} {x : V}, Vals xs us → xs[i]? = some x → ∃ u, us[i]? = some u ∧ RelV x u
  | _, _, _, _, .nil, e => by simp at e
  | _, _, 0, _, .cons r _, e => by simp at e; subst e; exact ⟨_, rfl, r⟩
  | _, _, i + 1, x, .cons _ t, e => by
    obtain ⟨u, h1, h2⟩ := Vals.get (i := i) (x := x) t (by simpa using e)
    exact ⟨u, by simpa using h1, h2⟩
theorem Vals.set {x : V} {u : Value} (r : RelV x u) : ∀ {xs : List V} {us : List Value} (i : Nat), Vals xs us → Vals (xs.set i x) (us.set i u)
  | _, _, _, .nil => .nil
  | _, _, 0, .cons _ t => .cons r t
  | _, _, i + 1, .cons q t => .cons q (Vals.set r i t)
theorem Vals.append : ∀ {xs ys : List V} {us ws : List Value}, Vals xs us → Vals ys ws → Vals (xs ++ ys) (us ++ ws)
  | _, _, _, _, .nil, s => s
  | _, _, _, _, .cons r t, s => .cons r (Vals.append t s)
theorem Vals.take : ∀ {xs : List V} {us : List Value} (n : Nat), Vals xs us → Vals (xs.take n) (us.take n)
  | _, _, 0, _ => .nil
  | _, _, _ + 1, .nil => .nil
  | _, _, n + 1, .cons r t => .cons r (Vals.take n t)
theorem Vals.drop : ∀ {xs : List V} {us : List Value} (n : Nat), Vals xs us → Vals (xs.drop n) (us.drop n)
  | _, _, 0, r => r
  | _, _, _ + 1, .nil => .nil
  | _, _, n + 1, .cons _ t => Vals.drop n t
theorem Vals.none_of : ∀ {xs : List V} {us : List Value} {i : Nat}, Vals xs us → xs[i]? = none → us[i]? = none := fun {xs us i} r e => by
  have h1 := r.length
  have h2 : xs.length ≤ i := List.getElem?_eq_none_iff.mp e
  exact List.getElem?_eq_none_iff.mpr (by omega)

def RelO : Option V → Option Value → Prop
  | some v, some u => RelV v u
  | none, none => True
  | _, _ => False
def KV {κ : Type} : List (κ × V) → List (κ × Value) → Prop := Paired fun (p : κ × V) (q : κ × Value) => p.1 = q.1 ∧ RelV p.2 q.2

/-- a key of a dict (00_mix): an int or a text -/
def kV : Key → V
  | .inl i => .int i
  | .inr x => .str x

/-- what stands at a tracked address -/
inductive HO where
  /-- a list -/
  | lst (xs : List V)
  /-- a tuple (never changes) -/
  | tup (xs : List V)
  /-- a dict whose keys are ints and texts; one whose keys are tuples of ints and texts (the empty one is both) -/
  | dK (kvs : List (Key × V)) | dT (kvs : List (List Key × V))
  /-- a set of ints: its members, its size -/
  | set (S : Int → Bool) (n : Nat)
  /-- an instance of the class at C, its dict at dx, its attributes -/
  | ins (C dx : Addr) (fs : List (Str × V))
  /-- the dict of the instance at x -/
  | own (x : Addr)
  /-- the dict of an exception -/
  | xd (fs : List (Str × V))
  /-- a bound method, f of x -/
  | met (f x : Addr)
  /-- a range object lo, lo + 1, .. below hi -/
  | rng (lo hi : Int)
  /-- a thing that is known to the object (the script; a dict while a loop walks it): read, never written while it is so -/
  | frz (o : Obj) (u : HO)
  /-- a code object's table -/
  | tbl (ps : Array Value)
  /-- any other thing, by what is true of its one object (a def of one's own: SetO a S n := HO.ext fun h => ..) -/
  | ext (φ : Heap → Prop)

abbrev Hp := Addr → Option HO
def upd (H : Hp) (a : Addr) (o : HO) : Hp := fun b => if b = a then some o else H b
theorem upd_same {H : Hp} {a : Addr} {o : HO} : upd H a o a = some o := by unfold upd; rw [if_pos rfl]
theorem upd_ne {H : Hp} {a b : Addr} {o : HO} (h : b ≠ a) : upd H a o b = H b := by unfold upd; rw [if_neg h]
theorem upd_upd {H : Hp} {a : Addr} {o u : HO} : upd (upd H a o) a u = upd H a u := by
  funext b; unfold upd; split <;> rfl
/-- two objects of different content stand apart -/
theorem ne_of {H : Hp} {a b : Addr} {o u : HO} (h : H a = some o) (h' : H b = some u) (d : o ≠ u) : a ≠ b := by
  intro e; subst e; rw [h] at h'; exact d (Option.some.inj h')
theorem ne_of_none {H : Hp} {a b : Addr} {o : HO} (h : H a = some o) (h' : H b = none) : a ≠ b := by
  intro e; subst e; rw [h] at h'; cases h'

section
variable (P : Program) (w : World)
def ObjOk (H : Hp) (h : Heap) (a : Addr) : HO → Prop
  | .lst xs => xs.length ≤ sizeLine ∧ ∃ (its : List Value) (n : Nat), Vals xs its ∧ h.get? a = some { cls := .type "list", data := .seq its.toArray n }
  | .tup xs => xs.length ≤ sizeLine ∧ ∃ its : List Value, Vals xs its ∧ IsTup h a its.toArray
  | .dK kvs => kvs.length ≤ sizeLine ∧ (a == sysModules) = false ∧ ∃ vs, KV kvs vs ∧ h.DictOf (mixKind P w) a vs
  | .dT kvs => kvs.length ≤ sizeLine ∧ (a == sysModules) = false ∧ ∃ xs : List (List Key × Addr × Value),
      Paired (fun (p : List Key × V) (q : List Key × Addr × Value) => p.1 = q.1 ∧ H q.2.1 = some (.tup (p.1.map kV)) ∧ RelV p.2 q.2.2) kvs xs ∧
      ∃ o es ep, h.get? a = some o ∧ o.ExactDict ∧ o.data = .dict es ep ∧ es.toList = xs.map (entryOfKey (tupleKind (mixKind P w))) ∧ (xs.map (·.1)).Nodup
  | .set S n => h.SetOf (intKind P w) a S n
  | .ins C dx fs => H dx = some (.own a) ∧ fs.length ≤ 1000 ∧ dx ≠ a ∧ h.get? a = some (PySem.W.instObj C dx) ∧
      ∃ mA, h.Ns1 dx mA ∧ (∀ f, RelO (fs.lookup f) (mA f)) ∧ PySem.Within mA (fs.map (·.1))
  | .own _ => ∃ o, h.get? a = some o
  | .xd fs => ∃ mA, h.Ns1 a mA ∧ ∀ f, RelO (fs.lookup f) (mA f)
  | .rng lo hi => ∃ t u v, h.get? a = some { cls := .type "range", data := .fields #[.int lo t, .int hi u, .int 1 v] }
  | .frz o u => h.get? a = some o ∧ ObjOk H h a u
  | .tbl ps => h.get? a = some { cls := .none, data := .fields ps }
  | .met f x => h.get? a = some (PySem.W.methodObj (.ref f) (.ref x))
  | .ext φ => φ h ∧ (∃ o, h.get? a = some o) ∧ ∀ h1 h2 : Heap, φ h1 → (∀ o, h1.get? a = some o → h2.get? a = some o) → φ h2
/-- the abstract heap is held -/
def HOk (H : Hp) (h : Heap) : Prop := ∀ a o, H a = some o → ObjOk P w H h a o
end

section
variable {P : Program} {w : World} {H H' : Hp} {h h' : Heap} {a : Addr} {o : HO}
theorem ObjOk.lt (x : ObjOk P w H h a o) : a < h.objs.size := by
  cases o with
  | lst xs => obtain ⟨_, _, _, _, e⟩ := x; exact Heap.lt_size e
  | tup xs => obtain ⟨_, _, _, p⟩ := x; exact p.lt
  | dK kvs => obtain ⟨_, _, _, _, o, _, _, e, _⟩ := x; exact Heap.lt_size e
  | dT kvs => obtain ⟨_, _, _, _, o, _, _, e, _⟩ := x; exact Heap.lt_size e
  | set S n => obtain ⟨o, _, _, _, e, _⟩ := x; exact Heap.lt_size e
  | ins C dx fs => obtain ⟨_, _, _, e, _⟩ := x; exact Heap.lt_size e
  | own y => obtain ⟨_, e⟩ := x; exact Heap.lt_size e
  | xd fs => obtain ⟨_, ⟨_, _, _, e, _⟩, _⟩ := x; exact Heap.lt_size e
  | rng lo hi => obtain ⟨_, _, _, e⟩ := x; exact Heap.lt_size e
  | frz ob u => obtain ⟨e, _⟩ := x; exact Heap.lt_size e
  | tbl ps => exact Heap.lt_size (show h.get? a = some _ from x)
  | met f y => exact Heap.lt_size (show h.get? a = some _ from x)
  | ext φ => obtain ⟨_, ⟨_, e⟩, _⟩ := x; exact Heap.lt_size e
theorem Paired.mapP {α β : Type} {F G : α → β → Prop} : ∀ {l₁ : List α} {l₂ : List β}, Paired F l₁ l₂ → (∀ a b, F a b → G a b) → Paired G l₁ l₂
  | _, _, .nil, _ => .nil
  | _, _, .cons r t, f => .cons (f _ _ r) (Paired.mapP t f)
theorem Paired.imp' {α β : Type} {F G : α → β → Prop} (f : ∀ a b, F a b → G a b) {l₁ : List α} {l₂ : List β} (r : Paired F l₁ l₂) : Paired G l₁ l₂ := Paired.mapP r f
/-- what an object's description leans on: its own object, its own dict, the tuples -/
theorem ObjOk.stay (x : ObjOk P w H h a o) (k : ∀ b u, (b = a ∨ H b = some (.own a)) → h.get? b = some u → h'.get? b = some u)
    (ho : ∀ b, H b = some (.own a) → H' b = some (.own a)) (ht : ∀ b xs, H b = some (.tup xs) → H' b = some (.tup xs)) : ObjOk P w H' h' a o := by
  induction o with
  | lst xs => obtain ⟨z, its, n, r, e⟩ := x; exact ⟨z, its, n, r, k _ _ (.inl rfl) e⟩
  | tup xs => obtain ⟨z, its, r, ob, e, c⟩ := x; exact ⟨z, its, r, ob, k _ _ (.inl rfl) e, c⟩
  | dK kvs => obtain ⟨z, y, vs, r, ob, es, ep, e, c⟩ := x; exact ⟨z, y, vs, r, ob, es, ep, k _ _ (.inl rfl) e, c⟩
  | dT kvs =>
    obtain ⟨z, y, xs, r, ob, es, ep, e, c⟩ := x
    exact ⟨z, y, xs, Paired.mapP r fun p q z => ⟨z.1, ht _ _ z.2.1, z.2.2⟩, ob, es, ep, k _ _ (.inl rfl) e, c⟩
  | set S n => obtain ⟨ob, es, ep, t, e, c⟩ := x; exact ⟨ob, es, ep, t, k _ _ (.inl rfl) e, c⟩
  | ins C dx fs =>
    obtain ⟨d, z, ne, e, mA, ⟨od, es, ep, e2, c⟩, r⟩ := x
    exact ⟨ho _ d, z, ne, k _ _ (.inl rfl) e, mA, ⟨od, es, ep, k _ _ (.inr d) e2, c⟩, r⟩
  | own y => obtain ⟨ob, e⟩ := x; exact ⟨ob, k _ _ (.inl rfl) e⟩
  | xd fs => obtain ⟨mA, ⟨od, es, ep, e, c⟩, r⟩ := x; exact ⟨mA, ⟨od, es, ep, k _ _ (.inl rfl) e, c⟩, r⟩
  | rng lo hi => obtain ⟨t, u, v, e⟩ := x; exact ⟨t, u, v, k _ _ (.inl rfl) e⟩
  | frz ob u ih => obtain ⟨e, q⟩ := x; exact ⟨k _ _ (.inl rfl) e, ih q⟩
  | tbl ps =>
    have e : h.get? a = some { cls := .none, data := .fields ps } := x
    show h'.get? a = some { cls := .none, data := .fields ps }
    exact k a _ (.inl rfl) e
  | met f y =>
    have e : h.get? a = some (PySem.W.methodObj (.ref f) (.ref y)) := x
    show h'.get? a = some (PySem.W.methodObj (.ref f) (.ref y))
    exact k a _ (.inl rfl) e
  | ext φ => obtain ⟨p, ⟨o, e⟩, st⟩ := x; exact ⟨st _ _ p fun o q => k _ _ (.inl rfl) q, ⟨o, k _ _ (.inl rfl) e⟩, st⟩
theorem HOk.lt (x : HOk P w H h) (e : H a = some o) : a < h.objs.size := (x a o e).lt
theorem HOk.fresh (x : HOk P w H h) (e : h.objs.size ≤ a) : H a = none := by
  cases q : H a with
  | none => rfl
  | some u => exact absurd (Nat.lt_of_lt_of_le (x.lt q) e) (Nat.lt_irrefl _)
/-- every object of the heap is kept -/
theorem HOk.kept (x : HOk P w H h) (k : ∀ b u, h.get? b = some u → h'.get? b = some u) : HOk P w H h' := fun a o e =>
  (x a o e).stay (fun b u _ q => k b u q) (fun _ q => q) fun _ _ q => q
/-- a new object is laid and tracked -/
theorem HOk.laid (x : HOk P w H h) (k : ∀ b u, h.get? b = some u → h'.get? b = some u) (hp : h.objs.size ≤ a) (new : ObjOk P w (upd H a o) h' a o) : HOk P w (upd H a o) h' := fun b u e => by
  have hn := x.fresh hp
  by_cases hb : b = a
  · subst hb; rw [upd_same] at e; cases e; exact new
  · rw [upd_ne hb] at e
    exact (x b u e).stay (fun c v _ q => k c v q) (fun c q => by rw [upd_ne (ne_of_none q hn)]; exact q) fun c xs q => by rw [upd_ne (ne_of_none q hn)]; exact q
end

/-- what may be read as u: it is u, or a known u -/
def Rd (H : Hp) (a : Addr) (u : HO) : Prop := H a = some u ∨ ∃ o, H a = some (.frz o u)
theorem Rd.of {H : Hp} {a : Addr} {u : HO} (h : H a = some u) : Rd H a u := .inl h
theorem Rd.ok {P : Program} {w : World} {H : Hp} {h : Heap} {a : Addr} {u : HO} (r : Rd H a u) (x : HOk P w H h) : ObjOk P w H h a u := by
  rcases r with r | ⟨o, r⟩
  · exact x a u r
  · obtain ⟨_, q⟩ := x a _ r
    exact q
/-- what may be written -/
def Mut : Option HO → Prop
  | some (.lst _) => True
  | some (.dK _) => True
  | some (.dT _) => True
  | some (.set _ _) => True
  | some (.ins _ _ _) => True
  | some (.ext _) => True
  | _ => False
section
variable {P : Program} {w : World} {H : Hp} {h h' : Heap} {x e : Addr} {o' : HO}
/-- the object at e is changed: x itself, or the dict of the instance x -/
theorem HOk.write (ok : HOk P w H h) (mu : Mut (H x)) (he : e = x ∨ H e = some (.own x)) (k : ∀ b u, b ≠ e → h.get? b = some u → h'.get? b = some u) (heo : ∃ u, h'.get? e = some u)
    (new : ObjOk P w (upd H x o') h' x o') : HOk P w (upd H x o') h' := fun b u q => by
  have nown : ∀ c y, H c = some (.own y) → c ≠ x := fun c y r z => by subst z; rw [r] at mu; exact mu
  have ntup : ∀ c xs, H c = some (.tup xs) → c ≠ x := fun c xs r z => by subst z; rw [r] at mu; exact mu
  by_cases hb : b = x
  · subst hb; rw [upd_same] at q; cases q; exact new
  · rw [upd_ne hb] at q
    by_cases hbe : b = e
    · have q' : H b = some (.own x) := by
        rcases he with z | z
        · exact absurd (hbe.trans z) hb
        · rw [hbe]; exact z
      rw [q] at q'; cases q'
      obtain ⟨v, hv⟩ := heo
      exact ⟨v, by rw [hbe]; exact hv⟩
    · refine (ok b u q).stay (fun c v hc r => k c v ?_ r) (fun c r => by rw [upd_ne (nown c b r)]; exact r) fun c xs r => by rw [upd_ne (ntup c xs r)]; exact r
      rcases hc with rfl | hc
      · exact hbe
      · rintro rfl
        rcases he with z | z
        · exact nown c b hc z
        · rw [hc] at z; cases z; exact hb rfl
end

/-! ### kept unless tracked; of the frames at fs (the callers') the slots may change (an exception that passes writes there); of the records at ex (iterators) nothing is said -/
structure Un (fs ex : List Addr) (H H' : Hp) (h h' : Heap) : Prop where
  keep : ∀ b o, h.get? b = some o → H b = none → b ∉ fs → b ∉ ex → h'.get? b = some o
  slot : ∀ b o, h.get? b = some o → H b = none → b ∈ fs → b ∉ ex → ∃ sl, h'.get? b = some { o with slots := sl }
  free : ∀ b o, h.get? b = some o → H b = none → b ∉ ex → H' b = none
  there : ∀ b o, h.get? b = some o → b ∉ ex → ∃ o', h'.get? b = some o'
  tups : ∀ b xs, H b = some (.tup xs) → H' b = some (.tup xs)
  frzs : ∀ b o u, H b = some (.frz o u) → H' b = some (.frz o u)
  tbls : ∀ b ps, H b = some (.tbl ps) → ∃ more, H' b = some (.tbl (ps ++ more))
section
variable {fs fs' ex ex' : List Addr} {H H1 H2 : Hp} {h h1 h2 h' : Heap} {a x e : Addr} {o : HO}
theorem Un.any (u : Un fs ex H H1 h h1) {b : Addr} {ob : Obj} (q : h.get? b = some ob) (n : H b = none) (hx : b ∉ ex) : ∃ sl, h1.get? b = some { ob with slots := sl } := by
  by_cases hb : b ∈ fs
  · exact u.slot b ob q n hb hx
  · exact ⟨ob.slots, u.keep b ob q n hb hx⟩
theorem Un.trans (a : Un fs ex H H1 h h1) (b : Un fs ex H1 H2 h1 h2) : Un fs ex H H2 h h2 where
  keep := fun c ob q n hc hx => b.keep c ob (a.keep c ob q n hc hx) (a.free c ob q n hx) hc hx
  slot := fun c ob q n hc hx => by
    obtain ⟨sl, e1⟩ := a.slot c ob q n hc hx
    obtain ⟨sl', e2⟩ := b.slot c _ e1 (a.free c ob q n hx) hc hx
    exact ⟨sl', e2⟩
  free := fun c ob q n hx => by
    obtain ⟨o', e1⟩ := a.there c ob q hx
    exact b.free c o' e1 (a.free c ob q n hx) hx
  there := fun c ob q hx => by
    obtain ⟨o', e1⟩ := a.there c ob q hx
    exact b.there c o' e1 hx
  tups := fun c xs q => b.tups c xs (a.tups c xs q)
  frzs := fun c ob xs q => b.frzs c ob xs (a.frzs c ob xs q)
  tbls := fun c ps q => by
    obtain ⟨m1, e1⟩ := a.tbls c ps q
    obtain ⟨m2, e2⟩ := b.tbls c _ e1
    exact ⟨m1 ++ m2, by rw [e2, Array.append_assoc]⟩
theorem Un.kept (k : ∀ b u, h.get? b = some u → h'.get? b = some u) : Un fs ex H H h h' :=
  ⟨fun b ob q _ _ _ => k b ob q, fun b ob q _ _ _ => ⟨ob.slots, k b ob q⟩, fun _ _ _ n _ => n, fun b ob q _ => ⟨ob, k b ob q⟩, fun _ _ q => q, fun _ _ _ q => q, fun _ ps q => ⟨#[], by rw [q]; simp⟩⟩
theorem Un.refl : Un fs ex H H h h := Un.kept fun _ _ q => q
theorem Un.laid (k : ∀ b u, h.get? b = some u → h'.get? b = some u) (hp : h.objs.size ≤ a) (hn : H a = none) : Un fs ex H (upd H a o) h h' where
  keep := fun b u q _ _ _ => k b u q
  slot := fun b u q _ _ _ => ⟨u.slots, k b u q⟩
  free := fun b u q n _ => by rw [upd_ne (Nat.ne_of_lt (Nat.lt_of_lt_of_le (Heap.lt_size q) hp))]; exact n
  there := fun b u q _ => ⟨u, k b u q⟩
  tups := fun b xs q => by rw [upd_ne (ne_of_none q hn)]; exact q
  frzs := fun b u xs q => by rw [upd_ne (ne_of_none q hn)]; exact q
  tbls := fun b ps q => ⟨#[], by rw [upd_ne (ne_of_none q hn), q]; simp⟩
theorem Un.write (mu : Mut (H x)) (he : e = x ∨ H e = some (.own x)) (k : ∀ b u, b ≠ e → h.get? b = some u → h'.get? b = some u) (heo : ∃ u, h'.get? e = some u) : Un fs ex H (upd H x o) h h' := by
  have hx : ∀ b, H b = none → b ≠ x := fun b n z => by subst z; rw [n] at mu; exact mu
  have hb : ∀ b, H b = none → b ≠ e := fun b n z => by
    subst z
    rcases he with r | r
    · exact hx b n r
    · rw [n] at r; cases r
  have hm : ∀ b u, H b = some u → ¬ Mut (some u) → b ≠ x := fun b u q nm z => by subst z; rw [q] at mu; exact nm mu
  refine ⟨fun b u q n _ _ => k b u (hb b n) q, fun b u q n _ _ => ⟨u.slots, k b u (hb b n) q⟩, fun b u q n _ => by rw [upd_ne (hx b n)]; exact n, fun b u q _ => ?_,
    fun b xs q => by rw [upd_ne (hm b _ q fun z => z)]; exact q, fun b u xs q => by rw [upd_ne (hm b _ q fun z => z)]; exact q, fun b ps q => ⟨#[], by rw [upd_ne (hm b _ q fun z => z), q]; simp⟩⟩
  by_cases hbe : b = e
  · subst hbe; exact heo
  · exact ⟨u, k b u hbe q⟩
theorem Un.mono (u : Un fs ex H H1 h h1) (hs : ∀ b ∈ fs, b ∈ fs') (hx : ∀ b ∈ ex, b ∈ ex') : Un fs' ex' H H1 h h1 :=
  ⟨fun b ob q n hb he => u.keep b ob q n (fun z => hb (hs b z)) fun z => he (hx b z), fun _ _ q n _ he => u.any q n fun z => he (hx _ z), fun b ob q n he => u.free b ob q n fun z => he (hx b z), fun b ob q he => u.there b ob q fun z => he (hx b z), u.tups, u.frzs, u.tbls⟩
end

/-! ### the heap without what is tracked -/
def trk (h : Heap) (H : Hp) : List Addr := (List.range h.objs.size).filter fun a => (H a).isSome
def hidT (h : Heap) (H : Hp) : Heap := PySem.W.hideAll h (trk h H)
theorem hidT_size (h : Heap) (H : Hp) : (hidT h H).objs.size = h.objs.size := PySem.W.hideAll_size _ _
theorem hidT_get {h : Heap} {H : Hp} {b : Addr} {o : Obj} (e : h.get? b = some o) (n : H b = none) : (hidT h H).get? b = some o :=
  PySem.W.hideAll_get _ e fun hm => by
    have q : (H b).isSome = true := (List.mem_filter.mp hm).2
    rw [n] at q; simp at q
theorem of_hidT {h : Heap} {H : Hp} {b : Addr} {o : Obj} (e : (hidT h H).get? b = some o) : h.get? b = some o ∧ H b = none := by
  have e' : h.get? b = some o := PySem.W.of_hideAll (trk h H) e
  refine ⟨e', ?_⟩
  cases q : H b with
  | none => rfl
  | some x =>
    have hm : b ∈ trk h H := List.mem_filter.mpr ⟨List.mem_range.mpr (Heap.lt_size e'), by simp [q]⟩
    have z : (hidT h H).get? b = none := PySem.W.hideAll_none (trk h H) hm
    rw [z] at e; cases e

/-! ### OpenK's ledger, filled with every new object but one -/
def allNews (g h : Heap) (L : Addr) : List (Addr × Obj) := (List.range h.objs.size).filterMap fun a => if a = L ∨ (g.get? a).isSome = true then none else (h.get? a).map fun o => (a, o)
theorem mem_allNews {g h : Heap} {L a : Addr} {o : Obj} (h1 : a ≠ L) (h2 : g.get? a = none) (h3 : h.get? a = some o) : (a, o) ∈ allNews g h L :=
  List.mem_filterMap.mpr ⟨a, List.mem_range.mpr (Heap.lt_size h3), by simp [h1, h2, h3]⟩
theorem of_mem_allNews {g h : Heap} {L : Addr} {p : Addr × Obj} (hp : p ∈ allNews g h L) : p.1 ≠ L ∧ g.get? p.1 = none ∧ h.get? p.1 = some p.2 := by
  obtain ⟨b, _, e⟩ := List.mem_filterMap.mp hp
  split at e
  · cases e
  · rename_i hn
    cases q : h.get? b with
    | none => rw [q] at e; simp at e
    | some u =>
      rw [q] at e
      simp only [Option.map_some, Option.some.injEq] at e
      subst e
      refine ⟨fun z => hn (.inl z), ?_, q⟩
      show g.get? b = none
      cases r : g.get? b with
      | none => rfl
      | some v => exact (hn (.inr (by simp [r]))).elim
def rest (g h : Heap) (L d : Addr) : List (Addr × Obj) := (allNews g h L).filter fun p => decide (p.1 ≠ d)
theorem rest_ne {g h : Heap} {L d : Addr} : ∀ p ∈ rest g h L d, p.1 ≠ d := fun p hp => of_decide_eq_true (List.mem_filter.mp hp).2
theorem mem_rest {g h : Heap} {L d a : Addr} {o : Obj} (h1 : a ≠ L) (h2 : g.get? a = none) (h3 : h.get? a = some o) (h4 : a ≠ d) : (a, o) ∈ rest g h L d :=
  List.mem_filter.mpr ⟨mem_allNews h1 h2 h3, decide_eq_true h4⟩
theorem news_all {g h : Heap} {L : Addr} : News g L h (allNews g h L) := fun p hp => let ⟨a, b, c⟩ := of_mem_allNews hp; ⟨c, a, b⟩
theorem news_at {g h : Heap} {L d : Addr} {o : Obj} (h1 : d ≠ L) (h2 : g.get? d = none) (h3 : h.get? d = some o) : News g L h ((d, o) :: rest g h L d) := fun p hp => by
  rcases List.mem_cons.mp hp with rfl | hp
  · exact ⟨h3, h1, h2⟩
  · exact news_all p (List.mem_filter.mp hp).1
/-- behind a rule that changed d alone: all else but the frame is kept -/
theorem kept_of_news {g h h' : Heap} {L d : Addr} {m : Str → Option Value} (k : ∀ b o, g.get? b = some o → h.get? b = some o) (F : Fr g L h' m) (N : News g L h' (rest g h L d)) :
    ∀ b o, b ≠ L → b ≠ d → h.get? b = some o → h'.get? b = some o := fun b o h1 h2 e => by
  cases q : g.get? b with
  | some u =>
    have := k b u q
    rw [e] at this; cases this
    exact F.keep b _ q
  | none => exact (N (b, o) (mem_rest h1 q e h2)).1
end L2

namespace L2
open PySem PySem.Spec PyProof.Rows

/-- the module's facts, over the base: the heap at the law's entry without what is tracked there -/
structure Mod (K : PySem.W.Frag) (mg : Str → Option Value) (base : Heap) : Prop where
  kin : K.In base
  glob : base.Ns mainGlobals mg
  blt : ∃ mb, base.Ns builtinsNs mb ∧ ∀ x : Str, x ≠ "__name__" → mb x = bootBuiltins x
  nolimit : base.NoLimit

/-- the context: a def's body (or a comprehension's block) running. base: fixed through the whole law; s₀, H₀: the entry; outer: the frames whose slots others may change (a def's callers); stack: all frames that run;
   ex: iterators that were made ahead of the entry and are walked here (a comprehension's); fn: the names whose cells were made at the entry (a def: all; a comprehension's block: its own); calm: not within an except suite; pn: pins that every state bears; xe: what is wanted of an exception that leaves the code -/
structure Cx where
  prog : Program
  w : World
  K : PySem.W.Frag
  mg : Str → Option Value
  base : Heap
  A : Around
  N : List Str
  s₀ : Shared
  H₀ : Hp
  env : Env
  outer : List Env
  stack : List Env
  ex : List Addr
  fn : Str → Bool
  calm : Bool
  pn : List (Addr × Obj)
  xe : Value → Shared → Prop
/-- the callers' frames -/
def frs (l : List Env) : List Addr := l.filterMap (·.frame)
abbrev Cx.fs (X : Cx) : List Addr := frs X.outer

def Vis (sc : Scope) (x : Str) : Prop := sc.names.lookup x = some .local ∨ sc.names.lookup x = some .cell ∨ sc.names.lookup x = some .free
def Loc (sc : Scope) (x : Str) : Prop := sc.names.lookup x = some .local ∨ sc.names.lookup x = some .cell
def Look (env : Env) (h : Heap) (m : Str → Option Value) (x : Str) (u : Value) : Prop :=
  (env.kindOf x = some .local ∧ m x = some u) ∨ ((env.kindOf x = some .cell ∨ env.kindOf x = some .free) ∧ ∃ c, env.cells.lookup x = some c ∧ h.IsCell c (some u))

structure Cx.Ok (X : Cx) : Prop where
  mod : Mod X.K X.mg X.base
  kind : X.env.scope.kind = .function
  glob : X.env.globals = mainGlobals
  blt : X.env.builtins = builtinsNs
  above : X.s₀.heap.objs.size ≤ X.env.locals
  inj : ∀ x y c, X.env.cells.lookup x = some c → X.env.cells.lookup y = some c → x = y
  has : ∀ x, (X.env.kindOf x = some .cell ∨ X.env.kindOf x = some .free) → ∃ c, X.env.cells.lookup x = some c
  cab : ∀ x c, X.fn x = true → X.env.cells.lookup x = some c → X.s₀.heap.objs.size ≤ c
  hd : X.calm = true → X.A.handled = none
  frames : X.A.frames = some X.stack
  stk : X.stack = X.outer ∨ (X.stack = X.env :: X.outer ∧ X.env.frame = some X.env.locals)
  exf : ∀ b ∈ X.ex, b ≠ X.env.locals ∧ ∀ x c, X.env.cells.lookup x = some c → c ≠ b
  bs : ∀ b o, X.base.get? b = some o → X.s₀.heap.get? b = some o ∧ X.H₀ b = none
  bsz : X.base.objs.size ≤ X.s₀.heap.objs.size
  noex : ∀ b o, X.base.get? b = some o → b ∉ X.ex
  exfs : ∀ b ∈ X.ex, b ∉ X.fs
  funs : X.s₀.heap.FunFrames X.base X.outer
  frf : ∀ b ∈ X.fs, X.H₀ b = none

structure Inv (X : Cx) (pins : List (Addr × Obj)) (σ : List (Option V)) (H : Hp) (s : Shared) : Prop where
  ok : X.Ok
  os : s.os = X.s₀.os
  bare : AllBare s.gens
  base : Un X.fs X.ex X.H₀ H X.s₀.heap s.heap
  loc : ∃ m, s.heap.Ns X.env.locals m ∧ ∀ (i : Nat) (x : Str) (v : V), X.N[i]? = some x → σ[i]? = some (some v) → Vis X.env.scope x → ∃ u, RelV v u ∧ Look X.env s.heap m x u
  cell : ∀ x c, X.env.cells.lookup x = some c → ∃ v, s.heap.IsCell c v
  free : H X.env.locals = none
  freeC : ∀ x c, X.env.cells.lookup x = some c → H c = none
  pin : ∀ p ∈ X.pn ++ pins, s.heap.get? p.1 = some p.2 ∧ H p.1 = none ∧ p.1 ≠ X.env.locals ∧ p.1 ∉ X.fs ∧ ∀ v, p.2.data ≠ .cell v
  hok : HOk X.prog X.w H s.heap
  len : σ.length = X.N.length

section
variable {X : Cx} {pins : List (Addr × Obj)} {σ : List (Option V)} {H H' : Hp} {s : Shared} {h' : Heap}

theorem Cx.Ok.nofr (ok : X.Ok) {b : Addr} {o : Obj} (e : X.base.get? b = some o) : b ∉ X.fs := fun hb => by
  have := (ok.funs.mem hb).1
  rw [e] at this; cases this
theorem Inv.bs (I : Inv X pins σ H s) : ∀ b o, X.base.get? b = some o → s.heap.get? b = some o ∧ H b = none := fun b o e =>
  ⟨I.base.keep b o (I.ok.bs b o e).1 (I.ok.bs b o e).2 (I.ok.nofr e) (I.ok.noex b o e), I.base.free b o (I.ok.bs b o e).1 (I.ok.bs b o e).2 (I.ok.noex b o e)⟩
theorem Inv.bk (I : Inv X pins σ H s) : ∀ b o, X.base.get? b = some o → s.heap.get? b = some o := fun b o e => (I.bs b o e).1
theorem Inv.mod (I : Inv X pins σ H s) : Mod X.K X.mg X.base := I.ok.mod
theorem Inv.kIn (I : Inv X pins σ H s) : X.K.In s.heap := I.ok.mod.kin.keeps I.bk
theorem Inv.nolimit (I : Inv X pins σ H s) : s.heap.NoLimit := I.ok.mod.nolimit.keeps I.bk
/-- the frame over the base: for OpenK's rules (K.In X.base is I.mod.kin) -/
theorem Inv.fr (I : Inv X pins σ H s) : ∃ m, Fr X.base X.env.locals s.heap m :=
  let ⟨m, hn, _⟩ := I.loc
  ⟨m, hn, I.bk, Nat.le_trans I.ok.bsz I.ok.above⟩
theorem Inv.lt (I : Inv X pins σ H s) : X.env.locals < s.heap.objs.size := let ⟨_, hn, _⟩ := I.loc; hn.lt
theorem Inv.sz (I : Inv X pins σ H s) : X.s₀.heap.objs.size ≤ s.heap.objs.size := Nat.le_trans I.ok.above (Nat.le_of_lt I.lt)
theorem Inv.nofs (I : Inv X pins σ H s) {a : Addr} (h : s.heap.objs.size ≤ a) : a ∉ X.fs := fun hb => by
  obtain ⟨_, o, ho, _⟩ := I.ok.funs.mem hb
  exact absurd (Nat.lt_of_lt_of_le (Heap.lt_size ho) (Nat.le_trans I.sz h)) (Nat.lt_irrefl _)
theorem Inv.cne (I : Inv X pins σ H s) : ∀ x c, X.env.cells.lookup x = some c → c ≠ X.env.locals := fun x c e z => by
  obtain ⟨v, o, ho, hd⟩ := I.cell x c e
  obtain ⟨m, ⟨o', es, ep, ho', hd', _⟩, _⟩ := I.loc
  rw [z, ho'] at ho; cases ho; rw [hd'] at hd; cases hd
theorem Inv.funs (I : Inv X pins σ H s) : s.heap.FunFrames X.base X.outer := by
  have all : ∀ (l : List Env), (∀ b ∈ frs l, b ∈ X.fs) → X.s₀.heap.FunFrames X.base l → s.heap.FunFrames X.base l := by
    intro l
    induction l with
    | nil => intro _ _; trivial
    | cons env r ih =>
      intro hs hl
      obtain ⟨hk, ⟨L, o, hf, hn, ho, hd⟩, hr⟩ := hl
      have hL : L ∈ X.fs := hs L (by unfold frs; rw [List.filterMap_cons, hf]; exact List.mem_cons_self)
      obtain ⟨sl, e⟩ := I.base.slot L o ho (I.ok.frf L hL) hL fun z => I.ok.exfs L z hL
      exact ⟨hk, ⟨L, _, hf, hn, e, hd⟩, ih (fun b hb => hs b (by unfold frs; rw [List.filterMap_cons, hf]; exact List.mem_cons_of_mem _ hb)) hr⟩
  exact all X.outer (fun _ hb => hb) I.ok.funs

/-- the frames that run, for a call -/
theorem Inv.stack (I : Inv X pins σ H s) : s.heap.FunFrames X.base X.stack := by
  rcases I.ok.stk with e | ⟨e, hf⟩
  · rw [e]; exact I.funs
  · rw [e]
    obtain ⟨m, hn, _⟩ := I.loc
    refine .cons (by rw [I.ok.kind]; decide) hf hn ?_ I.funs
    exact Heap.get?_none_of_le (Nat.le_trans I.ok.bsz I.ok.above)
theorem Inv.stkSub (I : Inv X pins σ H s) : ∀ b ∈ frs X.stack, b ∈ X.env.locals :: X.fs := fun b hb => by
  rcases I.ok.stk with e | ⟨e, hf⟩
  · rw [e] at hb; exact List.mem_cons_of_mem _ hb
  · rw [e] at hb
    unfold frs at hb
    rw [List.filterMap_cons, hf] at hb
    exact hb
theorem Inv.stkFree (I : Inv X pins σ H s) : ∀ b ∈ frs X.stack, H b = none := fun b hb => by
  rcases List.mem_cons.mp (I.stkSub b hb) with e | hb
  · rw [e]; exact I.free
  · obtain ⟨_, o, ho, _⟩ := I.ok.funs.mem hb
    exact I.base.free b o ho (I.ok.frf b hb) fun z => I.ok.exfs b z hb

/-- THE STEP: the untracked objects but the frame and the records at ch are kept (the callers' frames up to slots), the frame's map is kept, the new abstract heap is held -/
theorem Inv.step {g' : Array GenState} {t' : Nat} {d' : Drawn} {ch : List Addr} (I : Inv X pins σ H s)
    (hch : ∀ b ∈ ch, (b ∈ X.ex ∨ X.s₀.heap.objs.size ≤ b) ∧ b ≠ X.env.locals ∧ (∀ x c, X.env.cells.lookup x = some c → c ≠ b) ∧ ∀ p ∈ X.pn ++ pins, p.1 ≠ b)
    (keep : ∀ b o, b ≠ X.env.locals → b ∉ X.fs → b ∉ ch → s.heap.get? b = some o → H b = none → h'.get? b = some o)
    (slot : ∀ b o, b ≠ X.env.locals → b ∈ X.fs → b ∉ ch → s.heap.get? b = some o → H b = none → ∃ sl, h'.get? b = some { o with slots := sl }) (free : ∀ b o, b ∉ ch → s.heap.get? b = some o → H b = none → H' b = none)
    (there : ∀ b o, b ∉ ch → s.heap.get? b = some o → ∃ o', h'.get? b = some o')
    (tups : ∀ b xs, H b = some (.tup xs) → H' b = some (.tup xs)) (frzs : ∀ b o u, H b = some (.frz o u) → H' b = some (.frz o u)) (tbls : ∀ b ps, H b = some (.tbl ps) → ∃ more, H' b = some (.tbl (ps ++ more)))
    (ns : ∀ m, s.heap.Ns X.env.locals m → h'.Ns X.env.locals m) (hok : HOk X.prog X.w H' h') (hg : AllBare g') :
    Inv X pins σ H' { s with heap := h', gens := g', drawn := d', toks := t' } := by
  have neL : ∀ b o, X.s₀.heap.get? b = some o → b ≠ X.env.locals := fun b o e => Nat.ne_of_lt (Nat.lt_of_lt_of_le (Heap.lt_size e) I.ok.above)
  have neC : ∀ b o, X.s₀.heap.get? b = some o → b ∉ X.ex → b ∉ ch := fun b o e hx hb => by
    rcases (hch b hb).1 with z | z
    · exact hx z
    · exact absurd (Nat.lt_of_lt_of_le (Heap.lt_size e) z) (Nat.lt_irrefl _)
  have cellK : ∀ x c, X.env.cells.lookup x = some c → ∀ v, s.heap.IsCell c v → h'.IsCell c v := fun x c e v ⟨o, ho, hd⟩ => by
    have nch : c ∉ ch := fun z => (hch c z).2.2.1 x c e rfl
    by_cases hc : c ∈ X.fs
    · obtain ⟨sl, q⟩ := slot c o (I.cne x c e) hc nch ho (I.freeC x c e)
      exact ⟨_, q, hd⟩
    · exact ⟨o, keep c o (I.cne x c e) hc nch ho (I.freeC x c e), hd⟩
  refine ⟨I.ok, I.os, hg, ⟨fun b o e n hb hx => ?_, fun b o e n hb hx => ?_, fun b o e n hx => ?_, fun b o e hx => ?_, fun b xs e => tups b xs (I.base.tups b xs e), fun b o xs e => frzs b o xs (I.base.frzs b o xs e), fun b ps e => ?_⟩, ?_, fun x c e => ?_, ?_, fun x c e => ?_, fun p hp => ?_, hok, I.len⟩
  · exact keep b o (neL b o e) hb (neC b o e hx) (I.base.keep b o e n hb hx) (I.base.free b o e n hx)
  · obtain ⟨sl, e1⟩ := I.base.slot b o e n hb hx
    obtain ⟨sl', e2⟩ := slot b _ (neL b o e) hb (neC b o e hx) e1 (I.base.free b o e n hx)
    exact ⟨sl', e2⟩
  · obtain ⟨o', e1⟩ := I.base.there b o e hx
    exact free b o' (neC b o e hx) e1 (I.base.free b o e n hx)
  · obtain ⟨o', e1⟩ := I.base.there b o e hx
    exact there b o' (neC b o e hx) e1
  · obtain ⟨m1, e1⟩ := I.base.tbls b ps e
    obtain ⟨m2, e2⟩ := tbls b _ e1
    exact ⟨m1 ++ m2, by rw [e2, Array.append_assoc]⟩
  · obtain ⟨m, hn, hl⟩ := I.loc
    refine ⟨m, ns m hn, fun i x v e1 e2 e3 => ?_⟩
    obtain ⟨u, r, l⟩ := hl i x v e1 e2 e3
    refine ⟨u, r, ?_⟩
    rcases l with l | ⟨k, c, e, z⟩
    · exact .inl l
    · exact .inr ⟨k, c, e, cellK x c e _ z⟩
  · obtain ⟨v, z⟩ := I.cell x c e
    exact ⟨v, cellK x c e v z⟩
  · obtain ⟨m, ⟨o, _, _, ho, _⟩, _⟩ := I.loc
    exact free _ o (fun z => (hch _ z).2.1 rfl) ho I.free
  · obtain ⟨v, o, ho, hd⟩ := I.cell x c e
    exact free c o (fun z => (hch c z).2.2.1 x c e rfl) ho (I.freeC x c e)
  · obtain ⟨e, n, ne, nf, d⟩ := I.pin p hp
    have nch : p.1 ∉ ch := fun z => (hch p.1 z).2.2.2 p hp rfl
    exact ⟨keep p.1 p.2 ne nf nch e n, free p.1 p.2 nch e n, ne, nf, d⟩
/-- .. where the frame's own object is kept too -/
theorem Inv.un {t' : Nat} (I : Inv X pins σ H s) (u : Un X.fs [] H H' s.heap h') (hok : HOk X.prog X.w H' h') : Inv X pins σ H' { s with heap := h', toks := t' } := by
  obtain ⟨m, ⟨o, es, ep, ho, r⟩, _⟩ := id I.loc
  obtain ⟨sl, hL⟩ := u.any ho I.free (by simp)
  exact I.step (g' := s.gens) (d' := s.drawn) (ch := []) (fun _ z => nomatch z) (fun b o _ hb _ e n => u.keep b o e n hb (by simp)) (fun b o _ hb _ e n => u.slot b o e n hb (by simp)) (fun b o _ e n => u.free b o e n (by simp)) (fun b o _ e => u.there b o e (by simp)) u.tups u.frzs u.tbls (fun m' hm => by
    obtain ⟨o', es', ep', ho', r'⟩ := hm
    rw [ho] at ho'; cases ho'
    exact ⟨_, es', ep', hL, r'⟩) hok I.bare
/-- behind a call (or a comprehension's block): the slots of this frame may have changed too, the records at ch may have turned -/
theorem Inv.call {g' : Array GenState} {t' : Nat} {d' : Drawn} {ch : List Addr} (I : Inv X pins σ H s) (u : Un (frs X.stack) ch H H' s.heap h') (hok : HOk X.prog X.w H' h') (hg : AllBare g')
    (hch : ∀ b ∈ ch, (b ∈ X.ex ∨ X.s₀.heap.objs.size ≤ b) ∧ b ≠ X.env.locals ∧ (∀ x c, X.env.cells.lookup x = some c → c ≠ b) ∧ ∀ p ∈ X.pn ++ pins, p.1 ≠ b) :
    Inv X pins σ H' { s with heap := h', gens := g', drawn := d', toks := t' } := by
  obtain ⟨m, ⟨o, es, ep, ho, r⟩, _⟩ := id I.loc
  obtain ⟨sl, hL⟩ := u.any ho I.free fun z => (hch _ z).2.1 rfl
  exact I.step (ch := ch) hch (fun b o hL hb hc e n => u.keep b o e n (fun z => (List.mem_cons.mp (I.stkSub b z)).elim hL hb) hc) (fun b o _ _ hc e n => u.any e n hc) (fun b o hc e n => u.free b o e n hc) (fun b o hc e => u.there b o e hc) u.tups u.frzs u.tbls (fun m' hm => by
    obtain ⟨o', es', ep', ho', r'⟩ := hm
    rw [ho] at ho'; cases ho'
    exact ⟨_, es', ep', hL, r'⟩) hok hg
/-- an untracked record of ours (an iterator) has turned -/
theorem Inv.turned {t' : Nat} {it : Addr} (I : Inv X pins σ H s) (k : ∀ b o, b ≠ it → s.heap.get? b = some o → h'.get? b = some o) (hn : H it = none) (hL : it ≠ X.env.locals)
    (h1 : it ∈ X.ex ∨ X.s₀.heap.objs.size ≤ it) (h2 : ∀ x c, X.env.cells.lookup x = some c → c ≠ it) (h3 : ∀ p ∈ X.pn ++ pins, p.1 ≠ it) : Inv X pins σ H { s with heap := h', toks := t' } := by
  have nit : ∀ b u, H b = some u → b ≠ it := fun b u e z => by rw [z, hn] at e; cases e
  refine I.step (g' := s.gens) (d' := s.drawn) (ch := [it]) (fun b hb => ?_) (fun b o _ _ hc e _ => k b o (fun z => hc (by simp [z])) e) (fun b o _ _ hc e _ => ⟨o.slots, k b o (fun z => hc (by simp [z])) e⟩) (fun _ _ _ _ n => n)
    (fun b o hc e => ⟨o, k b o (fun z => hc (by simp [z])) e⟩) (fun _ _ e => e) (fun _ _ _ e => e) (fun b ps e => ⟨#[], by rw [e]; simp⟩) (fun m hm => ?_) (fun b u e => ?_) I.bare
  · have e : b = it := by simpa using hb
    subst e
    exact ⟨h1, hL, h2, h3⟩
  · obtain ⟨o, es, ep, ho, r⟩ := hm
    exact ⟨o, es, ep, k _ o (Ne.symm hL) ho, r⟩
  · refine (I.hok b u e).stay (fun c v hc q => k c v ?_ q) (fun _ q => q) fun _ _ q => q
    rcases hc with z | z
    · rw [z]; exact nit b u e
    · exact nit c _ z
theorem Inv.tok (I : Inv X pins σ H s) (t : Nat) : Inv X pins σ H { s with toks := t } := I.un (h' := s.heap) (t' := t) Un.refl I.hok
/-- all objects kept -/
theorem Inv.kept {t' : Nat} (I : Inv X pins σ H s) (k : ∀ b u, s.heap.get? b = some u → h'.get? b = some u) : Inv X pins σ H { s with heap := h', toks := t' } := I.un (Un.kept k) (I.hok.kept k)
/-- a new object laid and tracked -/
theorem Inv.laid {a : Addr} {o : HO} {t' : Nat} (I : Inv X pins σ H s) (k : ∀ b u, s.heap.get? b = some u → h'.get? b = some u) (hp : s.heap.objs.size ≤ a) (new : ObjOk X.prog X.w (upd H a o) h' a o) :
    Inv X pins σ (upd H a o) { s with heap := h', toks := t' } := I.un (Un.laid k hp (I.hok.fresh hp)) (I.hok.laid k hp new)
/-- an object written -/
theorem Inv.write {x e : Addr} {o : HO} {t' : Nat} (I : Inv X pins σ H s) (mu : Mut (H x)) (he : e = x ∨ H e = some (.own x)) (k : ∀ b u, b ≠ e → s.heap.get? b = some u → h'.get? b = some u) (heo : ∃ u, h'.get? e = some u)
    (new : ObjOk X.prog X.w (upd H x o) h' x o) : Inv X pins σ (upd H x o) { s with heap := h', toks := t' } := I.un (Un.write mu he k heo) (I.hok.write mu he k heo new)
/-- forgetting slots, pins -/
theorem Inv.weak {σ' : List (Option V)} (I : Inv X pins σ H s) (hl : σ'.length = σ.length) (w : ∀ (i : Nat) v, σ'[i]? = some (some v) → σ[i]? = some (some v)) : Inv X pins σ' H s :=
  ⟨I.ok, I.os, I.bare, I.base, let ⟨m, hn, hl'⟩ := I.loc; ⟨m, hn, fun i x v e1 e2 e3 => hl' i x v e1 (w i v e2) e3⟩, I.cell, I.free, I.freeC, I.pin, I.hok, hl.trans I.len⟩
theorem Inv.pins_of {pins' : List (Addr × Obj)} (I : Inv X pins σ H s) (h : ∀ p ∈ pins', s.heap.get? p.1 = some p.2 ∧ H p.1 = none ∧ p.1 ≠ X.env.locals ∧ p.1 ∉ X.fs ∧ ∀ v, p.2.data ≠ .cell v) : Inv X pins' σ H s :=
  ⟨I.ok, I.os, I.bare, I.base, I.loc, I.cell, I.free, I.freeC, fun p hp => (List.mem_append.mp hp).elim (fun z => I.pin p (List.mem_append_left _ z)) (h p), I.hok, I.len⟩

theorem nodup_ix {N : List Str} (hN : N.Nodup) {i j : Nat} {x : Str} (a : N[i]? = some x) (b : N[j]? = some x) : i = j := by
  obtain ⟨h1, e1⟩ := List.getElem?_eq_some_iff.mp a
  obtain ⟨h2, e2⟩ := List.getElem?_eq_some_iff.mp b
  exact (List.getElem_inj hN).mp (e1.trans e2.symm)

/-- a name is stored; what changed -/
theorem store_ok2 {M : Model} {A : Around} {E : Value → Shared → Prop} {i : Nat} {x : Str} {v : V} {u : Value} {Q : Unit → Shared → Prop} (I : Inv X pins σ H s) (hN : X.N.Nodup) (hi : X.N[i]? = some x) (hx : Loc X.env.scope x) (r : RelV v u)
    (h : ∀ s', Inv X pins (σ.set i (some v)) H s' → (∃ a, Heap.SameBut a s.heap s'.heap ∧ (a = X.env.locals ∨ X.env.cells.lookup x = some a)) → Q () s') (hf : X.fn x = true ∨ X.env.scope.names.lookup x = some .local := by first | exact .inl rfl | exact .inr rfl | assumption) : wpAny M A (storeName X.env x u) Q E s := by
  obtain ⟨m, hn, hl⟩ := id I.loc
  have hcls : (X.env.scope.kind == .class || (X.env.scope.kind == .module && X.env.locals != X.env.globals)) = false := by rw [I.ok.kind]; rfl
  have hiσ : i < σ.length := by rw [I.len]; exact (List.getElem?_eq_some_iff.mp hi).1
  have cne := I.cne
  have tracked : ∀ {a : Addr} {h' : Heap}, (∃ o, s.heap.get? a = some o ∧ H a = none) → Heap.SameBut a s.heap h' → HOk X.prog X.w H h' := fun {a h'} ha hs b ob e => by
    obtain ⟨_, _, hfree⟩ := ha
    refine (I.hok b ob e).stay (fun c w' hc q => (hs.2 c ?_).trans q) (fun _ q => q) fun _ _ q => q
    rintro rfl
    rcases hc with rfl | hc
    · rw [hfree] at e; cases e
    · rw [hfree] at hc; cases hc
  rcases hx with hk | hk
  · refine wpAny_storeName_local hk hn (fun h' hn' hs => ?_) hcls
    obtain ⟨oL, _, _, hoL, _⟩ := id hn
    refine h _ ⟨I.ok, I.os, I.bare, ⟨fun b o e n hb hx => ?_, fun b o e n hb hx => ?_, I.base.free, fun b o e hx => ?_, I.base.tups, I.base.frzs, I.base.tbls⟩, ⟨_, hn', fun j y v' e1 e2 e3 => ?_⟩, fun y c e => ?_, I.free, I.freeC, fun p hp => ?_, tracked ⟨oL, hoL, I.free⟩ hs, by simpa using I.len⟩ ⟨_, hs, .inl rfl⟩
    · exact (hs.2 b (Nat.ne_of_lt (Nat.lt_of_lt_of_le (Heap.lt_size e) I.ok.above))).trans (I.base.keep b o e n hb hx)
    · obtain ⟨sl, e1⟩ := I.base.slot b o e n hb hx
      exact ⟨sl, (hs.2 b (Nat.ne_of_lt (Nat.lt_of_lt_of_le (Heap.lt_size e) I.ok.above))).trans e1⟩
    · obtain ⟨o', e1⟩ := I.base.there b o e hx
      exact ⟨o', (hs.2 b (Nat.ne_of_lt (Nat.lt_of_lt_of_le (Heap.lt_size e) I.ok.above))).trans e1⟩
    · by_cases hj : j = i
      · subst hj
        rw [hi] at e1; cases e1
        rw [List.getElem?_set_self hiσ] at e2
        cases e2
        exact ⟨u, r, .inl ⟨hk, by simp⟩⟩
      · rw [List.getElem?_set_ne (Ne.symm hj)] at e2
        obtain ⟨u', r', q⟩ := hl j y v' e1 e2 e3
        refine ⟨u', r', ?_⟩
        rcases q with ⟨k, e⟩ | ⟨k, c, e, z⟩
        · refine .inl ⟨k, ?_⟩
          have : y ≠ x := fun e => hj (nodup_ix hN e1 (e ▸ hi))
          simp [this, e]
        · exact .inr ⟨k, c, e, z.sameBut hs (cne y c e)⟩
    · obtain ⟨w', z⟩ := I.cell y c e
      exact ⟨w', z.sameBut hs (cne y c e)⟩
    · obtain ⟨e, n, ne, nf, d⟩ := I.pin p hp
      exact ⟨(hs.2 p.1 ne).trans e, n, ne, nf, d⟩
  · have hfn : X.fn x = true := by
      rcases hf with z | z
      · exact z
      · rw [z] at hk; cases hk
    obtain ⟨c, hc⟩ := I.ok.has x (.inl hk)
    obtain ⟨w', z⟩ := I.cell x c hc
    refine wpAny_storeName_cell I.ok.kind hk hc z (fun h' hc' hs => ?_)
    obtain ⟨oc, hoc, hocd⟩ := id z
    refine h { s with heap := h' } ⟨I.ok, I.os, I.bare, ⟨fun b o e n hb hx => ?_, fun b o e n hb hx => ?_, I.base.free, fun b o e hx => ?_, I.base.tups, I.base.frzs, I.base.tbls⟩, ⟨m, hn.sameBut hs (Ne.symm (cne x c hc)), fun j y v' e1 e2 e3 => ?_⟩, fun y c' e => ?_, I.free, I.freeC, fun p hp => ?_, tracked ⟨oc, hoc, I.freeC x c hc⟩ hs, by simpa using I.len⟩ ⟨c, hs, .inr hc⟩
    · exact (hs.2 b (Nat.ne_of_lt (Nat.lt_of_lt_of_le (Heap.lt_size e) (I.ok.cab x c hfn hc)))).trans (I.base.keep b o e n hb hx)
    · obtain ⟨sl, e1⟩ := I.base.slot b o e n hb hx
      exact ⟨sl, (hs.2 b (Nat.ne_of_lt (Nat.lt_of_lt_of_le (Heap.lt_size e) (I.ok.cab x c hfn hc)))).trans e1⟩
    · obtain ⟨o', e1⟩ := I.base.there b o e hx
      exact ⟨o', (hs.2 b (Nat.ne_of_lt (Nat.lt_of_lt_of_le (Heap.lt_size e) (I.ok.cab x c hfn hc)))).trans e1⟩
    · by_cases hj : j = i
      · subst hj
        rw [hi] at e1; cases e1
        rw [List.getElem?_set_self hiσ] at e2
        cases e2
        exact ⟨u, r, .inr ⟨.inl hk, c, hc, hc'⟩⟩
      · rw [List.getElem?_set_ne (Ne.symm hj)] at e2
        obtain ⟨u', r', q⟩ := hl j y v' e1 e2 e3
        refine ⟨u', r', ?_⟩
        rcases q with q | ⟨k, c', e, z'⟩
        · exact .inl q
        · refine .inr ⟨k, c', e, z'.sameBut hs ?_⟩
          rintro rfl
          exact hj (nodup_ix hN e1 (I.ok.inj _ _ _ e hc ▸ hi))
    · by_cases hcc : c' = c
      · subst hcc; exact ⟨_, hc'⟩
      · obtain ⟨w2, z2⟩ := I.cell y c' e
        exact ⟨w2, z2.sameBut hs hcc⟩
    · obtain ⟨e, n, ne, nf, d⟩ := I.pin p hp
      refine ⟨(hs.2 p.1 ?_).trans e, n, ne, nf, d⟩
      intro q
      rw [q, hoc] at e
      have q' : oc = p.2 := Option.some.inj e
      exact d w' (by rw [← q']; exact hocd)
theorem store_ok {M : Model} {A : Around} {E : Value → Shared → Prop} {i : Nat} {x : Str} {v : V} {u : Value} {Q : Unit → Shared → Prop} (I : Inv X pins σ H s) (hN : X.N.Nodup) (hi : X.N[i]? = some x) (hx : Loc X.env.scope x) (r : RelV v u)
    (h : ∀ s', Inv X pins (σ.set i (some v)) H s' → Q () s') (hf : X.fn x = true ∨ X.env.scope.names.lookup x = some .local := by first | exact .inl rfl | exact .inr rfl | assumption) : wpAny M A (storeName X.env x u) Q E s :=
  store_ok2 I hN hi hx r (fun s' I' _ => h s' I') hf
/-- behind a call or a block, the state as it is -/
theorem Inv.call' {s' : Shared} {ch : List Addr} (I : Inv X pins σ H s) (ho : s'.os = s.os) (u : Un (frs X.stack) ch H H' s.heap s'.heap) (hok : HOk X.prog X.w H' s'.heap) (hg : AllBare s'.gens)
    (hch : ∀ b ∈ ch, (b ∈ X.ex ∨ X.s₀.heap.objs.size ≤ b) ∧ b ≠ X.env.locals ∧ (∀ x c, X.env.cells.lookup x = some c → c ≠ b) ∧ ∀ p ∈ X.pn ++ pins, p.1 ≠ b) : Inv X pins σ H' s' := by
  obtain ⟨h', g', d', t', o'⟩ := s'
  have e : o' = s.os := ho
  subst e
  exact I.call (g' := g') (t' := t') (d' := d') u hok hg hch
end

/-! ### the judgements -/
/-- an exception: its class, its own dict's address (where it has one), the abstract heap behind it -/
abbrev XK := Value → Option Addr → Hp → Prop
abbrev St := List (Option V)
abbrev VK := V → Hp → Prop
/-- an expression's reading; a test's; an argument list's -/
abbrev TE := St → Hp → VK → Prop
abbrev TT := St → Hp → (Bool → Hp → Prop) → Prop
abbrev TA := St → Hp → (List V → Hp → Prop) → Prop
/-- what is wanted behind a statement -/
structure Ends where
  nx : St → Hp → Prop
  rt : VK
  bk : St → Hp → Prop := fun _ _ => False
  ct : St → Hp → Prop := fun _ _ => False
abbrev TS := Ends → St → Hp → Prop

def EP (X : Cx) (pins : List (Addr × Obj)) (σ : St) (Q : VK) (u : Value) (s' : Shared) : Prop := ∃ v H', Inv X pins σ H' s' ∧ RelV v u ∧ Q v H'
def TP (X : Cx) (pins : List (Addr × Obj)) (σ : St) (Q : Bool → Hp → Prop) (b : Bool) (s' : Shared) : Prop := ∃ H', Inv X pins σ H' s' ∧ Q b H'
def AP (X : Cx) (pins : List (Addr × Obj)) (σ : St) (Q : List V → Hp → Prop) (us : List Value) (s' : Shared) : Prop := ∃ vs H', Inv X pins σ H' s' ∧ Vals vs us ∧ Q vs H'
def SP (X : Cx) (pins : List (Addr × Obj)) (D : Ends) (f : Flow) (s' : Shared) : Prop :=
  match f with
  | .next => ∃ σ' H', Inv X pins σ' H' s' ∧ D.nx σ' H'
  | .brk => ∃ σ' H', Inv X pins σ' H' s' ∧ D.bk σ' H'
  | .cont => ∃ σ' H', Inv X pins σ' H' s' ∧ D.ct σ' H'
  | .ret u => ∃ v σ' H', Inv X pins σ' H' s' ∧ RelV v u ∧ D.rt v H'

def PE (X : Cx) (e : Expr) (t : TE) : Prop :=
  ∀ (pins : List (Addr × Obj)) (s : Shared) (σ : St) (H : Hp) (Q : VK), Inv X pins σ H s → t σ H Q → wpAny (model X.prog X.w) X.A (eval e X.env) (EP X pins σ Q) X.xe s
def PT (X : Cx) (e : Expr) (t : TT) : Prop :=
  ∀ (pins : List (Addr × Obj)) (s : Shared) (σ : St) (H : Hp) (Q : Bool → Hp → Prop), Inv X pins σ H s → t σ H Q → wpAny (model X.prog X.w) X.A (isTrue e X.env (eval e X.env)) (TP X pins σ Q) X.xe s
/-- a test whatever its 'whole' is (and, or) -/
def PW (X : Cx) (e : Expr) (t : TT) : Prop :=
  ∀ (whole : Sem Value) (pins : List (Addr × Obj)) (s : Shared) (σ : St) (H : Hp) (Q : Bool → Hp → Prop), Inv X pins σ H s → t σ H Q → wpAny (model X.prog X.w) X.A (isTrue e X.env whole) (TP X pins σ Q) X.xe s
theorem PW.pt {X : Cx} {e : Expr} {t : TT} (h : PW X e t) : PT X e t := h _
/-- an argument list (no star), from the left -/
def PA (X : Cx) (es : List Expr) (t : TA) : Prop :=
  ∀ (pos : Pos) (pins : List (Addr × Obj)) (s : Shared) (σ : St) (H : Hp) (Q : List V → Hp → Prop), Inv X pins σ H s → t σ H Q → wpAny (model X.prog X.w) X.A (spliced (backTo pos (starEach es X.env))) (AP X pins σ Q) X.xe s
def PS (X : Cx) (st : Stmt) (t : TS) : Prop :=
  ∀ (pins : List (Addr × Obj)) (s : Shared) (σ : St) (H : Hp) (D : Ends), Inv X pins σ H s → t D σ H → wpAny (model X.prog X.w) X.A (exec st X.env) (SP X pins D) X.xe s
def PSs (X : Cx) (st : List Stmt) (t : TS) : Prop :=
  ∀ (pins : List (Addr × Obj)) (s : Shared) (σ : St) (H : Hp) (D : Ends), Inv X pins σ H s → t D σ H → wpAny (model X.prog X.w) X.A (execs st X.env) (SP X pins D) X.xe s
/-- weaken the end -/
theorem thn {α : Type} {t : Sem α} {Q Q' : α → Shared → Prop} {M : Model} {A : Around} {E : Value → Shared → Prop} {s : Shared} (h : wpAny M A t Q E s) (hQ : ∀ a s, Q a s → Q' a s) : wpAny M A t Q' E s := wpAny_mono h hQ fun _ _ x => x
end L2

namespace L2
open PySem PySem.Spec PyProof.Rows
section
variable {X : Cx}

/-- two expressions in a row -/
theorem bin {a b : Expr} {ta tb : TE} (ha : PE X a ta) (hb : PE X b tb) {pins : List (Addr × Obj)} {s : Shared} {σ : St} {H : Hp} {R : V → V → Hp → Prop} (I : Inv X pins σ H s) (h : ta σ H fun x H1 => tb σ H1 fun y H2 => R x y H2)
    {α : Type} {Q : α → Shared → Prop} {f : Value → Value → Sem α}
    (hf : ∀ v u s2 x y H2, Inv X pins σ H2 s2 → RelV x v → RelV y u → R x y H2 → wpAny (model X.prog X.w) X.A (f v u) Q X.xe s2) :
    wpAny (model X.prog X.w) X.A (eval a X.env) (fun v s₁ => wpAny (model X.prog X.w) X.A (eval b X.env) (fun u s₂ => wpAny (model X.prog X.w) X.A (f v u) Q X.xe s₂) X.xe s₁) X.xe s := by
  refine thn (ha pins s σ H _ I h) fun v s1 ⟨x, H1, I1, r1, q1⟩ => ?_
  refine thn (hb pins s1 σ H1 _ I1 q1) fun u s2 ⟨y, H2, I2, r2, q2⟩ => ?_
  exact hf v u s2 x y H2 I2 r1 r2 q2

/-! ### names and constants -/
def tVar (i : Nat) : TE := fun σ H Q => ∃ v, σ[i]? = some (some v) ∧ Q v H
def tC (v : V) : TE := fun _ H Q => Q v H
theorem pe_var {i : Nat} {x : Str} {pos : Pos} (hN : X.N[i]? = some x) (hv : Vis X.env.scope x) (hd : (x == ("__debug__" : Str)) = false := by decide) (hcd : (x == ("__classdict__" : Str)) = false := by decide) : PE X (.Name x pos) (tVar i) := by
  intro pins s σ H Q I h
  obtain ⟨v, e, h⟩ := h
  obtain ⟨m, hn, hl⟩ := I.loc
  obtain ⟨u, r, l⟩ := hl i x v hN e hv
  have fin : EP X pins σ Q u s := ⟨v, H, I, r, h⟩
  rcases l with ⟨hk, hm⟩ | ⟨hk, c, hc, hcell⟩
  · exact wpAny_Name (wpAny_loadName_local I.ok.kind hk hn hm fin) hd
  · rcases hk with hk | hk
    · exact wpAny_Name (wpAny_loadName_cell I.ok.kind hk hc hcell fin) hd
    · exact wpAny_Name (wpAny_loadName_free I.ok.kind hk hc hcell fin hcd) hd
theorem pe_int {i j pos} : PE X (.Constant (.int i) j pos) (tC (.int i)) := fun _ _ _ H _ I h => wpAny_Constant_int ⟨.int i, H, I.tok _, ⟨_, rfl⟩, h⟩
theorem pe_bl {b j pos} : PE X (.Constant (.bool b) j pos) (tC (.bl b)) := fun _ _ _ H _ I h => Constant_bool ⟨.bl b, H, I, rfl, h⟩
theorem pe_non {j pos} : PE X (.Constant .none j pos) (tC .non) := fun _ _ _ H _ I h => Constant_none ⟨.non, H, I, rfl, h⟩
theorem pe_str {x j pos} : PE X (.Constant (.str x) j pos) (tC (.str x)) := fun _ _ _ H _ I h => Calls.Constant_str ⟨.str x, H, I.tok _, ⟨_, rfl⟩, h⟩

/-- a global name of the def -/
def Gl (X : Cx) (x : Str) : Prop := X.env.kindOf x = some .globalImplicit
theorem ld_glob {E : Value → Shared → Prop} {pins : List (Addr × Obj)} {s : Shared} {σ : St} {H : Hp} {x : Str} {u : Value} {pos : Pos} {Q : Value → Shared → Prop} (I : Inv X pins σ H s) (hg : Gl X x) (hm : X.mg x = some u) (h : Q u s)
    (hd : (x == ("__debug__" : Str)) = false := by decide) : wpAny (model X.prog X.w) X.A (eval (.Name x pos) X.env) Q E s :=
  Calls.Name_function_global I.ok.kind hg (Calls.loadGlobal_global (by rw [I.ok.glob]; exact I.mod.glob.keeps I.bk) hm h) hd
theorem ld_blt {E : Value → Shared → Prop} {pins : List (Addr × Obj)} {s : Shared} {σ : St} {H : Hp} {x : Str} {u : Value} {pos : Pos} {Q : Value → Shared → Prop} (I : Inv X pins σ H s) (hg : Gl X x) (hm : X.mg x = none) (hv : bootBuiltins x = some u) (h : Q u s)
    (hn : x ≠ "__name__" := by decide) (hd : (x == ("__debug__" : Str)) = false := by decide) : wpAny (model X.prog X.w) X.A (eval (.Name x pos) X.env) Q E s := by
  obtain ⟨mb, h1, h2⟩ := I.mod.blt
  exact Calls.Name_function_global I.ok.kind hg (Calls.loadGlobal_builtin (by rw [I.ok.glob]; exact I.mod.glob.keeps I.bk) hm (by rw [I.ok.blt]; exact h1.keeps I.bk) ((h2 x hn).trans hv) h) hd
/-- a module's constant, a class, a function, as a value -/
theorem pe_glob {x : Str} {v : V} {u : Value} {pos : Pos} (hg : Gl X x) (hm : X.mg x = some u) (r : RelV v u) (hd : (x == ("__debug__" : Str)) = false := by decide) : PE X (.Name x pos) (tC v) :=
  fun _ _ _ H _ I h => ld_glob I hg hm ⟨v, H, I, r, h⟩ hd
theorem pe_bltn {x : Str} {v : V} {u : Value} {pos : Pos} (hg : Gl X x) (hm : X.mg x = none) (hv : bootBuiltins x = some u) (r : RelV v u) (hn : x ≠ "__name__" := by decide) (hd : (x == ("__debug__" : Str)) = false := by decide) : PE X (.Name x pos) (tC v) :=
  fun _ _ _ H _ I h => ld_blt I hg hm hv ⟨v, H, I, r, h⟩ hn hd

/-! ### arithmetic -/
/-- two ints -/
def t2I (ta tb : TE) (k : Int → Int → Hp → Prop) : St → Hp → Prop := fun σ H => ta σ H fun x H1 => tb σ H1 fun y H2 => ∃ i j, x = .int i ∧ y = .int j ∧ k i j H2
def tAdd (ta tb : TE) : TE := fun σ H Q => t2I ta tb (fun i j H2 => Q (.int (i + j)) H2) σ H
def tSub (ta tb : TE) : TE := fun σ H Q => t2I ta tb (fun i j H2 => Q (.int (i - j)) H2) σ H
/-- the left factor below 2^64 -/
def tMul (ta tb : TE) : TE := fun σ H Q => t2I ta tb (fun i j H2 => (-(2 ^ 64) < i ∧ i < 2 ^ 64) ∧ Q (.int (i * j)) H2) σ H
variable {a b : Expr} {ta tb : TE} {pos : Pos}
theorem pe_add (ha : PE X a ta) (hb : PE X b tb) : PE X (.BinOp a .Add b pos) (tAdd ta tb) := by
  intro pins s σ H Q I h
  refine wpAny_BinOp (bin ha hb I h fun v u s2 x y H2 I2 rx ry q => ?_)
  obtain ⟨i, j, rfl, rfl, q⟩ := q
  obtain ⟨t, rfl⟩ := rx
  obtain ⟨t', rfl⟩ := ry
  exact add_int ⟨.int _, H2, I2.tok _, ⟨_, rfl⟩, q⟩
theorem pe_sub (ha : PE X a ta) (hb : PE X b tb) : PE X (.BinOp a .Sub b pos) (tSub ta tb) := by
  intro pins s σ H Q I h
  refine wpAny_BinOp (bin ha hb I h fun v u s2 x y H2 I2 rx ry q => ?_)
  obtain ⟨i, j, rfl, rfl, q⟩ := q
  obtain ⟨t, rfl⟩ := rx
  obtain ⟨t', rfl⟩ := ry
  exact sub_int ⟨.int _, H2, I2.tok _, ⟨_, rfl⟩, q⟩
theorem pe_mul (ha : PE X a ta) (hb : PE X b tb) : PE X (.BinOp a .Mult b pos) (tMul ta tb) := by
  intro pins s σ H Q I h
  refine wpAny_BinOp (bin ha hb I h fun v u s2 x y H2 I2 rx ry q => ?_)
  obtain ⟨i, j, rfl, rfl, ⟨q1, q2⟩, q⟩ := q
  obtain ⟨t, rfl⟩ := rx
  obtain ⟨t', rfl⟩ := ry
  exact mul_int ⟨.int _, H2, I2.tok _, ⟨_, rfl⟩, q⟩ (.of_left (intBits_le_64 q1 q2))

/-! ### comparisons -/
def PC (X : Cx) (op : CmpOp) (a b : Expr) (t : TE) : Prop :=
  ∀ (pins : List (Addr × Obj)) (s : Shared) (σ : St) (H : Hp) (Q : VK), Inv X pins σ H s → t σ H Q →
    wpAny (model X.prog X.w) X.A (eval a X.env) (fun v s₁ => wpAny (model X.prog X.w) X.A (eval b X.env) (fun u s₂ => wpAny (model X.prog X.w) X.A (compareOp op v u) (EP X pins σ Q) X.xe s₂) X.xe s₁) X.xe s
theorem nobehind (b : Expr) {op : CmpOp} (h : op ≠ .In) (h2 : op ≠ .NotIn) : behindInMarks op b = false := by
  have e1 : (op == CmpOp.In) = false := by cases op <;> first | rfl | exact absurd rfl h
  have e2 : (op == CmpOp.NotIn) = false := by cases op <;> first | rfl | exact absurd rfl h2
  cases b <;> simp [behindInMarks, e1, e2]
def tCmp (p : Int → Int → Bool) (ta tb : TE) : TE := fun σ H Q => t2I ta tb (fun i j H2 => Q (.bl (p i j)) H2) σ H
abbrev tLt : TE → TE → TE := tCmp fun i j => decide (i < j)
abbrev tLe : TE → TE → TE := tCmp fun i j => decide (i ≤ j)
abbrev tGt : TE → TE → TE := tCmp fun i j => decide (j < i)
abbrev tGe : TE → TE → TE := tCmp fun i j => decide (j ≤ i)
abbrev tEqI : TE → TE → TE := tCmp fun i j => decide (i = j)
abbrev tNeI : TE → TE → TE := tCmp fun i j => !decide (i = j)
/-- a comparison of two ints, by its rule -/
theorem pc_int {op : CmpOp} {p : Int → Int → Bool} (ha : PE X a ta) (hb : PE X b tb)
    (rule : ∀ (i j : Int) (t u : Tok) (Q : Value → Shared → Prop) (s : Shared), Q (.bool (p i j)) s → wpAny (model X.prog X.w) X.A (compareOp op (.int i t) (.int j u)) Q X.xe s) : PC X op a b (tCmp p ta tb) := by
  intro pins s σ H Q I h
  refine bin ha hb I h fun v u s2 x y H2 I2 rx ry q => ?_
  obtain ⟨i, j, rfl, rfl, q⟩ := q
  obtain ⟨t, rfl⟩ := rx
  obtain ⟨t', rfl⟩ := ry
  exact rule i j t t' _ s2 ⟨.bl _, H2, I2, rfl, q⟩
theorem pc_lt (ha : PE X a ta) (hb : PE X b tb) : PC X .Lt a b (tLt ta tb) := pc_int ha hb fun _ _ _ _ _ _ h => lt_int h
theorem pc_le (ha : PE X a ta) (hb : PE X b tb) : PC X .LtE a b (tLe ta tb) := pc_int ha hb fun _ _ _ _ _ _ h => le_int h
theorem pc_gt (ha : PE X a ta) (hb : PE X b tb) : PC X .Gt a b (tGt ta tb) := pc_int ha hb fun _ _ _ _ _ _ h => gt_int h
theorem pc_ge (ha : PE X a ta) (hb : PE X b tb) : PC X .GtE a b (tGe ta tb) := pc_int ha hb fun _ _ _ _ _ _ h => ge_int h
theorem pc_eqI (ha : PE X a ta) (hb : PE X b tb) : PC X .Eq a b (tEqI ta tb) := pc_int ha hb fun _ _ _ _ _ _ h => eq_int (by rw [Bool.beq_eq_decide_eq]; exact h)
theorem pc_neI (ha : PE X a ta) (hb : PE X b tb) : PC X .NotEq a b (tNeI ta tb) := pc_int ha hb fun _ _ _ _ _ _ h => ne_int (by rw [bne, Bool.beq_eq_decide_eq]; exact h)
/-- is None -/
def tIsN (ta : TE) : TE := fun σ H Q => ta σ H fun x H1 => Q (.bl (decide (x = .non))) H1
def tNotN (ta : TE) : TE := fun σ H Q => ta σ H fun x H1 => Q (.bl (!decide (x = .non))) H1
theorem RelV.none_iff {x : V} {v : Value} (r : RelV x v) : (v == Value.none) = decide (x = .non) := by
  cases x with
  | non => cases r; rfl
  | bl _ => cases r; rfl
  | int _ => obtain ⟨t, rfl⟩ := r; rfl
  | str _ => obtain ⟨t, rfl⟩ := r; rfl
  | byt _ => obtain ⟨t, rfl⟩ := r; rfl
  | flt _ => obtain ⟨t, rfl⟩ := r; rfl
  | ref _ => cases r; rfl
  | ty _ => cases r; rfl
theorem pc_isN {j pos'} (ha : PE X a ta) : PC X .Is a (.Constant .none j pos') (tIsN ta) := by
  intro pins s σ H Q I h
  refine thn (ha pins s σ H _ I h) fun v s1 ⟨x, H1, I1, r1, q1⟩ => ?_
  exact Constant_none (is_none_gen ⟨.bl _, H1, I1, by rw [r1.none_iff]; rfl, q1⟩)
theorem pc_notN {j pos'} (ha : PE X a ta) : PC X .IsNot a (.Constant .none j pos') (tNotN ta) := by
  intro pins s σ H Q I h
  refine thn (ha pins s σ H _ I h) fun v s1 ⟨x, H1, I1, r1, q1⟩ => ?_
  exact Constant_none (isnot_none_gen ⟨.bl _, H1, I1, by rw [r1.none_iff]; rfl, q1⟩)
/-- a comparison as a value, as a test -/
def tB (t : TE) : TT := fun σ H Q => t σ H fun x H1 => ∃ c, x = .bl c ∧ Q c H1
theorem pe_cmp {op : CmpOp} {t : TE} (h : PC X op a b t) (h1 : behindInMarks op b = false := by first | exact nobehind _ (by decide) (by decide) | rfl) : PE X (.Compare a [op] [b] pos) t := fun pins s σ H Q I hw => wpAny_Compare1 (h pins s σ H Q I hw) h1
theorem pt_cmp {op : CmpOp} {t : TE} (h : PC X op a b t) (h1 : behindInMarks op b = false := by first | exact nobehind _ (by decide) (by decide) | rfl) : PT X (.Compare a [op] [b] pos) (tB t) := by
  intro pins s σ H Q I hw
  refine wpAny_isTrue_Compare1 (thn (h pins s σ H _ I hw) fun v s1 h1 => thn h1 fun u s2 h2 => thn h2 fun c s3 ⟨x, H1, I1, r1, q1⟩ => ?_) h1
  obtain ⟨d, rfl, q⟩ := q1
  cases r1
  exact wpAny_truthy_bool ⟨H1, I1, q⟩
/-- an expression whose value is a bool, as a test -/
theorem pt_val {e : Expr} {t : TE} (h : PE X e t) (he : ∀ whole, isTrue e X.env whole = (do let v ← whole; standAt e.pos; holding [v] (truthy v)) := by intro _; rfl) : PT X e (tB t) := by
  intro pins s σ H Q I hw
  refine isTrue_plain (thn (h pins s σ H _ I hw) fun v s1 ⟨x, H1, I1, r1, q1⟩ => ?_) (he _)
  obtain ⟨d, rfl, q⟩ := q1
  cases r1
  exact wpAny_truthy_bool ⟨H1, I1, q⟩

/-! ### and, or, not -/
variable {tA tB' : TT} {rest : List Expr}
def tAnd (t u : TT) : TT := fun σ H Q => t σ H fun c H1 => if c = true then u σ H1 Q else Q false H1
def tOr (t u : TT) : TT := fun σ H Q => t σ H fun c H1 => if c = true then Q true H1 else u σ H1 Q
def tNot (t : TT) : TT := fun σ H Q => t σ H fun c H1 => Q (!c) H1
theorem pw_and1 (ha : PT X a tA) : PW X (.BoolOp .And [a] pos) tA := by
  intro wh pins s σ H Q I h
  refine isTrue_and (thn (ha pins s σ H Q I h) fun c s1 e => ?_)
  cases c with
  | true => exact isTrue_and_nil e
  | false => exact e
theorem pw_or1 (ha : PT X a tA) : PW X (.BoolOp .Or [a] pos) tA := by
  intro wh pins s σ H Q I h
  refine isTrue_or (thn (ha pins s σ H Q I h) fun c s1 e => ?_)
  cases c with
  | false => exact isTrue_or_nil e
  | true => exact e
theorem pw_and (ha : PT X a tA) (hb : PW X (.BoolOp .And (b :: rest) pos) tB') : PW X (.BoolOp .And (a :: b :: rest) pos) (tAnd tA tB') := by
  intro wh pins s σ H Q I h
  refine isTrue_and (thn (ha pins s σ H _ I h) fun c s1 ⟨H1, I1, q1⟩ => ?_)
  cases c with
  | true => exact hb wh pins s1 σ H1 Q I1 q1
  | false => exact ⟨H1, I1, q1⟩
theorem pw_or (ha : PT X a tA) (hb : PW X (.BoolOp .Or (b :: rest) pos) tB') : PW X (.BoolOp .Or (a :: b :: rest) pos) (tOr tA tB') := by
  intro wh pins s σ H Q I h
  refine isTrue_or (thn (ha pins s σ H _ I h) fun c s1 ⟨H1, I1, q1⟩ => ?_)
  cases c with
  | true => exact ⟨H1, I1, q1⟩
  | false => exact hb wh pins s1 σ H1 Q I1 q1
theorem pt_not (ha : PT X a tA) : PT X (.UnaryOp .Not a pos) (tNot tA) := by
  intro pins s σ H Q I h
  exact isTrue_not (ha pins s σ H (fun c H1 => Q (!c) H1) I h)
/-- .. as values (bools) -/
def tAndV (ta tb : TE) : TE := fun σ H Q => ta σ H fun x H1 => ∃ c, x = .bl c ∧ if c = true then tb σ H1 Q else Q (.bl false) H1
def tOrV (ta tb : TE) : TE := fun σ H Q => ta σ H fun x H1 => ∃ c, x = .bl c ∧ if c = true then Q (.bl true) H1 else tb σ H1 Q
def tNotV (ta : TE) : TE := fun σ H Q => ta σ H fun x H1 => ∃ c, x = .bl c ∧ Q (.bl (!c)) H1
theorem pe_one {op} {t : TE} (h : PE X a t) : PE X (.BoolOp op [a] pos) t := fun pins s σ H Q I hw => BoolOp_one (h pins s σ H Q I hw)
theorem pe_and (ha : PE X a ta) (hb : PE X (.BoolOp .And (b :: rest) pos) tb) : PE X (.BoolOp .And (a :: b :: rest) pos) (tAndV ta tb) := by
  intro pins s σ H Q I h
  refine BoolOp_and (thn (ha pins s σ H _ I h) fun v s1 ⟨x, H1, I1, r1, q1⟩ => ?_)
  obtain ⟨c, rfl, q1⟩ := q1
  cases r1
  refine wpAny_truthy_bool ?_
  cases c with
  | true => exact hb pins s1 σ H1 Q I1 q1
  | false => exact ⟨.bl false, H1, I1, rfl, q1⟩
theorem pe_or (ha : PE X a ta) (hb : PE X (.BoolOp .Or (b :: rest) pos) tb) : PE X (.BoolOp .Or (a :: b :: rest) pos) (tOrV ta tb) := by
  intro pins s σ H Q I h
  refine BoolOp_or (thn (ha pins s σ H _ I h) fun v s1 ⟨x, H1, I1, r1, q1⟩ => ?_)
  obtain ⟨c, rfl, q1⟩ := q1
  cases r1
  refine wpAny_truthy_bool ?_
  cases c with
  | false => exact hb pins s1 σ H1 Q I1 q1
  | true => exact ⟨.bl true, H1, I1, rfl, q1⟩
theorem pe_not (ha : PE X a ta) : PE X (.UnaryOp .Not a pos) (tNotV ta) := by
  intro pins s σ H Q I h
  refine UnaryOp_ (thn (ha pins s σ H _ I h) fun v s1 ⟨x, H1, I1, r1, q1⟩ => ?_)
  obtain ⟨c, rfl, q1⟩ := q1
  cases r1
  exact not_of (wpAny_truthy_bool ⟨.bl (!c), H1, I1, rfl, q1⟩)
/-- a if t else b -/
def tIf (t : TT) (ta tb : TE) : TE := fun σ H Q => t σ H fun c H1 => if c = true then ta σ H1 Q else tb σ H1 Q
theorem pe_ifExp {c : Expr} (hc : PT X c tA) (ha : PE X a ta) (hb : PE X b tb) : PE X (.IfExp c a b pos) (tIf tA ta tb) := by
  intro pins s σ H Q I h
  refine wpAny_IfExp (thn (hc pins s σ H _ I h) fun d s1 ⟨H1, I1, q1⟩ => ?_)
  cases d with
  | true => exact ha pins s1 σ H1 Q I1 q1
  | false => exact hb pins s1 σ H1 Q I1 q1
end
end L2

namespace L2
open PySem PySem.Spec PyProof.Rows

/-! ### a list, a tuple that is read: tracked, frozen, or an object of the module -/
def SqL (K : PySem.W.Frag) (H : Hp) (a : Addr) (xs : List V) : Prop :=
  Rd H a (.lst xs) ∨
    ∃ (o : Obj) (its : Array Value) (n : Nat), K.lookup a = some o ∧ o.cls = .type "list" ∧ o.dict = none ∧ o.data = .seq its n ∧ its.size ≤ sizeLine ∧ Vals xs its.toList
def SqT (K : PySem.W.Frag) (H : Hp) (a : Addr) (xs : List V) : Prop :=
  Rd H a (.tup xs) ∨
    ∃ (o : Obj) (its : Array Value) (n : Nat), K.lookup a = some o ∧ o.cls = .type "tuple" ∧ o.data = .seq its n ∧ its.size ≤ sizeLine ∧ Vals xs its.toList
def absV : Value → Option V
  | .none => some .non
  | .bool b => some (.bl b)
  | .int i _ => some (.int i)
  | .str x _ => some (.str x)
  | .bytes b _ => some (.byt b)
  | .float b _ => some (.flt b)
  | .ref a => some (.ref a)
  | .type n => some (.ty n)
  | _ => none
theorem RelV.abs {x : V} {u : Value} (r : RelV x u) : absV u = some x := by
  cases x with
  | non => cases r; rfl
  | bl _ => cases r; rfl
  | int _ => obtain ⟨t, rfl⟩ := r; rfl
  | str _ => obtain ⟨t, rfl⟩ := r; rfl
  | byt _ => obtain ⟨t, rfl⟩ := r; rfl
  | flt _ => obtain ⟨t, rfl⟩ := r; rfl
  | ref _ => cases r; rfl
  | ty _ => cases r; rfl
theorem RelV.inj {x y : V} {u : Value} (r : RelV x u) (q : RelV y u) : x = y := Option.some.inj (r.abs.symm.trans q.abs)
theorem Vals.inj : ∀ {xs ys : List V} {us : List Value}, Vals xs us → Vals ys us → xs = ys
  | _, _, _, .nil, .nil => rfl
  | _, _, _, .cons r t, .cons r' t' => by rw [r.inj r', Vals.inj t t']
section
variable {X : Cx} {pins : List (Addr × Obj)} {σ : St} {H : Hp} {s : Shared} {a : Addr} {xs ys : List V}
theorem SqL.of {K : PySem.W.Frag} (h : H a = some (.lst xs)) : SqL K H a xs := .inl (.inl h)
theorem SqT.of {K : PySem.W.Frag} (h : H a = some (.tup xs)) : SqT K H a xs := .inl (.inl h)
theorem Inv.list (I : Inv X pins σ H s) (h : SqL X.K H a xs) : ∃ its : List Value, Vals xs its ∧ PlainL s.heap a its.toArray ∧ xs.length ≤ sizeLine := by
  rcases h with h | ⟨o, its, n, hk, hc, hd, hs, hz, r⟩
  · obtain ⟨z, its, n, r, e⟩ := h.ok I.hok
    exact ⟨its, r, ⟨_, n, e, rfl, rfl, rfl⟩, z⟩
  · refine ⟨its.toList, r, ⟨o, n, I.kIn a o hk, hc, hd, by simpa using hs⟩, ?_⟩
    have e := r.length
    simp only [Array.length_toList] at e
    omega
theorem Inv.tuple (I : Inv X pins σ H s) (h : SqT X.K H a xs) : ∃ its : List Value, Vals xs its ∧ IsTup s.heap a its.toArray ∧ xs.length ≤ sizeLine := by
  rcases h with h | ⟨o, its, n, hk, hc, hs, hz, r⟩
  · obtain ⟨z, its, r, p⟩ := h.ok I.hok
    exact ⟨its, r, p, z⟩
  · refine ⟨its.toList, r, ⟨o, I.kIn a o hk, hc, n, by simpa using hs⟩, ?_⟩
    have e := r.length
    simp only [Array.length_toList] at e
    omega
theorem Inv.list_inj (I : Inv X pins σ H s) (h : SqL X.K H a xs) (h' : SqL X.K H a ys) : xs = ys := by
  obtain ⟨its, r, ⟨o, n, e, _, _, d⟩, _⟩ := I.list h
  obtain ⟨its', r', ⟨o', n', e', _, _, d'⟩, _⟩ := I.list h'
  rw [e] at e'; cases e'
  rw [d] at d'
  injection d' with d1 _
  have : its = its' := by simpa using congrArg Array.toList d1
  subst this
  exact r.inj r'
theorem Inv.tuple_inj (I : Inv X pins σ H s) (h : SqT X.K H a xs) (h' : SqT X.K H a ys) : xs = ys := by
  obtain ⟨its, r, ⟨o, e, _, n, d⟩, _⟩ := I.tuple h
  obtain ⟨its', r', ⟨o', e', _, n', d'⟩, _⟩ := I.tuple h'
  rw [e] at e'; cases e'
  rw [d] at d'
  injection d' with d1 _
  have : its = its' := by simpa using congrArg Array.toList d1
  subst this
  exact r.inj r'
end

/-! ### another wish about exceptions -/
abbrev Cx.wish (X : Cx) (E : Value → Shared → Prop) : Cx := { X with xe := E }
/-- no exception leaves -/
abbrev Cx.nox (X : Cx) : Cx := X.wish fun _ _ => False
theorem Cx.Ok.wish {X : Cx} (ok : X.Ok) (E : Value → Shared → Prop) : (X.wish E).Ok :=
  ⟨ok.mod, ok.kind, ok.glob, ok.blt, ok.above, ok.inj, ok.has, ok.cab, ok.hd, ok.frames, ok.stk, ok.exf, ok.bs, ok.bsz, ok.noex, ok.exfs, ok.funs, ok.frf⟩
theorem Cx.Ok.unwish {X : Cx} {E : Value → Shared → Prop} (ok : (X.wish E).Ok) : X.Ok :=
  ⟨ok.mod, ok.kind, ok.glob, ok.blt, ok.above, ok.inj, ok.has, ok.cab, ok.hd, ok.frames, ok.stk, ok.exf, ok.bs, ok.bsz, ok.noex, ok.exfs, ok.funs, ok.frf⟩
section
variable {X : Cx} {pins : List (Addr × Obj)} {σ : St} {H : Hp} {s : Shared} {E : Value → Shared → Prop}
theorem Inv.wish (I : Inv X pins σ H s) (E : Value → Shared → Prop) : Inv (X.wish E) pins σ H s := ⟨I.ok.wish E, I.os, I.bare, I.base, I.loc, I.cell, I.free, I.freeC, I.pin, I.hok, I.len⟩
theorem Inv.unwish (I : Inv (X.wish E) pins σ H s) : Inv X pins σ H s := ⟨I.ok.unwish, I.os, I.bare, I.base, I.loc, I.cell, I.free, I.freeC, I.pin, I.hok, I.len⟩
theorem SP.unwish {D : Ends} {f : Flow} {s' : Shared} (h : SP (X.wish E) pins D f s') : SP X pins D f s' := by
  cases f with
  | next => obtain ⟨σ', H', I, q⟩ := h; exact ⟨σ', H', I.unwish, q⟩
  | brk => obtain ⟨σ', H', I, q⟩ := h; exact ⟨σ', H', I.unwish, q⟩
  | cont => obtain ⟨σ', H', I, q⟩ := h; exact ⟨σ', H', I.unwish, q⟩
  | ret u => obtain ⟨v, σ', H', I, r, q⟩ := h; exact ⟨v, σ', H', I.unwish, r, q⟩
theorem PE.nox {e : Expr} {t : TE} (h : PE X.nox e t) : PE X e t := fun pins s σ H Q I hw =>
  wpAny_mono (h pins s σ H Q (I.wish _) hw) (fun _ _ ⟨v, H', I', r, q⟩ => ⟨v, H', I'.unwish, r, q⟩) fun _ _ z => False.elim z
theorem PT.nox {e : Expr} {t : TT} (h : PT X.nox e t) : PT X e t := fun pins s σ H Q I hw =>
  wpAny_mono (h pins s σ H Q (I.wish _) hw) (fun _ _ ⟨H', I', q⟩ => ⟨H', I'.unwish, q⟩) fun _ _ z => False.elim z
theorem PSs.nox {st : List Stmt} {t : TS} (h : PSs X.nox st t) : PSs X st t := fun pins s σ H D I hw =>
  wpAny_mono (h pins s σ H D (I.wish _) hw) (fun _ _ q => q.unwish) fun _ _ z => False.elim z
end

/-! ### blocks and small statements -/
section
variable {X : Cx} {st : Stmt} {rest : List Stmt} {t u : TS} {e : Expr} {te : TE} {pos : Pos}
def tNext : TS := fun D σ H => D.nx σ H
def tSeq (t u : TS) : TS := fun D σ H => t { D with nx := u D } σ H
theorem pss_nil : PSs X [] tNext := fun _ _ σ H _ I h => wpAny_execs_nil ⟨σ, H, I, h⟩
theorem pss_cons (h1 : PS X st t) (h2 : PSs X rest u) : PSs X (st :: rest) (tSeq t u) := by
  intro pins s σ H D I h
  refine wpAny_execs_cons (thn (h1 pins s σ H { D with nx := u D } I h) fun f s1 q => ?_)
  cases f with
  | next =>
    obtain ⟨σ', H', I', q⟩ := q
    exact h2 pins s1 σ' H' D I' q
  | ret v => exact q
  | brk => exact q
  | cont => exact q
theorem pss_one (h1 : PS X st t) : PSs X [st] t := by
  intro pins s σ H D I h
  refine wpAny_execs_cons (thn (h1 pins s σ H D I h) fun f s1 q => ?_)
  cases f with
  | next => exact wpAny_execs_nil q
  | ret v => exact q
  | brk => exact q
  | cont => exact q
def tBreak : TS := fun D σ H => D.bk σ H
def tCont : TS := fun D σ H => D.ct σ H
theorem ps_pass : PS X (.Pass pos) tNext := fun _ _ σ H _ I h => wpAny_Pass ⟨σ, H, I, h⟩
theorem ps_break : PS X (.Break pos) tBreak := fun _ _ σ H _ I h => wpAny_Break ⟨σ, H, I, h⟩
theorem ps_continue : PS X (.Continue pos) tCont := fun _ _ σ H _ I h => wpAny_Continue ⟨σ, H, I, h⟩
/-- in a def's body nothing is shown -/
theorem Inv.quiet {pins : List (Addr × Obj)} {σ : St} {H : Hp} {s : Shared} (I : Inv X pins σ H s) : interactive X.env = false := by simp [interactive, I.ok.kind]
/-- a docstring -/
theorem ps_doc {x j pos pos'} : PS X (.Expr (.Constant (.str x) j pos) pos') tNext := fun _ s σ H _ I h => wpAny_Expr (Calls.Constant_str (show SP X _ _ .next { s with toks := s.toks + 1 } from ⟨σ, H, I.tok _, h⟩)) I.quiet
/-- an expression whose value is dropped -/
def tDrop (te : TE) : TS := fun D σ H => te σ H fun _ H1 => D.nx σ H1
theorem ps_expr (he : PE X e te) (hs : swapsWith e none pos.line X.env = pure false := by rfl) : PS X (.Expr e pos) (tDrop te) := by
  intro pins s σ H D I h
  exact wpAny_Expr_any (thn (he pins s σ H _ I h) fun v s1 ⟨x, H1, I1, r1, q1⟩ => ⟨σ, H1, I1, q1⟩) I.quiet hs
def tRet (te : TE) : TS := fun D σ H => te σ H D.rt
theorem ps_ret (he : PE X e te) : PS X (.Return (some e) pos) (tRet te) := by
  intro pins s σ H D I h
  exact wpAny_Return_some (thn (he pins s σ H _ I h) fun v s1 ⟨x, H1, I1, r1, q1⟩ => ⟨x, σ, H1, I1, r1, q1⟩)
def tRetN : TS := fun D _ H => D.rt .non H
theorem ps_retN : PS X (.Return none pos) tRetN := fun _ _ σ H _ I h => wpAny_Return_none ⟨.non, σ, H, I, rfl, h⟩
def tIfS (c : TT) (t u : TS) : TS := fun D σ H => c σ H fun b H1 => if b = true then t D σ H1 else u D σ H1
theorem ps_if {c : Expr} {a b : List Stmt} {tc : TT} (hc : PT X c tc) (ha : PSs X a t) (hb : PSs X b u) : PS X (.If c a b pos) (tIfS tc t u) := by
  intro pins s σ H D I h
  refine wpAny_If (thn (hc pins s σ H _ I h) fun d s1 ⟨H1, I1, q1⟩ => ?_)
  cases d with
  | true => exact ha pins s1 σ H1 D I1 q1
  | false => exact hb pins s1 σ H1 D I1 q1
/-- code that the proof never comes to -/
def tNever : TS := fun _ _ _ => False
theorem ps_never : PS X st tNever := fun _ _ _ _ _ _ h => h.elim
theorem pss_never {sts : List Stmt} : PSs X sts tNever := fun _ _ _ _ _ _ h => h.elim
end

/-! ### targets -/
abbrev TG := V → St → Hp → (St → Hp → Prop) → Prop
abbrev TGs := List V → St → Hp → (St → Hp → Prop) → Prop
def PG (X : Cx) (target : Expr) (t : TG) : Prop :=
  ∀ (pins : List (Addr × Obj)) (s : Shared) (σ : St) (H : Hp) (v : V) (u : Value) (Q : St → Hp → Prop), Inv X pins σ H s → RelV v u → t v σ H Q →
    wpAny (model X.prog X.w) X.A (assign target X.env u) (fun _ s' => ∃ σ' H', Inv X pins σ' H' s' ∧ Q σ' H') X.xe s
/-- several targets, one after another -/
def PGs (X : Cx) (ts : List Expr) (t : TGs) : Prop :=
  ∀ (pins : List (Addr × Obj)) (s : Shared) (σ : St) (H : Hp) (vs : List V) (us : List Value) (Q : St → Hp → Prop), Inv X pins σ H s → Vals vs us → t vs σ H Q →
    wpAny (model X.prog X.w) X.A (assignInOrder ((assignEach ts X.env).map (·.2)) us) (fun _ s' => ∃ σ' H', Inv X pins σ' H' s' ∧ Q σ' H') X.xe s
/-- o[i] = v, by values -/
abbrev TSet := V → V → V → Hp → (Hp → Prop) → Prop
def PSet (X : Cx) (t : TSet) : Prop :=
  ∀ (pins : List (Addr × Obj)) (s : Shared) (σ : St) (H : Hp) (o i v : V) (ov iv u : Value) (Q : Hp → Prop), Inv X pins σ H s → RelV o ov → RelV i iv → RelV v u → t o i v H Q →
    wpAny (model X.prog X.w) X.A (setItem ov iv u) (fun _ s' => ∃ H', Inv X pins σ H' s' ∧ Q H') X.xe s
/-- a op= b, by values -/
abbrev TIp := V → V → Hp → VK → Prop
def PIp (X : Cx) (op : Operator) (t : TIp) : Prop :=
  ∀ (pins : List (Addr × Obj)) (s : Shared) (σ : St) (H : Hp) (x y : V) (v u : Value) (Q : VK), Inv X pins σ H s → RelV x v → RelV y u → t x y H Q →
    wpAny (model X.prog X.w) X.A (inplaceOp op v u) (EP X pins σ Q) X.xe s
section
variable {X : Cx} {pos : Pos}
def gName (i : Nat) : TG := fun v σ H Q => Q (σ.set i (some v)) H
theorem pg_name {i : Nat} {x : Str} (hN : X.N.Nodup) (hi : X.N[i]? = some x) (hx : Loc X.env.scope x) (hf : X.fn x = true ∨ X.env.scope.names.lookup x = some .local := by first | exact .inl rfl | exact .inr rfl | assumption) : PG X (.Name x pos) (gName i) := by
  intro pins s σ H v u Q I r h
  exact wpAny_assign_Name (store_ok I hN hi hx r (fun s' I' => ⟨_, H, I', h⟩) hf)
def gNil : TGs := fun vs σ H Q => vs = [] ∧ Q σ H
def gCons (t : TG) (u : TGs) : TGs := fun vs σ H Q => ∃ v r, vs = v :: r ∧ t v σ H fun σ' H' => u r σ' H' Q
theorem pgs_nil : PGs X [] gNil := by
  intro pins s σ H vs us Q I r h
  obtain ⟨e, h⟩ := h
  subst e
  cases r
  exact assignInOrder_nil ⟨σ, H, I, h⟩
theorem pgs_cons {e : Expr} {es : List Expr} {t : TG} {u : TGs} (h1 : PG X e t) (h2 : PGs X es u)
    (hs : (assignEach (e :: es) X.env).map (·.2) = assign e X.env :: (assignEach es X.env).map (·.2) := by rfl) : PGs X (e :: es) (gCons t u) := by
  intro pins s σ H vs us Q I r h
  obtain ⟨v, vr, e1, h⟩ := h
  subst e1
  cases r with
  | cons r rr =>
    rw [hs]
    refine assignInOrder_cons (thn (h1 pins s σ H _ _ _ I r h) fun _ s1 ⟨σ1, H1, I1, q1⟩ => ?_)
    exact h2 pins s1 σ1 H1 _ _ Q I1 rr q1
/-- (a, b, ..) = a tuple of that length -/
def gTup (K : PySem.W.Frag) (n : Nat) (t : TGs) : TG := fun v σ H Q => ∃ a xs, v = .ref a ∧ SqT K H a xs ∧ xs.length = n ∧ t xs σ H Q
theorem pg_tup {es : List Expr} {k : Nat} {t : TGs} {n : Nat} (hc : X.calm = true) (h : PGs X es t)
    (hn : (assignEach es X.env).length = n := by rfl) (hst : (assignEach es X.env).findIdx? (·.1) = none := by rfl) : PG X (.Tuple es k pos) (gTup X.K n t) := by
  intro pins s σ H v u Q I r hw
  obtain ⟨a, xs, e1, hq, hl, hw⟩ := hw
  subst e1
  cases r
  obtain ⟨its, rv, ht, hz⟩ := I.tuple hq
  refine assign_Tuple_tuple (I.ok.hd hc) ht (by simp [hn, ← hl, rv.length]) hst fun h' hx => ?_
  have I1 : Inv X pins σ H { s with heap := h' } := I.kept (t' := s.toks) fun b o e => hx b o (Nat.ne_of_lt (Heap.lt_size e)) e
  exact h pins _ σ H xs _ Q I1 (by simpa using rv) hw
/-- o[i] = .. -/
def gSub (to ti : TE) (t : TSet) : TG := fun v σ H Q => to σ H fun o H1 => ti σ H1 fun i H2 => t o i v H2 fun H3 => Q σ H3
theorem pg_sub {o i : Expr} {to ti : TE} {t : TSet} (ho : PE X o to) (hi : PE X i ti) (hs : PSet X t)
    (ha : ∀ v, assign (.Subscript o i pos) X.env v = (do
      let ov ← holding [v] (eval o X.env)
      let iv ← holding [v, ov] (eval i X.env)
      standAt pos
      holding [v, ov, iv] (setItem ov iv v)
      release [v, ov, iv] []) := by intro _; rfl) : PG X (.Subscript o i pos) (gSub to ti t) := by
  intro pins s σ H v u Q I r h
  rw [ha]
  refine wpAny_bind (wpAny_holding (thn (ho pins s σ H _ I h) fun ov s1 ⟨x, H1, I1, r1, q1⟩ => ?_))
  refine wpAny_bind (wpAny_holding (thn (hi pins s1 σ H1 _ I1 q1) fun iv s2 ⟨y, H2, I2, r2, q2⟩ => ?_))
  refine wpAny_bind (wpAny_standAt (wpAny_bind (wpAny_holding (thn (hs pins s2 σ H2 x y v ov iv u _ I2 r1 r2 r q2) fun _ s3 ⟨H3, I3, q3⟩ => ?_))))
  exact wpAny_release ⟨σ, H3, I3, q3⟩
/-- target = value -/
def tAsg (te : TE) (g : TG) : TS := fun D σ H => te σ H fun x H1 => g x σ H1 D.nx
theorem ps_asg {tg e : Expr} {te : TE} {g : TG} (he : PE X e te) (hg : PG X tg g) (hs : swapsWithSole [tg] e pos.line X.env = pure false := by rfl) (hw : swappedStores [tg] e X.env = pure none := by rfl)
    (h1 : (assignEach [tg] X.env).map (·.2) = [assign tg X.env] := by rfl) : PS X (.Assign [tg] e pos) (tAsg te g) := by
  intro pins s σ H D I h
  refine wpAny_Assign_stores (thn (he pins s σ H _ I h) fun v s1 ⟨x, H1, I1, r1, q1⟩ => ?_) hs hw
  rw [h1]
  exact thn (hg pins s1 σ H1 x v _ I1 r1 q1) fun _ s2 q => q
/-- name = value -/
theorem ps_set {i : Nat} {x : Str} {e : Expr} {te : TE} {pos' : Pos} (hN : X.N.Nodup) (hi : X.N[i]? = some x) (hx : Loc X.env.scope x) (he : PE X e te) (hs : swapsWith e (some (.Name x pos')) pos.line X.env = pure false := by rfl) (hf : X.fn x = true ∨ X.env.scope.names.lookup x = some .local := by first | exact .inl rfl | exact .inr rfl | assumption) :
    PS X (.Assign [.Name x pos'] e pos) (tAsg te (gName i)) := by
  intro pins s σ H D I h
  refine wpAny_Assign_Name (thn (he pins s σ H _ I h) fun v s1 ⟨y, H1, I1, r1, q1⟩ => ?_) hs
  exact store_ok I1 hN hi hx r1 (fun s2 I2 => ⟨_, H1, I2, q1⟩) hf
/-- a, b = x, y with plain local names: stored from the right; the pair itself is not tracked (the opening rows as in PyProof/Rows/TupAssign.lean:23) -/
def tPar (i j : Nat) (ta : TA) : TS := fun D σ H => ta σ H fun vs H1 => ∃ v w, vs = [v, w] ∧ D.nx ((σ.set i (some v)).set j (some w)) H1
theorem ps_par {i j : Nat} {x y : Str} {a b : Expr} {ta : TA} {px py pt : Pos} {kt k2 pt2} (hc : X.calm = true) (hN : X.N.Nodup) (hi : X.N[i]? = some x) (hj : X.N[j]? = some y) (hij : i ≠ j)
    (hx : X.env.scope.names.lookup x = some .local) (hy : X.env.scope.names.lookup y = some .local) (ha : PA X [a, b] ta)
    (hw : swappedStores [.Tuple [.Name x px, .Name y py] kt pt] (.Tuple [a, b] k2 pt2) X.env = pure (some [x, y]))
    (hs : swapsWithSole [.Tuple [.Name x px, .Name y py] kt pt] (.Tuple [a, b] k2 pt2) pos.line X.env = pure false := by rfl) :
    PS X (.Assign [.Tuple [.Name x px, .Name y py] kt pt] (.Tuple [a, b] k2 pt2) pos) (tPar i j ta) := by
  intro pins s σ H D I h
  rw [exec_Assign_arm]
  refine wpAny_bind (wpAny_standAt ?_)
  rw [hs]
  refine wpAny_bind (wpAny_pure ?_)
  rw [if_neg (by decide)]
  refine wpAny_bind (Tuple_ (thn (ha _ pins s σ H _ I h) fun us s1 ⟨vs, H1, I1, r1, q1⟩ => ?_))
  obtain ⟨v, w, e1, q1⟩ := q1
  subst e1
  obtain ⟨u1, u2, rfl, rv, rw'⟩ : ∃ u1 u2, us = [u1, u2] ∧ RelV v u1 ∧ RelV w u2 := by
    cases r1 with
    | cons p q =>
      cases q with
      | cons p' q' =>
        cases q'
        exact ⟨_, _, rfl, p, p'⟩
  refine wpAny_newObj_type ?_ (by show 2 ≤ sizeLine; decide)
  have I2 : Inv X pins σ H1 { s1 with heap := s1.heap.push { cls := .type "tuple", data := .seq [u1, u2].toArray } } := I1.kept (t' := s1.toks) fun b o e => Heap.get?_push_of_some _ e
  rw [hw]
  refine wpAny_bind (wpAny_pure ?_)
  show wpAny (model X.prog X.w) X.A (do rule "assign.swapped-stores"; let items ← unpackItems (.ref s1.heap.objs.size) 2 none; assignInOrder [fun v => bindName X.env y v, fun v => bindName X.env x v] items.reverse; pure Flow.next) _ _ _
  refine wpAny_bind (wpAny_rule (wpAny_bind (unpackItems_tuple (items := #[u1, u2]) (I.ok.hd hc) (IsTup.new s1.heap _) fun h' hx' => ?_)))
  have I3 := I2.kept (h' := h') (t' := s1.toks) fun b o e => hx' b o (Nat.ne_of_lt (Heap.lt_size e)) e
  show wpAny _ _ (assignInOrder [fun v => bindName X.env y v, fun v => bindName X.env x v] [u2, u1] >>= fun _ => pure Flow.next) _ _ _
  refine wpAny_bind (assignInOrder_cons (wpAny_bindName (store_ok I3 hN hj (.inl hy) rw' (fun s2 I4 => ?_) (.inr hy))))
  refine assignInOrder_cons (wpAny_bindName (store_ok I4 hN hi (.inl hx) rv (fun s3 I5 => assignInOrder_nil (wpAny_pure ?_)) (.inr hx)))
  rw [List.set_comm _ _ (Ne.symm hij)] at I5
  exact ⟨_, H1, I5, q1⟩
/-- name op= e -/
def tAug (i : Nat) (te : TE) (ti : TIp) : TS := fun D σ H => ∃ x, σ[i]? = some (some x) ∧ te σ H fun y H1 => ti x y H1 fun z H2 => D.nx (σ.set i (some z)) H2
theorem ps_aug {i : Nat} {x : Str} {e : Expr} {te : TE} {op : Operator} {ti : TIp} {pos' : Pos} (hN : X.N.Nodup) (hi : X.N[i]? = some x) (hx : Loc X.env.scope x) (he : PE X e te) (ho : PIp X op ti) (hf : X.fn x = true ∨ X.env.scope.names.lookup x = some .local := by first | exact .inl rfl | exact .inr rfl | assumption) :
    PS X (.AugAssign (.Name x pos') op e pos) (tAug i te ti) := by
  intro pins s σ H D I h
  obtain ⟨v, e1, h⟩ := h
  obtain ⟨m, hn, hl⟩ := I.loc
  have vis : Vis X.env.scope x := by rcases hx with k | k; exact .inl k; exact .inr (.inl k)
  obtain ⟨u, r, l⟩ := hl i x v hi e1 vis
  refine wpAny_AugAssign_Name ?_
  have go : wpAny (model X.prog X.w) X.A (eval e X.env) (fun w s₂ => wpAny (model X.prog X.w) X.A (inplaceOp op u w) (fun r s₃ => wpAny (model X.prog X.w) X.A (storeName X.env x r) (fun _ => SP X pins D .next) X.xe s₃) X.xe s₂) X.xe s := by
    refine thn (he pins s σ H _ I h) fun w s1 ⟨y, H1, I1, r1, q1⟩ => ?_
    refine thn (ho pins s1 σ H1 v y u w _ I1 r r1 q1) fun z s2 ⟨zv, H2, I2, r2, q2⟩ => ?_
    exact store_ok I2 hN hi hx r2 (fun s3 I3 => ⟨_, H2, I3, q2⟩) hf
  rcases l with ⟨hk, hm⟩ | ⟨hk, c, hc, hcell⟩
  · exact wpAny_loadName_local I.ok.kind hk hn hm go
  · rcases hk with hk | hk
    · exact wpAny_loadName_cell I.ok.kind hk hc hcell go
    · rcases hx with k | k
      · have : X.env.scope.names.lookup x = some .free := hk
        rw [k] at this; cases this
      · have : X.env.scope.names.lookup x = some .free := hk
        rw [k] at this; cases this
/-- o[i] op= e -/
def tAugS (to ti te : TE) (tget : V → V → Hp → VK → Prop) (tip : TIp) (tset : TSet) : TS := fun D σ H => to σ H fun o H1 => ti σ H1 fun i H2 => tget o i H2 fun x H3 => te σ H3 fun y H4 => tip x y H4 fun z H5 => tset o i z H5 fun H6 => D.nx σ H6
/-- o[i], by values -/
def PGet (X : Cx) (t : V → V → Hp → VK → Prop) : Prop :=
  ∀ (pins : List (Addr × Obj)) (s : Shared) (σ : St) (H : Hp) (o i : V) (ov iv : Value) (Q : VK), Inv X pins σ H s → RelV o ov → RelV i iv → t o i H Q →
    wpAny (model X.prog X.w) X.A (getItem ov iv) (EP X pins σ Q) X.xe s
theorem ps_augS {o i e : Expr} {to ti te : TE} {tget : V → V → Hp → VK → Prop} {tip : TIp} {tset : TSet} {op : Operator} {tpos : Pos} (ho : PE X o to) (hi : PE X i ti) (hg : PGet X tget) (he : PE X e te) (hp : PIp X op tip) (hs : PSet X tset)
    (ha : ∀ ov iv new, augStore i ov iv new = (do holding [new, ov, iv] (setItem ov iv new); release [new, ov, iv] []; pure .next) := by intros; rfl) : PS X (.AugAssign (.Subscript o i tpos) op e pos) (tAugS to ti te tget tip tset) := by
  intro pins s σ H D I h
  refine wpAny_AugAssign_SubscriptAny (thn (ho pins s σ H _ I h) fun ov s1 ⟨x1, H1, I1, r1, q1⟩ => ?_) ha
  refine thn (hi pins s1 σ H1 _ I1 q1) fun iv s2 ⟨x2, H2, I2, r2, q2⟩ => ?_
  refine thn (hg pins s2 σ H2 x1 x2 ov iv _ I2 r1 r2 q2) fun old s3 ⟨x3, H3, I3, r3, q3⟩ => ?_
  refine thn (he pins s3 σ H3 _ I3 q3) fun v s4 ⟨x4, H4, I4, r4, q4⟩ => ?_
  refine thn (hp pins s4 σ H4 x3 x4 old v _ I4 r3 r4 q4) fun new s5 ⟨x5, H5, I5, r5, q5⟩ => ?_
  exact thn (hs pins s5 σ H5 x1 x2 x5 ov iv new _ I5 r1 r2 r5 q5) fun _ s6 ⟨H6, I6, q6⟩ => ⟨σ, H6, I6, q6⟩
/-- ints -/
def ipI (f : Int → Int → Int) : TIp := fun x y H Q => ∃ i j, x = .int i ∧ y = .int j ∧ Q (.int (f i j)) H
theorem ip_add : PIp X .Add (ipI fun i j => i + j) := by
  intro pins s σ H x y v u Q I r1 r2 h
  obtain ⟨i, j, e1, e2, q⟩ := h
  subst e1; subst e2
  obtain ⟨t, rfl⟩ := r1
  obtain ⟨t', rfl⟩ := r2
  exact iadd_int ⟨.int _, H, I.tok _, ⟨_, rfl⟩, q⟩
theorem ip_sub : PIp X .Sub (ipI fun i j => i - j) := by
  intro pins s σ H x y v u Q I r1 r2 h
  obtain ⟨i, j, e1, e2, q⟩ := h
  subst e1; subst e2
  obtain ⟨t, rfl⟩ := r1
  obtain ⟨t', rfl⟩ := r2
  exact isub_int ⟨.int _, H, I.tok _, ⟨_, rfl⟩, q⟩
end

/-! ### while -/
section
variable {X : Cx} {pos : Pos}
/-- the invariant W with its measure -/
def tWhile (c : TT) (tb : TS) : TS := fun D σ H => ∃ W : Nat → St → Hp → Prop, (∃ m, W m σ H) ∧ ∀ m σ H, W m σ H →
  c σ H fun b H1 => if b = true then ∃ N : St → Hp → Prop, (∀ σ' H', N σ' H' → ∃ m', m' < m ∧ W m' σ' H') ∧ tb { D with nx := N, ct := N, bk := D.nx } σ H1 else D.nx σ H1
theorem ps_while {c : Expr} {body : List Stmt} {tc : TT} {tb : TS} (hp : PassesOwn (model X.prog X.w) X.A X.env X.xe) (hc : PT X c tc) (hb : PSs X body tb) : PS X (.While c body [] pos) (tWhile tc tb) := by
  intro pins s σ H D I h
  obtain ⟨W, ⟨m0, w0⟩, turn⟩ := h
  refine wpAny_While (codeAny_whileLoop (fun n s' => ∃ σ' H', Inv X pins σ' H' s' ∧ W n σ' H') ?_ m0 ⟨σ, H, I, w0⟩)
  rintro n s1 ⟨σ1, H1, I1, w1⟩
  refine wpAny_passesOwn hp (thn (hc pins s1 σ1 H1 _ I1 (turn n σ1 H1 w1)) fun b s2 ⟨H2, I2, q2⟩ => ?_)
  cases b with
  | true =>
    obtain ⟨N, hN, q2⟩ := q2
    rw [if_pos rfl]
    refine wpAny_passesOwn hp (thn (hb pins s2 σ1 H2 _ I2 q2) fun f s3 q3 => ?_)
    cases f with
    | next =>
      obtain ⟨σ3, H3, I3, n3⟩ := q3
      obtain ⟨m', hm, w3⟩ := hN σ3 H3 n3
      exact ⟨m', hm, σ3, H3, I3, w3⟩
    | cont =>
      obtain ⟨σ3, H3, I3, n3⟩ := q3
      obtain ⟨m', hm, w3⟩ := hN σ3 H3 n3
      exact ⟨m', hm, σ3, H3, I3, w3⟩
    | brk => exact q3
    | ret v => exact q3
  | false =>
    rw [if_neg Bool.false_ne_true]
    exact wpAny_execs_nil ⟨σ1, H2, I2, q2⟩
end

/-! ### what a loop or a comprehension walks -/
/-- at turn i: it yields x (the heap may grow), or it stops -/
structure It where
  go : Nat → Hp → Prop
  yld : Nat → Hp → V → Hp → Prop
  stop : Nat → Hp → Prop
/-- the iterator's own objects may turn: they are not the frame's, not pinned, younger than the entry (or a comprehension's own) -/
def FpOk (X : Cx) (pins : List (Addr × Obj)) (H : Hp) (b : Addr) : Prop :=
  H b = none ∧ b ≠ X.env.locals ∧ b ∉ X.fs ∧ (b ∈ X.ex ∨ X.s₀.heap.objs.size ≤ b) ∧ (∀ x c, X.env.cells.lookup x = some c → c ≠ b) ∧ ∀ p ∈ X.pn ++ pins, p.1 ≠ b
theorem Inv.fpOk {X : Cx} {pins : List (Addr × Obj)} {σ : St} {H H' : Hp} {s : Shared} {b : Addr} (I : Inv X pins σ H s) (hb : s.heap.objs.size ≤ b) (hn : H' b = none) : FpOk X pins H' b := by
  refine ⟨hn, Nat.ne_of_gt (Nat.lt_of_lt_of_le I.lt hb), I.nofs hb, .inr (Nat.le_trans I.sz hb), fun x c e z => ?_, fun p hp z => ?_⟩
  · obtain ⟨v, q⟩ := I.cell x c e
    exact absurd (Nat.lt_of_lt_of_le q.lt (by rw [z]; exact hb)) (Nat.lt_irrefl _)
  · exact absurd (Nat.lt_of_lt_of_le (Heap.lt_size (I.pin p hp).1) (by rw [z]; exact hb)) (Nat.lt_irrefl _)
structure Turn (P : Program) (w : World) (K : PySem.W.Frag) (tg : Expr) (J : It) (fp : List Addr) (it : Addr) (tn : Nat → Heap → Prop) : Prop where
  mem : it ∈ fp
  obj : ∀ i h, tn i h → ∀ b ∈ fp, ∃ o, h.get? b = some o ∧ ∀ v, o.data ≠ .cell v
  keep : ∀ i h h', tn i h → (∀ b ∈ fp, ∀ o, h.get? b = some o → h'.get? b = some o) → tn i h'
  item : ∀ (X : Cx), X.prog = P → X.w = w → X.K = K → X.calm = true → ∀ (i : Nat) (pins : List (Addr × Obj)) (s : Shared) (σ : St) (H : Hp) (E : Value → Shared → Prop), Inv X pins σ H s → (∀ b ∈ fp, FpOk X pins H b) → tn i s.heap → J.go i H →
    wpAny (model P w) X.A (pyNext (.ref it)) (fun r s1 => ∃ u, r = some u ∧
      wpAny (model P w) X.A (letOwnedTupleGo tg (.ref it) u) (fun _ s2 => ∃ x H', Inv X pins σ H' s2 ∧ RelV x u ∧ J.yld i H x H' ∧ tn (i + 1) s2.heap ∧ ∀ b ∈ fp, H' b = none) E s1) E s
  done : ∀ (X : Cx), X.prog = P → X.w = w → X.K = K → X.calm = true → ∀ (i : Nat) (pins : List (Addr × Obj)) (s : Shared) (σ : St) (H : Hp) (E : Value → Shared → Prop), Inv X pins σ H s → (∀ b ∈ fp, FpOk X pins H b) → tn i s.heap → J.stop i H →
    wpAny (model P w) X.A (pyNext (.ref it)) (fun r s1 => r = none ∧ Inv X pins σ H s1) E s
  self : ∀ (A : Around) (i : Nat) (s : Shared) (Q : Value → Shared → Prop) (E : Value → Shared → Prop), tn i s.heap → Q (.ref it) s → wpAny (model P w) A (pyIter (.ref it)) Q E s
abbrev TI := St → Hp → (It → Hp → Prop) → Prop
/-- an iterator has come -/
def PIE (X : Cx) (pins : List (Addr × Obj)) (σ : St) (tg : Expr) (R : It → Hp → Prop) (itv : Value) (s2 : Shared) : Prop :=
  ∃ (it : Addr) (fp : List Addr) (tn : Nat → Heap → Prop) (J : It) (H' : Hp), itv = .ref it ∧ Inv X pins σ H' s2 ∧ Turn X.prog X.w X.K tg J fp it tn ∧ tn 0 s2.heap ∧ (∀ b ∈ fp, FpOk X pins H' b) ∧ R J H'
def PI (X : Cx) (tg iter : Expr) (wi : TI) : Prop :=
  ∀ (pins : List (Addr × Obj)) (s : Shared) (σ : St) (H : Hp) (R : It → Hp → Prop), Inv X pins σ H s → wi σ H R →
    wpAny (model X.prog X.w) X.A (eval iter X.env) (fun v s1 => wpAny (model X.prog X.w) X.A (pyIter v) (PIE X pins σ tg R) X.xe s1) X.xe s

/-- the step ahead of the store is nothing for an iterator that keeps no tuple -/
theorem go_of {M : Model} {A : Around} {E : Value → Shared → Prop} {s : Shared} {tg : Expr} {it : Addr} {u : Value} {o : Obj} {n : String} {vs : Array Value} {Q : Unit → Shared → Prop} (ho : s.heap.get? it = some o) (hc : o.cls = .type n) (hd : o.data = .fields vs)
    (hn : ["enumerate", "zip", "dict_itemiterator", "dict_reverseitemiterator", "odict_iterator", "itertools.zip_longest", "itertools.pairwise"].contains n = false) (hQ : Q () s) : wpAny M A (letOwnedTupleGo tg (.ref it) u) Q E s := by
  unfold letOwnedTupleGo
  cases tg <;> first
    | exact wpAny_pure hQ
    | (cases u <;> first
        | exact wpAny_pure hQ
        | (refine wpAny_bind (wpAny_load ho ?_)
           rw [hc, hd]
           show wpAny M A (if (["enumerate", "zip", "dict_itemiterator", "dict_reverseitemiterator", "odict_iterator", "itertools.zip_longest", "itertools.pairwise"].contains n && vs[0]? == some (rawInt _)) = true then _ else _) Q E s
           rw [if_neg (by intro h; rw [hn, Bool.false_and] at h; cases h)]
           exact wpAny_pure hQ))

/-- the list at a, as it stands at each turn (a loop may append to it) -/
def Itl (K : PySem.W.Frag) (a : Addr) : It :=
  ⟨fun i H => ∃ xs x, SqL K H a xs ∧ xs[i]? = some x, fun i H x H' => H' = H ∧ ∀ xs, SqL K H a xs → xs[i]? = some x, fun i H => ∃ xs, SqL K H a xs ∧ xs.length ≤ i⟩
def Itt (K : PySem.W.Frag) (a : Addr) : It :=
  ⟨fun i H => ∃ xs x, SqT K H a xs ∧ xs[i]? = some x, fun i H x H' => H' = H ∧ ∀ xs, SqT K H a xs → xs[i]? = some x, fun i H => ∃ xs, SqT K H a xs ∧ xs.length ≤ i⟩
/-- lo, lo + 1, .. (n of them) -/
def Itr (lo : Int) (n : Nat) : It := ⟨fun i _ => i < n, fun i H x H' => H' = H ∧ x = .int (lo + i), fun i _ => n ≤ i⟩
theorem turn_list {P : Program} {w : World} {K : PySem.W.Frag} {tg : Expr} (a it : Addr) : Turn P w K tg (Itl K a) [it] it (fun i h => h.IsListIter it a i) where
  mem := by simp
  obj := fun i h st b hb => by
    have e : b = it := by simpa using hb
    subst e
    obtain ⟨o, e, c, d⟩ := st
    exact ⟨o, e, fun v z => by rw [d] at z; cases z⟩
  keep := fun i h h' st k => st.at fun o e => k it (by simp) o e
  item := by
    intro X hP hw hK hc i pins s σ H E I hf st hg
    subst hP hw hK
    obtain ⟨xs, x, hq, hx⟩ := hg
    obtain ⟨its, rv, p, hz⟩ := I.list hq
    obtain ⟨u, hu, ru⟩ := rv.get hx
    obtain ⟨f0, f1, f2, f3, f4, f5⟩ := hf it (by simp)
    refine wpAny_pyNext_list_item st p.isList (x := u) (by simpa using hu) fun h' st' sb => ?_
    have I1 : Inv X pins σ H { s with heap := h' } := I.turned (t' := s.toks) (fun b o hb e => (sb.2 b hb).trans e) f0 f1 f3 f4 f5
    obtain ⟨o, e, c, d⟩ := id st'
    exact ⟨u, rfl, go_of (s := { s with heap := h' }) e c d (by decide) ⟨x, H, I1, ru, ⟨rfl, fun ys hy => by rw [I.list_inj hy hq]; exact hx⟩, st', fun b hb => (hf b hb).1⟩⟩
  done := by
    intro X hP hw hK hc i pins s σ H E I hf st hg
    subst hP hw hK
    obtain ⟨xs, hq, hx⟩ := hg
    obtain ⟨its, rv, p, hz⟩ := I.list hq
    obtain ⟨f0, f1, f2, f3, f4, f5⟩ := hf it (by simp)
    have hl := rv.length
    exact wpAny_pyNext_list_end (I.ok.hd hc) st p.isList (by simp; omega) fun h' eb => ⟨rfl, I.turned (t' := s.toks) (fun b o hb e => eb b o hb e) f0 f1 f3 f4 f5⟩
  self := fun _ _ _ _ _ st h => wpAny_pyIter_listiter st h
theorem turn_tuple {P : Program} {w : World} {K : PySem.W.Frag} {tg : Expr} (a it : Addr) : Turn P w K tg (Itt K a) [it] it (fun i h => h.IsTupleIter it a i) where
  mem := by simp
  obj := fun i h st b hb => by
    have e : b = it := by simpa using hb
    subst e
    obtain ⟨o, e, c, d⟩ := st
    exact ⟨o, e, fun v z => by rw [d] at z; cases z⟩
  keep := fun i h h' st k => st.at fun o e => k it (by simp) o e
  item := by
    intro X hP hw hK hc i pins s σ H E I hf st hg
    subst hP hw hK
    obtain ⟨xs, x, hq, hx⟩ := hg
    obtain ⟨its, rv, p, hz⟩ := I.tuple hq
    obtain ⟨u, hu, ru⟩ := rv.get hx
    obtain ⟨f0, f1, f2, f3, f4, f5⟩ := hf it (by simp)
    refine wpAny_pyNext_tuple_item st (show s.heap.IsTuple a its.toArray from p) (x := u) (by simpa using hu) fun h' st' sb => ?_
    have I1 : Inv X pins σ H { s with heap := h' } := I.turned (t' := s.toks) (fun b o hb e => (sb.2 b hb).trans e) f0 f1 f3 f4 f5
    obtain ⟨o, e, c, d⟩ := id st'
    exact ⟨u, rfl, go_of (s := { s with heap := h' }) e c d (by decide) ⟨x, H, I1, ru, ⟨rfl, fun ys hy => by rw [I.tuple_inj hy hq]; exact hx⟩, st', fun b hb => (hf b hb).1⟩⟩
  done := by
    intro X hP hw hK hc i pins s σ H E I hf st hg
    subst hP hw hK
    obtain ⟨xs, hq, hx⟩ := hg
    obtain ⟨its, rv, p, hz⟩ := I.tuple hq
    obtain ⟨f0, f1, f2, f3, f4, f5⟩ := hf it (by simp)
    have hl := rv.length
    exact wpAny_pyNext_tuple_end (I.ok.hd hc) st (show s.heap.IsTuple a its.toArray from p) (by simp; omega) fun h' eb => ⟨rfl, I.turned (t' := s.toks) (fun b o hb e => eb b o hb e) f0 f1 f3 f4 f5⟩
  self := fun _ _ _ _ _ st h => wpAny_pyIter_tupleiter st h
theorem turn_range {P : Program} {w : World} {K : PySem.W.Frag} {tg : Expr} (it : Addr) (lo : Int) (n : Nat) : Turn P w K tg (Itr lo n) [it] it (fun i h => IsRangeIter h it (lo + (i : Nat) * 1) ((n : Int) - (i : Nat)) 1) where
  mem := by simp
  obj := fun i h st b hb => by
    have e : b = it := by simpa using hb
    subst e
    exact ⟨_, st, fun v z => by
      have z' : Data.fields _ = Data.cell v := z
      cases z'⟩
  keep := fun i h h' st k => k it (by simp) _ st
  item := by
    intro X hP hw hK hc i pins s σ H E I hf st hg
    subst hP hw hK
    obtain ⟨f0, f1, f2, f3, f4, f5⟩ := hf it (by simp)
    have W := Walks.range (prog := X.prog) (w := X.w) (I.ok.hd hc) it lo 1 n
    refine W.item i s _ _ hg st fun v h' tk hv st' kk => ?_
    obtain ⟨t, rfl⟩ := hv
    have I1 : Inv X pins σ H { s with heap := h', toks := tk } := I.turned (fun b o hb e => kk b o (by simpa using hb) e) f0 f1 f3 f4 f5
    refine ⟨_, rfl, go_of (s := { s with heap := h', toks := tk }) (n := "range_iterator") st' rfl rfl (by decide) ⟨.int (lo + i), H, I1, ⟨t, ?_⟩, ⟨rfl, rfl⟩, st', fun b hb => (hf b hb).1⟩⟩
    rw [Int.mul_one]
  done := by
    intro X hP hw hK hc i pins s σ H E I hf st hg
    subst hP hw hK
    obtain ⟨f0, f1, f2, f3, f4, f5⟩ := hf it (by simp)
    exact wpAny_pyNext_range_end (I.ok.hd hc) st (by have : n ≤ i := hg; omega) fun h' eb => ⟨rfl, I.turned (t' := s.toks) (fun b o hb e => eb b o hb e) f0 f1 f3 f4 f5⟩
  self := fun _ _ _ _ _ st h => wpAny_pyIter_rangeiter st h
end L2

namespace L2
open PySem PySem.Spec PyProof.Rows
section
variable {X : Cx} {tg : Expr}
def iList (K : PySem.W.Frag) (tl : TE) : TI := fun σ H R => tl σ H fun x H1 => ∃ a, x = .ref a ∧ (∃ xs, SqL K H1 a xs) ∧ R (Itl K a) H1
def iTup (K : PySem.W.Frag) (tl : TE) : TI := fun σ H R => tl σ H fun x H1 => ∃ a, x = .ref a ∧ (∃ xs, SqT K H1 a xs) ∧ R (Itt K a) H1
theorem pi_list {l : Expr} {tl : TE} (hl : PE X l tl) : PI X tg l (iList X.K tl) := by
  intro pins s σ H R I h
  refine thn (hl pins s σ H _ I h) fun v s1 ⟨x, H1, I1, r1, q1⟩ => ?_
  obtain ⟨a, e, ⟨xs, hq⟩, q⟩ := q1
  subst e
  cases r1
  obtain ⟨its, rv, p, hz⟩ := I1.list hq
  refine wpAny_pyIter_list p.isList ?_
  refine ⟨s1.heap.objs.size, [s1.heap.objs.size], _, _, H1, rfl, I1.kept (t' := s1.toks) fun b o e => Heap.get?_push_of_some _ e, turn_list a _, ⟨_, Heap.get?_push_size _ rfl, rfl, rfl⟩, fun b hb => ?_, q⟩
  have e : b = s1.heap.objs.size := by simpa using hb
  subst e
  exact I1.fpOk (Nat.le_refl _) (I1.hok.fresh (Nat.le_refl _))
theorem pi_tup {l : Expr} {tl : TE} (hl : PE X l tl) : PI X tg l (iTup X.K tl) := by
  intro pins s σ H R I h
  refine thn (hl pins s σ H _ I h) fun v s1 ⟨x, H1, I1, r1, q1⟩ => ?_
  obtain ⟨a, e, ⟨xs, hq⟩, q⟩ := q1
  subst e
  cases r1
  obtain ⟨its, rv, p, hz⟩ := I1.tuple hq
  refine wpAny_pyIter_tuple (show s1.heap.IsTuple a its.toArray from p) ?_
  refine ⟨s1.heap.objs.size, [s1.heap.objs.size], _, _, H1, rfl, I1.kept (t' := s1.toks) fun b o e => Heap.get?_push_of_some _ e, turn_tuple a _, ⟨_, Heap.get?_push_size _ rfl, rfl, rfl⟩, fun b hb => ?_, q⟩
  have e : b = s1.heap.objs.size := by simpa using hb
  subst e
  exact I1.fpOk (Nat.le_refl _) (I1.hok.fresh (Nat.le_refl _))
/-- a range object just made, walked -/
theorem range_it {pins : List (Addr × Obj)} {σ : St} {H : Hp} {s : Shared} {R : It → Hp → Prop} {E : Value → Shared → Prop} {lo hi : Int} {t u v : Tok} {tk : Nat} (I : Inv X pins σ H s) (h1 : -(2 ^ 62) ≤ lo) (h2 : lo < 2 ^ 62) (h3 : -(2 ^ 62) ≤ hi) (h4 : hi < 2 ^ 62)
    (q : R (Itr lo (hi - lo).toNat) H) : wpAny (model X.prog X.w) X.A (pyIter (.ref s.heap.objs.size)) (PIE X pins σ tg R) E { s with heap := s.heap.push { cls := .type "range", data := .fields #[.int lo t, .int hi u, .int 1 v] }, toks := tk } := by
  refine wpAny_pyIter_range (IsRange.new ..) (small_one h1 h2 h3 h4) ?_
  have I1 : Inv X pins σ H { s with heap := s.heap.push { cls := .type "range", data := .fields #[.int lo t, .int hi u, .int 1 v] }, toks := tk } := I.kept fun b o e => Heap.get?_push_of_some _ e
  refine ⟨(s.heap.push { cls := .type "range", data := .fields #[.int lo t, .int hi u, .int 1 v] }).objs.size, [(s.heap.push { cls := .type "range", data := .fields #[.int lo t, .int hi u, .int 1 v] }).objs.size], _, _, H, rfl,
    I1.kept (t' := tk) fun b o e => Heap.get?_push_of_some _ e, turn_range _ lo (hi - lo).toNat, ?_, fun b hb => ?_, q⟩
  · have e1 : lo + ((0 : Nat) : Int) * 1 = lo := by simp
    have e2 : (((hi - lo).toNat : Nat) : Int) - ((0 : Nat) : Int) = Builtin.Range.rangeSize lo hi 1 := by rw [rangeSize_one]; split <;> omega
    show IsRangeIter _ _ (lo + ((0 : Nat) : Int) * 1) ((((hi - lo).toNat : Nat) : Int) - ((0 : Nat) : Int)) 1
    rw [e1, e2]
    exact Heap.get?_push_size _ rfl
  · have e : b = (s.heap.push { cls := .type "range", data := .fields #[.int lo t, .int hi u, .int 1 v] }).objs.size := by simpa using hb
    subst e
    exact I1.fpOk (Nat.le_refl _) (I1.hok.fresh (Nat.le_refl _))
def iRng1 (ta : TA) : TI := fun σ H R => ta σ H fun vs H1 => ∃ j : Int, vs = [.int j] ∧ -(2 ^ 62) ≤ j ∧ j < 2 ^ 62 ∧ R (Itr 0 j.toNat) H1
def iRng2 (ta : TA) : TI := fun σ H R => ta σ H fun vs H1 => ∃ i j : Int, vs = [.int i, .int j] ∧ (-(2 ^ 62) ≤ i ∧ i < 2 ^ 62 ∧ -(2 ^ 62) ≤ j ∧ j < 2 ^ 62) ∧ R (Itr i (j - i).toNat) H1
theorem pi_range1 {a : Expr} {ta : TA} {p pos : Pos} (hg : Gl X "range") (hm : X.mg "range" = none) (ha : PA X [a] ta) (hs : starEach [a] X.env = [(false, eval a X.env)] := by rfl) : PI X tg (.Call (.Name "range" p) [a] [] pos) (iRng1 ta) := by
  intro pins s σ H R I h
  refine Call_ (ld_blt I hg hm boot_range (PyProof.Rows.callWith_type1 (thn (ha pos pins s σ H _ I h) fun us s1 ⟨vs, H1, I1, r1, q1⟩ => ?_) hs rfl))
  obtain ⟨j, e, q1, q2, q⟩ := q1
  subst e
  cases r1 with
  | cons r rr =>
    cases rr
    obtain ⟨t, rfl⟩ := r
    exact call_range_1 (range_it I1 (by omega) (by omega) q1 q2 (by simpa using q))
theorem pi_range2 {a b : Expr} {ta : TA} {p pos : Pos} (hg : Gl X "range") (hm : X.mg "range" = none) (ha : PA X [a, b] ta) (hs : starEach [a, b] X.env = [(false, eval a X.env), (false, eval b X.env)] := by rfl) (hs2 : starEach [b] X.env = [(false, eval b X.env)] := by rfl) :
    PI X tg (.Call (.Name "range" p) [a, b] [] pos) (iRng2 ta) := by
  intro pins s σ H R I h
  refine Call_ (ld_blt I hg hm boot_range (PyProof.Rows.callWith_type1 (thn (ha pos pins s σ H _ I h) fun us s1 ⟨vs, H1, I1, r1, q1⟩ => ?_) (by rw [hs, hs2]) (by rw [hs2]; rfl)))
  obtain ⟨i, j, e, ⟨q1, q2, q3, q4⟩, q⟩ := q1
  subst e
  cases r1 with
  | cons r rr =>
    cases rr with
    | cons r' rr =>
      cases rr
      obtain ⟨t, rfl⟩ := r
      obtain ⟨t', rfl⟩ := r'
      exact call_range_2 (range_it I1 q1 q2 q3 q4 q)

/-! ### for -/
/-- W: the invariant by the turn and a measure; N: what the body is to reach -/
def tFor (wi : TI) (g : TG) (tb : TS) : TS := fun D σ H => wi σ H fun J H1 => ∃ W : Nat → Nat → St → Hp → Prop, (∃ m, W 0 m σ H1) ∧ ∀ i m σ H, W i m σ H →
  (J.stop i H ∧ D.nx σ H) ∨ (J.go i H ∧ ∃ N : St → Hp → Prop, (∀ σ' H', N σ' H' → ∃ m', m' < m ∧ W (i + 1) m' σ' H') ∧ ∀ x H', J.yld i H x H' → g x σ H' fun σ2 H2 => tb { D with nx := N, ct := N, bk := D.nx } σ2 H2)
/-- the records at fp as they stand -/
def pinsAt (fp : List Addr) (h : Heap) : List (Addr × Obj) := fp.filterMap fun b => (h.get? b).map fun o => (b, o)
theorem mem_pinsAt {fp : List Addr} {h : Heap} {b : Addr} {o : Obj} (hb : b ∈ fp) (e : h.get? b = some o) : (b, o) ∈ pinsAt fp h := List.mem_filterMap.mpr ⟨b, hb, by rw [e]; rfl⟩
theorem of_pinsAt {fp : List Addr} {h : Heap} {p : Addr × Obj} (hp : p ∈ pinsAt fp h) : p.1 ∈ fp ∧ h.get? p.1 = some p.2 := by
  obtain ⟨b, hb, e⟩ := List.mem_filterMap.mp hp
  cases q : h.get? b with
  | none => rw [q] at e; cases e
  | some o =>
    rw [q] at e
    have e' : (b, o) = p := Option.some.inj e
    subst e'
    exact ⟨hb, q⟩
theorem Inv.pinned {pins : List (Addr × Obj)} {σ : St} {H : Hp} {s : Shared} {fp : List Addr} (I : Inv X pins σ H s) (hf : ∀ b ∈ fp, FpOk X pins H b) (ho : ∀ b ∈ fp, ∃ o, s.heap.get? b = some o ∧ ∀ v, o.data ≠ .cell v) : Inv X (pins ++ pinsAt fp s.heap) σ H s :=
  I.pins_of fun p hp => (List.mem_append.mp hp).elim (fun z => I.pin p (List.mem_append_right _ z)) fun z => by
    obtain ⟨hb, e⟩ := of_pinsAt z
    obtain ⟨f0, f1, f2, _⟩ := hf p.1 hb
    obtain ⟨o, e', d⟩ := ho p.1 hb
    rw [e] at e'; cases e'
    exact ⟨e, f0, f1, f2, d⟩
theorem Inv.unpinned {pins pl : List (Addr × Obj)} {σ : St} {H : Hp} {s : Shared} (I : Inv X (pins ++ pl) σ H s) : Inv X pins σ H s := I.pins_of fun p hp => I.pin p (List.mem_append_right _ (List.mem_append_left _ hp))
theorem ps_for {iter : Expr} {body : List Stmt} {wi : TI} {g : TG} {tb : TS} {pos : Pos} (hp : PassesOwn (model X.prog X.w) X.A X.env X.xe) (hc : X.calm = true) (hi : PI X tg iter wi) (hg : PG X tg g) (hb : PSs X body tb)
    (hs : ∀ x, foldedSetIterable iter X.env x = pure x := by intro _; rfl) : PS X (.For tg iter body [] pos) (tFor wi g tb) := by
  intro pins s σ H D I h
  refine wpAny_For (thn (hi pins s σ H _ I h) fun v s1 h1 => thn h1 fun itv s2 h2 => ?_) hs
  obtain ⟨it, fp, tn, J, H2, e, I2, T, st2, f2, W, ⟨m0, w0⟩, turn⟩ := h2
  subst e
  -- what stays true of the iterator's objects through the loop
  have stat : ∀ {H' : Hp}, (∀ b ∈ fp, H' b = none) → ∀ b ∈ fp, FpOk X pins H' b := fun hn b hb => ⟨hn b hb, (f2 b hb).2⟩
  refine codeAny_forLoop_any (fun n s' => ∃ i σ' H', Inv X pins σ' H' s' ∧ tn i s'.heap ∧ (∀ b ∈ fp, H' b = none) ∧ W i n σ' H') ?_ m0 ⟨0, σ, H2, I2, st2, fun b hb => (f2 b hb).1, w0⟩
  rintro n s3 ⟨i, σ3, H3, I3, st3, fr3, w3⟩
  rcases turn i n σ3 H3 w3 with ⟨stop, qn⟩ | ⟨go, N, hN, step⟩
  · refine wpAny_passesOwn hp (thn (T.done X rfl rfl rfl hc i pins s3 σ3 H3 X.xe I3 (stat fr3) st3 stop) fun r s4 ⟨hr, I4⟩ => ?_)
    subst hr
    exact wpAny_execs_nil ⟨σ3, H3, I4, qn⟩
  · refine wpAny_passesOwn hp (thn (T.item X rfl rfl rfl hc i pins s3 σ3 H3 X.xe I3 (stat fr3) st3 go) fun r s4 ⟨u, hr, h4⟩ => ?_)
    subst hr
    refine wpAny_passesOwn hp (thn h4 fun _ s5 ⟨x, H5, I5, r5, y5, st5, fr5⟩ => ?_)
    have I5' := I5.pinned (stat fr5) (T.obj _ _ st5)
    refine wpAny_passesOwn hp (thn (hg _ s5 σ3 H5 x u _ I5' r5 (step x H5 y5)) fun _ s6 ⟨σ6, H6, I6, q6⟩ => ?_)
    refine wpAny_passesOwn hp (thn (hb _ s6 σ6 H6 _ I6 q6) fun f s7 q7 => ?_)
    have again : ∀ {σ7 : St} {H7 : Hp}, Inv X (pins ++ pinsAt fp s5.heap) σ7 H7 s7 → N σ7 H7 → ∃ m, m < n ∧ ∃ i σ' H', Inv X pins σ' H' s7 ∧ tn i s7.heap ∧ (∀ b ∈ fp, H' b = none) ∧ W i m σ' H' := fun {σ7 H7} I7 n7 => by
      obtain ⟨m', hm, w7⟩ := hN σ7 H7 n7
      refine ⟨m', hm, i + 1, σ7, H7, I7.unpinned, T.keep _ _ _ st5 fun b hb o e => (I7.pin (b, o) (List.mem_append_right _ (List.mem_append_right _ (mem_pinsAt hb e)))).1, fun b hb => ?_, w7⟩
      obtain ⟨o, e, d⟩ := T.obj _ _ st5 b hb
      exact (I7.pin (b, o) (List.mem_append_right _ (List.mem_append_right _ (mem_pinsAt hb e)))).2.1
    cases f with
    | next => obtain ⟨σ7, H7, I7, n7⟩ := q7; exact again I7 n7
    | cont => obtain ⟨σ7, H7, I7, n7⟩ := q7; exact again I7 n7
    | brk => obtain ⟨σ7, H7, I7, q7⟩ := q7; exact ⟨σ7, H7, I7.unpinned, q7⟩
    | ret v => obtain ⟨x7, σ7, H7, I7, r7, q7⟩ := q7; exact ⟨x7, σ7, H7, I7.unpinned, r7, q7⟩
end

/-! ### the forms one uses -/
/-- over a list that the body leaves as it is -/
theorem for_list {K : PySem.W.Frag} {a : Addr} {xs : List V} {g : TG} {tb : TS} {D : Ends} {σ : St} {H : Hp} (Pv : Nat → St → Hp → Prop) (h0 : Pv 0 σ H) (hl : ∀ i σ H, i ≤ xs.length → Pv i σ H → SqL K H a xs)
    (hs : ∀ i x σ H, xs[i]? = some x → Pv i σ H → g x σ H fun σ2 H2 => tb { D with nx := Pv (i + 1), ct := Pv (i + 1), bk := D.nx } σ2 H2) (hd : ∀ σ H, Pv xs.length σ H → D.nx σ H) :
    ∃ W : Nat → Nat → St → Hp → Prop, (∃ m, W 0 m σ H) ∧ ∀ i m σ H, W i m σ H →
      ((Itl K a).stop i H ∧ D.nx σ H) ∨ ((Itl K a).go i H ∧ ∃ N : St → Hp → Prop, (∀ σ' H', N σ' H' → ∃ m', m' < m ∧ W (i + 1) m' σ' H') ∧ ∀ x H', (Itl K a).yld i H x H' → g x σ H' fun σ2 H2 => tb { D with nx := N, ct := N, bk := D.nx } σ2 H2) := by
  refine ⟨fun i m σ H => m = xs.length - i ∧ i ≤ xs.length ∧ Pv i σ H, ⟨xs.length, by simp, Nat.zero_le _, h0⟩, ?_⟩
  rintro i m σ H ⟨rfl, hi, p⟩
  have q := hl i σ H hi p
  by_cases hlt : i < xs.length
  · refine .inr ⟨⟨xs, xs[i], q, by simp [hlt]⟩, Pv (i + 1), fun σ' H' p' => ⟨xs.length - (i + 1), by omega, rfl, hlt, p'⟩, fun x H' y => ?_⟩
    obtain ⟨e, y⟩ := y
    subst e
    exact hs i x σ _ (y xs q) p
  · have e : i = xs.length := by omega
    subst e
    exact .inl ⟨⟨xs, q, Nat.le_refl _⟩, hd σ H p⟩
theorem for_tup {K : PySem.W.Frag} {a : Addr} {xs : List V} {g : TG} {tb : TS} {D : Ends} {σ : St} {H : Hp} (Pv : Nat → St → Hp → Prop) (h0 : Pv 0 σ H) (hl : ∀ i σ H, i ≤ xs.length → Pv i σ H → SqT K H a xs)
    (hs : ∀ i x σ H, xs[i]? = some x → Pv i σ H → g x σ H fun σ2 H2 => tb { D with nx := Pv (i + 1), ct := Pv (i + 1), bk := D.nx } σ2 H2) (hd : ∀ σ H, Pv xs.length σ H → D.nx σ H) :
    ∃ W : Nat → Nat → St → Hp → Prop, (∃ m, W 0 m σ H) ∧ ∀ i m σ H, W i m σ H →
      ((Itt K a).stop i H ∧ D.nx σ H) ∨ ((Itt K a).go i H ∧ ∃ N : St → Hp → Prop, (∀ σ' H', N σ' H' → ∃ m', m' < m ∧ W (i + 1) m' σ' H') ∧ ∀ x H', (Itt K a).yld i H x H' → g x σ H' fun σ2 H2 => tb { D with nx := N, ct := N, bk := D.nx } σ2 H2) := by
  refine ⟨fun i m σ H => m = xs.length - i ∧ i ≤ xs.length ∧ Pv i σ H, ⟨xs.length, by simp, Nat.zero_le _, h0⟩, ?_⟩
  rintro i m σ H ⟨rfl, hi, p⟩
  have q := hl i σ H hi p
  by_cases hlt : i < xs.length
  · refine .inr ⟨⟨xs, xs[i], q, by simp [hlt]⟩, Pv (i + 1), fun σ' H' p' => ⟨xs.length - (i + 1), by omega, rfl, hlt, p'⟩, fun x H' y => ?_⟩
    obtain ⟨e, y⟩ := y
    subst e
    exact hs i x σ _ (y xs q) p
  · have e : i = xs.length := by omega
    subst e
    exact .inl ⟨⟨xs, q, Nat.le_refl _⟩, hd σ H p⟩
theorem for_range {lo : Int} {n : Nat} {g : TG} {tb : TS} {D : Ends} {σ : St} {H : Hp} (Pv : Nat → St → Hp → Prop) (h0 : Pv 0 σ H)
    (hs : ∀ i σ H, i < n → Pv i σ H → g (.int (lo + i)) σ H fun σ2 H2 => tb { D with nx := Pv (i + 1), ct := Pv (i + 1), bk := D.nx } σ2 H2) (hd : ∀ σ H, Pv n σ H → D.nx σ H) :
    ∃ W : Nat → Nat → St → Hp → Prop, (∃ m, W 0 m σ H) ∧ ∀ i m σ H, W i m σ H →
      ((Itr lo n).stop i H ∧ D.nx σ H) ∨ ((Itr lo n).go i H ∧ ∃ N : St → Hp → Prop, (∀ σ' H', N σ' H' → ∃ m', m' < m ∧ W (i + 1) m' σ' H') ∧ ∀ x H', (Itr lo n).yld i H x H' → g x σ H' fun σ2 H2 => tb { D with nx := N, ct := N, bk := D.nx } σ2 H2) := by
  refine ⟨fun i m σ H => m = n - i ∧ i ≤ n ∧ Pv i σ H, ⟨n, by simp, Nat.zero_le _, h0⟩, ?_⟩
  rintro i m σ H ⟨rfl, hi, p⟩
  by_cases hlt : i < n
  · refine .inr ⟨hlt, Pv (i + 1), fun σ' H' p' => ⟨n - (i + 1), by omega, rfl, hlt, p'⟩, fun x H' y => ?_⟩
    obtain ⟨e, y⟩ := y
    subst e y
    exact hs i σ _ hlt p
  · have e : i = n := by omega
    subst e
    exact .inl ⟨Nat.le_refl _, hd σ H p⟩
/-- while, by a word and a measure of the state -/
theorem while_by {c : TT} {tb : TS} {D : Ends} {σ : St} {H : Hp} (Pv : St → Hp → Prop) (μ : St → Hp → Nat) (h0 : Pv σ H)
    (hs : ∀ σ H, Pv σ H → c σ H fun b H1 => if b = true then tb { D with nx := fun σ' H' => Pv σ' H' ∧ μ σ' H' < μ σ H, ct := fun σ' H' => Pv σ' H' ∧ μ σ' H' < μ σ H, bk := D.nx } σ H1 else D.nx σ H1)
    (mono : ∀ σ H Q Q', (∀ b H1, Q b H1 → Q' b H1) → c σ H Q → c σ H Q') : tWhile c tb D σ H := by
  refine ⟨fun m σ H => m = μ σ H ∧ Pv σ H, ⟨_, rfl, h0⟩, ?_⟩
  rintro m σ H ⟨rfl, p⟩
  refine mono σ H _ _ (fun b H1 q => ?_) (hs σ H p)
  cases b with
  | true => exact ⟨_, fun σ' H' ⟨p', l⟩ => ⟨_, l, rfl, p'⟩, q⟩
  | false => exact q
end L2

namespace L2
open PySem PySem.Spec PyProof.Rows

abbrev R2 := V → V → Hp → VK → Prop
/-- a two-place operation on values: f is binaryOp op, inplaceOp op or compareOp op -/
def OpR (X : Cx) (f : Value → Value → Sem Value) (r : R2) : Prop :=
  ∀ (pins : List (Addr × Obj)) (s : Shared) (σ : St) (H : Hp) (x y : V) (v u : Value) (Q : VK), Inv X pins σ H s → RelV x v → RelV y u → r x y H Q →
    wpAny (model X.prog X.w) X.A (f v u) (EP X pins σ Q) X.xe s
/-- a one-place operation -/
def UnR (X : Cx) (f : Value → Sem Value) (r : V → Hp → VK → Prop) : Prop :=
  ∀ (pins : List (Addr × Obj)) (s : Shared) (σ : St) (H : Hp) (x : V) (v : Value) (Q : VK), Inv X pins σ H s → RelV x v → r x H Q →
    wpAny (model X.prog X.w) X.A (f v) (EP X pins σ Q) X.xe s
/-- a call of a value that is known (a builtin, a type) with values -/
def CallR (X : Cx) (f : Value) (r : List V → Hp → VK → Prop) : Prop :=
  ∀ (pins : List (Addr × Obj)) (s : Shared) (σ : St) (H : Hp) (xs : List V) (us : List Value) (Q : VK), Inv X pins σ H s → Vals xs us → r xs H Q →
    wpAny (model X.prog X.w) X.A (call f us) (EP X pins σ Q) X.xe s
/-- a value's truth -/
def TruR (X : Cx) (r : V → Hp → (Bool → Hp → Prop) → Prop) : Prop :=
  ∀ (pins : List (Addr × Obj)) (s : Shared) (σ : St) (H : Hp) (x : V) (v : Value) (Q : Bool → Hp → Prop), Inv X pins σ H s → RelV x v → r x H Q →
    wpAny (model X.prog X.w) X.A (truthy v) (TP X pins σ Q) X.xe s

def tOp (r : R2) (ta tb : TE) : TE := fun σ H Q => ta σ H fun x H1 => tb σ H1 fun y H2 => r x y H2 Q
def tUn (r : V → Hp → VK → Prop) (ta : TE) : TE := fun σ H Q => ta σ H fun x H1 => r x H1 Q
/-- ints in, under C, and a value out -/
def rI (C : Int → Int → Prop) (g : Int → Int → V) : R2 := fun x y H Q => ∃ i j, x = .int i ∧ y = .int j ∧ C i j ∧ Q (g i j) H
def rI0 (g : Int → Int → V) : R2 := fun x y H Q => ∃ i j, x = .int i ∧ y = .int j ∧ Q (g i j) H
def rU (g : Int → V) : V → Hp → VK → Prop := fun x H Q => ∃ i, x = .int i ∧ Q (g i) H

section
variable {X : Cx} {a b c : Expr} {ta tb tc : TE} {pos : Pos}

theorem binT (ha : PE X a ta) (hb : PE X b tb) {pins : List (Addr × Obj)} {s : Shared} {σ : St} {H : Hp} {R : V → V → Hp → Prop} (I : Inv X pins σ H s)
    (h : ta σ H fun x H1 => tb σ H1 fun y H2 => R x y H2) {Q : Value → Shared → Prop} {f : Value → Value → Sem Value}
    (hf : ∀ v u s2 x y H2, Inv X pins σ H2 s2 → RelV x v → RelV y u → R x y H2 → wpAny (model X.prog X.w) X.A (f v u) Q X.xe s2) :
    wpAny (model X.prog X.w) X.A (eval a X.env) (fun v s₁ => wpAny (model X.prog X.w) X.A (eval b X.env) (fun u s₂ => wpAny (model X.prog X.w) X.A (f v u) Q X.xe s₂) X.xe s₁) X.xe s := by
  refine thn (ha pins s σ H _ I h) fun v s1 ⟨x, H1, I1, r1, q1⟩ => ?_
  refine thn (hb pins s1 σ H1 _ I1 q1) fun u s2 ⟨y, H2, I2, r2, q2⟩ => ?_
  exact hf v u s2 x y H2 I2 r1 r2 q2

theorem pe_op {op : Operator} {r : R2} (ho : OpR X (binaryOp op) r) (ha : PE X a ta) (hb : PE X b tb) : PE X (.BinOp a op b pos) (tOp r ta tb) := by
  intro pins s σ H Q I h
  exact wpAny_BinOp (binT ha hb I h fun v u s2 x y H2 I2 rx ry q => ho pins s2 σ H2 x y v u Q I2 rx ry q)
theorem pe_un {op : UnaryOp} {r : V → Hp → VK → Prop} (ho : UnR X (unaryOp op) r) (ha : PE X a ta) : PE X (.UnaryOp op a pos) (tUn r ta) := by
  intro pins s σ H Q I h
  exact UnaryOp_ (thn (ha pins s σ H _ I h) fun v s1 ⟨x, H1, I1, r1, q1⟩ => ho pins s1 σ H1 x v Q I1 r1 q1)
/-- a op= e at a name: the name's slot i -/
theorem augR {op : Operator} {r : R2} (ho : OpR X (inplaceOp op) r) {pins : List (Addr × Obj)} {s : Shared} {σ : St} {H : Hp} {x y : V} {v u : Value} {Q : VK} (I : Inv X pins σ H s)
    (rx : RelV x v) (ry : RelV y u) (q : r x y H Q) : wpAny (model X.prog X.w) X.A (inplaceOp op v u) (EP X pins σ Q) X.xe s := ho pins s σ H x y v u Q I rx ry q

/-! ### ints -/
theorem opI {f : Value → Value → Sem Value} {C : Int → Int → Prop} {g : Int → Int → Int}
    (rule : ∀ (i j : Int) (t u : Tok) (s : Shared) (Q : Value → Shared → Prop) (E : Value → Shared → Prop), C i j → Q (.int (g i j) s.toks) { s with toks := s.toks + 1 } → wpAny (model X.prog X.w) X.A (f (.int i t) (.int j u)) Q E s) :
    OpR X f (rI C fun i j => .int (g i j)) := by
  intro pins s σ H x y v u Q I rx ry h
  obtain ⟨i, j, rfl, rfl, hc, q⟩ := h
  obtain ⟨t, rfl⟩ := rx
  obtain ⟨t', rfl⟩ := ry
  exact rule i j t t' s _ _ hc ⟨.int (g i j), H, I.tok _, ⟨_, rfl⟩, q⟩
theorem opI0 {f : Value → Value → Sem Value} {g : Int → Int → Int}
    (rule : ∀ (i j : Int) (t u : Tok) (s : Shared) (Q : Value → Shared → Prop) (E : Value → Shared → Prop), Q (.int (g i j) s.toks) { s with toks := s.toks + 1 } → wpAny (model X.prog X.w) X.A (f (.int i t) (.int j u)) Q E s) :
    OpR X f (rI0 fun i j => .int (g i j)) := by
  intro pins s σ H x y v u Q I rx ry h
  obtain ⟨i, j, rfl, rfl, q⟩ := h
  obtain ⟨t, rfl⟩ := rx
  obtain ⟨t', rfl⟩ := ry
  exact rule i j t t' s _ _ ⟨.int (g i j), H, I.tok _, ⟨_, rfl⟩, q⟩
theorem opB0 {f : Value → Value → Sem Value} {g : Int → Int → Bool}
    (rule : ∀ (i j : Int) (t u : Tok) (s : Shared) (Q : Value → Shared → Prop) (E : Value → Shared → Prop), Q (.bool (g i j)) s → wpAny (model X.prog X.w) X.A (f (.int i t) (.int j u)) Q E s) :
    OpR X f (rI0 fun i j => .bl (g i j)) := by
  intro pins s σ H x y v u Q I rx ry h
  obtain ⟨i, j, rfl, rfl, q⟩ := h
  obtain ⟨t, rfl⟩ := rx
  obtain ⟨t', rfl⟩ := ry
  exact rule i j t t' s _ _ ⟨.bl (g i j), H, I, rfl, q⟩

def CDiv (i j : Int) : Prop := 0 < j ∧ j < 1073741824
def CDivN (i j : Int) : Prop := j ≠ 0 ∧ j.natAbs < 1073741824
def CPow (i j : Int) : Prop := 0 ≤ j ∧ j ≤ 1000000 ∧ i.natAbs < 2 ^ 64
def CMul (i j : Int) : Prop := (-(2 ^ 64) < i ∧ i < 2 ^ 64) ∨ (-(2 ^ 64) < j ∧ j < 2 ^ 64)
theorem CMul.ok {i j : Int} (h : CMul i j) : IntMulOk i j := by
  rcases h with ⟨h1, h2⟩ | ⟨h1, h2⟩
  · exact .of_left (intBits_le_64 h1 h2)
  · exact .of_right (intBits_le_64 h1 h2)
theorem two_pow_nn (k : Nat) : (0 : Int) ≤ 2 ^ k := by
  rw [two_pow_cast]
  exact Int.natCast_nonneg _

theorem op_add : OpR X (binaryOp .Add) (rI0 fun i j => .int (i + j)) := opI0 fun _ _ _ _ _ _ _ q => add_int q
theorem op_sub : OpR X (binaryOp .Sub) (rI0 fun i j => .int (i - j)) := opI0 fun _ _ _ _ _ _ _ q => sub_int q
theorem op_mul : OpR X (binaryOp .Mult) (rI CMul fun i j => .int (i * j)) := opI fun _ _ _ _ _ _ _ hc q => mul_int q hc.ok
/-- // by a positive divisor -/
theorem op_fdiv : OpR X (binaryOp .FloorDiv) (rI CDiv fun i j => .int (i / j)) := opI fun i j _ _ _ _ _ hc q => by
  have h1 : (0 : Int) < j := hc.1
  have h2 : j < 1073741824 := hc.2
  exact floordiv_int (by omega) (by rw [Int.fdiv_eq_ediv_of_nonneg i (by omega)]; exact q) (.inl (PyProof.noPylong_small (by omega)))
theorem op_fdivN : OpR X (binaryOp .FloorDiv) (rI CDivN fun i j => .int (i.fdiv j)) := opI fun _ _ _ _ _ _ _ hc q => floordiv_int hc.1 q (.inl (PyProof.noPylong_small hc.2))
/-- % by a positive divisor of any size -/
theorem op_mod : OpR X (binaryOp .Mod) (rI (fun _ j => 0 < j) fun i j => .int (i % j)) := opI fun i j _ _ _ _ _ hc q => by
  have h1 : (0 : Int) < j := hc
  exact mod_int' (by omega) (by rw [Int.fmod_eq_emod_of_nonneg i (by omega)]; exact q)
theorem op_modN : OpR X (binaryOp .Mod) (rI (fun _ j => j ≠ 0) fun i j => .int (i.fmod j)) := opI fun _ _ _ _ _ _ _ hc q => mod_int' hc q
theorem op_pow : OpR X (binaryOp .Pow) (rI CPow fun i j => .int (i ^ j.toNat)) := opI fun _ _ _ _ _ _ _ hc q => pow_int_small hc.1 hc.2.1 hc.2.2 q
theorem op_shl : OpR X (binaryOp .LShift) (rI CPow fun i j => .int (i * 2 ^ j.toNat)) := opI fun _ _ _ _ _ _ _ hc q => lshift_int_small hc.1 hc.2.1 hc.2.2 q
theorem op_shr : OpR X (binaryOp .RShift) (rI (fun _ j => 0 ≤ j) fun i j => .int (i / 2 ^ j.toNat)) := opI fun i j _ _ _ _ _ hc q =>
  rshift_int hc (by rw [Int.fdiv_eq_ediv_of_nonneg i (two_pow_nn _)]; exact q)
theorem op_and : OpR X (binaryOp .BitAnd) (rI0 fun i j => .int (Builtin.bitAnd i j)) := opI0 fun _ _ _ _ _ _ _ q => and_int q
theorem op_or : OpR X (binaryOp .BitOr) (rI0 fun i j => .int (Builtin.bitOr i j)) := opI0 fun _ _ _ _ _ _ _ q => or_int q
theorem op_xor : OpR X (binaryOp .BitXor) (rI0 fun i j => .int (Builtin.bitXor i j)) := opI0 fun _ _ _ _ _ _ _ q => xor_int q

theorem iop_add : OpR X (inplaceOp .Add) (rI0 fun i j => .int (i + j)) := opI0 fun _ _ _ _ _ _ _ q => iadd_int q
theorem iop_sub : OpR X (inplaceOp .Sub) (rI0 fun i j => .int (i - j)) := opI0 fun _ _ _ _ _ _ _ q => isub_int q
theorem iop_mul : OpR X (inplaceOp .Mult) (rI CMul fun i j => .int (i * j)) := opI fun _ _ _ _ _ _ _ hc q => imul_int q hc.ok
theorem iop_fdiv : OpR X (inplaceOp .FloorDiv) (rI CDiv fun i j => .int (i / j)) := opI fun i j _ _ _ _ _ hc q => by
  have h1 : (0 : Int) < j := hc.1
  have h2 : j < 1073741824 := hc.2
  exact ifloordiv_int (by omega) (by rw [Int.fdiv_eq_ediv_of_nonneg i (by omega)]; exact q) (.inl (PyProof.noPylong_small (by omega)))
theorem iop_mod : OpR X (inplaceOp .Mod) (rI (fun _ j => 0 < j) fun i j => .int (i % j)) := opI fun i j _ _ _ _ _ hc q => by
  have h1 : (0 : Int) < j := hc
  exact imod_int (by omega) (by rw [Int.fmod_eq_emod_of_nonneg i (by omega)]; exact q)
theorem iop_shl : OpR X (inplaceOp .LShift) (rI CPow fun i j => .int (i * 2 ^ j.toNat)) := opI fun _ _ _ _ _ _ _ hc q => ilshift_int_small hc.1 hc.2.1 hc.2.2 q
theorem iop_shr : OpR X (inplaceOp .RShift) (rI (fun _ j => 0 ≤ j) fun i j => .int (i / 2 ^ j.toNat)) := opI fun i j _ _ _ _ _ hc q =>
  irshift_int hc (by rw [Int.fdiv_eq_ediv_of_nonneg i (two_pow_nn _)]; exact q)
theorem iop_and : OpR X (inplaceOp .BitAnd) (rI0 fun i j => .int (Builtin.bitAnd i j)) := opI0 fun _ _ _ _ _ _ _ q => iand_int q
theorem iop_or : OpR X (inplaceOp .BitOr) (rI0 fun i j => .int (Builtin.bitOr i j)) := opI0 fun _ _ _ _ _ _ _ q => ior_int q
theorem iop_xor : OpR X (inplaceOp .BitXor) (rI0 fun i j => .int (Builtin.bitXor i j)) := opI0 fun _ _ _ _ _ _ _ q => ixor_int q

theorem unI {f : Value → Sem Value} {g : Int → Int}
    (rule : ∀ (i : Int) (t : Tok) (s : Shared) (Q : Value → Shared → Prop) (E : Value → Shared → Prop), Q (.int (g i) s.toks) { s with toks := s.toks + 1 } → wpAny (model X.prog X.w) X.A (f (.int i t)) Q E s) :
    UnR X f (rU fun i => .int (g i)) := by
  intro pins s σ H x v Q I rx h
  obtain ⟨i, rfl, q⟩ := h
  obtain ⟨t, rfl⟩ := rx
  exact rule i t s _ _ ⟨.int (g i), H, I.tok _, ⟨_, rfl⟩, q⟩
theorem un_neg : UnR X (unaryOp .USub) (rU fun i => .int (-i)) := unI fun _ _ _ _ _ q => neg_int q
theorem un_inv : UnR X (unaryOp .Invert) (rU fun i => .int (Builtin.bitNot i)) := unI fun _ _ _ _ _ q => invert_int q

/-! ### bools among ints: n += (a < b) -/
theorem op_add_ib : OpR X (binaryOp .Add) (fun x y H Q => ∃ i k, x = .int i ∧ y = .bl k ∧ Q (.int (i + b2i k)) H) := by
  intro pins s σ H x y v u Q I rx ry h
  obtain ⟨i, k, rfl, rfl, q⟩ := h
  obtain ⟨t, rfl⟩ := rx
  cases ry
  exact add_int_bool ⟨.int (i + b2i k), H, I.tok _, ⟨_, rfl⟩, q⟩
end

/-! ### comparisons -/
/-- the scalars that == tells apart as data does -/
def scal : V → V → Bool
  | .non, .non => true | .non, .int _ => true | .int _, .non => true | .non, .bl _ => true | .bl _, .non => true | .non, .str _ => true | .str _, .non => true
  | .int _, .int _ => true | .bl _, .bl _ => true | .str _, .str _ => true | .byt _, .byt _ => true
  | .int _, .str _ => true | .str _, .int _ => true | .bl _, .str _ => true | .str _, .bl _ => true
  | _, _ => false
def rEq : R2 := fun x y H Q => scal x y = true ∧ Q (.bl (decide (x = y))) H
def rNe : R2 := fun x y H Q => scal x y = true ∧ Q (.bl (!decide (x = y))) H

theorem dec_int {i j : Int} : decide (V.int i = V.int j) = (i == j) := by
  rw [Bool.eq_iff_iff]
  simp
theorem dec_bl {i j : Bool} : decide (V.bl i = V.bl j) = (i == j) := by
  rw [Bool.eq_iff_iff]
  simp
theorem dec_str {i j : Str} : decide (V.str i = V.str j) = (i == j) := by
  rw [Bool.eq_iff_iff]
  simp
theorem dec_byt {i j : Array UInt8} : decide (V.byt i = V.byt j) = (i.toList == j.toList) := by
  rw [Bool.eq_iff_iff]
  cases i
  cases j
  simp

section
variable {X : Cx} {a b c : Expr} {ta tb tc : TE} {pos : Pos}
theorem fin_bl {pins : List (Addr × Obj)} {σ : St} {H : Hp} {s : Shared} {Q : VK} {k k' : Bool} (I : Inv X pins σ H s) (q : Q (.bl k) H) (e : k = k') : EP X pins σ Q (.bool k') s := by
  subst e
  exact ⟨.bl k, H, I, rfl, q⟩
theorem op_eq : OpR X (compareOp .Eq) rEq := by
  intro pins s σ H x y v u Q I rx ry h
  obtain ⟨hs, q⟩ := h
  cases x with
  | non =>
    cases rx
    cases y with
    | non => cases ry; exact PySem.EqNone.eq_none_none (fin_bl I q (by simp))
    | bl j => cases ry; exact PySem.EqNone.eq_none_bool (fin_bl I q (by simp))
    | int j => obtain ⟨t', rfl⟩ := ry; exact PySem.EqNone.eq_none_int (fin_bl I q (by simp))
    | str j => obtain ⟨t', rfl⟩ := ry; exact PySem.EqNone.eq_none_str (fin_bl I q (by simp))
    | _ => exact absurd (show false = true from hs) Bool.false_ne_true
  | bl i =>
    cases rx
    cases y with
    | non => cases ry; exact PySem.EqNone.eq_bool_none (fin_bl I q (by simp))
    | bl j => cases ry; exact eq_bool (fin_bl I q dec_bl)
    | str j => obtain ⟨t', rfl⟩ := ry; exact PySem.EqMixed.eq_bool_str (fin_bl I q (by simp))
    | _ => exact absurd (show false = true from hs) Bool.false_ne_true
  | int i =>
    obtain ⟨t, rfl⟩ := rx
    cases y with
    | non => cases ry; exact PySem.EqNone.eq_int_none (fin_bl I q (by simp))
    | int j => obtain ⟨t', rfl⟩ := ry; exact eq_int (fin_bl I q dec_int)
    | str j => obtain ⟨t', rfl⟩ := ry; exact PySem.EqMixed.eq_int_str (fin_bl I q (by simp))
    | _ => exact absurd (show false = true from hs) Bool.false_ne_true
  | str i =>
    obtain ⟨t, rfl⟩ := rx
    cases y with
    | non => cases ry; exact PySem.EqNone.eq_str_none (fin_bl I q (by simp))
    | bl j => cases ry; exact PySem.EqMixed.eq_str_bool (fin_bl I q (by simp))
    | int j => obtain ⟨t', rfl⟩ := ry; exact PySem.EqMixed.eq_str_int (fin_bl I q (by simp))
    | str j => obtain ⟨t', rfl⟩ := ry; exact eq_str (fin_bl I q dec_str)
    | _ => exact absurd (show false = true from hs) Bool.false_ne_true
  | byt i =>
    obtain ⟨t, rfl⟩ := rx
    cases y with
    | byt j => obtain ⟨t', rfl⟩ := ry; exact PySem.W.eq_bytes (fin_bl I q dec_byt)
    | _ => exact absurd (show false = true from hs) Bool.false_ne_true
  | _ => cases y <;> exact absurd (show false = true from hs) Bool.false_ne_true
theorem op_ne : OpR X (compareOp .NotEq) rNe := by
  intro pins s σ H x y v u Q I rx ry h
  obtain ⟨hs, q⟩ := h
  cases x with
  | non =>
    cases rx
    cases y with
    | non => cases ry; exact PySem.EqNone.ne_none_none (fin_bl I q (by simp))
    | bl j => cases ry; exact PySem.EqNone.ne_none_bool (fin_bl I q (by simp))
    | int j => obtain ⟨t', rfl⟩ := ry; exact PySem.EqNone.ne_none_int (fin_bl I q (by simp))
    | str j => obtain ⟨t', rfl⟩ := ry; exact PySem.EqNone.ne_none_str (fin_bl I q (by simp))
    | _ => exact absurd (show false = true from hs) Bool.false_ne_true
  | bl i =>
    cases rx
    cases y with
    | non => cases ry; exact PySem.EqNone.ne_bool_none (fin_bl I q (by simp))
    | bl j => cases ry; exact ne_bool (fin_bl I q (congrArg not dec_bl))
    | str j => obtain ⟨t', rfl⟩ := ry; exact PySem.EqMixed.ne_bool_str (fin_bl I q (by simp))
    | _ => exact absurd (show false = true from hs) Bool.false_ne_true
  | int i =>
    obtain ⟨t, rfl⟩ := rx
    cases y with
    | non => cases ry; exact PySem.EqNone.ne_int_none (fin_bl I q (by simp))
    | int j => obtain ⟨t', rfl⟩ := ry; exact ne_int (fin_bl I q (congrArg not dec_int))
    | str j => obtain ⟨t', rfl⟩ := ry; exact PySem.EqMixed.ne_int_str (fin_bl I q (by simp))
    | _ => exact absurd (show false = true from hs) Bool.false_ne_true
  | str i =>
    obtain ⟨t, rfl⟩ := rx
    cases y with
    | non => cases ry; exact PySem.EqNone.ne_str_none (fin_bl I q (by simp))
    | bl j => cases ry; exact PySem.EqMixed.ne_str_bool (fin_bl I q (by simp))
    | int j => obtain ⟨t', rfl⟩ := ry; exact PySem.EqMixed.ne_str_int (fin_bl I q (by simp))
    | str j => obtain ⟨t', rfl⟩ := ry; exact ne_str (fin_bl I q (congrArg not dec_str))
    | _ => exact absurd (show false = true from hs) Bool.false_ne_true
  | byt i =>
    obtain ⟨t, rfl⟩ := rx
    cases y with
    | byt j => obtain ⟨t', rfl⟩ := ry; exact PySem.W.ne_bytes (fin_bl I q (congrArg not dec_byt))
    | _ => exact absurd (show false = true from hs) Bool.false_ne_true
  | _ => cases y <;> exact absurd (show false = true from hs) Bool.false_ne_true

theorem op_lt : OpR X (compareOp .Lt) (rI0 fun i j => .bl (decide (i < j))) := opB0 fun _ _ _ _ _ _ _ q => lt_int q
theorem op_le : OpR X (compareOp .LtE) (rI0 fun i j => .bl (decide (i ≤ j))) := opB0 fun _ _ _ _ _ _ _ q => le_int q
theorem op_gt : OpR X (compareOp .Gt) (rI0 fun i j => .bl (decide (j < i))) := opB0 fun _ _ _ _ _ _ _ q => gt_int q
theorem op_ge : OpR X (compareOp .GtE) (rI0 fun i j => .bl (decide (j ≤ i))) := opB0 fun _ _ _ _ _ _ _ q => ge_int q
theorem op_lt_str : OpR X (compareOp .Lt) (fun x y H Q => ∃ i j, x = .str i ∧ y = .str j ∧ Q (.bl (decide (i.cps.toList < j.cps.toList))) H) := by
  intro pins s σ H x y v u Q I rx ry h
  obtain ⟨i, j, rfl, rfl, q⟩ := h
  obtain ⟨t, rfl⟩ := rx
  obtain ⟨t', rfl⟩ := ry
  exact lt_str (fin_bl I q rfl)
/-- the one string within the other -/
theorem op_in_str : OpR X (compareOp .In) (fun x y H Q => ∃ i j, x = .str i ∧ y = .str j ∧ Q (.bl (!(Builtin.Str.occurrences j i 0 j.length 1).isEmpty)) H) := by
  intro pins s σ H x y v u Q I rx ry h
  obtain ⟨i, j, rfl, rfl, q⟩ := h
  obtain ⟨t, rfl⟩ := rx
  obtain ⟨t', rfl⟩ := ry
  exact in_str (fin_bl I q rfl)

/-- is None, is not None: the right side a value none -/
theorem op_isN : OpR X (compareOp .Is) (fun x y H Q => y = .non ∧ Q (.bl (decide (x = .non))) H) := by
  intro pins s σ H x y v u Q I rx ry h
  obtain ⟨rfl, q⟩ := h
  cases ry
  refine is_none_gen (fin_bl I q ?_)
  cases x <;> first
    | (cases rx; rfl)
    | (obtain ⟨t, rfl⟩ := rx; rfl)
theorem op_notN : OpR X (compareOp .IsNot) (fun x y H Q => y = .non ∧ Q (.bl (!decide (x = .non))) H) := by
  intro pins s σ H x y v u Q I rx ry h
  obtain ⟨rfl, q⟩ := h
  cases ry
  refine isnot_none_gen (fin_bl I q ?_)
  cases x <;> first
    | (cases rx; rfl)
    | (obtain ⟨t, rfl⟩ := rx; rfl)

theorem op_notin_str : OpR X (compareOp .NotIn) (fun x y H Q => ∃ i j, x = .str i ∧ y = .str j ∧ Q (.bl (!(!(Builtin.Str.occurrences j i 0 j.length 1).isEmpty))) H) := by
  intro pins s σ H x y v u Q I rx ry h
  obtain ⟨i, j, rfl, rfl, q⟩ := h
  obtain ⟨t, rfl⟩ := rx
  obtain ⟨t', rfl⟩ := ry
  exact notIn_str (fin_bl I q rfl)
/-- is, is not of two objects that are tracked lists or instances -/
def isObj : HO → Bool
  | .lst _ => true
  | .ins _ _ _ => true
  | _ => false
theorem obj_there {pins : List (Addr × Obj)} {s : Shared} {σ : St} {H : Hp} {a : Addr} {o : HO} (I : Inv X pins σ H s) (h : H a = some o) (p : isObj o = true) : ∃ ob, s.heap.get? a = some ob ∧ ob.cls ≠ .type "tuple" := by
  cases o with
  | lst xs =>
    obtain ⟨_, its, n, _, e⟩ : xs.length ≤ sizeLine ∧ ∃ (its : List Value) (n : Nat), Vals xs its ∧ s.heap.get? a = some { cls := .type "list", data := .seq its.toArray n } := I.hok a _ h
    exact ⟨_, e, (by show Value.type "list" ≠ .type "tuple"; decide +kernel)⟩
  | ins C dx fs =>
    have x := I.hok a _ h
    obtain ⟨_, _, _, e, _⟩ := x
    exact ⟨_, e, (by show Value.ref C ≠ .type "tuple"; exact fun z => by cases z)⟩
  | _ => exact absurd (show false = true from p) Bool.false_ne_true
theorem op_is_ref : OpR X (compareOp .Is) (fun x y H Q => ∃ a b oa ob, x = .ref a ∧ y = .ref b ∧ H a = some oa ∧ isObj oa = true ∧ H b = some ob ∧ isObj ob = true ∧ Q (.bl (decide (a = b))) H) := by
  intro pins s σ H x y v u Q I rx ry h
  obtain ⟨a, b, oa, ob, rfl, rfl, ha, pa, hb, pb, q⟩ := h
  cases rx
  cases ry
  obtain ⟨o1, e1, n1⟩ := obj_there I ha pa
  obtain ⟨o2, e2, _⟩ := obj_there I hb pb
  by_cases z : a = b
  · subst z
    exact wpAny_is_ref_self (fin_bl I q (by simp))
  · exact wpAny_is_ref_other z e1 e2 n1 (fin_bl I q (by simp [z]))
theorem op_isnot_ref : OpR X (compareOp .IsNot) (fun x y H Q => ∃ a b oa ob, x = .ref a ∧ y = .ref b ∧ H a = some oa ∧ isObj oa = true ∧ H b = some ob ∧ isObj ob = true ∧ Q (.bl (!decide (a = b))) H) := by
  intro pins s σ H x y v u Q I rx ry h
  obtain ⟨a, b, oa, ob, rfl, rfl, ha, pa, hb, pb, q⟩ := h
  cases rx
  cases ry
  obtain ⟨o1, e1, n1⟩ := obj_there I ha pa
  obtain ⟨o2, e2, _⟩ := obj_there I hb pb
  by_cases z : a = b
  · subst z
    exact wpAny_isNot_ref_self (fin_bl I q (by simp))
  · exact wpAny_isNot_ref_other z e1 e2 n1 (fin_bl I q (by simp [z]))

/-- two rules for one operation: by cases -/
theorem OpR.or {f : Value → Value → Sem Value} {r r' : R2} (h : OpR X f r) (h' : OpR X f r') : OpR X f (fun x y H Q => r x y H Q ∨ r' x y H Q) := by
  intro pins s σ H x y v u Q I rx ry q
  rcases q with q | q
  · exact h pins s σ H x y v u Q I rx ry q
  · exact h' pins s σ H x y v u Q I rx ry q

theorem nomark (b : Expr) {op : CmpOp} (h : op ≠ .In := by decide) (h2 : op ≠ .NotIn := by decide) : behindInMarks op b = false := by
  have e1 : (op == CmpOp.In) = false := by cases op <;> first | rfl | exact absurd rfl h
  have e2 : (op == CmpOp.NotIn) = false := by cases op <;> first | rfl | exact absurd rfl h2
  cases b <;> simp [behindInMarks, e1, e2]
/-- a comparison as a value; hm: nomark b, or (for in, not in) by with_unfolding_all rfl -/
theorem pe_cmpR {op : CmpOp} {r : R2} (ho : OpR X (compareOp op) r) (ha : PE X a ta) (hb : PE X b tb) (hm : behindInMarks op b = false) : PE X (.Compare a [op] [b] pos) (tOp r ta tb) := by
  intro pins s σ H Q I h
  exact wpAny_Compare1 (binT ha hb I h fun v u s2 x y H2 I2 rx ry q => ho pins s2 σ H2 x y v u Q I2 rx ry q) hm
/-- a reading of a value as a test -/
def tTest (t : TE) : TT := fun σ H Q => t σ H fun x H' => ∃ k, x = .bl k ∧ Q k H'
theorem pt_cmpR {op : CmpOp} {r : R2} (ho : OpR X (compareOp op) r) (ha : PE X a ta) (hb : PE X b tb) (hm : behindInMarks op b = false) : PT X (.Compare a [op] [b] pos) (tTest (tOp r ta tb)) := by
  intro pins s σ H Q I h
  refine wpAny_isTrue_Compare1 (thn (ha pins s σ H _ I h) fun v s1 ⟨x, H1, I1, r1, q1⟩ => thn (hb pins s1 σ H1 _ I1 q1) fun u s2 ⟨y, H2, I2, r2, q2⟩ =>
    thn (ho pins s2 σ H2 x y v u _ I2 r1 r2 q2) fun c s3 ⟨z, H3, I3, r3, k, e, q3⟩ => ?_) hm
  subst e
  cases r3
  exact wpAny_truthy_bool ⟨H3, I3, q3⟩
/-- a op1 b op2 c -/
def tChain (r r' : R2) (ta tb tc : TE) : TE := fun σ H Q => ta σ H fun x H1 => tb σ H1 fun y H2 => r x y H2 fun z H3 => ∃ k, z = .bl k ∧
  (if k = true then tc σ H3 fun w' H4 => r' y w' H4 Q else Q (.bl false) H3)
theorem pe_chain {op op' : CmpOp} {r r' : R2} (ho : OpR X (compareOp op) r) (ho' : OpR X (compareOp op') r') (ha : PE X a ta) (hb : PE X b tb) (hc : PE X c tc)
    (hm : lastMarks [op, op'] [b, c] = false := by with_unfolding_all rfl) : PE X (.Compare a [op, op'] [b, c] pos) (tChain r r' ta tb tc) := by
  intro pins s σ H Q I h
  refine Compare_chain (thn (ha pins s σ H _ I h) fun v s1 ⟨x, H1, I1, r1, q1⟩ => chain_link (thn (hb pins s1 σ H1 _ I1 q1) fun u s2 ⟨y, H2, I2, r2, q2⟩ =>
    thn (ho pins s2 σ H2 x y v u _ I2 r1 r2 q2) fun d s3 ⟨z, H3, I3, r3, k, e, q3⟩ => ?_)) hm
  subst e
  cases r3
  refine wpAny_truthy_bool ?_
  cases k with
  | false => exact ite_ff ⟨.bl false, H3, I3, rfl, q3⟩
  | true => exact ite_tt (chain_last (thn (hc pins s3 σ H3 _ I3 q3) fun w' s4 ⟨z', H4, I4, r4, q4⟩ => ho' pins s4 σ H4 y z' u w' Q I4 r2 r4 q4))
theorem pt_chain {op op' : CmpOp} {r r' : R2} (ho : OpR X (compareOp op) r) (ho' : OpR X (compareOp op') r') (ha : PE X a ta) (hb : PE X b tb) (hc : PE X c tc)
    (hm : lastMarks [op, op'] [b, c] = false := by with_unfolding_all rfl) : PT X (.Compare a [op, op'] [b, c] pos) (tTest (tChain r r' ta tb tc)) := by
  intro pins s σ H Q I h
  refine isTrue_chain (thn (ha pins s σ H _ I h) fun v s1 ⟨x, H1, I1, r1, q1⟩ => test_link (thn (hb pins s1 σ H1 _ I1 q1) fun u s2 ⟨y, H2, I2, r2, q2⟩ =>
    thn (ho pins s2 σ H2 x y v u _ I2 r1 r2 q2) fun d s3 ⟨z, H3, I3, r3, k, e, q3⟩ => ?_)) hm
  subst e
  cases r3
  refine wpAny_truthy_bool ?_
  cases k with
  | false =>
    obtain ⟨k', e', q'⟩ := q3
    cases e'
    exact ite_ff ⟨H3, I3, q'⟩
  | true =>
    refine ite_tt (test_last (thn (hc pins s3 σ H3 _ I3 q3) fun w' s4 ⟨z', H4, I4, r4, q4⟩ => thn (ho' pins s4 σ H4 y z' u w' _ I4 r2 r4 q4) fun d' s5 ⟨z2, H5, I5, r5, k2, e2, q5⟩ => ?_))
    subst e2
    cases r5
    exact wpAny_truthy_bool ⟨H5, I5, q5⟩

/-! ### truth -/
/-- a value's truth by the abstract heap -/
def TruV (K : PySem.W.Frag) (x : V) (H : Hp) (k : Bool) : Prop :=
  match x with
  | .non => k = false
  | .bl b => k = b
  | .int i => k = (i != 0)
  | .str y => y.length ≤ sizeLine ∧ k = ((y.length : Int) != 0)
  | .byt y => y.size ≤ sizeLine ∧ k = ((y.size : Int) != 0)
  | .ref p => (∃ xs, SqL K H p xs ∧ k = !xs.isEmpty) ∨ (∃ xs, SqT K H p xs ∧ k = !xs.isEmpty) ∨ ∃ kvs, H p = some (.dK kvs) ∧ k = !kvs.isEmpty
  | _ => False
theorem isEmpty_kv {κ : Type} {kvs : List (κ × V)} {vs : List (κ × Value)} (r : KV kvs vs) : (!vs.isEmpty) = !kvs.isEmpty := by
  cases r <;> rfl
theorem isEmpty_of {xs : List V} {its : List Value} (r : Vals xs its) : (!its.toArray.isEmpty) = !xs.isEmpty := by
  cases r <;> simp
theorem line63 : (sizeLine : Nat) < 2 ^ 63 := by rw [sizeLine_eq]; decide
theorem tru_ok : TruR X (fun x H Q => ∃ k, TruV X.K x H k ∧ Q k H) := by
  intro pins s σ H x v Q I rx h
  obtain ⟨k, e, q⟩ := h
  have hl := line63
  have hs : sizeLine = 16777216 := sizeLine_eq
  cases x with
  | non =>
    cases rx
    have e' : k = false := e
    subst e'
    exact truthy_none ⟨H, I, q⟩
  | bl b =>
    cases rx
    have e' : k = b := e
    subst e'
    exact wpAny_truthy_bool ⟨H, I, q⟩
  | int i =>
    obtain ⟨t, rfl⟩ := rx
    have e' : k = (i != 0) := e
    subst e'
    exact PySem.P.truthy_int ⟨H, I, q⟩
  | str y =>
    obtain ⟨t, rfl⟩ := rx
    obtain ⟨hy, e'⟩ : y.length ≤ sizeLine ∧ k = ((y.length : Int) != 0) := e
    subst e'
    exact PySem.P.truthy_str (by omega) ⟨H, I.tok _, q⟩
  | byt y =>
    obtain ⟨t, rfl⟩ := rx
    obtain ⟨hy, e'⟩ : y.size ≤ sizeLine ∧ k = ((y.size : Int) != 0) := e
    subst e'
    exact PySem.W.truthy_bytes (by omega) ⟨H, I.tok _, q⟩
  | ref p =>
    cases rx
    have e' : (∃ xs, SqL X.K H p xs ∧ k = !xs.isEmpty) ∨ (∃ xs, SqT X.K H p xs ∧ k = !xs.isEmpty) ∨ ∃ kvs, H p = some (.dK kvs) ∧ k = !kvs.isEmpty := e
    rcases e' with ⟨xs, hx, e'⟩ | ⟨xs, hx, e'⟩ | ⟨kvs, hx, e'⟩
    · subst e'
      obtain ⟨its, r, pl, hz⟩ := I.list hx
      have hlen := r.length
      exact wpAny_truthy_list pl.isList (by simp only [List.size_toArray]; omega) ⟨H, I.tok _, by rw [isEmpty_of r]; exact q⟩
    · subst e'
      obtain ⟨its, r, pl, hz⟩ := I.tuple hx
      have hlen := r.length
      exact truthy_tuple pl (by simp only [List.size_toArray]; omega) ⟨H, I.tok _, by rw [isEmpty_of r]; exact q⟩
    · subst e'
      obtain ⟨hz, hS, vs, r, m⟩ : kvs.length ≤ sizeLine ∧ (p == sysModules) = false ∧ ∃ vs, KV kvs vs ∧ s.heap.DictOf (mixKind X.prog X.w) p vs := I.hok p _ hx
      have hlen : kvs.length = vs.length := Paired.length r
      exact wpAny_truthy_dict hS m (by omega) ⟨H, I.tok _, by rw [isEmpty_kv r]; exact q⟩
  | _ => exact (show False from e).elim
/-- any expression whose test is its value's truth (a name, a call, a subscript, a field ..: he by fun _ => rfl) -/
theorem pt_truth (ha : PE X a ta) (he : ∀ whole, isTrue a X.env whole = (do let v ← whole; standAt a.pos; holding [v] (truthy v))) :
    PT X a (fun σ H Q => ta σ H fun x H' => ∃ k, TruV X.K x H' k ∧ Q k H') := by
  intro pins s σ H Q I h
  exact isTrue_plain (thn (ha pins s σ H _ I h) fun v s1 ⟨x, H1, I1, r1, q1⟩ => tru_ok pins s1 σ H1 x v Q I1 r1 q1) (he _)

/-! ### strs and bytes -/
theorem pe_byt {x : List UInt8} {k : Nat} : PE X (.Constant (.bytes x) k pos) (fun _ H Q => Q (.byt x.toArray) H) := fun _ _ _ H _ I h => PySem.W.Constant_bytes ⟨.byt x.toArray, H, I.tok _, ⟨_, rfl⟩, h⟩
theorem op_add_str : OpR X (binaryOp .Add) (fun x y H Q => ∃ i j, x = .str i ∧ y = .str j ∧ i.length + j.length ≤ sizeLine ∧ Q (.str (i ++ j)) H) := by
  intro pins s σ H x y v u Q I rx ry h
  obtain ⟨i, j, rfl, rfl, hz, q⟩ := h
  obtain ⟨t, rfl⟩ := rx
  obtain ⟨t', rfl⟩ := ry
  exact add_str (fun t' tk => ⟨.str (i ++ j), H, I.tok _, ⟨_, rfl⟩, q⟩) hz
theorem iop_add_str : OpR X (inplaceOp .Add) (fun x y H Q => ∃ i j, x = .str i ∧ y = .str j ∧ i.length + j.length ≤ sizeLine ∧ Q (.str (i ++ j)) H) := by
  intro pins s σ H x y v u Q I rx ry h
  obtain ⟨i, j, rfl, rfl, hz, q⟩ := h
  obtain ⟨t, rfl⟩ := rx
  obtain ⟨t', rfl⟩ := ry
  exact iadd_str (fun t' tk => ⟨.str (i ++ j), H, I.tok _, ⟨_, rfl⟩, q⟩) hz
theorem op_add_byt : OpR X (binaryOp .Add) (fun x y H Q => ∃ i j, x = .byt i ∧ y = .byt j ∧ i.size + j.size ≤ 16777216 ∧ Q (.byt (i ++ j)) H) := by
  intro pins s σ H x y v u Q I rx ry h
  obtain ⟨i, j, rfl, rfl, hz, q⟩ := h
  obtain ⟨t, rfl⟩ := rx
  obtain ⟨t', rfl⟩ := ry
  exact PySem.W.KBy.add_bytes hz (fun t' tk => ⟨.byt (i ++ j), H, I.tok _, ⟨_, rfl⟩, q⟩)

def PlainIxT (b : Expr) : Prop := ∀ o i, subscripted b false o i = operate [o, i] (getItem o i)
/-- s[i], 0 ≤ i < len -/
theorem pe_item_str (ha : PE X a ta) (hb : PE X b tb) (hs : PlainIxT b) :
    PE X (.Subscript a b pos) (tOp (fun x y H Q => ∃ z i c, x = .str z ∧ y = .int i ∧ 0 ≤ i ∧ i < 2 ^ 63 ∧ i < z.length ∧ z.cps[i.toNat]? = some c ∧ Q (.str ⟨#[c]⟩) H) ta tb) := by
  intro pins s σ H Q I h
  refine Subscript_ (binT ha hb I h fun v u s2 x y H2 I2 rx ry q => ?_)
  obtain ⟨z, i, c, rfl, rfl, h0, h63, h1, hc, q⟩ := q
  obtain ⟨t, rfl⟩ := rx
  obtain ⟨t', rfl⟩ := ry
  have e : seqIndex? i z.length = some i.toNat := PySem.StrLaws.seqIndex_nonneg h0 h1
  exact tail_any (typeIs_str s2 z t) slot_str_getitem.lookup (getItem_str (c := c) (by
    have e1 : decide (i < -(2 ^ 63 : Int)) = false := decide_eq_false (by omega)
    have e2 : decide (i ≥ 2 ^ 63) = false := decide_eq_false (by omega)
    rw [e1, e2] <;> rfl) (by rw [e]; exact hc) ⟨.str ⟨#[c]⟩, H2, I2.tok _, ⟨_, rfl⟩, q⟩) (hs _ _)
/-- b[i], 0 ≤ i < len -/
theorem pe_item_byt (ha : PE X a ta) (hb : PE X b tb) (hs : PlainIxT b) :
    PE X (.Subscript a b pos) (tOp (fun x y H Q => ∃ (z : List UInt8) (i : Int), x = .byt z.toArray ∧ y = .int i ∧ z.length ≤ sizeLine ∧ 0 ≤ i ∧ i < z.length ∧ Q (.int ((z.getD i.toNat 0).toNat : Nat)) H) ta tb) := by
  intro pins s σ H Q I h
  refine Subscript_ (binT ha hb I h fun v u s2 x y H2 I2 rx ry q => ?_)
  obtain ⟨z, i, rfl, rfl, hz, h0, h1, q⟩ := q
  obtain ⟨t, rfl⟩ := rx
  obtain ⟨t', rfl⟩ := ry
  have hl : sizeLine = 16777216 := sizeLine_eq
  exact tail_any (PySem.W.typeIs_bytes s2 z.toArray t) PySem.W.FB.slot_bytes_getitem.lookup (PySem.W.getItem_bytes (by omega) h0 h1 ⟨.int ((z.getD i.toNat 0).toNat : Nat), H2, I2.tok _, ⟨_, rfl⟩, q⟩) (hs _ _)

/-! ### scalar builtins, by CallR -/
theorem vals1 {x : V} {us : List Value} (r : Vals [x] us) : ∃ u, us = [u] ∧ RelV x u := by
  cases r with
  | cons r1 r2 => cases r2; exact ⟨_, rfl, r1⟩
theorem vals2 {x y : V} {us : List Value} (r : Vals [x, y] us) : ∃ u w', us = [u, w'] ∧ RelV x u ∧ RelV y w' := by
  cases r with
  | cons r1 r2 =>
    cases r2 with
    | cons r3 r4 => cases r4; exact ⟨_, _, rfl, r1, r3⟩
theorem call_abs : CallR X (.builtin "abs") (fun xs H Q => ∃ i, xs = [.int i] ∧ Q (.int (if i < 0 then -i else i)) H) := by
  intro pins s σ H xs us Q I r h
  obtain ⟨i, rfl, q⟩ := h
  obtain ⟨u, rfl, t, rfl⟩ := vals1 r
  exact call_abs_int fun u tk => ⟨.int (if i < 0 then -i else i), H, I.tok _, ⟨_, rfl⟩, q⟩
theorem call_max2 (hc : X.calm = true) : CallR X (.builtin "max") (fun xs H Q => ∃ i j, xs = [.int i, .int j] ∧ Q (.int (if j > i then j else i)) H) := by
  intro pins s σ H xs us Q I r h
  obtain ⟨i, j, rfl, q⟩ := h
  obtain ⟨u, w', rfl, ⟨t, rfl⟩, ⟨t', rfl⟩⟩ := vals2 r
  refine max_two_ints (I.ok.hd hc) fun h' tk k => ⟨_, H, I.kept k, ?_, q⟩
  by_cases hj : j > i
  · rw [if_pos hj, if_pos hj]; exact ⟨_, rfl⟩
  · rw [if_neg hj, if_neg hj]; exact ⟨_, rfl⟩
theorem call_min2 (hc : X.calm = true) : CallR X (.builtin "min") (fun xs H Q => ∃ i j, xs = [.int i, .int j] ∧ Q (.int (if j < i then j else i)) H) := by
  intro pins s σ H xs us Q I r h
  obtain ⟨i, j, rfl, q⟩ := h
  obtain ⟨u, w', rfl, ⟨t, rfl⟩, ⟨t', rfl⟩⟩ := vals2 r
  refine min_two_ints (I.ok.hd hc) fun h' tk k => ⟨_, H, I.kept k, ?_, q⟩
  by_cases hj : j < i
  · rw [if_pos hj, if_pos hj]; exact ⟨_, rfl⟩
  · rw [if_neg hj, if_neg hj]; exact ⟨_, rfl⟩
theorem call_int1 : CallR X (.type "int") (fun xs H Q => (∃ i, xs = [.int i] ∧ Q (.int i) H) ∨ ∃ k, xs = [.bl k] ∧ Q (.int (if k then 1 else 0)) H) := by
  intro pins s σ H xs us Q I r h
  rcases h with ⟨i, rfl, q⟩ | ⟨k, rfl, q⟩
  · obtain ⟨u, rfl, t, rfl⟩ := vals1 r
    exact call_int_int ⟨.int i, H, I, ⟨_, rfl⟩, q⟩
  · obtain ⟨u, rfl, r1⟩ := vals1 r
    cases r1
    exact call_int_bool ⟨.int (if k then 1 else 0), H, I.tok _, ⟨_, rfl⟩, q⟩
theorem call_bool1 : CallR X (.type "bool") (fun xs H Q => (∃ i, xs = [.int i] ∧ Q (.bl (i != 0)) H) ∨ ∃ k, xs = [.bl k] ∧ Q (.bl k) H) := by
  intro pins s σ H xs us Q I r h
  rcases h with ⟨i, rfl, q⟩ | ⟨k, rfl, q⟩
  · obtain ⟨u, rfl, t, rfl⟩ := vals1 r
    exact call_bool_int ⟨.bl (i != 0), H, I, rfl, q⟩
  · obtain ⟨u, rfl, r1⟩ := vals1 r
    cases r1
    exact call_bool_bool ⟨.bl k, H, I, rfl, q⟩
theorem call_str_int : CallR X (.type "str") (fun xs H Q => ∃ i, xs = [.int i] ∧ i.natAbs.log2 < 1920 ∧ Q (.str (toString i)) H) := by
  intro pins s σ H xs us Q I r h
  obtain ⟨i, rfl, hz, q⟩ := h
  obtain ⟨u, rfl, t, rfl⟩ := vals1 r
  exact PySem.P.str_of_int hz ⟨.str _, H, I.tok _, ⟨_, rfl⟩, q⟩
theorem call_ord : CallR X (.builtin "ord") (fun xs H Q => ∃ x, xs = [.str x] ∧ x.length = 1 ∧ Q (.int (x.cps.getD 0 0 : Nat)) H) := by
  intro pins s σ H xs us Q I r h
  obtain ⟨x, rfl, hz, q⟩ := h
  obtain ⟨u, rfl, t, rfl⟩ := vals1 r
  exact ord_of_one hz ⟨.int _, H, I.tok _, ⟨_, rfl⟩, q⟩
theorem call_chr : CallR X (.builtin "chr") (fun xs H Q => ∃ i, xs = [.int i] ∧ 0 ≤ i ∧ i ≤ 1114111 ∧ Q (.str ⟨#[i.toNat]⟩) H) := by
  intro pins s σ H xs us Q I r h
  obtain ⟨i, rfl, h0, h1, q⟩ := h
  obtain ⟨u, rfl, t, rfl⟩ := vals1 r
  exact chr_of_range h0 h1 ⟨.str _, H, I.tok _, ⟨_, rfl⟩, q⟩
/-- len of a str, a bytes, a list, a tuple -/
def LenV (K : PySem.W.Frag) (x : V) (H : Hp) (n : Nat) : Prop :=
  match x with
  | .str y => y.length ≤ sizeLine ∧ n = y.length
  | .byt y => y.size ≤ sizeLine ∧ n = y.size
  | .ref p => (∃ xs, SqL K H p xs ∧ n = xs.length) ∨ ∃ xs, SqT K H p xs ∧ n = xs.length
  | _ => False
theorem call_len : CallR X (.builtin "len") (fun xs H Q => ∃ x n, xs = [x] ∧ LenV X.K x H n ∧ Q (.int n) H) := by
  intro pins s σ H xs us Q I r h
  obtain ⟨x, n, rfl, e, q⟩ := h
  obtain ⟨u, rfl, rx⟩ := vals1 r
  have hl := line63
  have hs : sizeLine = 16777216 := sizeLine_eq
  cases x with
  | str y =>
    obtain ⟨t, rfl⟩ := rx
    obtain ⟨hy, e'⟩ : y.length ≤ sizeLine ∧ n = y.length := e
    subst e'
    exact len_str (by omega) ⟨.int _, H, I.tok _, ⟨_, rfl⟩, q⟩
  | byt y =>
    obtain ⟨t, rfl⟩ := rx
    obtain ⟨hy, e'⟩ : y.size ≤ sizeLine ∧ n = y.size := e
    subst e'
    exact PySem.W.len_bytes (by omega) ⟨.int _, H, I.tok _, ⟨_, rfl⟩, q⟩
  | ref p =>
    cases rx
    have e' : (∃ xs, SqL X.K H p xs ∧ n = xs.length) ∨ ∃ xs, SqT X.K H p xs ∧ n = xs.length := e
    rcases e' with ⟨xs, hx, e'⟩ | ⟨xs, hx, e'⟩
    · subst e'
      obtain ⟨its, r', pl, hz⟩ := I.list hx
      have hlen := r'.length
      exact Calls.call_len_list pl.isList (by simp only [List.size_toArray]; omega) ⟨.int xs.length, H, I.tok _, ⟨_, by simp only [List.size_toArray]; rw [hlen]⟩, q⟩
    · subst e'
      obtain ⟨its, r', pl, hz⟩ := I.tuple hx
      have hlen := r'.length
      exact len_tuple pl (by simp only [List.size_toArray]; omega) ⟨.int xs.length, H, I.tok _, ⟨_, by simp only [List.size_toArray]; rw [hlen]⟩, q⟩
  | _ => exact (show False from e).elim
/-- divmod: a new tuple -/
theorem call_divmod : CallR X (.builtin "divmod") (fun xs H Q => ∃ i j, xs = [.int i, .int j] ∧ CDiv i j ∧ ∀ p, H p = none → Q (.ref p) (upd H p (.tup [.int (i / j), .int (i % j)]))) := by
  intro pins s σ H xs us Q I r h
  obtain ⟨i, j, rfl, ⟨h1, h2⟩, q⟩ := h
  obtain ⟨u, w', rfl, ⟨t, rfl⟩, ⟨t', rfl⟩⟩ := vals2 r
  refine divmod_int (by omega) ?_ (.inl (PyProof.noPylong_small (by omega)))
  rw [Int.fdiv_eq_ediv_of_nonneg i (by omega), Int.fmod_eq_emod_of_nonneg i (by omega)]
  have hn : H s.heap.objs.size = none := I.hok.fresh (Nat.le_refl _)
  refine ⟨.ref s.heap.objs.size, _, ?_, rfl, q _ hn⟩
  refine I.laid (fun b o e => Heap.get?_push_of_some _ e) (Nat.le_refl _) ⟨by simp only [List.length_cons, List.length_nil]; rw [sizeLine_eq]; decide, [.int (i / j) s.toks, .int (i % j) (s.toks + 1)], .cons ⟨_, rfl⟩ (.cons ⟨_, rfl⟩ .nil), ?_⟩
  exact ⟨_, Heap.get?_push_size s.heap rfl, rfl, 0, rfl⟩
end
end L2

namespace L2
open PySem PySem.Spec PyProof.Rows

/-! ### an instance, its attributes a map -/
structure ObjM (h : Heap) (x dx C : Addr) (mA : Str → Option Value) : Prop where
  obj : h.get? x = some (PySem.W.instObj C dx)
  ns : h.Ns1 dx mA
  ne : dx ≠ x

theorem lookIn_ns {h : Heap} {dx : Addr} {mA : Str → Option Value} (n : h.Ns1 dx mA) : ∃ od, h.get? dx = some od ∧ ∀ name, PySem.W.lookIn name od = some (mA name) := by
  obtain ⟨o, es, ep, ho, hd, hk, _, hm⟩ := n
  refine ⟨o, ho, fun name => ?_⟩
  have e := hm name
  unfold nsFind findBy at e
  rw [← Array.find?_toList] at e
  unfold PySem.W.lookIn
  rw [hd]
  dsimp only
  split
  · rename_i y q
    rw [q] at e
    exact congrArg some e
  · rename_i q
    rw [q] at e
    have a : es.toList.any (·.refKey) = false := by
      rw [List.any_eq_false]
      intro y hy
      obtain ⟨z, t, hkey⟩ := hk y (Array.mem_toList_iff.mp hy)
      simp [DictEntry.refKey, hkey]
    have a' : ¬ es.toList.any (·.refKey) = true := by rw [a]; exact Bool.false_ne_true
    rw [if_neg a']
    exact congrArg some e

theorem ObjM.look {h : Heap} {x dx C : Addr} {mA : Str → Option Value} (I : ObjM h x dx C mA) : ∃ od, PySem.W.InstAt h x (PySem.W.instObj C dx) C (some od) ∧ ∀ name, PySem.W.lookIn name od = some (mA name) :=
  let ⟨od, ho, hl⟩ := lookIn_ns I.ns
  ⟨od, ⟨I.obj, rfl, rfl, ho⟩, hl⟩

section
variable {prog : Program} {w : World} {A : Around} {E : Value → Shared → Prop} {s : Shared} {K : PySem.W.Frag} {x dx C f : Addr} {mA : Str → Option Value} {name : Str} {v : Value}

theorem get_map {expr : Bool} {Q : Value → Shared → Prop} (X : K.In s.heap) (I : ObjM s.heap x dx C mA) (hg : PySem.W.plainGet K C name = true) (hh : PySem.W.hasDictIn K C = true)
    (ha : PySem.W.findIn K (.ref C) name = some none) (hv : mA name = some v) (hv' : PySem.W.handedIn v = true) (h : Q v { s with toks := s.toks + 1 }) :
    wpAny (model prog w) A (getAttr (.ref x) name expr) Q E s := by
  obtain ⟨od, J, hl⟩ := I.look
  exact PySem.W.get_value X J (PySem.W.plainGet_of hg).1 (PySem.W.findObj_own hh ha rfl (by rw [hl, hv])) hv' h

theorem get_const {expr : Bool} {a : Value} {Q : Value → Shared → Prop} (X : K.In s.heap) (I : ObjM s.heap x dx C mA) (hg : PySem.W.plainGet K C name = true) (hh : PySem.W.hasDictIn K C = true)
    (ha : PySem.W.findIn K (.ref C) name = some (some a)) (hn : PySem.W.specialIn K a "__get__" = some none) (hc : PySem.W.copiedNames.contains name = false) (hv : mA name = none) (hv' : PySem.W.handedIn a = true)
    (h : Q a { s with toks := s.toks + 1 }) : wpAny (model prog w) A (getAttr (.ref x) name expr) Q E s := by
  obtain ⟨od, J, hl⟩ := I.look
  exact PySem.W.get_value X J (PySem.W.plainGet_of hg).1 (PySem.W.findObj_cls hh ha hn hv' hc (by rw [hl, hv])) hv' h

theorem get_meth {pl : Sem Bool} {Q : Value × List Value → Shared → Prop} (X : K.In s.heap) (I : ObjM s.heap x dx C mA) (hg : PySem.W.plainGet K C name = true)
    (hf : PySem.W.findIn K (.ref C) name = some (some (.ref f))) (ht : PySem.W.isFn K (.ref f) = true) (hv : mA name = none) (h : Q (.ref f, [.ref x]) s) :
    wpAny (model prog w) A (getMethod (.ref x) name pl) Q E s := by
  obtain ⟨od, J, hl⟩ := I.look
  exact PySem.W.method_fn X J (PySem.W.plainGet_of hg).1 (PySem.W.plainGet_of hg).2 hf (beq_iff_eq.mp ht) (by show (PySem.W.lookIn name od).map (·.isSome) = some false; rw [hl, hv]; rfl) h

theorem set_map {ns : List Str} {Q : Unit → Shared → Prop} (X : K.In s.heap) (I : ObjM s.heap x dx C mA)
    (hs : PySem.W.findIn K (.ref C) "__setattr__" = some (some (.builtin "object.__setattr__"))) (hp : PySem.W.plainOver K C = true) (ht : PySem.W.takerIn K C name = some none) (hh : PySem.W.hasDictIn K C = true)
    (hw : PySem.Within mA ns) (hsz : ns.length ≤ sizeLine)
    (h : ∀ h', ObjM h' x dx C (fun y => if y = name then some v else mA y) → Heap.SameBut dx s.heap h' → Q () { s with heap := h', toks := s.toks + 2 }) :
    wpAny (model prog w) A (setAttr (.ref x) name v) Q E s := by
  obtain ⟨od, J, hl⟩ := I.look
  refine PySem.W.set_plain X J hs (PySem.W.osa_open (s := { s with toks := s.toks + 1 }) (r := none) X J hp ht fun b => ?_)
  obtain ⟨cd, hc, hd'⟩ := PySem.W.any_some hh
  have hx : s.heap.get? x = some ⟨.ref C, some dx, .plain, #[]⟩ := I.obj
  refine wpAny_bind (wpAny_pure (wpAny_bind (wpAny_bind (wpAny_loadPart hx (wpAny_bind (PySem.W.Looks.here (s := { s with toks := s.toks + 1 }) (PySem.W.looks_clsIn X hc) ?_))))))
  rw [hd']
  refine wpAny_pure (a := some dx) (wpAny_bind (wpAny_pure (wpAny_bind ?_)))
  refine wpAny_nsSet1 (s := { s with toks := s.toks + 1 }) I.ns fun h' hn2 hs2 => ?_
  obtain ⟨oD, esD, epD, hoD, hdD, hcD⟩ := hn2.count (PySem.Within.cons name v hw)
  refine wpAny_bind (wpAny_lookBehind hoD (by rw [hdD]; exact pastItsLine_dict (Nat.le_trans hcD (by rw [List.length_cons]; omega))) ?_)
  exact wpAny_pure (h _ ⟨(hs2.2 _ (Ne.symm I.ne)).trans I.obj, hn2, I.ne⟩ hs2)

/-- C(..): the dict at the heap's end, the instance behind it; then its __init__ -/
theorem make_map {R : Result → Shared → Prop} {vs : List Value} {kw : List (Str × Value)} (X : K.In s.heap) (hm : PySem.W.makesIn K C = true)
    (hi : PySem.W.findIn K (.ref C) "__init__" = some (some (.ref f))) (hf : PySem.W.typeIn K (.ref f) = some (.type "function"))
    (h : codeAny (model prog w) (A.under (.builtin "type.__call__" ⟨.ref C :: vs, kw⟩)) (.call (.ref f) ⟨.ref (s.heap.objs.size + 1) :: vs, kw⟩) (PySem.W.InitBack (s.heap.objs.size + 1) R)
      { s with heap := (s.heap.push PySem.W.emptyDict).push (PySem.W.instObj C s.heap.objs.size) }) :
    codeAny (model prog w) A (.call (.ref C) ⟨vs, kw⟩) R s := by
  obtain ⟨hh, g, d, t, os⟩ := s
  exact PySem.W.make_core (PySem.W.makes_of X hm) (PySem.W.looks_findIn X hi) (fun self => PySem.W.bind_fn X self hf) (.inl rfl) h
/-- C() where there is no __init__ but object's -/
theorem make_map0 {R : Result → Shared → Prop} (X : K.In s.heap) (hm : PySem.W.makesIn K C = true)
    (hi : PySem.W.findIn K (.ref C) "__init__" = some (some (.builtin "object.__init__")))
    (hb : ∀ self, PySem.W.Looks (model prog w) s.heap (bindSpecial (.builtin "object.__init__") self) (.builtin "object.__init__", [self]))
    (h : codeAny (model prog w) (A.under (.builtin "type.__call__" ⟨[.ref C], []⟩)) (.call (.builtin "object.__init__") ⟨[.ref (s.heap.objs.size + 1)], []⟩) (PySem.W.InitBack (s.heap.objs.size + 1) R)
      { s with heap := (s.heap.push PySem.W.emptyDict).push (PySem.W.instObj C s.heap.objs.size) }) :
    codeAny (model prog w) A (.call (.ref C) ⟨[], []⟩) R s := by
  obtain ⟨hh, g, d, t, os⟩ := s
  exact PySem.W.make_core (PySem.W.makes_of X hm) (PySem.W.looks_findIn X hi) hb (.inr ⟨rfl, rfl⟩) h
end

/-! ### the attributes as a list of pairs -/
def putF (f : Str) (v : V) : List (Str × V) → List (Str × V)
  | [] => [(f, v)]
  | (g, x) :: r => if g = f then (g, v) :: r else (g, x) :: putF f v r
theorem lookup_putF (f g : Str) (v : V) : ∀ fs : List (Str × V), (putF f v fs).lookup g = if g = f then some v else fs.lookup g
  | [] => by
    show List.lookup g [(f, v)] = _
    by_cases h : g = f
    · have hb : (g == f) = true := beq_iff_eq.mpr h
      simp only [List.lookup, hb, if_pos h]
    · have hb : (g == f) = false := beq_eq_false_iff_ne.mpr h
      simp only [List.lookup, hb, if_neg h]
  | (k, x) :: r => by
    have ih := lookup_putF f g v r
    rw [show putF f v ((k, x) :: r) = (if k = f then (k, v) :: r else (k, x) :: putF f v r) from rfl]
    by_cases hk : k = f
    · rw [if_pos hk]
      by_cases h : g = k
      · have hb : (g == k) = true := beq_iff_eq.mpr h
        simp only [List.lookup, hb, if_pos (h.trans hk)]
      · have hb : (g == k) = false := beq_eq_false_iff_ne.mpr h
        simp only [List.lookup, hb, if_neg (fun e : g = f => h (e.trans hk.symm))]
    · rw [if_neg hk]
      by_cases h : g = k
      · have hb : (g == k) = true := beq_iff_eq.mpr h
        simp only [List.lookup, hb, if_neg (fun e : g = f => hk (h.symm.trans e))]
      · have hb : (g == k) = false := beq_eq_false_iff_ne.mpr h
        simp only [List.lookup, hb]
        exact ih
theorem keys_putF (f : Str) (v : V) : ∀ fs : List (Str × V), f ∈ (putF f v fs).map (·.1) ∧ ∀ g, g ∈ fs.map (·.1) → g ∈ (putF f v fs).map (·.1)
  | [] => ⟨by simp [putF], fun g h => by simp at h⟩
  | (k, x) :: r => by
    obtain ⟨i1, i2⟩ := keys_putF f v r
    rw [show putF f v ((k, x) :: r) = (if k = f then (k, v) :: r else (k, x) :: putF f v r) from rfl]
    by_cases hk : k = f
    · rw [if_pos hk]
      subst hk
      exact ⟨by simp, fun g h => by simpa using h⟩
    · rw [if_neg hk]
      refine ⟨?_, fun g h => ?_⟩
      · rw [List.map_cons]
        exact List.mem_cons_of_mem _ i1
      · rw [List.map_cons] at h ⊢
        rcases List.mem_cons.mp h with e | e
        · exact List.mem_cons.mpr (.inl e)
        · exact List.mem_cons_of_mem _ (i2 g e)
theorem length_putF (f : Str) (v : V) : ∀ fs : List (Str × V), (putF f v fs).length ≤ fs.length + 1
  | [] => by simp [putF]
  | (k, x) :: r => by
    have ih := length_putF f v r
    rw [show putF f v ((k, x) :: r) = (if k = f then (k, v) :: r else (k, x) :: putF f v r) from rfl]
    by_cases hk : k = f
    · rw [if_pos hk, List.length_cons, List.length_cons]; omega
    · rw [if_neg hk, List.length_cons, List.length_cons]; omega

theorem RelO.some_of {v : V} {o : Option Value} (r : RelO (some v) o) : ∃ u, o = some u ∧ RelV v u := by
  cases o with
  | none => exact (show False from r).elim
  | some u => exact ⟨u, rfl, r⟩
theorem RelO.none_of {o : Option Value} (r : RelO none o) : o = none := by
  cases o with
  | none => rfl
  | some u => exact (show False from r).elim
theorem handed_of {v : V} {u : Value} (r : RelV v u) : PySem.W.handedIn u = true := by
  cases v with
  | non => cases (show u = Value.none from r); rfl
  | bl b => cases (show u = Value.bool b from r); rfl
  | int i => obtain ⟨t, e⟩ := (show ∃ t, u = Value.int i t from r); cases e; rfl
  | str x => obtain ⟨t, e⟩ := (show ∃ t, u = Value.str x t from r); cases e; rfl
  | byt b => obtain ⟨t, e⟩ := (show ∃ t, u = Value.bytes b t from r); cases e; rfl
  | flt b => obtain ⟨t, e⟩ := (show ∃ t, u = Value.float b t from r); cases e; rfl
  | ref a => cases (show u = Value.ref a from r); rfl
  | ty n => cases (show u = Value.type n from r); rfl

section
variable {P : Program} {w : World} {H H' : Hp} {h h' : Heap} {a C dx : Addr} {fs fs' : List (Str × V)}
theorem ins_get (hok : HOk P w H h) (e : H a = some (.ins C dx fs)) : ∃ mA, ObjM h a dx C mA ∧ (∀ f, RelO (fs.lookup f) (mA f)) ∧ PySem.Within mA (fs.map (·.1)) ∧ fs.length ≤ 1000 ∧ H dx = some (.own a) := by
  obtain ⟨d, z, ne, ob, mA, n, r, q⟩ := (show ObjOk P w H h a (.ins C dx fs) from hok a _ e)
  exact ⟨mA, ⟨ob, n, ne⟩, r, q, z, d⟩
end

/-! ### what of the text a class must have -/
structure Cls (K : PySem.W.Frag) (C : Addr) : Prop where
  pg : PySem.W.plainGet K C Str.empty = true
  hd : PySem.W.hasDictIn K C = true
  po : PySem.W.plainOver K C = true
  sa : PySem.W.findIn K (.ref C) "__setattr__" = some (some (.builtin "object.__setattr__"))
theorem Cls.get {K : PySem.W.Frag} {C : Addr} (c : Cls K C) (f : Str) : PySem.W.plainGet K C f = true := c.pg
/-- no class of it has the name -/
def NoAttr (K : PySem.W.Frag) (C : Addr) (f : Str) : Prop := PySem.W.findIn K (.ref C) f = some none
theorem NoAttr.taker {K : PySem.W.Frag} {C : Addr} {f : Str} (n : NoAttr K C f) : PySem.W.takerIn K C f = some none := by
  unfold PySem.W.takerIn
  rw [show PySem.W.findIn K (.ref C) f = some none from n]
  rfl
/-- a constant of the class -/
structure Con (K : PySem.W.Frag) (C : Addr) (f : Str) (v : V) (u : Value) : Prop where
  at_ : PySem.W.findIn K (.ref C) f = some (some u)
  rel : RelV v u
  get : PySem.W.specialIn K u "__get__" = some none
  cp : PySem.W.copiedNames.contains f = false
/-- a method: a plain def of the class or of one above it -/
structure Meth (K : PySem.W.Frag) (C : Addr) (m : Str) (f : Addr) : Prop where
  at_ : PySem.W.findIn K (.ref C) m = some (some (.ref f))
  fn : PySem.W.isFn K (.ref f) = true
  kp : PySem.W.keepIn K (.ref f) = true

section
variable {X : Cx} {pins : List (Addr × Obj)} {σ : St} {H : Hp} {s : Shared} {a C dx : Addr} {fs : List (Str × V)} {f : Str} {v : V} {A : Around} {E : Value → Shared → Prop}

theorem getattr_ok {b : Bool} {Q : Value → Shared → Prop} (I : Inv X pins σ H s) (e : H a = some (.ins C dx fs)) (c : Cls X.K C) (n : NoAttr X.K C f) (l : fs.lookup f = some v)
    (h : ∀ u s', Inv X pins σ H s' → RelV v u → Q u s') : wpAny (model X.prog X.w) A (getAttr (.ref a) f b) Q E s := by
  obtain ⟨mA, O, r, _, _, _⟩ := ins_get I.hok e
  obtain ⟨u, hu, ru⟩ := RelO.some_of (v := v) (o := mA f) (by rw [← l]; exact r f)
  exact get_map I.kIn O (c.get f) c.hd n hu (handed_of ru) (h u _ (I.tok _) ru)

theorem getcon_ok {b : Bool} {u : Value} {Q : Value → Shared → Prop} (I : Inv X pins σ H s) (e : H a = some (.ins C dx fs)) (c : Cls X.K C) (k : Con X.K C f v u) (l : fs.lookup f = none)
    (h : ∀ s', Inv X pins σ H s' → Q u s') : wpAny (model X.prog X.w) A (getAttr (.ref a) f b) Q E s := by
  obtain ⟨mA, O, r, _, _, _⟩ := ins_get I.hok e
  have hn : mA f = none := RelO.none_of (by rw [← l]; exact r f)
  exact get_const I.kIn O (c.get f) c.hd k.at_ k.get k.cp hn (handed_of k.rel) (h _ (I.tok _))

theorem getmeth_ok {m : Str} {g : Addr} {pl : Sem Bool} {Q : Value × List Value → Shared → Prop} (I : Inv X pins σ H s) (e : H a = some (.ins C dx fs)) (c : Cls X.K C) (k : Meth X.K C m g) (l : fs.lookup m = none)
    (h : Q (.ref g, [.ref a]) s) : wpAny (model X.prog X.w) A (getMethod (.ref a) m pl) Q E s := by
  obtain ⟨mA, O, r, _, _, _⟩ := ins_get I.hok e
  have hn : mA m = none := RelO.none_of (by rw [← l]; exact r m)
  exact get_meth I.kIn O (c.get m) k.at_ k.fn hn h

theorem setattr_ok {y : V} {u : Value} {Q : Unit → Shared → Prop} (I : Inv X pins σ H s) (e : H a = some (.ins C dx fs)) (c : Cls X.K C) (n : NoAttr X.K C f) (hl : fs.length < 1000) (ry : RelV y u)
    (h : ∀ s', Inv X pins σ (upd H a (.ins C dx (putF f y fs))) s' → Q () s') : wpAny (model X.prog X.w) A (setAttr (.ref a) f u) Q E s := by
  obtain ⟨mA, O, r, wi, _, ho⟩ := ins_get I.hok e
  have hz : (fs.map (·.1)).length ≤ sizeLine := by rw [List.length_map, sizeLine_eq]; omega
  refine set_map I.kIn O c.sa c.po n.taker c.hd wi hz fun h' O' sb => h _ ?_
  have hd : ∃ o, h'.get? dx = some o := let ⟨o, _, _, e', _⟩ := O'.ns; ⟨o, e'⟩
  refine I.write (x := a) (e := dx) (by rw [e]; exact True.intro) (.inr ho) (fun b q hb z => (sb.2 b hb).trans z) hd ?_
  refine ⟨by rw [upd_ne O.ne]; exact ho, ?_, O.ne, O'.obj, _, O'.ns, fun g => ?_, fun g hg => ?_⟩
  · have := length_putF f y fs; omega
  · show RelO ((putF f y fs).lookup g) (if g = f then some u else mA g)
    rw [lookup_putF]
    by_cases q : g = f
    · rw [if_pos q, if_pos q]; exact ry
    · rw [if_neg q, if_neg q]; exact r g
  · by_cases q : g = f
    · rw [q]; exact (keys_putF f y fs).1
    · refine (keys_putF f y fs).2 g (wi g fun z => hg ?_)
      show (if g = f then some u else mA g) = none
      rw [if_neg q]; exact z

/-- a new instance, tracked, without attributes -/
theorem Inv.made (I : Inv X pins σ H s) : Inv X pins σ (upd (upd H s.heap.objs.size (.own (s.heap.objs.size + 1))) (s.heap.objs.size + 1) (.ins C s.heap.objs.size []))
    { s with heap := (s.heap.push PySem.W.emptyDict).push (PySem.W.instObj C s.heap.objs.size) } := by
  have e1 : (s.heap.push PySem.W.emptyDict).get? s.heap.objs.size = some PySem.W.emptyDict := Heap.get?_push_size s.heap rfl
  have e2 : ((s.heap.push PySem.W.emptyDict).push (PySem.W.instObj C s.heap.objs.size)).get? (s.heap.objs.size + 1) = some (PySem.W.instObj C s.heap.objs.size) := by
    have := Heap.get?_push_size (s.heap.push PySem.W.emptyDict) (o := PySem.W.instObj C s.heap.objs.size) rfl
    rwa [Heap.size_push] at this
  have e3 : (s.heap.push PySem.W.emptyDict).Ns s.heap.objs.size (fun _ => none) := ⟨PySem.W.emptyDict, #[], _, e1, rfl, (fun e he => absurd he (by simp)), fun _ => rfl⟩
  have I1 := I.laid (a := s.heap.objs.size) (o := .own (s.heap.objs.size + 1)) (h' := s.heap.push PySem.W.emptyDict) (t' := s.toks) (fun b u q => Heap.get?_push_of_some _ q) (Nat.le_refl _) ⟨_, e1⟩
  refine I1.laid (a := s.heap.objs.size + 1) (o := .ins C s.heap.objs.size []) (t' := s.toks) (fun b u q => Heap.get?_push_of_some _ q) (Nat.le_of_eq (Heap.size_push _ _)) ?_
  have ne : s.heap.objs.size ≠ s.heap.objs.size + 1 := Nat.ne_of_lt (Nat.lt_succ_self _)
  refine ⟨by rw [upd_ne ne, upd_same], Nat.zero_le _, ne, e2, fun _ => none, (Heap.Ns1.of_empty e3).at fun o q => Heap.get?_push_of_some _ q, fun _ => True.intro, fun y hy => absurd rfl hy⟩

/-- e.f where nothing but the object is asked: through attributeBase (super) and the last hold -/
theorem attr_of {prog : Program} {w : World} {env : Env} {e : Expr} {f : Str} {pos : Pos} {s : Shared} {Q : Value → Shared → Prop} (hb : attributeBase e f env (eval e env) = eval e env)
    (h : wpAny (model prog w) A (eval e env) (fun o s₁ => wpAny (model prog w) A (getAttr o f true) Q E s₁) E s) : wpAny (model prog w) A (eval (.Attribute e f pos) env) Q E s :=
  Attribute_any_ h (by rw [arm_eval_Attribute, hb])
end

/-! ### readings and rules -/
/-- e.f, an attribute of the instance -/
def tFld (K : PySem.W.Frag) (ta : TE) (f : Str) : TE := fun σ H Q => ta σ H fun x H1 => ∃ a C dx fs v, x = .ref a ∧ H1 a = some (.ins C dx fs) ∧ Cls K C ∧ NoAttr K C f ∧ fs.lookup f = some v ∧ Q v H1
/-- e.f, a constant of the class -/
def tCon (K : PySem.W.Frag) (ta : TE) (f : Str) : TE := fun σ H Q => ta σ H fun x H1 => ∃ a C dx fs v u, x = .ref a ∧ H1 a = some (.ins C dx fs) ∧ Cls K C ∧ Con K C f v u ∧ fs.lookup f = none ∧ Q v H1
/-- e.f = value -/
def sFld (K : PySem.W.Frag) (ta tv : TE) (f : Str) : TS := fun D σ H => tv σ H fun y H1 => ta σ H1 fun x H2 => ∃ a C dx fs, x = .ref a ∧ H2 a = some (.ins C dx fs) ∧ Cls K C ∧ NoAttr K C f ∧ fs.length < 1000 ∧
  D.nx σ (upd H2 a (.ins C dx (putF f y fs)))
/-- an augmented operator on two values -/
def InOp (X : Cx) (op : Operator) (rd : V → V → Hp → VK → Prop) : Prop :=
  ∀ (pins : List (Addr × Obj)) (s : Shared) (σ : St) (H : Hp) (x y : V) (u v : Value) (Q : VK), Inv X pins σ H s → RelV x u → RelV y v → rd x y H Q → wpAny (model X.prog X.w) X.A (inplaceOp op u v) (EP X pins σ Q) X.xe s
/-- e.f op= value -/
def sFldAug (K : PySem.W.Frag) (ta tv : TE) (rd : V → V → Hp → VK → Prop) (f : Str) : TS := fun D σ H => ta σ H fun x H1 => ∃ a C dx fs v, x = .ref a ∧ H1 a = some (.ins C dx fs) ∧ Cls K C ∧ NoAttr K C f ∧ fs.lookup f = some v ∧
  tv σ H1 fun y H2 => rd v y H2 fun z H3 => ∃ dx' fs', H3 a = some (.ins C dx' fs') ∧ fs'.length < 1000 ∧ D.nx σ (upd H3 a (.ins C dx' (putF f z fs')))

section
variable {X : Cx} {o e value : Expr} {f : Str} {pos pos' tpos : Pos} {ta tv : TE}
theorem pe_fld (he : PE X e ta) (hb : attributeBase e f X.env (eval e X.env) = eval e X.env) : PE X (.Attribute e f pos) (tFld X.K ta f) := by
  intro pins s σ H Q I h
  refine attr_of hb (thn (he pins s σ H _ I h) fun u s1 ⟨x, H1, I1, rx, a, C, dx, fs, v, ex, ea, c, n, l, q⟩ => ?_)
  subst ex
  obtain rfl : u = Value.ref a := rx
  exact getattr_ok I1 ea c n l fun u' s2 I2 ru => ⟨v, H1, I2, ru, q⟩
theorem pe_con (he : PE X e ta) (hb : attributeBase e f X.env (eval e X.env) = eval e X.env) : PE X (.Attribute e f pos) (tCon X.K ta f) := by
  intro pins s σ H Q I h
  refine attr_of hb (thn (he pins s σ H _ I h) fun u s1 ⟨x, H1, I1, rx, a, C, dx, fs, v, u0, ex, ea, c, k, l, q⟩ => ?_)
  subst ex
  obtain rfl : u = Value.ref a := rx
  exact getcon_ok I1 ea c k l fun s2 I2 => ⟨v, H1, I2, k.rel, q⟩
theorem ps_fld (ha : PE X o ta) (hv : PE X value tv) (hs : swapsWith value (some (.Attribute o f pos')) pos.line X.env = pure false) : PS X (.Assign [.Attribute o f pos'] value pos) (sFld X.K ta tv f) := by
  intro pins s σ H D I h
  refine plainObj_wpAny_Assign_Attribute (thn (hv pins s σ H _ I h) fun u s1 ⟨y, H1, I1, ry, q⟩ => thn (ha pins s1 σ H1 _ I1 q) fun ov s2 ⟨x, H2, I2, rx, a, C, dx, fs, ex, ea, c, n, l, q2⟩ => ?_) hs
  subst ex
  obtain rfl : ov = Value.ref a := rx
  exact setattr_ok I2 ea c n l ry fun s3 I3 => ⟨σ, _, I3, q2⟩
theorem ps_fldaug {op : Operator} {rd : V → V → Hp → VK → Prop} (ha : PE X o ta) (hv : PE X value tv) (hop : InOp X op rd) : PS X (.AugAssign (.Attribute o f tpos) op value pos) (sFldAug X.K ta tv rd f) := by
  intro pins s σ H D I h
  refine wpAny_AugAssign_AttributeAny (thn (ha pins s σ H _ I h) fun ov s1 ⟨x, H1, I1, rx, a, C, dx, fs, v, ex, ea, c, n, l, q⟩ => ?_)
  subst ex
  obtain rfl : ov = Value.ref a := rx
  refine getattr_ok I1 ea c n l fun u s2 I2 ru => thn (hv pins s2 σ H1 _ I2 q) fun w3 s3 ⟨y, H2, I3, ry, q3⟩ => thn (hop pins s3 σ H2 v y u w3 _ I3 ru ry q3) fun w4 s4 ⟨z, H3, I4, rz, dx', fs', ea', l', q4⟩ => ?_
  exact setattr_ok I4 ea' c n l' rz fun s5 I5 => ⟨σ, _, I5, q4⟩
def rAdd : V → V → Hp → VK → Prop := fun x y H Q => ∃ i j, x = .int i ∧ y = .int j ∧ Q (.int (i + j)) H
def rSub : V → V → Hp → VK → Prop := fun x y H Q => ∃ i j, x = .int i ∧ y = .int j ∧ Q (.int (i - j)) H
theorem in_add : InOp X .Add rAdd := by
  rintro pins s σ H x y u v Q I rx ry ⟨i, j, rfl, rfl, q⟩
  obtain ⟨t, rfl⟩ := (show ∃ t, u = Value.int i t from rx)
  obtain ⟨t', rfl⟩ := (show ∃ t', v = Value.int j t' from ry)
  exact PyProof.Rows.iadd_int ⟨.int (i + j), H, I.tok _, ⟨_, rfl⟩, q⟩
theorem in_sub : InOp X .Sub rSub := by
  rintro pins s σ H x y u v Q I rx ry ⟨i, j, rfl, rfl, q⟩
  obtain ⟨t, rfl⟩ := (show ∃ t, u = Value.int i t from rx)
  obtain ⟨t', rfl⟩ := (show ∃ t', v = Value.int j t' from ry)
  exact PyProof.Rows.isub_int ⟨.int (i - j), H, I.tok _, ⟨_, rfl⟩, q⟩

/-- what is between an instance and its method: the tree of a method call -/
theorem methcall_of {pl : Sem Bool} {m : Str} {apos : Pos} {args : List Expr} {pins : List (Addr × Obj)} {s : Shared} {σ : St} {H : Hp} {Q : Value → Shared → Prop} {te : TE} (he : PE X e te) (I : Inv X pins σ H s)
    (h : te σ H fun x H1 => ∃ a C dx fs g, x = .ref a ∧ H1 a = some (.ins C dx fs) ∧ Cls X.K C ∧ Meth X.K C m g ∧ fs.lookup m = none ∧
      ∀ s1, Inv X pins σ H1 s1 → wpAny (model X.prog X.w) X.A (callWith pos (.ref g) [.ref a] (backTo pos (starEach args X.env)) (backToKw pos (keywordEach [] X.env))) Q X.xe s1)
    (ht : eval (.Call (.Attribute e m apos) args [] pos) X.env = (do
      let ov ← eval e X.env
      standAt apos.atName
      let (f, first) ← holding [ov] (getMethod ov m pl)
      callWith pos f first (backTo pos (starEach args X.env)) (backToKw pos (keywordEach [] X.env)))) :
    wpAny (model X.prog X.w) X.A (eval (.Call (.Attribute e m apos) args [] pos) X.env) Q X.xe s := by
  refine PySem.W.methodCall_KW (pl := pl) (thn (he pins s σ H _ I h) fun u s1 ⟨x, H1, I1, rx, a, C, dx, fs, g, ex, ea, c, k, l, q⟩ => ?_) ht
  subst ex
  obtain rfl : u = Value.ref a := rx
  exact getmeth_ok I1 ea c k l (q s1 I1)
end

/-! ### isinstance -/
section
variable {X : Cx} {pins : List (Addr × Obj)} {σ : St} {H : Hp} {s : Shared} {A : Around} {E : Value → Shared → Prop} {Q : Value → Shared → Prop} {c : Value} {b : Bool}
/-- the type of a value, as the fragment's deciders take it; for an instance its class -/
inductive TyOf (K : PySem.W.Frag) (H : Hp) : V → Value → Prop where
  | non : TyOf K H .non (.type "NoneType")
  | bl (x : Bool) : TyOf K H (.bl x) (.type "bool")
  | int (i : Int) : TyOf K H (.int i) (.type "int")
  | str (x : Str) : TyOf K H (.str x) (.type "str")
  | flt (x : UInt64) : TyOf K H (.flt x) (.type "float")
  | lst {a : Addr} {xs : List V} (e : H a = some (.lst xs)) : TyOf K H (.ref a) (.type "list")
  | frz {a : Addr} {o : Obj} {xs : List V} (e : H a = some (.frz o (.lst xs))) : TyOf K H (.ref a) (.type "list")
  | tup {a : Addr} {xs : List V} (e : H a = some (.tup xs)) : TyOf K H (.ref a) (.type "tuple")
  | dK {a : Addr} {kvs : List (Key × V)} (e : H a = some (.dK kvs)) : TyOf K H (.ref a) (.type "dict")
  | dT {a : Addr} {kvs : List (List Key × V)} (e : H a = some (.dT kvs)) : TyOf K H (.ref a) (.type "dict")
  | ins {a C dx : Addr} {fs : List (Str × V)} (e : H a = some (.ins C dx fs)) (cl : Cls K C) (ha : PySem.W.findIn K (.ref C) "__class__" = some (some (.builtin "object.__class__")))
      (hn : PySem.W.specialIn K (.builtin "object.__class__") "__get__" = some (some (.builtin "getset_descriptor.__get__"))) (htk : PySem.W.takesIn K (.builtin "object.__class__") = some true)
      (hm : PySem.W.mroIn K C (.type "object") = some true) : TyOf K H (.ref a) (.ref C)
/-- isinstance(x, c) for one class c, a built-in or an own one: kitOne's answer -/
theorem isinst_ok {x : V} {u t : Value} (I : Inv X pins σ H s) (rx : RelV x u) (ty : TyOf X.K H x t) (e : PySem.W.kitOne X.K t c = some b) (h : ∀ tk, Q (.bool b) { s with toks := tk }) :
    wpAny (model X.prog X.w) A (call (.builtin "isinstance") [u, c]) Q E s := by
  cases ty with
  | non => cases (show u = Value.none from rx); exact PySem.W.kia_one PySem.W.kitx_none I.kIn True.intro e (fun z => nomatch z) h
  | bl y => cases (show u = Value.bool y from rx); exact PySem.W.kia_one PySem.W.kitx_bool I.kIn True.intro e (fun z => nomatch z) h
  | int i => obtain ⟨t, q⟩ := (show ∃ t, u = Value.int i t from rx); cases q; exact PySem.W.kia_one PySem.W.kitx_int I.kIn True.intro e (fun z => nomatch z) h
  | str y => obtain ⟨t, q⟩ := (show ∃ t, u = Value.str y t from rx); cases q; exact PySem.W.kia_one PySem.W.kitx_str I.kIn True.intro e (fun z => nomatch z) h
  | flt y => obtain ⟨t, q⟩ := (show ∃ t, u = Value.float y t from rx); cases q; exact PySem.W.kia_one PySem.W.kitx_float I.kIn True.intro e (fun z => nomatch z) h
  | @lst a xs ea =>
    cases (show u = Value.ref a from rx)
    obtain ⟨_, _, n, _, h1⟩ := (show ObjOk X.prog X.w H s.heap a (.lst xs) from I.hok a _ ea)
    exact PySem.W.kia_one PySem.W.kitx_list I.kIn ⟨_, h1, rfl⟩ e (fun z => nomatch z) h
  | @frz a ob xs ea =>
    cases (show u = Value.ref a from rx)
    obtain ⟨_, _, _, n, _, h1⟩ := (show ObjOk X.prog X.w H s.heap a (.frz ob (.lst xs)) from I.hok a _ ea)
    exact PySem.W.kia_one PySem.W.kitx_list I.kIn ⟨_, h1, rfl⟩ e (fun z => nomatch z) h
  | @tup a xs ea =>
    cases (show u = Value.ref a from rx)
    obtain ⟨_, _, _, p⟩ := (show ObjOk X.prog X.w H s.heap a (.tup xs) from I.hok a _ ea)
    obtain ⟨o, h1, h2, _⟩ := p
    exact PySem.W.kia_one PySem.W.kitx_tuple I.kIn ⟨o, h1, h2⟩ e (fun z => nomatch z) h
  | @dK a kvs ea =>
    cases (show u = Value.ref a from rx)
    obtain ⟨_, _, vs, _, p⟩ := (show ObjOk X.prog X.w H s.heap a (.dK kvs) from I.hok a _ ea)
    obtain ⟨o, es, ep, h1, h2, _⟩ := p
    exact PySem.W.kia_one PySem.W.kitx_dict I.kIn ⟨o, h1, h2.1⟩ e (fun z => nomatch z) h
  | @dT a kvs ea =>
    cases (show u = Value.ref a from rx)
    obtain ⟨_, _, xs, _, o, es, ep, h1, h2, _⟩ := (show ObjOk X.prog X.w H s.heap a (.dT kvs) from I.hok a _ ea)
    exact PySem.W.kia_one PySem.W.kitx_dict I.kIn ⟨o, h1, h2.1⟩ e (fun z => nomatch z) h
  | @ins a C dx fs ea cl ha hn htk hm =>
    cases (show u = Value.ref a from rx)
    obtain ⟨mA, O, _⟩ := ins_get I.hok ea
    obtain ⟨od, J, _⟩ := O.look
    exact PySem.W.kia_one (PySem.W.kitx_own (cl.get _) cl.hd ha hn htk hm) I.kIn J e (fun z => nomatch z) h
end
end L2

namespace L2
open PySem PySem.Spec PyProof.Rows

/-! ### room -/
structure Room (k : Nat) (A : Around) : Prop where
  hd : A.handled = none
  dp : A.depth + 3 * k + 5 < recursionLimit
  un : A.units + 16 * k + 200 < cLine
theorem Room.mono {j k : Nat} {A : Around} (r : Room k A) (h : j ≤ k) : Room j A := ⟨r.hd, by have := r.dp; omega, by have := r.un; omega⟩
theorem Room.deeper {k : Nat} {A : Around} (r : Room (k + 1) A) (env : Env) : Room k (A.deeper env) :=
  ⟨r.hd, by have := r.dp; show A.depth + 1 + 3 * k + 5 < _; omega, by have := r.un; show A.units + 3 + 16 * k + 200 < _; omega⟩
theorem Room.in1 {k : Nat} {A : Around} (r : Room (k + 1) A) : Room k A.in1 :=
  ⟨r.hd, by have := r.dp; show A.depth + 3 * k + 5 < _; omega, by have := r.un; show A.units + 1 + 16 * k + 200 < _; omega⟩
theorem make_depth {A : Around} {C : Addr} {us : List Value} {kw : List (Str × Value)} : (A.under (.builtin "type.__call__" ⟨.ref C :: us, kw⟩)).depth = A.depth + 1 := by
  first | rfl | simp [Around.under, Code.weight, Code.isCreation, Code.isGuard, Code.isCaller, Code.frames, Code.isFrame, guardIds]
theorem make_units {A : Around} {C : Addr} {us : List Value} {kw : List (Str × Value)} : (A.under (.builtin "type.__call__" ⟨.ref C :: us, kw⟩)).units = A.units + 1 := by
  first | rfl | simp [Around.under, Code.cUnits, Code.frames, Code.isFrame]
theorem Room.make {k : Nat} {A : Around} (r : Room (k + 1) A) (C : Addr) (us : List Value) (kw : List (Str × Value)) : Room k (A.under (.builtin "type.__call__" ⟨.ref C :: us, kw⟩)) :=
  ⟨r.hd, by have := r.dp; rw [make_depth]; omega, by have := r.un; rw [make_units]; omega⟩
theorem Room.depth {k : Nat} {A : Around} (r : Room k A) : A.depth < recursionLimit := by have := r.dp; omega
theorem Room.units {k : Nat} {A : Around} (r : Room k A) : A.units + 64 < cLine := by have := r.un; omega
theorem Room.units0 {k : Nat} {A : Around} (r : Room k A) : A.units < cLine := by have := r.un; omega

/-! ### argument lists and displays -/
def tNil : TA := fun _ H Q => Q [] H
def tCons (ta : TE) (tr : TA) : TA := fun σ H Q => ta σ H fun x H1 => tr σ H1 fun xs H2 => Q (x :: xs) H2
section
variable {X : Cx} {e : Expr} {es : List Expr} {te : TE} {t : TA} {pos : Pos}
theorem pa_nil : PA X [] tNil := fun _ _ _ _ H Q I h => Calls.spliced_nil ⟨[], H, I, .nil, h⟩
theorem pa_cons (ha : PE X e te) (hr : PA X es t) (hs : starEach (e :: es) X.env = (false, eval e X.env) :: starEach es X.env := by rfl) : PA X (e :: es) (tCons te t) := by
  intro pos pins s σ H Q I h
  rw [hs]
  show wpAny _ _ (spliced ((false, eval e X.env) :: backTo pos (starEach es X.env))) _ _ s
  refine Calls.spliced_cons (thn (ha pins s σ H _ I h) fun u s1 ⟨x, H1, I1, r1, q1⟩ => ?_)
  exact thn (hr pos pins s1 σ H1 _ I1 q1) fun us s2 ⟨xs, H2, I2, r2, q2⟩ => ⟨x :: xs, H2, I2, .cons r1 r2, q2⟩

/-- a tuple, a list of written items -/
def tTup (t : TA) : TE := fun σ H Q => t σ H fun xs H1 => xs.length ≤ sizeLine ∧ ∀ p, H1 p = none → Q (.ref p) (upd H1 p (.tup xs))
def tLst (t : TA) : TE := fun σ H Q => t σ H fun xs H1 => xs.length ≤ sizeLine ∧ ∀ p, H1 p = none → Q (.ref p) (upd H1 p (.lst xs))
theorem pe_tup {x1} (h : PA X es t) : PE X (.Tuple es x1 pos) (tTup t) := by
  intro pins s σ H Q I hq
  refine wpAny_Tuple_spliced (thn (h pos pins s σ H _ I hq) fun us s1 ⟨xs, H1, I1, r, z, q⟩ => ⟨by rw [← r.length]; exact z, ?_⟩)
  have hf : H1 s1.heap.objs.size = none := I1.hok.fresh (Nat.le_refl _)
  refine ⟨.ref s1.heap.objs.size, upd H1 s1.heap.objs.size (.tup xs), I1.laid (t' := s1.toks) (fun b u e => Heap.get?_push_of_some _ e) (Nat.le_refl _) ?_, rfl, q _ hf⟩
  exact ⟨z, us, r, ⟨_, Heap.get?_push_size _ rfl, rfl, _, rfl⟩⟩
theorem pe_lst (h : PA X es t) : PE X (.List es pos) (tLst t) := by
  intro pins s σ H Q I hq
  refine wpAny_List_spliced (thn (h pos pins s σ H _ I hq) fun us s1 ⟨xs, H1, I1, r, z, q⟩ => ⟨by rw [← r.length]; exact z, ?_⟩)
  have hf : H1 s1.heap.objs.size = none := I1.hok.fresh (Nat.le_refl _)
  refine ⟨.ref s1.heap.objs.size, upd H1 s1.heap.objs.size (.lst xs), I1.laid (t' := s1.toks) (fun b u e => Heap.get?_push_of_some _ e) (Nat.le_refl _) ?_, rfl, q _ hf⟩
  exact ⟨z, us, 0, r, Heap.get?_push_size _ rfl⟩
end

/-! ### what a def promises -/
/-- a def's promise: the bound arguments in the parameters' order, the heap, the wanted end, the wanted exception -/
abbrev Sp := List V → Hp → VK → XK → Prop
/-- how an exception lies behind a call (file 08 gives it): the callers' frames, abstract heap and state ahead of the call, the wish, the exception, the state -/
abbrev CXT := List Env → Hp → Shared → XK → Value → Shared → Prop

/-- the state at a call -/
structure Env0 (P : Program) (w : World) (K : PySem.W.Frag) (mg : Str → Option Value) (base : Heap) (A : Around) (outer : List Env) (s : Shared) (H : Hp) : Prop where
  frames : A.frames = some outer
  mod : Mod K mg base
  bs : ∀ b o, base.get? b = some o → s.heap.get? b = some o ∧ H b = none
  bsz : base.objs.size ≤ s.heap.objs.size
  funs : s.heap.FunFrames base outer
  frf : ∀ b ∈ frs outer, H b = none
  hok : HOk P w H s.heap
  bare : AllBare s.gens
/-- a call's end -/
def CE (outer : List Env) (P : Program) (w : World) (H : Hp) (s : Shared) (Q : VK) (u : Value) (s' : Shared) : Prop :=
  ∃ v H', s'.os = s.os ∧ AllBare s'.gens ∧ Un (frs outer) [] H H' s.heap s'.heap ∧ HOk P w H' s'.heap ∧ RelV v u ∧ Q v H'
def CR (CX : CXT) (outer : List Env) (P : Program) (w : World) (H : Hp) (s : Shared) (Q : VK) (E : XK) (r : Result) (s' : Shared) : Prop :=
  match r with
  | .ok (.ret u) => CE outer P w H s Q u s'
  | .ok _ => False
  | .error e => CX outer H s E e s'
structure FnOk (P : Program) (w : World) (K : PySem.W.Frag) (mg : Str → Option Value) (base : Heap) (CX : CXT) (k : Nat) (f : Addr) (fd : FuncData) (ps : List Str) (sp : Sp) : Prop where
  len : ∀ vs H Q E, sp vs H Q E → vs.length = ps.length
  run : ∀ (A : Around) (outer : List Env) (s : Shared) (H : Hp) (args : Args) (us : List Value) (vs : List V) (Q : VK) (E : XK), Room k A → Env0 P w K mg base A outer s H → BindsTo s fd args (ps.zip us) → Vals vs us → sp vs H Q E →
    codeAny (model P w) A (.call (.ref f) args) (CR CX outer P w H s Q E) s
theorem FnOk.mono {P : Program} {w : World} {K : PySem.W.Frag} {mg : Str → Option Value} {base : Heap} {CX : CXT} {j k : Nat} {f : Addr} {fd : FuncData} {ps : List Str} {sp : Sp} (F : FnOk P w K mg base CX j f fd ps sp) (h : j ≤ k) :
    FnOk P w K mg base CX k f fd ps sp := ⟨F.len, fun A outer s H args us vs Q E hr => F.run A outer s H args us vs Q E (hr.mono h)⟩
/-- a weaker promise -/
theorem FnOk.imp {P : Program} {w : World} {K : PySem.W.Frag} {mg : Str → Option Value} {base : Heap} {CX : CXT} {k : Nat} {f : Addr} {fd : FuncData} {ps : List Str} {sp sp' : Sp} (F : FnOk P w K mg base CX k f fd ps sp)
    (h : ∀ vs H Q E, sp' vs H Q E → sp vs H Q E) : FnOk P w K mg base CX k f fd ps sp' :=
  ⟨fun vs H Q E q => F.len vs H Q E (h _ _ _ _ q), fun A outer s H args us vs Q E hr he hb hv hs => F.run A outer s H args us vs Q E hr he hb hv (h _ _ _ _ hs)⟩

theorem Env0.make {P : Program} {w : World} {K : PySem.W.Frag} {mg : Str → Option Value} {base : Heap} {A : Around} {outer : List Env} {s : Shared} {H : Hp} (e : Env0 P w K mg base A outer s H) (C : Addr) (us : List Value) (kw : List (Str × Value)) :
    Env0 P w K mg base (A.under (.builtin "type.__call__" ⟨.ref C :: us, kw⟩)) outer s H := ⟨by first | exact e.frames | (simpa [Around.under, Code.envs, Code.isFrame, pushEnvs] using e.frames), e.mod, e.bs, e.bsz, e.funs, e.frf, e.hok, e.bare⟩
theorem Env0.in1 {P : Program} {w : World} {K : PySem.W.Frag} {mg : Str → Option Value} {base : Heap} {A : Around} {outer : List Env} {s : Shared} {H : Hp} (e : Env0 P w K mg base A outer s H) :
    Env0 P w K mg base A.in1 outer s H := ⟨e.frames, e.mod, e.bs, e.bsz, e.funs, e.frf, e.hok, e.bare⟩

section
variable {X : Cx} {pins : List (Addr × Obj)} {σ : St} {H : Hp} {s s' : Shared}
/-- from a body: what a callee wants -/
theorem Inv.env0 (I : Inv X pins σ H s) : Env0 X.prog X.w X.K X.mg X.base X.A X.stack s H :=
  ⟨I.ok.frames, I.ok.mod, I.bs, Nat.le_trans I.ok.bsz I.sz, I.stack, I.stkFree, I.hok, I.bare⟩
/-- behind a call -/
theorem Inv.after {Q : VK} {u : Value} (I : Inv X pins σ H s) (h : CE X.stack X.prog X.w H s Q u s') : EP X pins σ Q u s' := by
  obtain ⟨v, H', os, bare, un, hok, r, q⟩ := h
  obtain ⟨hh, g, d, t, os'⟩ := s'
  obtain rfl : os' = s.os := os
  exact ⟨v, H', I.call (h' := hh) (g' := g) (d' := d) (t' := t) (ch := []) un hok bare (fun b z => absurd z (by simp)), r, q⟩
end

/-! ### calls -/
/-- f(..): the written arguments, then the defaults dvs; E: what is wanted of an exception -/
def tCall (sp : Sp) (dvs : List V) (E : XK) (t : TA) : TE := fun σ H Q => t σ H fun vs H1 => sp (vs ++ dvs) H1 Q E
/-- o.m(..) of an instance of the class at C -/
def tMeth (C : Addr) (m : Str) (sp : Sp) (dvs : List V) (E : XK) (ta : TE) (t : TA) : TE := fun σ H Q => ta σ H fun x H1 => ∃ a dx fs, x = .ref a ∧ H1 a = some (.ins C dx fs) ∧ fs.lookup m = none ∧
  t σ H1 fun vs H2 => sp (x :: (vs ++ dvs)) H2 Q E
/-- C(..): a new instance and its dict, then __init__ -/
def tMake (C : Addr) (sp : Sp) (dvs : List V) (E : XK) (t : TA) : TE := fun σ H Q => t σ H fun vs H1 => ∀ x dx, H1 x = none → H1 dx = none → dx ≠ x →
  sp (.ref x :: (vs ++ dvs)) (upd (upd H1 dx (.own x)) x (.ins C dx [])) (fun v H2 => v = .non ∧ Q (.ref x) H2) E

/-- how the parameters are bound: us the positional arguments, kw the keywords' values by name, ds the defaults that fill up -/
def Binds (K : PySem.W.Frag) (fd : FuncData) (ps : List Str) (ds : List Value) : Prop :=
  ∀ (s : Shared) (us : List Value), K.In s.heap → (us ++ ds).length = ps.length → BindsTo s fd ⟨us, []⟩ (ps.zip (us ++ ds))
/-- every parameter is given -/
theorem Binds.all {K : PySem.W.Frag} {fd : FuncData} {ps : List Str} (h : ∀ us : List Value, us.length = ps.length → bindArgs fd ⟨us, []⟩ = pure (ps.zip us)) : Binds K fd ps [] := fun s us _ hl => by
  rw [List.append_nil] at hl ⊢
  exact .of_eq (h us hl)

/-- an exception of a callee reaches what this body wants of exceptions -/
def Passes (CX : CXT) (X : Cx) (E : XK) : Prop := ∀ (pins : List (Addr × Obj)) (σ : St) (H : Hp) (s : Shared) (e : Value) (s' : Shared), Inv X pins σ H s → CX X.stack H s E e s' → X.xe e s'

section
variable {X : Cx} {CX : CXT} {k : Nat} {f C : Addr} {fd : FuncData} {ps : List Str} {sp : Sp} {dvs : List V} {ds : List Value} {E : XK} {x m : Str} {p pos apos : Pos} {e o : Expr} {es : List Expr} {ta : TE} {t : TA}

/-- the callee runs -/
theorem run_fn {pins : List (Addr × Obj)} {σ : St} {H : Hp} {s : Shared} {Q : VK} {us : List Value} {vs : List V} (F : FnOk X.prog X.w X.K X.mg X.base CX k f fd ps sp) (hr : Room k X.A) (hb : Binds X.K fd ps ds) (hd : Vals dvs ds) (hx : Passes CX X E)
    (I : Inv X pins σ H s) (r : Vals vs us) (h : sp (vs ++ dvs) H Q E) : wpAny (model X.prog X.w) X.A (call (.ref f) us) (EP X pins σ Q) X.xe s := by
  have r2 : Vals (vs ++ dvs) (us ++ ds) := r.append hd
  have hl : (us ++ ds).length = ps.length := by rw [← r2.length]; exact F.len _ _ _ _ h
  refine wpAny_call (codeAny_mono (F.run X.A X.stack s H ⟨us, []⟩ (us ++ ds) (vs ++ dvs) Q E hr I.env0 (hb s us I.kIn hl) r2 h) fun r s' hq => ?_)
  cases r with
  | error e => exact hx pins σ H s e s' I hq
  | ok fl =>
    cases fl with
    | ret u => exact I.after hq
    | next => exact False.elim hq
    | brk => exact False.elim hq
    | cont => exact False.elim hq

theorem pe_call (F : FnOk X.prog X.w X.K X.mg X.base CX k f fd ps sp) (hr : Room k X.A) (hg : Gl X x) (hm : X.mg x = some (.ref f)) (hk : PySem.W.keepIn X.K (.ref f) = true) (hb : Binds X.K fd ps ds) (hd : Vals dvs ds) (hx : Passes CX X E)
    (ha : PA X (e :: es) t) (hdb : (x == ("__debug__" : Str)) = false := by decide) (he : starEach (e :: es) X.env = (false, eval e X.env) :: starEach es X.env := by rfl) (hpl : (backTo pos (starEach es X.env)).any (·.1) = false := by rfl) :
    PE X (.Call (.Name x p) (e :: es) [] pos) (tCall sp dvs E t) := by
  intro pins s σ H Q I h
  refine wpAny_Call_Name_kw (ld_glob I hg hm ?_ hdb)
  refine PySem.W.callWith_K (h₀ := X.base) I.ok.mod.kin hk (thn (ha pos pins s σ H _ I h) fun us s1 ⟨vs, H1, I1, r, q⟩ => ⟨I1.kIn, ?_⟩) he hpl
  exact run_fn F hr hb hd hx I1 r q
theorem pe_call0 (F : FnOk X.prog X.w X.K X.mg X.base CX k f fd ps sp) (hr : Room k X.A) (hg : Gl X x) (hm : X.mg x = some (.ref f)) (hk : PySem.W.keepIn X.K (.ref f) = true) (hb : Binds X.K fd ps ds) (hd : Vals dvs ds) (hx : Passes CX X E)
    (hdb : (x == ("__debug__" : Str)) = false := by decide) : PE X (.Call (.Name x p) [] [] pos) (tCall sp dvs E tNil) := by
  intro pins s σ H Q I h
  refine wpAny_Call_Name_kw (ld_glob I hg hm ?_ hdb)
  exact PySem.W.callWith_K0 I.kIn hk (run_fn (us := []) F hr hb hd hx I .nil h)

/-- o.m(e, ..) -/
theorem pe_meth {pl : Sem Bool} (he : PE X o ta) (c : Cls X.K C) (hm : Meth X.K C m f) (F : FnOk X.prog X.w X.K X.mg X.base CX k f fd ps sp) (hr : Room k X.A) (hb : Binds X.K fd ps ds) (hd : Vals dvs ds) (hx : Passes CX X E) (ha : PA X (e :: es) t)
    (hst : starEach (e :: es) X.env = (false, eval e X.env) :: starEach es X.env := by rfl) (hpl : (backTo pos (starEach es X.env)).any (·.1) = false := by rfl)
    (ht : eval (.Call (.Attribute o m apos) (e :: es) [] pos) X.env = (do
      let ov ← eval o X.env
      standAt apos.atName
      let (f, first) ← holding [ov] (getMethod ov m pl)
      callWith pos f first (backTo pos (starEach (e :: es) X.env)) (backToKw pos (keywordEach [] X.env))) := by rfl) :
    PE X (.Call (.Attribute o m apos) (e :: es) [] pos) (tMeth C m sp dvs E ta t) := by
  intro pins s σ H Q I h
  refine PySem.W.methodCall_KW (pl := pl) (thn (he pins s σ H _ I h) fun u s1 ⟨x, H1, I1, rx, a, dx, fs, ex, ea, l, q⟩ => ?_) ht
  subst ex
  obtain rfl : u = Value.ref a := rx
  refine getmeth_ok I1 ea c hm l ?_
  refine PySem.W.callWith_K (first := [.ref a]) (h₀ := X.base) I.ok.mod.kin hm.kp (thn (ha pos pins s1 σ H1 _ I1 q) fun us s2 ⟨vs, H2, I2, r, q2⟩ => ⟨I2.kIn, ?_⟩) hst hpl
  exact run_fn (us := .ref a :: us) (vs := .ref a :: vs) F hr hb hd hx I2 (.cons rfl r) q2
/-- o.m() -/
theorem pe_meth0 {pl : Sem Bool} (he : PE X o ta) (c : Cls X.K C) (hm : Meth X.K C m f) (F : FnOk X.prog X.w X.K X.mg X.base CX k f fd ps sp) (hr : Room k X.A) (hb : Binds X.K fd ps ds) (hd : Vals dvs ds) (hx : Passes CX X E)
    (ht : eval (.Call (.Attribute o m apos) [] [] pos) X.env = (do
      let ov ← eval o X.env
      standAt apos.atName
      let (f, first) ← holding [ov] (getMethod ov m pl)
      callWith pos f first (backTo pos (starEach [] X.env)) (backToKw pos (keywordEach [] X.env))) := by rfl) :
    PE X (.Call (.Attribute o m apos) [] [] pos) (tMeth C m sp dvs E ta tNil) := by
  intro pins s σ H Q I h
  refine PySem.W.methodCall_KW (pl := pl) (thn (he pins s σ H _ I h) fun u s1 ⟨x, H1, I1, rx, a, dx, fs, ex, ea, l, q⟩ => ?_) ht
  subst ex
  obtain rfl : u = Value.ref a := rx
  refine getmeth_ok I1 ea c hm l ?_
  exact PySem.W.callWith_K0 (first := [.ref a]) I1.kIn hm.kp (run_fn (us := [.ref a]) (vs := [.ref a]) F hr hb hd hx I1 (.cons rfl .nil) q)

/-- what a class must have to be made -/
structure Mk (K : PySem.W.Frag) (C f : Addr) : Prop where
  makes : PySem.W.makesIn K C = true
  init : PySem.W.findIn K (.ref C) "__init__" = some (some (.ref f))
  fn : PySem.W.isFn K (.ref f) = true
  kp : PySem.W.keepIn K (.ref C) = true

theorem run_make {pins : List (Addr × Obj)} {σ : St} {H : Hp} {s : Shared} {Q : VK} {us : List Value} {vs : List V} (M : Mk X.K C f) (F : FnOk X.prog X.w X.K X.mg X.base CX k f fd ps sp) (hr : Room (k + 1) X.A) (hb : Binds X.K fd ps ds) (hd : Vals dvs ds)
    (hx : Passes CX X E) (I : Inv X pins σ H s) (r : Vals vs us)
    (h : ∀ x dx, H x = none → H dx = none → dx ≠ x → sp (.ref x :: (vs ++ dvs)) (upd (upd H dx (.own x)) x (.ins C dx [])) (fun v H2 => v = .non ∧ Q (.ref x) H2) E) :
    wpAny (model X.prog X.w) X.A (call (.ref C) us) (EP X pins σ Q) X.xe s := by
  have hq := h (s.heap.objs.size + 1) s.heap.objs.size (I.hok.fresh (Nat.le_succ _)) (I.hok.fresh (Nat.le_refl _)) (Nat.ne_of_lt (Nat.lt_succ_self _))
  have I2 := Inv.made (C := C) I
  have r2 : Vals (V.ref (s.heap.objs.size + 1) :: (vs ++ dvs)) (Value.ref (s.heap.objs.size + 1) :: (us ++ ds)) := .cons rfl (r.append hd)
  have hl : (Value.ref (s.heap.objs.size + 1) :: us ++ ds).length = ps.length := by
    have e := r2.length
    rw [F.len _ _ _ _ hq] at e
    exact e.symm
  refine wpAny_call (make_map (f := f) I.kIn M.makes M.init (beq_iff_eq.mp M.fn) (codeAny_mono (F.run _ X.stack _ _ ⟨Value.ref (s.heap.objs.size + 1) :: us, []⟩ (Value.ref (s.heap.objs.size + 1) :: (us ++ ds)) _ _ E (hr.make C us [])
    (I2.env0.make C us []) (hb _ (Value.ref (s.heap.objs.size + 1) :: us) I2.kIn hl) r2 hq) fun r s' hq' => ?_))
  cases r with
  | error e => exact hx pins σ _ _ e s' I2 hq'
  | ok fl =>
    cases fl with
    | ret u =>
      obtain ⟨v, H', I3, rv, ev, q3⟩ := I2.after hq'
      subst ev
      exact ⟨rv, ⟨V.ref (s.heap.objs.size + 1), H', I3, rfl, q3⟩⟩
    | next => exact False.elim hq'
    | brk => exact False.elim hq'
    | cont => exact False.elim hq'
theorem pe_make (M : Mk X.K C f) (F : FnOk X.prog X.w X.K X.mg X.base CX k f fd ps sp) (hr : Room (k + 1) X.A) (hg : Gl X x) (hm : X.mg x = some (.ref C)) (hb : Binds X.K fd ps ds) (hd : Vals dvs ds) (hx : Passes CX X E)
    (ha : PA X (e :: es) t) (hdb : (x == ("__debug__" : Str)) = false := by decide) (he : starEach (e :: es) X.env = (false, eval e X.env) :: starEach es X.env := by rfl) (hpl : (backTo pos (starEach es X.env)).any (·.1) = false := by rfl) :
    PE X (.Call (.Name x p) (e :: es) [] pos) (tMake C sp dvs E t) := by
  intro pins s σ H Q I h
  refine wpAny_Call_Name_kw (ld_glob I hg hm ?_ hdb)
  refine PySem.W.callWith_K (h₀ := X.base) I.ok.mod.kin M.kp (thn (ha pos pins s σ H _ I h) fun us s1 ⟨vs, H1, I1, r, q⟩ => ⟨I1.kIn, ?_⟩) he hpl
  exact run_make M F hr hb hd hx I1 r q
theorem pe_make0 (M : Mk X.K C f) (F : FnOk X.prog X.w X.K X.mg X.base CX k f fd ps sp) (hr : Room (k + 1) X.A) (hg : Gl X x) (hm : X.mg x = some (.ref C)) (hb : Binds X.K fd ps ds) (hd : Vals dvs ds) (hx : Passes CX X E)
    (hdb : (x == ("__debug__" : Str)) = false := by decide) : PE X (.Call (.Name x p) [] [] pos) (tMake C sp dvs E tNil) := by
  intro pins s σ H Q I h
  refine wpAny_Call_Name_kw (ld_glob I hg hm ?_ hdb)
  exact PySem.W.callWith_K0 I.kIn M.kp (run_make (us := []) M F hr hb hd hx I .nil h)
end

/-! ### keywords -/
/-- the values of the keywords, from the left -/
def PK (X : Cx) (kws : List Keyword) (t : TA) : Prop :=
  ∀ (pos : Pos) (pins : List (Addr × Obj)) (s : Shared) (σ : St) (H : Hp) (Q : List V → Hp → Prop), Inv X pins σ H s → t σ H Q → wpAny (model X.prog X.w) X.A (evalAll ((backToKw pos (keywordEach kws X.env)).map (·.2))) (AP X pins σ Q) X.xe s
section
variable {X : Cx} {CX : CXT} {k : Nat} {f C : Addr} {fd : FuncData} {ps ks : List Str} {sp : Sp} {E : XK} {x m : Str} {p pos apos kpos : Pos} {e o : Expr} {es : List Expr} {kws : List Keyword} {te ta : TE} {t tk : TA} {nm : Option Str}
theorem pk_nil : PK X [] tNil := fun _ _ _ _ H Q I h => wpAny_evalAll_nil ⟨[], H, I, .nil, h⟩
theorem pk_cons (ha : PE X e te) (hr : PK X kws t) : PK X (⟨nm, e, kpos⟩ :: kws) (tCons te t) := by
  intro pos pins s σ H Q I h
  show wpAny _ _ (evalAll ((do let v ← eval e X.env; standAt pos; pure v) :: (backToKw pos (keywordEach kws X.env)).map (·.2))) _ _ s
  refine wpAny_evalAll_cons (wpAny_bind (thn (ha pins s σ H _ I h) fun u s1 ⟨x, H1, I1, r1, q1⟩ => wpAny_bind (wpAny_standAt (wpAny_pure ?_))))
  exact thn (hr pos pins s1 σ H1 _ I1 q1) fun us s2 ⟨xs, H2, I2, r2, q2⟩ => ⟨x :: xs, H2, I2, .cons r1 r2, q2⟩

/-- how a call with keywords binds: g puts the positional values us and the keywords' values ws (names ks) in the parameters' order, defaults among them -/
structure KBinds (K : PySem.W.Frag) (fd : FuncData) (ps ks : List Str) (g : List Value → List Value → List Value) (gV : List V → List V → List V) : Prop where
  to : ∀ (s : Shared) (us ws : List Value), K.In s.heap → (g us ws).length = ps.length → BindsTo s fd ⟨us, ks.zip ws⟩ (ps.zip (g us ws))
  rel : ∀ {vs : List V} {us : List Value} {zs : List V} {ws : List Value}, Vals vs us → Vals zs ws → Vals (gV vs zs) (g us ws)
def tCallK (sp : Sp) (gV : List V → List V → List V) (E : XK) (t tk : TA) : TE := fun σ H Q => t σ H fun vs H1 => tk σ H1 fun zs H2 => sp (gV vs zs) H2 Q E
variable {g : List Value → List Value → List Value} {gV : List V → List V → List V}
theorem run_fnk {pins : List (Addr × Obj)} {σ : St} {H : Hp} {s : Shared} {Q : VK} {us ws : List Value} {vs zs : List V} (F : FnOk X.prog X.w X.K X.mg X.base CX k f fd ps sp) (hr : Room k X.A) (hb : KBinds X.K fd ps ks g gV) (hx : Passes CX X E)
    (I : Inv X pins σ H s) (r : Vals vs us) (rz : Vals zs ws) (h : sp (gV vs zs) H Q E) : wpAny (model X.prog X.w) X.A (call (.ref f) us (ks.zip ws)) (EP X pins σ Q) X.xe s := by
  have r2 := hb.rel r rz
  have hl : (g us ws).length = ps.length := by rw [← r2.length]; exact F.len _ _ _ _ h
  refine wpAny_call (codeAny_mono (F.run X.A X.stack s H ⟨us, ks.zip ws⟩ (g us ws) (gV vs zs) Q E hr I.env0 (hb.to s us ws I.kIn hl) r2 h) fun r s' hq => ?_)
  cases r with
  | error e => exact hx pins σ H s e s' I hq
  | ok fl =>
    cases fl with
    | ret u => exact I.after hq
    | next => exact False.elim hq
    | brk => exact False.elim hq
    | cont => exact False.elim hq
/-- f(e, .., k = v, ..) -/
theorem pe_callK (F : FnOk X.prog X.w X.K X.mg X.base CX k f fd ps sp) (hr : Room k X.A) (hg : Gl X x) (hm : X.mg x = some (.ref f)) (hk : PySem.W.keepIn X.K (.ref f) = true) (hb : KBinds X.K fd ps ks g gV) (hx : Passes CX X E)
    (ha : PA X (e :: es) t) (hkw : PK X kws tk) (hall : (backToKw pos (keywordEach kws X.env)).all (·.1.isSome) = true := by rfl) (hks : (backToKw pos (keywordEach kws X.env)).filterMap (·.1) = ks := by rfl)
    (hdb : (x == ("__debug__" : Str)) = false := by decide) (he : starEach (e :: es) X.env = (false, eval e X.env) :: starEach es X.env := by rfl)
    (hpl : ((backTo pos (starEach (e :: es) X.env)).any (·.1) || (backToKw pos (keywordEach kws X.env)).any (·.1.isNone)) = false := by rfl) :
    PE X (.Call (.Name x p) (e :: es) kws pos) (tCallK sp gV E t tk) := by
  intro pins s σ H Q I h
  refine wpAny_Call_Name_kw (ld_glob I hg hm ?_ hdb)
  refine PySem.W.callWith_KW (h₀ := X.base) I.ok.mod.kin hk hall (thn (ha pos pins s σ H _ I h) fun us s1 ⟨vs, H1, I1, r, q⟩ => ?_) hpl he
  refine thn (hkw pos pins s1 σ H1 _ I1 q) fun ws s2 ⟨zs, H2, I2, rz, q2⟩ => ⟨I2.kIn, ?_⟩
  rw [hks]
  exact run_fnk F hr hb hx I2 r rz q2
end

/-! ### a def's body keeps its promise -/
/-- names: the parameters first -/
structure FnScope (N P : List Str) (sc : Scope) : Prop where
  kind : sc.kind = .function
  co : sc.isCoroutine = false
  gen : sc.isGenerator = false
  nd : N.Nodup
  pre : N.take P.length = P
  par : ∀ x ∈ P, sc.names.lookup x = some .local ∨ sc.names.lookup x = some .cell
  nofree : ∀ y ∈ sc.names, y.2 ≠ .free

theorem bindL_out {kindOf : Str → Option NameKind} {x : Str} : ∀ {binds : List (Str × Value)} {m : Str → Option Value}, (∀ v, (x, v) ∉ binds) → bindL kindOf binds m x = m x
  | [], _, _ => rfl
  | (n, v) :: r, m, h => by
    unfold bindL
    rw [bindL_out fun w hw => h w (List.mem_cons_of_mem _ hw)]
    split
    · have : x ≠ n := by rintro rfl; exact h v List.mem_cons_self
      simp [this]
    · rfl
theorem bindC_out {kindOf : Str → Option NameKind} {x : Str} : ∀ {binds : List (Str × Value)} {m : Str → Option Value}, (∀ v, (x, v) ∉ binds) → bindC kindOf binds m x = m x
  | [], _, _ => rfl
  | (n, v) :: r, m, h => by
    unfold bindC
    rw [bindC_out fun w hw => h w (List.mem_cons_of_mem _ hw)]
    split
    · rfl
    · have : x ≠ n := by rintro rfl; exact h v List.mem_cons_self
      simp [this]
theorem bindL_get {kindOf : Str → Option NameKind} {x : Str} {v : Value} : ∀ {P : List Str} {vs : List Value} {i : Nat} {m : Str → Option Value}, P.Nodup → P[i]? = some x → vs[i]? = some v → kindOf x = some .local →
    bindL kindOf (P.zip vs) m x = some v
  | [], _, _, _, _, h, _, _ => by simp at h
  | _ :: _, [], _, _, _, _, h, _ => by simp at h
  | p :: P, w :: vs, 0, m, nd, h1, h2, hk => by
    simp at h1 h2; subst h1; subst h2
    show bindL kindOf ((p, w) :: P.zip vs) m p = _
    unfold bindL
    rw [bindL_out fun v hv => (List.nodup_cons.mp nd).1 (List.of_mem_zip hv).1, if_pos hk]
    simp
  | p :: P, w :: vs, i + 1, m, nd, h1, h2, hk => by
    show bindL kindOf ((p, w) :: P.zip vs) m x = _
    unfold bindL
    exact bindL_get (i := i) (List.nodup_cons.mp nd).2 (by simpa using h1) (by simpa using h2) hk
theorem bindC_get {kindOf : Str → Option NameKind} {x : Str} {v : Value} : ∀ {P : List Str} {vs : List Value} {i : Nat} {m : Str → Option Value}, P.Nodup → P[i]? = some x → vs[i]? = some v → kindOf x ≠ some .local →
    bindC kindOf (P.zip vs) m x = some v
  | [], _, _, _, _, h, _, _ => by simp at h
  | _ :: _, [], _, _, _, _, h, _ => by simp at h
  | p :: P, w :: vs, 0, m, nd, h1, h2, hk => by
    simp at h1 h2; subst h1; subst h2
    show bindC kindOf ((p, w) :: P.zip vs) m p = _
    unfold bindC
    rw [bindC_out fun v hv => (List.nodup_cons.mp nd).1 (List.of_mem_zip hv).1, if_neg hk]
    simp
  | p :: P, w :: vs, i + 1, m, nd, h1, h2, hk => by
    show bindC kindOf ((p, w) :: P.zip vs) m x = _
    unfold bindC
    exact bindC_get (i := i) (List.nodup_cons.mp nd).2 (by simpa using h1) (by simpa using h2) hk

/-- the names' values at the entry -/
def start (N : List Str) (vs : List V) : St := vs.map some ++ List.replicate (N.length - vs.length) none

/-- the context of a def's body, at its entry; an exception leaves the frame, then lies as CX says -/
def cxOf (CX : CXT) (P : Program) (w : World) (K : PySem.W.Frag) (mg : Str → Option Value) (base : Heap) (N : List Str) (qual : Str) (scope : Scope) (f : Addr) (cd : Value) (A : Around) (outer : List Env) (s : Shared) (H : Hp) (E : XK) : Cx where
  prog := P
  w := w
  K := K
  mg := mg
  base := base
  A := A.deeper (envOfC qual scope s.heap.objs.size f cd)
  N := N
  s₀ := s
  H₀ := H
  env := envOfC qual scope s.heap.objs.size f cd
  outer := outer
  stack := envOfC qual scope s.heap.objs.size f cd :: outer
  ex := []
  calm := true
  fn := fun _ => true
  pn := []
  xe := fun e s' => wpAny (model P w) (A.deeper (envOfC qual scope s.heap.objs.size f cd)) (leaving (envOfC qual scope s.heap.objs.size f cd) e) (fun _ s'' => CX outer H s E e s'') (fun e' s'' => CX outer H s E e' s'') s'

theorem cell_has {sc : Scope} {n : Nat} {x : Str} (h : sc.names.lookup x = some .cell) : ∃ c, (cellsFrom n sc.names []).lookup x = some c := by
  have q := PySem.W.cellsFrom_some sc.names n [] (.inl h)
  exact Option.isSome_iff_exists.mp q

theorem inv_start {CX : CXT} {P : Program} {w : World} {K : PySem.W.Frag} {mg : Str → Option Value} {base : Heap} {N ps : List Str} {qual : Str} {scope : Scope} {f : Addr} {cd : Value} {A : Around} {outer : List Env} {s s1 : Shared} {H : Hp} {E : XK} {us : List Value} {vs : List V}
    (S : FnScope N ps scope) (hd : A.handled = none) (e0 : Env0 P w K mg base A outer s H) (hl : vs.length = ps.length) (r : Vals vs us)
    (x : InCallC s s.heap.objs.size (bindL (envOfC qual scope s.heap.objs.size f cd).kindOf (ps.zip us) fun _ => none) (cellsFrom (s.heap.objs.size + 1) scope.names []) (bindC (envOfC qual scope s.heap.objs.size f cd).kindOf (ps.zip us) fun _ => none) s1) :
    Inv (cxOf CX P w K mg base N qual scope f cd A outer s H E) [] (start N vs) H s1 := by
  have hpl : ps.length ≤ N.length := by have := congrArg List.length S.pre; rw [List.length_take] at this; omega
  obtain ⟨h1, tk, rfl, hk⟩ := x.done
  have noA : ∀ b : Addr, b ∉ (cxOf CX P w K mg base N qual scope f cd A outer s H E).ex := fun b z => absurd (show b ∈ ([] : List Addr) from z) (by simp)
  refine ⟨⟨e0.mod, S.kind, rfl, rfl, Nat.le_refl _, fun y z c h1 h2 => ?_, fun y hy => ?_, fun y c _ h => ?_, fun _ => hd, Around.frames_deeper e0.frames, .inr ⟨rfl, rfl⟩, fun b z => absurd z (noA b), e0.bs, e0.bsz, fun b _ _ => noA b, fun b z => absurd z (noA b), e0.funs, e0.frf⟩,
    rfl, e0.bare, Un.kept hk, ⟨_, x.toInCall.ns, fun i y v h1 h2 h3 => ?_⟩, fun y c h => ⟨_, x.cell y c h⟩, e0.hok.fresh (Nat.le_refl _), fun y c h => ?_, fun p hp => absurd (show p ∈ ([] : List (Addr × Obj)) from hp) (by simp), e0.hok.kept hk, ?_⟩
  · exact name_of_addr x.apart (PySem.mem_of_lookup h1) (PySem.mem_of_lookup h2)
  · have hy : scope.names.lookup y = some .cell ∨ scope.names.lookup y = some .free := hy
    rcases hy with hy | hy
    · exact cell_has hy
    · exact absurd rfl (S.nofree _ (PySem.mem_of_lookup hy))
  · exact Nat.le_of_lt (x.above y c (PySem.mem_of_lookup h))
  · have hi : i < vs.length := by
      unfold start at h2
      by_cases hi : i < vs.length
      · exact hi
      · rw [List.getElem?_append_right (by simpa using hi)] at h2
        rw [List.getElem?_replicate] at h2
        split at h2 <;> cases h2
    have ha : vs[i]? = some v := by
      unfold start at h2
      rw [List.getElem?_append_left (by simpa using hi), List.getElem?_map] at h2
      cases e : vs[i]? with
      | none => rw [e] at h2; cases h2
      | some a => rw [e] at h2; cases h2; rfl
    obtain ⟨u, hu, rv⟩ := r.get ha
    have hp : ps[i]? = some y := by
      rw [← S.pre, List.getElem?_take_of_lt (by omega)]; exact h1
    have ndP : ps.Nodup := by rw [← S.pre]; exact S.nd.sublist (List.take_sublist _ _)
    refine ⟨u, rv, ?_⟩
    rcases S.par y (List.mem_of_getElem? hp) with k | k
    · exact .inl ⟨k, bindL_get ndP hp hu k⟩
    · obtain ⟨c, e⟩ := cell_has (n := s.heap.objs.size + 1) k
      refine .inr ⟨.inl k, c, e, ?_⟩
      have q := x.cell y c e
      rw [bindC_get ndP hp hu (by show scope.names.lookup y ≠ _; rw [k]; decide)] at q
      exact q
  · exact e0.hok.fresh (Nat.le_of_lt (x.above y c (PySem.mem_of_lookup h)))
  · unfold start
    show _ = N.length
    rw [List.length_append, List.length_map, List.length_replicate]
    omega

/-- THE RULE: a def (or a method) of the text, by its body. The body's reading t is chosen for each entry; it is run at the parameters' values -/
theorem fn_of {CX : CXT} {P : Program} {w : World} {K : PySem.W.Frag} {mg : Str → Option Value} {base : Heap} {k : Nat} {f : Addr} {name qual : Str} {params : Arguments} {body : List Stmt} {scope : Scope} {dV kV doc pm cdv ct oc : Value} {an od : Option Addr}
    {osl : Array (Option Value)} {N ps : List Str} {sp : Sp} (lk : K.lookup f = some ⟨oc, od, .func (PySem.W.fnOf name qual params body scope dV kV doc pm an cdv ct), osl⟩) (hcd : PySem.W.codeIn K cdv qual = true) (S : FnScope N ps scope)
    (len : ∀ vs H Q E, sp vs H Q E → vs.length = ps.length)
    (hbody : ∀ (A : Around) (outer : List Env) (s : Shared) (H : Hp) (vs : List V) (Q : VK) (E : XK), Room k (A.deeper (envOfC qual scope s.heap.objs.size f cdv)) → sp vs H Q E →
      ∃ t, PSs (cxOf CX P w K mg base N qual scope f cdv A outer s H E) body t ∧ t { nx := fun _ H' => Q .non H', rt := Q } (start N vs) H) :
    FnOk P w K mg base CX (k + 1) f (PySem.W.fnOf name qual params body scope dV kV doc pm an cdv ct) ps sp := by
  refine ⟨len, fun A outer s H args us vs Q E hr e0 hb r hsp => ?_⟩
  have hl := len _ _ _ _ hsp
  have KX : K.In s.heap := e0.mod.kin.keeps fun b o e => (e0.bs b o e).1
  have lim : s.heap.NoLimit := e0.mod.nolimit.keeps fun b o e => (e0.bs b o e).1
  have hkind : ∀ y ∈ ps.zip us, scope.names.lookup y.1 = some .local ∨ (scope.names.lookup y.1 = some .cell ∧ ((cellsFrom (s.heap.objs.size + 1) scope.names []).lookup y.1).isSome = true) := fun ⟨n, v⟩ hy => by
    rcases S.par n (List.of_mem_zip hy).1 with q | q
    · exact .inl q
    · exact .inr ⟨q, PySem.W.cellsFrom_some _ _ _ (.inl q)⟩
  refine codeAny_call_function hr.depth (KX _ _ lk) rfl S.co S.gen rfl (PySem.W.codeRec_of KX hcd) (hb _ _ _ _ ?_)
  refine wpAny_newFunctionEnv_cells S.kind hkind fun env he s1 x => ?_
  subst he
  refine ⟨lim.keeps x.toInCall.keep, codeAny_func ?_⟩
  obtain ⟨t, ht, hq⟩ := hbody A outer s H vs Q E (hr.deeper _) hsp
  have I : Inv (cxOf CX P w K mg base N qual scope f cdv A outer s H E) [] (start N vs) H s1 := inv_start S hr.hd e0 hl r x
  refine wpAny_mono (ht [] s1 (start N vs) H _ I hq) (fun fl s' hs => ?_) fun e s' hs => hs
  have fin : ∀ {σ' : St} {H' : Hp} {v : V} {u : Value}, Inv (cxOf CX P w K mg base N qual scope f cdv A outer s H E) [] σ' H' s' → RelV v u → Q v H' → CE outer P w H s Q u s' :=
    fun {σ' H' v u} J rv q => ⟨v, H', J.os, J.bare, J.base, J.hok, rv, q⟩
  cases fl with
  | ret u =>
    obtain ⟨v, σ', H', J, rv, q⟩ := hs
    exact fin J rv q
  | next =>
    obtain ⟨σ', H', J, q⟩ := hs
    exact fin (v := V.non) (u := Value.none) J rfl q
  | brk =>
    obtain ⟨_, _, _, q⟩ := hs
    exact False.elim q
  | cont =>
    obtain ⟨_, _, _, q⟩ := hs
    exact False.elim q
end L2

namespace L2
open PySem PySem.Spec PyProof.Rows
section
variable {X : Cx} {x : Str} {p pos : Pos} {e : Expr} {es : List Expr} {t : TA} {id T : String} {r : List V → Hp → VK → Prop}

def tCB (r : List V → Hp → VK → Prop) (t : TA) : TE := fun σ H Q => t σ H fun vs H1 => r vs H1 Q
/-- f(e, ..), f a built-in function -/
theorem pe_callB (hc : CallR X (.builtin id) r) (hg : Gl X x) (hm : X.mg x = none) (hv : bootBuiltins x = some (.builtin id)) (ha : PA X (e :: es) t) (hn : x ≠ "__name__" := by decide) (hdb : (x == ("__debug__" : Str)) = false := by decide)
    (he : starEach (e :: es) X.env = (false, eval e X.env) :: starEach es X.env := by rfl) (hpl : (backTo pos (starEach es X.env)).any (·.1) = false := by rfl) : PE X (.Call (.Name x p) (e :: es) [] pos) (tCB r t) := by
  intro pins s σ H Q I h
  refine wpAny_Call_Name_kw (ld_blt I hg hm hv ?_ hn hdb)
  exact PyProof.Rows.callWith_builtin1 (thn (ha pos pins s σ H _ I h) fun us s1 ⟨vs, H1, I1, r1, q1⟩ => hc pins s1 σ H1 vs us Q I1 r1 q1) he hpl
/-- T(e, ..), T a built-in type -/
theorem pe_callTy (hc : CallR X (.type T) r) (hg : Gl X x) (hm : X.mg x = none) (hv : bootBuiltins x = some (.type T)) (ha : PA X (e :: es) t) (hn : x ≠ "__name__" := by decide) (hdb : (x == ("__debug__" : Str)) = false := by decide)
    (he : starEach (e :: es) X.env = (false, eval e X.env) :: starEach es X.env := by rfl) (hpl : (backTo pos (starEach es X.env)).any (·.1) = false := by rfl) : PE X (.Call (.Name x p) (e :: es) [] pos) (tCB r t) := by
  intro pins s σ H Q I h
  refine wpAny_Call_Name_kw (ld_blt I hg hm hv ?_ hn hdb)
  exact PyProof.Rows.callWith_type1 (thn (ha pos pins s σ H _ I h) fun us s1 ⟨vs, H1, I1, r1, q1⟩ => hc pins s1 σ H1 vs us Q I1 r1 q1) he hpl
/-- T() -/
theorem pe_callTy0 (hc : CallR X (.type T) r) (hg : Gl X x) (hm : X.mg x = none) (hv : bootBuiltins x = some (.type T)) (hn : x ≠ "__name__" := by decide) (hdb : (x == ("__debug__" : Str)) = false := by decide) :
    PE X (.Call (.Name x p) [] [] pos) (tCB r tNil) := by
  intro pins s σ H Q I h
  refine wpAny_Call_Name_kw (ld_blt I hg hm hv ?_ hn hdb)
  exact PyProof.Rows.callWith_type0 (hc pins s σ H [] [] Q I .nil h)
end
end L2

namespace HT
open PySem PyProof.Rows

/-- t < u of tuples of ints -/
def lexLt : List Int → List Int → Bool
  | [], [] => false
  | [], _ :: _ => true
  | _ :: _, [] => false
  | x :: xs, y :: ys => if x = y then lexLt xs ys else decide (x < y)
theorem lexLt_cons (x y : Int) (xs ys : List Int) : lexLt (x :: xs) (y :: ys) = if x = y then lexLt xs ys else decide (x < y) := rfl
theorem lexLt_nil_nil : lexLt [] [] = false := rfl
theorem lexLt_nil_cons (y : Int) (ys : List Int) : lexLt [] (y :: ys) = true := rfl
theorem lexLt_cons_nil (x : Int) (xs : List Int) : lexLt (x :: xs) [] = false := rfl

theorem eqAt_int (A : Around) (s : Shared) (a : Int) (t : Tok) (c : Int) (u : Tok) : ∃ e, SeqAt.EqAt A s (.int a t) (.int c u) e ∧ (e = true ↔ a = c) :=
  ⟨(a == c), SeqAt.EqAt.int_int a t c u, by simp⟩
theorem rcLt_int (A : Around) (s : Shared) (a : Int) (t : Tok) (c : Int) (u : Tok) (prog : Program) (w : World) (E : Value → Shared → Prop) (Q : Value → Shared → Prop) (h : Q (.bool (decide (a < c))) s) :
    wpAny (model prog w) A (richCompare .Lt (.int a t) (.int c u)) Q E s :=
  (PyProof.Rows.lt_int h : wpAny (model prog w) A (compareOp .Lt (.int a t) (.int c u)) Q E s)

section
open PySem.SeqAt
open PySem.AutoSeq1 (wpAny_loadPart')
open PySem.MeetsSeq PySem.MeetsSeq2 PySem.MeetsSeq3

theorem tuple_lt_ints (l b : Addr) (items items2 : Array Value) (n n2 : Nat) (dd dd2 : Option Addr) (sl sl2 : Array (Option Value)) (ns ms : List Int) (hi : IntsAre items.toList ns) (hj : IntsAre items2.toList ms) :
    Meets (Builtin.«tuple.__lt__» ⟨[.ref l, .ref b], []⟩)
      (fun _ R s => s.heap.get? l = some { cls := .type "tuple", dict := dd, data := .seq items n, slots := sl } ∧ s.heap.get? b = some { cls := .type "tuple", dict := dd2, data := .seq items2 n2, slots := sl2 } ∧
        R (.ok (.ret (.bool (lexLt ns ms)))) s) :=
  .of_wp fun prog w A R s h => by
    obtain ⟨hp, g, d, tk, os⟩ := s; obtain ⟨hl, hb, h⟩ := h
    have f2 := AutoSeq1.sub_tuple_tuple
    have z1 : items.size = ns.length := by rw [← hi.length]; simp
    have z2 : items2.size = ms.length := by rw [← hj.length]; simp
    wp_walk using wpAny_loadPart' hl, wpAny_loadPart' hb, wpAny_forIn_list _ (fun rest b s' => b.1 = none ∧ s' = ⟨hp, g, d, tk, os⟩ ∧ ∃ (vs ws : List Value) (ns' ms' : List Int), rest = vs.zip ws ∧
      IntsAre vs ns' ∧ IntsAre ws ms' ∧ ns'.length + items2.size = ms'.length + items.size ∧ R (.ok (.ret (.bool (lexLt ns' ms')))) ⟨hp, g, d, tk, os⟩) _
    case turn =>
      rintro ⟨y, x⟩ rest b s' ⟨hb', rfl, vs, ws, ns', ms', hz, hvi, hwi, hlen, hR⟩
      cases hvi with
      | nil => rw [List.zip_nil_left] at hz; cases hz
      | cons a t hvi' =>
        cases hwi with
        | nil => rw [List.zip_nil_right] at hz; cases hz
        | cons c u hwi' =>
          rw [List.zip_cons_cons] at hz
          injection hz with hyx hrest
          injection hyx with hy hx
          subst hy hx
          rw [lexLt_cons] at hR
          simp only [List.length_cons] at hlen
          obtain ⟨e, he, hiff⟩ := eqAt_int A.in1 ⟨hp, g, d, tk, os⟩ a t c u
          refine wpAny_bind (he prog w _ _ ?_)
          cases e with
          | true =>
            rw [if_pos (hiff.mp rfl)] at hR
            wp_walk
            exact ⟨rfl, rfl, _, _, _, _, hrest, hvi', hwi', by omega, hR⟩
          | false =>
            rw [if_neg (fun q => absurd (hiff.mpr q) Bool.false_ne_true)] at hR
            have hri := rcLt_int A.in1 ⟨hp, g, d, tk, os⟩ a t c u prog w
            wp_walk using hri
            exact ⟨_, rfl, by simpa using hR⟩
    case fin =>
      rintro ⟨b1, b2⟩ s' ⟨hb', rfl, vs, ws, ns', ms', hz, hvi, hwi, hlen, hR⟩
      simp only at hb'
      subst hb'
      have hv : lexLt ns' ms' = decide (items.size < items2.size) := by
        cases hvi with
        | nil =>
          cases hwi with
          | nil =>
            simp only [List.length_nil] at hlen
            rw [lexLt_nil_nil]
            exact (decide_eq_false (by omega)).symm
          | cons c u hw =>
            simp only [List.length_nil, List.length_cons] at hlen
            rw [lexLt_nil_cons]
            exact (decide_eq_true (by omega)).symm
        | cons a t hv =>
          cases hwi with
          | nil =>
            simp only [List.length_nil, List.length_cons] at hlen
            rw [lexLt_cons_nil]
            exact (decide_eq_false (by omega)).symm
          | cons c u hw =>
            rw [List.zip_cons_cons] at hz
            cases hz
      rw [hv] at hR
      wp_walk
      exact ⟨_, rfl, by simpa [Builtin.Tuple.tupleCompareSizes] using hR⟩
    case h =>
      exact ⟨rfl, rfl, items.toList, items2.toList, ns, ms, rfl, hi, hj, by omega, h⟩
end

section
variable {prog : Program} {w : World} {A : Around} {E : Value → Shared → Prop} {s : Shared}

theorem lt_tupInts {l b : Addr} {items items2 : Array Value} {ns ms : List Int} {Q : Value → Shared → Prop} (hl : IsTup s.heap l items) (hb : IsTup s.heap b items2) (hi : IntsAre items.toList ns) (hj : IntsAre items2.toList ms)
    (hu : A.units < cLine) (h : Q (.bool (lexLt ns ms)) s) : wpAny (model prog w) A (compareOp .Lt (.ref l) (.ref b)) Q E s := by
  obtain ⟨⟨cls, dd, data, sl⟩, ho, hc, n, hd⟩ := id hl
  obtain ⟨⟨cls2, dd2, data2, sl2⟩, ho2, hc2, n2, hd2⟩ := id hb
  simp only at hc hd hc2 hd2
  subst hc hd hc2 hd2
  exact richCompare_meets_room (op := .Lt) ⟨_, ho, rfl⟩ ⟨_, ho2, rfl⟩ PySem.F.slot_tuple_lt PySem.F.entry_tuple_lt (PySem.F.args_tuple_lt_2 _ _) (tuple_lt_ints l b items items2 n n2 dd dd2 sl sl2 ns ms hi hj)
    ⟨ho, ho2, show Value.bool (lexLt ns ms) ≠ Value.notImplemented ∧ Q (.bool (lexLt ns ms)) s from ⟨(fun x => nomatch x), h⟩⟩ hu

/-- t + u, t not empty -/
theorem cat_tup {t b : Addr} {vs ws : List Value} {Q : Value → Shared → Prop} (ht : IsTup s.heap t vs.toArray) (hb : IsTup s.heap b ws.toArray) (hv : vs ≠ [])
    (h1 : ws = [] → Q (.ref t) s) (h2 : ws ≠ [] → Q (.ref s.heap.objs.size) { s with heap := s.heap.push { cls := .type "tuple", data := .seq (vs ++ ws).toArray } })
    (hsz : vs.length + ws.length ≤ sizeLine) : wpAny (model prog w) A (binaryOp .Add (.ref t) (.ref b)) Q E s := by
  obtain ⟨⟨cls, dd, data, sl⟩, ho, hc, n, hd⟩ := id ht
  obtain ⟨⟨cls2, dd2, data2, sl2⟩, ho2, hc2, n2, hd2⟩ := id hb
  simp only at hc hd hc2 hd2
  subst hc hd hc2 hd2
  have e : vs.toArray ++ ws.toArray = (vs ++ ws).toArray := by simp
  by_cases hw : ws = []
  · exact concat_meets ⟨_, ho, rfl⟩ ⟨_, ho2, rfl⟩ noFill_tuple_add seq_tuple_add PySem.F.slot_tuple_add PySem.F.entry_tuple_add (PySem.F.args_tuple_add_2 _ _)
      (tuple_addW1 t b vs.toArray ws.toArray n n2 dd dd2 sl sl2 (by simpa using hv) (by simp [hw])) ⟨ho, ho2, h1 hw⟩
  · refine concat_meets ⟨_, ho, rfl⟩ ⟨_, ho2, rfl⟩ noFill_tuple_add seq_tuple_add PySem.F.slot_tuple_add PySem.F.entry_tuple_add (PySem.F.args_tuple_add_2 _ _)
      (tuple_addW2 t b vs.toArray ws.toArray n n2 dd dd2 sl sl2 (by simpa using hv) (by simpa using hw) (by rw [List.size_toArray, List.size_toArray]; exact hsz)) ⟨ho, ho2, ?_⟩
    rw [e]
    exact h2 hw

/-! ### t[a:b], not the whole -/
/-- a slice's bound as a place among n (d where it is left out) -/
def sIx (n d : Nat) : Option Int → Nat
  | none => d
  | some v => if v < 0 then (v + (n : Int)).toNat else min v.toNat n
theorem sIx_none (n d : Nat) : sIx n d none = d := rfl
theorem sIx_nat (n d k : Nat) : sIx n d (some (k : Int)) = min k n := by
  show (if (k : Int) < 0 then ((k : Int) + (n : Int)).toNat else min (k : Int).toNat n) = min k n
  rw [if_neg (by omega), Int.toNat_natCast]
theorem sIx_le (n d : Nat) (hd : d ≤ n) (o : Option Int) : sIx n d o ≤ n := by
  cases o with
  | none => exact hd
  | some v =>
    show (if v < 0 then (v + (n : Int)).toNat else min v.toNat n) ≤ n
    by_cases hv : v < 0
    · rw [if_pos hv]; omega
    · rw [if_neg hv]; exact Nat.min_le_right _ _
theorem clip_eq (v : Int) (n d : Nat) : (if v < 0 then max (v + (n : Int)) 0 else min v (n : Int)) = ((sIx n d (some v) : Nat) : Int) := by
  show (if v < 0 then max (v + (n : Int)) 0 else min v (n : Int)) = (((if v < 0 then (v + (n : Int)).toNat else min v.toNat n) : Nat) : Int)
  by_cases hv : v < 0
  · simp only [if_pos hv]; omega
  · simp only [if_neg hv]; omega
theorem adjust_gen (lo hi : Option Int) (n : Nat) : Builtin.Slice.sliceAdjust lo hi 1 (n : Int) = (((sIx n 0 lo : Nat) : Int), ((sIx n n hi : Nat) : Int)) := by
  have h1 : ¬ ((1 : Int) < 0) := by omega
  unfold Builtin.Slice.sliceAdjust
  simp only [h1, if_false]
  refine Prod.ext ?_ ?_
  · cases lo with
    | none => rfl
    | some v => exact clip_eq v n 0
  · cases hi with
    | none => rfl
    | some v => exact clip_eq v n n
theorem places_gen (i j : Nat) : Builtin.Slice.slicePlaces (i : Int) (j : Int) 1 = j - i := by
  unfold Builtin.Slice.slicePlaces
  have h1 : (1 : Int) > 0 := by omega
  simp only [h1, if_true, Int.ediv_one]
  split <;> omega
theorem slicePart_ {v : Value} {o : Option Int} {Q : Option Int → Shared → Prop} (p : IsPart v o) (h : Q o s) : wpAny (model prog w) A (Builtin.Slice.slicePartIndex v) Q E s := by
  cases p with
  | none => exact slicePart_none h
  | int i t => exact slicePart_int h
theorem sliceApplied_gen {sl : Addr} {vl vu : Value} {lo hi : Option Int} {n : Nat} {Q : Int × Int × Nat → Shared → Prop} (hs : s.heap.IsSliceOf sl vl vu .none) (pl : IsPart vl lo) (pu : IsPart vu hi)
    (h : Q (((sIx n 0 lo : Nat) : Int), 1, sIx n n hi - sIx n 0 lo) s) : wpAny (model prog w) A (Builtin.Slice.sliceApplied (.ref sl) (pure (n : Int))) Q E s := by
  obtain ⟨os, hos, hcs, hds⟩ := id hs
  unfold Builtin.Slice.sliceApplied Builtin.Slice.sliceFields
  refine wpAny_bind (wpAny_bind (wpAny_field hos hds (x := vl) rfl (wpAny_bind (wpAny_field hos hds (x := vu) rfl (wpAny_bind (wpAny_field hos hds (x := .none) rfl (wpAny_pure ?_)))))))
  refine wpAny_bind (slicePart_none ?_)
  show wpAny _ _ (if ((1 : Int) == 0) = true then _ else _) _ _ s
  rw [if_neg (by decide)]
  refine wpAny_bind (slicePart_ pl (wpAny_bind (slicePart_ pu (wpAny_bind (wpAny_pure ?_)))))
  show wpAny _ _ (match Builtin.Slice.sliceAdjust lo hi 1 (n : Int) with | (lo, hi) => pure (lo, (1 : Int), Builtin.Slice.slicePlaces lo hi 1)) _ _ s
  rw [adjust_gen lo hi n]
  show wpAny _ _ (pure (((sIx n 0 lo : Nat) : Int), (1 : Int), Builtin.Slice.slicePlaces ((sIx n 0 lo : Nat) : Int) ((sIx n n hi : Nat) : Int) 1)) _ _ s
  rw [places_gen]
  exact wpAny_pure h
theorem pick_gen (xs : Array Value) (i k : Nat) : ((List.range k).filterMap fun (m : Nat) => xs[((i : Int) + (m : Int) * 1).toNat]?).toArray = ((xs.toList.drop i).take k).toArray := by
  have e : (fun (m : Nat) => xs[((i : Int) + (m : Int) * 1).toNat]?) = fun m => xs[i + m]? := by
    funext m
    have : ((i : Int) + (m : Int) * 1).toNat = i + m := by omega
    rw [this]
  rw [e]
  have := pick_run xs i k
  rw [List.filterMap_map] at this
  have e2 : ((fun x => xs[x]?) ∘ fun x => i + x) = fun m => xs[i + m]? := rfl
  rw [e2] at this
  rw [this]

theorem getItem_tuple_cut {t sl : Addr} {items : Array Value} {vl vu : Value} {lo hi : Option Int} {Q : Value → Shared → Prop} (ht : IsTup s.heap t items) (hs : s.heap.IsSliceOf sl vl vu .none) (pl : IsPart vl lo) (pu : IsPart vu hi)
    (hw : ¬ (sIx items.size 0 lo = 0 ∧ sIx items.size items.size hi = items.size))
    (h : Q (.ref s.heap.objs.size) { s with heap := s.heap.push { cls := .type "tuple", data := .seq ((items.toList.drop (sIx items.size 0 lo)).take (sIx items.size items.size hi - sIx items.size 0 lo)).toArray } })
    (hsz : items.size ≤ sizeLine) : wpAny (model prog w) A (getItem (.ref t) (.ref sl)) Q E s := by
  have htake : sizeOk (.seq ((items.toList.drop (sIx items.size 0 lo)).take (sIx items.size items.size hi - sIx items.size 0 lo)).toArray) := by
    show ((items.toList.drop (sIx items.size 0 lo)).take (sIx items.size items.size hi - sIx items.size 0 lo)).toArray.size ≤ sizeLine
    rw [List.size_toArray, List.length_take, List.length_drop, Array.length_toList]
    omega
  have hj : sIx items.size items.size hi ≤ items.size := sIx_le _ _ (Nat.le_refl _) hi
  obtain ⟨os, hos, hcs, hds⟩ := id hs
  have hTs : s.TypeIs (.ref sl) "slice" := ⟨os, hos, hcs⟩
  unfold getItem
  try with_reducible refine wpAny_holding ?_
  first | refine wpAny_bind (wpAny_pure ?_) | skip
  refine wpAny_bind (wpAny_sequenceKey ht.typeIs (by decide) ?_)
  refine wpAny_bind (wpAny_callSpecial?_slot (name := Str.ofString "__getitem__") ht.typeIs PyProof.Rows.slot_tuple_getitem
    (wpAny_call_entry PyProof.Rows.slot_tuple_getitem ht.typeIs entry_tuple_getitem ?_ (args_tuple_getitem _ _)))
  show wpAny _ _ (Builtin.Tuple.tupleItemsOf (.ref t) >>= _) _ _ s
  refine wpAny_bind (tupleItemsOf_ ht ?_)
  refine wpAny_bind (wpAny_typeOf hTs ?_)
  rw [if_pos (by decide)]
  refine wpAny_bind (sliceApplied_gen hs pl pu ?_)
  have hno : ¬ ((((sIx items.size 0 lo : Nat) : Int) == 0 && (1 : Int) == 1 && (sIx items.size items.size hi - sIx items.size 0 lo) == items.size) = true) := by
    intro q
    rw [Bool.and_eq_true, Bool.and_eq_true] at q
    have q1 : ((sIx items.size 0 lo : Nat) : Int) = 0 := eq_of_beq q.1.1
    have q2 : sIx items.size items.size hi - sIx items.size 0 lo = items.size := eq_of_beq q.2
    exact hw ⟨by omega, by omega⟩
  show wpAny _ _ (if (((sIx items.size 0 lo : Nat) : Int) == 0 && (1 : Int) == 1 && (sIx items.size items.size hi - sIx items.size 0 lo) == items.size) = true then _ else _) _ _ s
  rw [if_neg hno, pick_gen]
  first
    | exact wpAny_bind (m := Builtin.Tuple.tupleExact _) (wpAny_newObj_type (wpAny_pure ⟨_, rfl, wpAny_pure h⟩) htake)
    | exact wpAny_bind (m := Builtin.Tuple.tupleExact _) (wpAny_newObj_type (wpAny_bind (wpAny_pure (wpAny_pure ⟨_, rfl, wpAny_pure h⟩))) htake)
    | exact wpAny_bind (wpAny_bind (m := Builtin.Tuple.tupleExact _) (wpAny_newObj_type (wpAny_pure (wpAny_pure ⟨_, rfl, wpAny_pure h⟩)) htake))
    | exact wpAny_bind (wpAny_bind (m := Builtin.Tuple.tupleExact _) (wpAny_newObj_type (wpAny_pure ⟨_, rfl, wpAny_pure h⟩) htake))
end
end HT

namespace L2
open PySem PySem.Spec PyProof.Rows

/-! ### the parts of a slice -/
abbrev TO := St → Hp → (Option Int → Hp → Prop) → Prop
/-- a slice's part (left out, or an int) -/
def PO (X : Cx) (e : Option Expr) (t : TO) : Prop :=
  ∀ (pins : List (Addr × Obj)) (s : Shared) (σ : St) (H : Hp) (Q : Option Int → Hp → Prop), Inv X pins σ H s → t σ H Q →
    wpAny (model X.prog X.w) X.A (evalPart e X.env) (fun u s' => ∃ o H', Inv X pins σ H' s' ∧ IsPart u o ∧ Q o H') X.xe s
def tNoPart : TO := fun _ H Q => Q none H
def tPart (t : TE) : TO := fun σ H Q => t σ H fun x H1 => ∃ i, x = .int i ∧ Q (some i) H1

theorem intsAre_of {ns : List Int} : ∀ {us : List Value}, Vals (ns.map V.int) us → IntsAre us ns := by
  induction ns with
  | nil => intro us r; rw [List.map_nil] at r; cases r; exact .nil
  | cons n ns ih =>
    intro us r
    rw [List.map_cons] at r
    cases r with
    | cons r1 r2 =>
      obtain ⟨t, e⟩ := r1
      subst e
      exact .cons n t (ih r2)

section
variable {X : Cx} {e : Expr} {te : TE} {lo hi : Option Expr} {tl th : TO} {pos p2 : Pos}

theorem po_none : PO X none tNoPart := by
  intro pins s σ H Q I h
  rw [evalPart_none]
  exact wpAny_pure ⟨none, H, I, .none, h⟩
theorem po_some (h : PE X e te) : PO X (some e) (tPart te) := by
  intro pins s σ H Q I hw
  rw [evalPart_some]
  refine thn (h pins s σ H _ I hw) fun u s1 ⟨x, H1, I1, r1, q1⟩ => ?_
  obtain ⟨i, rfl, q⟩ := q1
  obtain ⟨t, rfl⟩ := r1
  exact ⟨some i, H1, I1, .int i t, q⟩

/-- what a slice of a value is, by values: the slice object stands at sl -/
def SlR (X : Cx) (r : V → Option Int → Option Int → Hp → VK → Prop) : Prop :=
  ∀ (pins : List (Addr × Obj)) (s : Shared) (σ : St) (H : Hp) (x : V) (v vl vu : Value) (lo hi : Option Int) (sl : Addr) (Q : VK), Inv X pins σ H s → RelV x v → s.heap.IsSliceOf sl vl vu .none → IsPart vl lo → IsPart vu hi → r x lo hi H Q →
    ∃ T id, typeLookup (.type T) "__getitem__" = pure (some (.builtin id)) ∧ s.TypeIs v T ∧ wpAny (model X.prog X.w) X.A (getItem v (.ref sl)) (EP X pins σ Q) X.xe s
theorem SlR.or {r r' : V → Option Int → Option Int → Hp → VK → Prop} (h : SlR X r) (h' : SlR X r') : SlR X (fun x lo hi H Q => r x lo hi H Q ∨ r' x lo hi H Q) := by
  intro pins s σ H x v vl vu lo hi sl Q I rx hs pl pu q
  rcases q with q | q
  · exact h pins s σ H x v vl vu lo hi sl Q I rx hs pl pu q
  · exact h' pins s σ H x v vl vu lo hi sl Q I rx hs pl pu q
def tSl (r : V → Option Int → Option Int → Hp → VK → Prop) (te : TE) (tl th : TO) : TE := fun σ H Q => te σ H fun x H1 => tl σ H1 fun l H2 => th σ H2 fun u H3 => r x l u H3 Q
/-- a[lo:hi], any a -/
theorem pe_slice {r : V → Option Int → Option Int → Hp → VK → Prop} (hr : SlR X r) (he : PE X e te) (hl : PO X lo tl) (hu : PO X hi th) : PE X (.Subscript e (.Slice lo hi none p2) pos) (tSl r te tl th) := by
  intro pins s σ H Q I h
  refine Subscript_ (thn (he pins s σ H _ I h) fun v s1 ⟨x, H1, I1, r1, q1⟩ => ?_)
  refine wpAny_Slice (thn (hl pins s1 σ H1 _ I1 q1) fun vl s2 ⟨l, H2, I2, pl, q2⟩ => thn (hu pins s2 σ H2 _ I2 q2) fun vu s3 ⟨u, H3, I3, pu, q3⟩ => ?_)
  rw [evalPart_none]
  refine wpAny_pure ?_
  have I4 : Inv X pins σ H3 { s3 with heap := s3.heap.push { cls := .type "slice", data := .fields #[vl, vu, .none] } } := I3.kept (t' := s3.toks) fun b ob q => Heap.get?_push_of_some _ q
  obtain ⟨T, id, hT, ht, hg⟩ := hr pins { s3 with heap := s3.heap.push { cls := .type "slice", data := .fields #[vl, vu, .none] } } σ H3 x v vl vu l u s3.heap.objs.size Q I4 r1 (Heap.IsSliceOf.new ..) pl pu q3
  show wpAny (model X.prog X.w) X.A (subscriptTail e (.Slice lo hi none p2) v (.ref s3.heap.objs.size)) (EP X pins σ Q) X.xe { s3 with heap := s3.heap.push { cls := .type "slice", data := .fields #[vl, vu, .none] } }
  exact tail_any (ops := [.ref s3.heap.objs.size, v]) ht hT hg (by with_unfolding_all rfl)

/-- the items of xs[lo:hi] -/
def cutV (xs : List V) (lo hi : Option Int) : List V := (xs.drop (HT.sIx xs.length 0 lo)).take (HT.sIx xs.length xs.length hi - HT.sIx xs.length 0 lo)
theorem cutV_length (xs : List V) (lo hi : Option Int) : (cutV xs lo hi).length ≤ xs.length := by
  unfold cutV
  rw [List.length_take, List.length_drop]
  omega
/-- t[lo:hi], not the whole of it (the whole would be t itself) -/
def rSlT (K : PySem.W.Frag) : V → Option Int → Option Int → Hp → VK → Prop := fun x lo hi H Q => ∃ a xs, x = .ref a ∧ SqT K H a xs ∧
  ¬ (HT.sIx xs.length 0 lo = 0 ∧ HT.sIx xs.length xs.length hi = xs.length) ∧ ∀ p, H p = none → Q (.ref p) (upd H p (.tup (cutV xs lo hi)))
theorem sl_tup : SlR X (rSlT X.K) := by
  intro pins s σ H x v vl vu lo hi sl Q I rx hs pl pu h
  obtain ⟨a, xs, rfl, hx, hw, q⟩ := h
  cases rx
  obtain ⟨its, r, ht, hz⟩ := I.tuple hx
  have hlen : its.toArray.size = xs.length := by rw [List.size_toArray]; exact r.length.symm
  refine ⟨"tuple", _, PyProof.Rows.slot_tuple_getitem.lookup, ht.typeIs, ?_⟩
  refine HT.getItem_tuple_cut ht hs pl pu (by rw [hlen]; exact hw) ?_ (by rw [hlen]; exact hz)
  rw [hlen]
  refine ⟨.ref s.heap.objs.size, _, I.laid (t' := s.toks) (o := .tup (cutV xs lo hi)) (fun b ob q => Heap.get?_push_of_some _ q) (Nat.le_refl _) ?_, rfl, q _ (I.hok.fresh (Nat.le_refl _))⟩
  exact ⟨Nat.le_trans (cutV_length xs lo hi) hz, _, (r.drop (HT.sIx xs.length 0 lo)).take (HT.sIx xs.length xs.length hi - HT.sIx xs.length 0 lo), IsTup.new _ _⟩

/-! ### t < u, t + u -/
def rLtT (K : PySem.W.Frag) : R2 := fun x y H Q => ∃ a b ns ms, x = .ref a ∧ y = .ref b ∧ SqT K H a (ns.map V.int) ∧ SqT K H b (ms.map V.int) ∧ Q (.bl (HT.lexLt ns ms)) H
theorem op_ltT (hu : X.A.units < cLine) : OpR X (compareOp .Lt) (rLtT X.K) := by
  intro pins s σ H x y v u Q I rx ry h
  obtain ⟨a, b, ns, ms, rfl, rfl, ha, hb, q⟩ := h
  cases rx
  cases ry
  obtain ⟨its, r1, p1, _⟩ := I.tuple ha
  obtain ⟨its2, r2, p2, _⟩ := I.tuple hb
  have i1 : IntsAre its.toArray.toList ns := intsAre_of r1
  have i2 : IntsAre its2.toArray.toList ms := intsAre_of r2
  exact HT.lt_tupInts p1 p2 i1 i2 hu ⟨.bl (HT.lexLt ns ms), H, I, rfl, q⟩
/-- t + u, t not empty: u empty gives t itself -/
def rCatT (K : PySem.W.Frag) : R2 := fun x y H Q => ∃ a b xs ys, x = .ref a ∧ y = .ref b ∧ SqT K H a xs ∧ SqT K H b ys ∧ xs ≠ [] ∧ xs.length + ys.length ≤ sizeLine ∧
  (ys = [] → Q (.ref a) H) ∧ (ys ≠ [] → ∀ p, H p = none → Q (.ref p) (upd H p (.tup (xs ++ ys))))
theorem Vals.nil_iff {xs : List V} {us : List Value} (r : Vals xs us) : us = [] ↔ xs = [] := by
  cases r with
  | nil => simp
  | cons _ _ => simp
theorem op_catT : OpR X (binaryOp .Add) (rCatT X.K) := by
  intro pins s σ H x y v u Q I rx ry h
  obtain ⟨a, b, xs, ys, rfl, rfl, ha, hb, hx, hz, q1, q2⟩ := h
  cases rx
  cases ry
  obtain ⟨its, r1, p1, _⟩ := I.tuple ha
  obtain ⟨its2, r2, p2, _⟩ := I.tuple hb
  refine HT.cat_tup p1 p2 (fun z => hx (r1.nil_iff.mp z)) (fun z => ⟨.ref a, H, I, rfl, q1 (r2.nil_iff.mp z)⟩) (fun z => ?_) (by rw [← r1.length, ← r2.length]; exact hz)
  refine ⟨.ref s.heap.objs.size, _, I.laid (t' := s.toks) (o := .tup (xs ++ ys)) (fun b ob q => Heap.get?_push_of_some _ q) (Nat.le_refl _) ?_, rfl, q2 (fun w => z (r2.nil_iff.mpr w)) _ (I.hok.fresh (Nat.le_refl _))⟩
  exact ⟨by rw [List.length_append]; exact hz, _, r1.append r2, IsTup.new _ _⟩
/-- tuple(t) -/
theorem call_tupleT : CallR X (.type "tuple") (fun xs H Q => ∃ a ys, xs = [.ref a] ∧ SqT X.K H a ys ∧ Q (.ref a) H) := by
  intro pins s σ H xs us Q I r h
  obtain ⟨a, ys, rfl, ha, q⟩ := h
  obtain ⟨u, rfl, ru⟩ := vals1 r
  cases ru
  obtain ⟨its, _, p1, _⟩ := I.tuple ha
  exact call_tuple_same (items := its.toArray) p1 ⟨.ref a, H, I, rfl, q⟩
end
end L2

namespace L2
open PySem PySem.Spec PyProof.Rows

/-! ### places -/
/-- the place that an index of any sign means -/
def ixN (n : Nat) (i : Int) : Option Nat := if 0 ≤ i then (if i < n then some i.toNat else none) else if -(n : Int) ≤ i then some (i + n).toNat else none
def atI {α : Type} (xs : List α) (i : Int) : Option α := (ixN xs.length i).bind fun j => xs[j]?
theorem ixN_seq {n : Nat} {i : Int} {j : Nat} (h : ixN n i = some j) : seqIndex? i n = some j ∧ j < n ∧ -(n : Int) ≤ i ∧ i < n := by
  unfold ixN at h
  by_cases h0 : 0 ≤ i
  · rw [if_pos h0] at h
    by_cases h1 : i < n
    · rw [if_pos h1] at h
      have e : i.toNat = j := Option.some.inj h
      exact ⟨by rw [seqIndex_of h0 h1, e], by omega, by omega, h1⟩
    · rw [if_neg h1] at h; cases h
  · rw [if_neg h0] at h
    by_cases h1 : -(n : Int) ≤ i
    · rw [if_pos h1] at h
      have e : (i + n).toNat = j := Option.some.inj h
      exact ⟨by rw [seqIndex_neg (by omega) h1, e], by omega, h1, by omega⟩
    · rw [if_neg h1] at h; cases h
theorem atI_get {α : Type} {xs : List α} {i : Int} {v : α} (h : atI xs i = some v) : ∃ j, seqIndex? i xs.length = some j ∧ xs[j]? = some v ∧ j < xs.length ∧ -(xs.length : Int) ≤ i ∧ i < xs.length := by
  unfold atI at h
  cases e : ixN xs.length i with
  | none => rw [e] at h; cases h
  | some j =>
    rw [e] at h
    obtain ⟨h1, h2, h3, h4⟩ := ixN_seq e
    exact ⟨j, h1, h, h2, h3, h4⟩
theorem atI_nat {α : Type} {xs : List α} {j : Nat} {v : α} (h : xs[j]? = some v) : atI xs (j : Int) = some v := by
  have hj : j < xs.length := (List.getElem?_eq_some_iff.mp h).1
  have e : ixN xs.length (j : Int) = some j := by
    unfold ixN
    rw [if_pos (by omega), if_pos (by omega)]; simp
  unfold atI; rw [e]; exact h
theorem atI_last {α : Type} (xs : List α) (v : α) : atI (xs ++ [v]) (-1) = some v := by
  have hl : (xs ++ [v]).length = xs.length + 1 := by simp
  have e : ixN (xs ++ [v]).length (-1) = some xs.length := by
    unfold ixN
    rw [hl, if_neg (by decide), if_pos (by omega)]
    congr 1
    omega
  unfold atI
  rw [e]
  show (xs ++ [v])[xs.length]? = some v
  simp

/-! ### what may be subscripted -/
/-- what stands as an index of a plain subscript -/
def PlainIx (b : Expr) : Prop := ∀ o i, subscripted b false o i = operate [o, i] (getItem o i)
/-- a subscript by values -/
def IxR (X : Cx) (r : R2) : Prop :=
  ∀ (value slice : Expr) (pins : List (Addr × Obj)) (s : Shared) (σ : St) (H : Hp) (x y : V) (v u : Value) (Q : VK), Inv X pins σ H s → RelV x v → RelV y u → r x y H Q →
    subscripted slice false v u = operate [v, u] (getItem v u) → wpAny (model X.prog X.w) X.A (subscriptTail value slice v u) (EP X pins σ Q) X.xe s
/-- a call of a builtin's method by values: the receiver, the arguments -/
def MtR (X : Cx) (id : String) (r : V → List V → Hp → VK → Prop) : Prop :=
  ∀ (pins : List (Addr × Obj)) (s : Shared) (σ : St) (H : Hp) (x : V) (xs : List V) (v : Value) (us : List Value) (Q : VK), Inv X pins σ H s → RelV x v → Vals xs us → r x xs H Q →
    wpAny (model X.prog X.w) X.A (call (.builtin id) (v :: us)) (EP X pins σ Q) X.xe s
section
variable {X : Cx} {a b : Expr} {ta tb : TE} {pos : Pos}
theorem IxR.or {r r' : R2} (h : IxR X r) (h' : IxR X r') : IxR X (fun x y H Q => r x y H Q ∨ r' x y H Q) := by
  intro value slice pins s σ H x y v u Q I rx ry q hs
  rcases q with q | q
  · exact h value slice pins s σ H x y v u Q I rx ry q hs
  · exact h' value slice pins s σ H x y v u Q I rx ry q hs
theorem MtR.or {id : String} {r r' : V → List V → Hp → VK → Prop} (h : MtR X id r) (h' : MtR X id r') : MtR X id (fun x xs H Q => r x xs H Q ∨ r' x xs H Q) := by
  intro pins s σ H x xs v us Q I rx rs q
  rcases q with q | q
  · exact h pins s σ H x xs v us Q I rx rs q
  · exact h' pins s σ H x xs v us Q I rx rs q
/-- a[b] -/
theorem pe_ix {r : R2} (hr : IxR X r) (ha : PE X a ta) (hb : PE X b tb) (hs : PlainIx b) : PE X (.Subscript a b pos) (tOp r ta tb) := by
  intro pins s σ H Q I h
  exact Subscript_ (binT ha hb I h fun v u s2 x y H2 I2 rx ry q => hr a b pins s2 σ H2 x y v u Q I2 rx ry q (hs _ _))

def rIxL (K : PySem.W.Frag) : R2 := fun x y H Q => ∃ p xs i v, x = .ref p ∧ y = .int i ∧ SqL K H p xs ∧ atI xs i = some v ∧ Q v H
def rIxT (K : PySem.W.Frag) : R2 := fun x y H Q => ∃ p xs i v, x = .ref p ∧ y = .int i ∧ SqT K H p xs ∧ atI xs i = some v ∧ Q v H
def rIxS : R2 := fun x y H Q => ∃ z i c, x = .str z ∧ y = .int i ∧ z.length ≤ sizeLine ∧ atI z.cps.toList i = some c ∧ Q (.str ⟨#[c]⟩) H
theorem ix_list : IxR X (rIxL X.K) := by
  intro value slice pins s σ H x y v u Q I rx ry h hs
  obtain ⟨p, xs, i, z, rfl, rfl, hq, he, q⟩ := h
  cases rx
  obtain ⟨t, rfl⟩ := ry
  obtain ⟨its, r, pl, hz⟩ := I.list hq
  obtain ⟨j, h1, h2, h3, h4, h5⟩ := atI_get he
  obtain ⟨w, ew, rw'⟩ := r.get h2
  have hl := r.length
  have hn := line63
  have fin : EP X pins σ Q w s := ⟨z, H, I, rw', q⟩
  by_cases h0 : 0 ≤ i
  · have hj : i.toNat = j := by
      rw [seqIndex_of h0 h5] at h1
      exact Option.some.inj h1
    exact item_listR pl.isList h0 (by omega) (by rw [hj]; simpa using ew) fin hs
  · have hj : (i + (its.toArray.size : Int)).toNat = j := by
      rw [seqIndex_neg (by omega) h4] at h1
      rw [List.size_toArray, ← hl]
      exact Option.some.inj h1
    exact subscriptTail_builtinR (x := w) pl.isList.typeIs slot_list_getitem.lookup
      (wpAny_getItem_list_neg (Q := fun r s' => r = w ∧ EP X pins σ Q r s') pl.isList (by omega) (by rw [List.size_toArray] <;> omega) (by omega) (by rw [hj]; simpa using ew) ⟨rfl, fin⟩) hs
theorem ix_tup : IxR X (rIxT X.K) := by
  intro value slice pins s σ H x y v u Q I rx ry h hs
  obtain ⟨p, xs, i, z, rfl, rfl, hq, he, q⟩ := h
  cases rx
  obtain ⟨t, rfl⟩ := ry
  obtain ⟨its, r, pl, hz⟩ := I.tuple hq
  obtain ⟨j, h1, h2, h3, h4, h5⟩ := atI_get he
  obtain ⟨w, ew, rw'⟩ := r.get h2
  have hl := r.length
  have hn := line63
  have fin : EP X pins σ Q w s := ⟨z, H, I, rw', q⟩
  exact subscriptTail_builtinR (x := w) pl.typeIs slot_tuple_getitem.lookup
    (getItem_tuple (j := j) (Q := fun r s' => r = w ∧ EP X pins σ Q r s') pl (by omega) (by omega) (by rw [List.size_toArray, ← hl]; exact h1) (by simpa using ew) ⟨rfl, fin⟩) hs
theorem ix_str : IxR X rIxS := by
  intro value slice pins s σ H x y v u Q I rx ry h hs
  obtain ⟨z, i, c, rfl, rfl, hz, he, q⟩ := h
  obtain ⟨t, rfl⟩ := rx
  obtain ⟨t', rfl⟩ := ry
  obtain ⟨j, h1, h2, h3, h4, h5⟩ := atI_get he
  have hl : z.cps.toList.length = z.length := by simp [Str.length]
  rw [hl] at h1 h4 h5
  have hn := line63
  exact tail_any (typeIs_str s z t) slot_str_getitem.lookup (getItem_str (c := c) (by
    have e1 : decide (i < -(2 ^ 63 : Int)) = false := decide_eq_false (by omega)
    have e2 : decide (i ≥ 2 ^ 63) = false := decide_eq_false (by omega)
    rw [e1, e2, Bool.or_false]) (by rw [h1]; simpa using h2) ⟨.str ⟨#[c]⟩, H, I.tok _, ⟨_, rfl⟩, q⟩) hs
/-- list, tuple or str -/
def rIx (K : PySem.W.Frag) : R2 := fun x y H Q => rIxL K x y H Q ∨ rIxT K x y H Q ∨ rIxS x y H Q
theorem ix_seq : IxR X (rIx X.K) := ix_list.or (ix_tup.or ix_str)

/-! ### xs[i] = v, any sign -/
/-- the list's object behind a store -/
theorem mapSeq_set (its : List Value) (n j : Nat) (u : Value) : Obj.mapSeq (·.setIfInBounds j u) { cls := .type "list", data := .seq its.toArray n } = { cls := .type "list", data := .seq (its.set j u).toArray n } := by
  simp [Obj.mapSeq]
theorem Inv.lst {pins : List (Addr × Obj)} {σ : St} {H : Hp} {s : Shared} {p : Addr} {xs : List V} (I : Inv X pins σ H s) (h : H p = some (.lst xs)) :
    ∃ (its : List Value) (n : Nat), Vals xs its ∧ s.heap.get? p = some { cls := .type "list", data := .seq its.toArray n } ∧ xs.length ≤ sizeLine := by
  obtain ⟨z, its, n, r, e⟩ := I.hok p _ h
  exact ⟨its, n, r, e, z⟩
/-- the list at p is written by an update of its object -/
theorem Inv.lstUpd {pins : List (Addr × Obj)} {σ : St} {H : Hp} {s : Shared} {p : Addr} {xs ys : List V} {its its' : List Value} {n n' : Nat} {f : Obj → Obj} (I : Inv X pins σ H s) (h : H p = some (.lst xs))
    (ho : s.heap.get? p = some { cls := .type "list", data := .seq its.toArray n }) (hf : f { cls := .type "list", data := .seq its.toArray n } = { cls := .type "list", data := .seq its'.toArray n' }) (r : Vals ys its') (hz : ys.length ≤ sizeLine) (t : Nat) :
    Inv X pins σ (upd H p (.lst ys)) { s with heap := s.heap.update p f, toks := t } := by
  have e : (s.heap.update p f).get? p = some { cls := .type "list", data := .seq its'.toArray n' } := by
    rw [Heap.get?_update_self f ho (by rw [hf] <;> rfl), hf]
  refine I.write (x := p) (e := p) (by rw [h]; trivial) (.inl rfl) (fun b u hb q => (Heap.get?_update_other _ _ (Ne.symm hb)).trans q) ⟨_, e⟩ ?_
  exact ⟨hz, its', n', r, e⟩
def rSetL : V → V → V → Hp → (Hp → Prop) → Prop := fun o i v H Q => ∃ p xs k j, o = .ref p ∧ i = .int k ∧ H p = some (.lst xs) ∧ ixN xs.length k = some j ∧ Q (upd H p (.lst (xs.set j v)))
theorem set_list : PSet X rSetL := by
  intro pins s σ H o i v ov iv u Q I ro ri rv h
  obtain ⟨p, xs, k, j, rfl, rfl, hp, hj, q⟩ := h
  cases ro
  obtain ⟨t, rfl⟩ := ri
  obtain ⟨its, n, r, ho, hz⟩ := I.lst hp
  obtain ⟨h1, h2, h3, h4⟩ := ixN_seq hj
  have hl := r.length
  have hn := line63
  have I' : Inv X pins σ (upd H p (.lst (xs.set j v))) { s with heap := s.heap.update p (Obj.mapSeq (·.setIfInBounds j u)) } :=
    I.lstUpd hp ho (mapSeq_set its n j u) (r.set rv j) (by rw [List.length_set]; exact hz) s.toks
  by_cases h0 : 0 ≤ k
  · have hk : k.toNat = j := by
      rw [seqIndex_of h0 h4] at h1
      exact Option.some.inj h1
    exact PySem.W.ki_setAt ho h0 (by omega) (by rw [List.size_toArray, ← hl]; exact h4) (by rw [hk]; exact ⟨_, I', q⟩)
  · have hk : (k + (its.toArray.size : Int)).toNat = j := by
      rw [seqIndex_neg (by omega) h3] at h1
      rw [List.size_toArray, ← hl]
      exact Option.some.inj h1
    exact PySem.W.ki_setBack ho (by omega) (by rw [List.size_toArray, ← hl]; exact h3) (by omega) (by rw [hk]; exact ⟨_, I', q⟩)

/-! ### slices -/
theorem slice_bounds (lo hi : Option Int) (n : Nat) : (sliceBounds lo hi none n).1 = ((HT.sIx n 0 lo : Nat) : Int) ∧ (sliceBounds lo hi none n).2.1 = ((HT.sIx n n hi : Nat) : Int) ∧ (sliceBounds lo hi none n).2.2 = 1 := by
  refine ⟨?_, ?_, rfl⟩
  · cases lo with
    | none => simp [sliceBounds, HT.sIx]
    | some i =>
      simp only [sliceBounds, HT.sIx, Option.getD_none, show (1 : Int) > 0 by decide, if_true]
      by_cases h : i < 0
      · simp only [h, if_true] <;> omega
      · simp only [h, if_false] <;> omega
  · cases hi with
    | none => simp [sliceBounds, HT.sIx]
    | some i =>
      simp only [sliceBounds, HT.sIx, Option.getD_none, show (1 : Int) > 0 by decide, if_true]
      by_cases h : i < 0
      · simp only [h, if_true] <;> omega
      · simp only [h, if_false] <;> omega
theorem slicePick_cut (its : List Value) (lo hi : Option Int) : slicePick its.toArray lo hi none = ((its.drop (HT.sIx its.length 0 lo)).take (HT.sIx its.length its.length hi - HT.sIx its.length 0 lo)).toArray := by
  obtain ⟨h1, h2, h3⟩ := slice_bounds lo hi its.toArray.size
  unfold slicePick
  rw [h1, h2, h3]
  simp only [sliceRange_one, pick_run, List.size_toArray] <;> rfl
/-- xs[lo:hi] of a list: a new list -/
def rSlL (K : PySem.W.Frag) : V → Option Int → Option Int → Hp → VK → Prop := fun x lo hi H Q => ∃ a xs, x = .ref a ∧ SqL K H a xs ∧ ∀ p, H p = none → Q (.ref p) (upd H p (.lst (cutV xs lo hi)))
theorem sl_list : SlR X (rSlL X.K) := by
  intro pins s σ H x v vl vu lo hi sl Q I rx hs pl pu h
  obtain ⟨a, xs, rfl, hx, q⟩ := h
  cases rx
  obtain ⟨its, r, ht, hz⟩ := I.list hx
  have hlen := r.length
  refine ⟨"list", _, slot_list_getitem.lookup, ht.isList.typeIs, ?_⟩
  refine wpAny_getItem_list_slice ht.isList hs pl pu .none (by simp) ?_ (by rw [List.size_toArray] <;> omega)
  rw [slicePick_cut, ← hlen]
  refine ⟨.ref s.heap.objs.size, _, I.laid (t' := s.toks) (o := .lst (cutV xs lo hi)) (fun b ob q => Heap.get?_push_of_some _ q) (Nat.le_refl _) ?_, rfl, q _ (I.hok.fresh (Nat.le_refl _))⟩
  exact ⟨Nat.le_trans (cutV_length xs lo hi) hz, _, 0, (r.drop (HT.sIx xs.length 0 lo)).take (HT.sIx xs.length xs.length hi - HT.sIx xs.length 0 lo), Heap.get?_push_size _ rfl⟩

/-! ### in, not in: flat items -/
def flatV : V → Bool
  | .non => true
  | .bl _ => true
  | .int _ => true
  | .str _ => true
  | _ => false
/-- == of flat values -/
def eqV : V → V → Bool
  | .non, .non => true
  | .bl a, .bl b => a == b
  | .bl a, .int b => (if a then 1 else 0) == b
  | .int a, .bl b => a == (if b then 1 else 0)
  | .int a, .int b => a == b
  | .str a, .str b => a == b
  | _, _ => false
theorem eqAt_V {A : Around} {s : Shared} {y x : V} {u v : Value} (ry : RelV y u) (rx : RelV x v) (fy : flatV y = true) (fx : flatV x = true) : SeqAt.EqAt A s u v (eqV y x) := by
  cases y with
  | non =>
    cases ry
    cases x with
    | non => cases rx; exact SeqAt.EqAt.same _
    | bl b => cases rx; exact SeqAt.EqAt.none_bool b
    | int b => obtain ⟨t, rfl⟩ := rx; exact SeqAt.EqAt.none_int b t
    | str b => obtain ⟨t, rfl⟩ := rx; exact SeqAt.EqAt.none_str b t
    | _ => exact absurd (show false = true from fx) Bool.false_ne_true
  | bl a =>
    cases ry
    cases x with
    | non => cases rx; exact SeqAt.EqAt.bool_none a
    | bl b => cases rx; exact SeqAt.EqAt.bool_bool a b
    | int b => obtain ⟨t, rfl⟩ := rx; exact SeqAt.EqAt.bool_int a b t
    | str b => obtain ⟨t, rfl⟩ := rx; exact SeqAt.EqAt.bool_str a b t
    | _ => exact absurd (show false = true from fx) Bool.false_ne_true
  | int a =>
    obtain ⟨t', rfl⟩ := ry
    cases x with
    | non => cases rx; exact SeqAt.EqAt.int_none a t'
    | bl b => cases rx; exact SeqAt.EqAt.int_bool a t' b
    | int b => obtain ⟨t, rfl⟩ := rx; exact SeqAt.EqAt.int_int a t' b t
    | str b => obtain ⟨t, rfl⟩ := rx; exact SeqAt.EqAt.int_str a t' b t
    | _ => exact absurd (show false = true from fx) Bool.false_ne_true
  | str a =>
    obtain ⟨t', rfl⟩ := ry
    cases x with
    | non => cases rx; exact SeqAt.EqAt.str_none a t'
    | bl b => cases rx; exact SeqAt.EqAt.str_bool a t' b
    | int b => obtain ⟨t, rfl⟩ := rx; exact SeqAt.EqAt.str_int a t' b t
    | str b => obtain ⟨t, rfl⟩ := rx; exact SeqAt.EqAt.str_str a t' b t
    | _ => exact absurd (show false = true from fx) Bool.false_ne_true
  | _ => exact absurd (show false = true from fy) Bool.false_ne_true
/-- the items' answers, read off the values (a value's own answer does not lean on its token) -/
def eqU (x : V) (u : Value) : Bool := match u with
  | .none => eqV .non x
  | .bool b => eqV (.bl b) x
  | .int i _ => eqV (.int i) x
  | .str z _ => eqV (.str z) x
  | _ => false
theorem eqU_of {x y : V} {u : Value} (r : RelV y u) (f : flatV y = true) : eqU x u = eqV y x := by
  cases y with
  | non => cases r; rfl
  | bl b => cases r; rfl
  | int i => obtain ⟨t, rfl⟩ := r; rfl
  | str z => obtain ⟨t, rfl⟩ := r; rfl
  | _ => exact absurd (show false = true from f) Bool.false_ne_true
theorem any_eqU {x : V} : ∀ {xs : List V} {us : List Value}, Vals xs us → xs.all flatV = true → us.any (eqU x) = xs.any fun y => eqV y x
  | _, _, .nil, _ => rfl
  | y :: xs, u :: us, .cons r t, f => by
    rw [List.all_cons, Bool.and_eq_true] at f
    rw [List.any_cons, List.any_cons, eqU_of r f.1, any_eqU t f.2]
theorem mem_eqAt {A : Around} {s : Shared} {x : V} {v : Value} (rx : RelV x v) (fx : flatV x = true) : ∀ {xs : List V} {us : List Value}, Vals xs us → xs.all flatV = true → ∀ u ∈ us, SeqAt.EqAt A s u v (eqU x u)
  | _, _, .nil, _ => fun u hu => by cases hu
  | y :: xs, u :: us, .cons r t, f => fun u' hu => by
    rw [List.all_cons, Bool.and_eq_true] at f
    rcases List.mem_cons.mp hu with rfl | hu
    · rw [eqU_of r f.1]; exact eqAt_V r rx f.1 fx
    · exact mem_eqAt rx fx t f.2 u' hu
def inV (x : V) (xs : List V) : Bool := xs.any fun y => eqV y x
/-- x in a list or tuple of flat items -/
def rIn (K : PySem.W.Frag) (neg : Bool) : R2 := fun x y H Q => ∃ p xs, y = .ref p ∧ (SqL K H p xs ∨ SqT K H p xs) ∧ flatV x = true ∧ xs.all flatV = true ∧ Q (.bl (if neg then !inV x xs else inV x xs)) H
theorem op_in_seq : OpR X (compareOp .In) (rIn X.K false) := by
  intro pins s σ H x y v u Q I rx ry h
  obtain ⟨p, xs, rfl, hq, fx, fs, q⟩ := h
  cases ry
  rcases hq with hq | hq
  · obtain ⟨its, r, pl, hz⟩ := I.list hq
    refine SeqAt.in_listAt (eqU x) pl.isList (fun w hw => mem_eqAt rx fx r fs w (by simpa using hw)) ⟨.bl _, H, I, rfl, ?_⟩
    rw [show its.toArray.any (eqU x) = its.any (eqU x) by simp, any_eqU r fs]
    exact q
  · obtain ⟨its, r, pl, hz⟩ := I.tuple hq
    refine SeqAt.in_tupleAt (eqU x) pl (fun w hw => mem_eqAt rx fx r fs w (by simpa using hw)) ⟨.bl _, H, I, rfl, ?_⟩
    rw [show its.toArray.any (eqU x) = its.any (eqU x) by simp, any_eqU r fs]
    exact q
theorem op_notIn_seq : OpR X (compareOp .NotIn) (rIn X.K true) := by
  intro pins s σ H x y v u Q I rx ry h
  obtain ⟨p, xs, rfl, hq, fx, fs, q⟩ := h
  cases ry
  rcases hq with hq | hq
  · obtain ⟨its, r, pl, hz⟩ := I.list hq
    refine SeqAt.notIn_listAt (eqU x) pl.isList (fun w hw => mem_eqAt rx fx r fs w (by simpa using hw)) ⟨.bl _, H, I, rfl, ?_⟩
    rw [show its.toArray.any (eqU x) = its.any (eqU x) by simp, any_eqU r fs]
    exact q
  · obtain ⟨its, r, pl, hz⟩ := I.tuple hq
    refine SeqAt.notIn_tupleAt (eqU x) pl (fun w hw => mem_eqAt rx fx r fs w (by simpa using hw)) ⟨.bl _, H, I, rfl, ?_⟩
    rw [show its.toArray.any (eqU x) = its.any (eqU x) by simp, any_eqU r fs]
    exact q
theorem op_notIn_str : OpR X (compareOp .NotIn) (fun x y H Q => ∃ i j, x = .str i ∧ y = .str j ∧ Q (.bl (!(!(Builtin.Str.occurrences j i 0 j.length 1).isEmpty))) H) := by
  intro pins s σ H x y v u Q I rx ry h
  obtain ⟨i, j, rfl, rfl, q⟩ := h
  obtain ⟨t, rfl⟩ := rx
  obtain ⟨t', rfl⟩ := ry
  exact notIn_str ⟨.bl _, H, I, rfl, q⟩

/-! ### len, list(x), tuple(x) of any list or tuple that is read -/
theorem call_len_seq : CallR X (.builtin "len") (fun xs H Q => ∃ p ys, xs = [.ref p] ∧ (SqL X.K H p ys ∨ SqT X.K H p ys) ∧ Q (.int ys.length) H) := by
  intro pins s σ H xs us Q I r h
  obtain ⟨p, ys, rfl, hq, q⟩ := h
  obtain ⟨u, rfl, rx⟩ := vals1 r
  cases rx
  have hn := line63
  rcases hq with hq | hq
  · obtain ⟨its, r', pl, hz⟩ := I.list hq
    have hlen := r'.length
    exact Calls.call_len_list pl.isList (by simp only [List.size_toArray] <;> omega) ⟨.int ys.length, H, I.tok _, ⟨s.toks + 1, by rw [List.size_toArray, hlen]⟩, q⟩
  · obtain ⟨its, r', pl, hz⟩ := I.tuple hq
    have hlen := r'.length
    exact len_tuple pl (by simp only [List.size_toArray] <;> omega) ⟨.int ys.length, H, I.tok _, ⟨s.toks + 1, by rw [List.size_toArray, hlen]⟩, q⟩
theorem call_len_str : CallR X (.builtin "len") (fun xs H Q => ∃ z, xs = [.str z] ∧ z.length ≤ sizeLine ∧ Q (.int z.length) H) := by
  intro pins s σ H xs us Q I r h
  obtain ⟨z, rfl, hz, q⟩ := h
  obtain ⟨u, rfl, t, rfl⟩ := vals1 r
  have hn := line63
  exact len_str (by omega) ⟨.int z.length, H, I.tok _, ⟨_, rfl⟩, q⟩
theorem CallR.or {f : Value} {r r' : List V → Hp → VK → Prop} (h : CallR X f r) (h' : CallR X f r') : CallR X f (fun xs H Q => r xs H Q ∨ r' xs H Q) := by
  intro pins s σ H xs us Q I rs q
  rcases q with q | q
  · exact h pins s σ H xs us Q I rs q
  · exact h' pins s σ H xs us Q I rs q
theorem call_list_of : CallR X (.type "list") (fun xs H Q => ∃ p ys, xs = [.ref p] ∧ (SqL X.K H p ys ∨ SqT X.K H p ys) ∧ ∀ l, H l = none → Q (.ref l) (upd H l (.lst ys))) := by
  intro pins s σ H xs us Q I r h
  obtain ⟨p, ys, rfl, hq, q⟩ := h
  obtain ⟨u, rfl, rx⟩ := vals1 r
  cases rx
  have fin : ∀ (its : List Value), Vals ys its → ys.length ≤ sizeLine → ∀ (h' : Heap) (c' : Nat), (∀ b o', s.heap.get? b = some o' → h'.get? b = some o') →
      h'.get? s.heap.objs.size = some { cls := .type "list", dict := none, data := .seq its.toArray c', slots := #[] } → EP X pins σ Q (.ref s.heap.objs.size) { s with heap := h' } := fun its r' hz h' c' kp e =>
    ⟨.ref s.heap.objs.size, _, I.laid (t' := s.toks) kp (Nat.le_refl _) (show ObjOk X.prog X.w _ h' _ (.lst ys) from ⟨hz, its, c', r', e⟩), rfl, q _ (I.hok.fresh (Nat.le_refl _))⟩
  rcases hq with hq | hq
  · obtain ⟨its, r', pl, hz⟩ := I.list hq
    have hlen := r'.length
    obtain ⟨o, ho, hc, n, hd⟩ := pl.isList
    exact call_list_seq p (.inl rfl) ho hc hd (fun h' c' kp e => fin its r' hz h' c' kp e) (by simp only [List.size_toArray] <;> omega)
  · obtain ⟨its, r', pl, hz⟩ := I.tuple hq
    have hlen := r'.length
    obtain ⟨o, ho, hc, n, hd⟩ := pl
    exact call_list_seq p (.inr rfl) ho hc hd (fun h' c' kp e => fin its r' hz h' c' kp e) (by simp only [List.size_toArray] <;> omega)
theorem call_tuple_of : CallR X (.type "tuple") (fun xs H Q => ∃ p ys, xs = [.ref p] ∧ ((SqL X.K H p ys ∧ ∀ l, H l = none → Q (.ref l) (upd H l (.tup ys))) ∨ (SqT X.K H p ys ∧ Q (.ref p) H))) := by
  intro pins s σ H xs us Q I r h
  obtain ⟨p, ys, rfl, h⟩ := h
  obtain ⟨u, rfl, rx⟩ := vals1 r
  cases rx
  rcases h with ⟨hq, q⟩ | ⟨hq, q⟩
  · obtain ⟨its, r', pl, hz⟩ := I.list hq
    have hlen := r'.length
    refine call_tuple_list pl.isList (fun h' kp => ?_) (by simp only [List.size_toArray] <;> omega)
    have I1 : Inv X pins σ H { s with heap := h' } := I.kept (t' := s.toks) kp
    have I2 : Inv X pins σ (upd H h'.objs.size (.tup ys)) { s with heap := h'.push { cls := .type "tuple", data := .seq its.toArray } } :=
      I1.laid (t' := s.toks) (fun b o e => Heap.get?_push_of_some _ e) (Nat.le_refl _) (show ObjOk X.prog X.w _ _ _ (.tup ys) from ⟨hz, its, r', IsTup.new _ _⟩)
    exact ⟨.ref h'.objs.size, _, I2, rfl, q _ (I1.hok.fresh (Nat.le_refl _))⟩
  · obtain ⟨its, r', pl, hz⟩ := I.tuple hq
    exact call_tuple_same pl ⟨.ref p, H, I, rfl, q⟩

/-! ### the call of a builtin's method: o.m(..) -/
/-- the value is of that builtin type -/
def tyV (K : PySem.W.Frag) (T : String) (x : V) (H : Hp) : Prop := match x with
  | .str _ => T = "str"
  | .int _ => T = "int"
  | .ref p => (T = "list" ∧ ∃ xs, SqL K H p xs) ∨ (T = "tuple" ∧ ∃ o, K.lookup p = some o ∧ o.cls = .type "tuple" ∧ o.dict = none) ∨
      (T = "dict" ∧ ((∃ kvs, H p = some (.dK kvs)) ∨ ∃ kvs, H p = some (.dT kvs))) ∨ (T = "set" ∧ ∃ S n, H p = some (.set S n))
  | _ => False
theorem tyV_is {pins : List (Addr × Obj)} {σ : St} {H : Hp} {s : Shared} {T : String} {x : V} {v : Value} (I : Inv X pins σ H s) (r : RelV x v) (ty : tyV X.K T x H) :
    s.TypeIs v T ∧ ∀ a, v = .ref a → ∃ ob, s.heap.get? a = some ob ∧ ob.dict = none := by
  cases x with
  | str z =>
    obtain ⟨t, rfl⟩ := r
    cases (show T = "str" from ty)
    exact ⟨typeIs_str s z t, fun _ e => nomatch e⟩
  | int i =>
    obtain ⟨t, rfl⟩ := r
    cases (show T = "int" from ty)
    exact ⟨typeIs_int s i t, fun _ e => nomatch e⟩
  | ref p =>
    cases r
    rcases ty with ⟨rfl, xs, hq⟩ | ⟨rfl, o, hk, hc, hd⟩ | ⟨rfl, hk⟩ | ⟨rfl, S, n, hk⟩
    · obtain ⟨its, _, pl, _⟩ := I.list hq
      refine ⟨pl.isList.typeIs, fun a e => ?_⟩
      cases e
      obtain ⟨o, n, e, c, hd, _⟩ := pl
      exact ⟨o, e, hd⟩
    · refine ⟨⟨o, I.kIn p o hk, hc⟩, fun a e => ?_⟩
      cases e
      exact ⟨o, I.kIn _ o hk, hd⟩
    · have z : ∃ o, s.heap.get? p = some o ∧ o.ExactDict := by
        rcases hk with ⟨kvs, hk⟩ | ⟨kvs, hk⟩
        · obtain ⟨_, _, _, _, o, _, _, e, ex, _⟩ := I.hok p _ hk
          exact ⟨o, e, ex⟩
        · obtain ⟨_, _, _, _, o, _, _, e, ex, _⟩ := I.hok p _ hk
          exact ⟨o, e, ex⟩
      obtain ⟨o, e, ex⟩ := z
      refine ⟨⟨o, e, ex.1⟩, fun a e2 => ?_⟩
      cases e2
      exact ⟨o, e, ex.2.1⟩
    · obtain ⟨o, _, _, _, e, ex, _⟩ := I.hok p _ hk
      refine ⟨⟨o, e, ex.1⟩, fun a e2 => ?_⟩
      cases e2
      exact ⟨o, e, ex.2.1⟩
  | _ => exact False.elim ty
def tBM0 (K : PySem.W.Frag) (T : String) (r : V → List V → Hp → VK → Prop) (to : TE) : TE := fun σ H Q => to σ H fun x H1 => tyV K T x H1 ∧ r x [] H1 Q
def tBM (K : PySem.W.Frag) (T : String) (r : V → List V → Hp → VK → Prop) (to : TE) (t : TA) : TE := fun σ H Q => to σ H fun x H1 => tyV K T x H1 ∧ t σ H1 fun xs H2 => r x xs H2 Q
variable {o e : Expr} {es : List Expr} {to : TE} {t : TA} {name : Str} {apos cpos : Pos} {T id : String} {r : V → List V → Hp → VK → Prop}
theorem pe_bm0 (pa : PlainAttrs T) (slot : Slot T name id) (hty : typeOf (.builtin id) = pure (.type "method_descriptor")) (hm : MtR X id r) (ho : PE X o to)
    (hbase : attributeBase o name X.env (eval o X.env) = eval o X.env := by rfl) (hline : (apos.endLine == cpos.line) = true := by rfl) : PE X (.Call (.Attribute o name apos) [] [] cpos) (tBM0 X.K T r to) := by
  intro pins s σ H Q I h
  refine wpAny_Call_method0_late hbase hline (thn (ho pins s σ H _ I h) fun v s1 ⟨x, H1, I1, r1, ty, q1⟩ => ?_)
  obtain ⟨h1, h2⟩ := tyV_is I1 r1 ty
  exact ⟨T, id, pa, slot, hty, h1, h2, Calls.callWith_builtin rfl (PySem.evalArgs_none (hm pins s1 σ H1 x [] v [] Q I1 r1 .nil q1))⟩
theorem pe_bm (pa : PlainAttrs T) (slot : Slot T name id) (hty : typeOf (.builtin id) = pure (.type "method_descriptor")) (hm : MtR X id r) (ho : PE X o to) (ha : PA X (e :: es) t)
    (hbase : attributeBase o name X.env (eval o X.env) = eval o X.env := by rfl)
    (hfew : ((backTo cpos (starEach (e :: es) X.env)).all (fun x => !x.1) && (backToKw cpos (keywordEach [] X.env)).all (fun x => x.1.isSome)
      && decide ((e :: es).length + ([] : List Keyword).length + (if ([] : List Keyword).isEmpty then 0 else 1) < 30)) = true := by rfl)
    (hline : (apos.endLine == cpos.line) = true := by rfl) (hs : starEach (e :: es) X.env = (false, eval e X.env) :: starEach es X.env := by rfl) (hplain : (backTo cpos (starEach es X.env)).any (·.1) = false := by rfl) :
    PE X (.Call (.Attribute o name apos) (e :: es) [] cpos) (tBM X.K T r to t) := by
  intro pins s σ H Q I h
  refine wpAny_Call_method_late hbase hfew hline rfl (thn (ho pins s σ H _ I h) fun v s1 ⟨x, H1, I1, r1, ty, q1⟩ => ?_)
  obtain ⟨h1, h2⟩ := tyV_is I1 r1 ty
  refine ⟨T, id, pa, slot, hty, h1, h2, ?_⟩
  have hA := ha cpos pins s1 σ H1 _ I1 q1
  rw [hs] at hA ⊢
  refine Calls.callWith_builtin (by show (false || (backTo cpos (starEach es X.env)).any (·.1)) = false; rw [hplain] <;> rfl) (Calls.evalArgs_plain ?_)
  exact thn hA fun us s2 ⟨vs, H2, I2, r2, q2⟩ => hm pins s2 σ H2 x vs v us Q I2 r1 r2 q2
/- xs.append(e), list.index on a module's tuple .. are MtR facts of 06m -/
end
end L2

namespace L2
open PySem PySem.Spec PyProof.Rows

def MtM (X : Cx) (id : String) (r : V → List V → Hp → VK → Prop) : Prop :=
  ∀ (pins : List (Addr × Obj)) (s : Shared) (σ : St) (H : Hp) (x : V) (xs : List V) (v : Value) (us : List Value) (Q : VK), Inv X pins σ H s → RelV x v → Vals xs us → r x xs H Q →
    wpAny (model X.prog X.w) X.A (call (.builtin id) (v :: us)) (EP X pins σ Q) X.xe s

/-! ### lists of values -/
theorem Vals.one : ∀ {x : V} {us : List Value}, Vals [x] us → ∃ u, us = [u] ∧ RelV x u
  | _, _, .cons r .nil => ⟨_, rfl, r⟩
theorem Vals.two : ∀ {x y : V} {us : List Value}, Vals [x, y] us → ∃ u v, us = [u, v] ∧ RelV x u ∧ RelV y v
  | _, _, _, .cons r (.cons q .nil) => ⟨_, _, rfl, r, q⟩
theorem Vals.zero : ∀ {us : List Value}, Vals [] us → us = []
  | _, .nil => rfl
theorem Vals.dropLast {xs : List V} {us : List Value} (h : Vals xs us) : Vals xs.dropLast us.dropLast := by
  induction h with
  | nil => exact .nil
  | cons r t ih =>
    cases t with
    | nil => exact .nil
    | cons q t' => exact .cons r ih
theorem Vals.eraseIdx : ∀ {xs : List V} {us : List Value} (i : Nat), Vals xs us → Vals (xs.eraseIdx i) (us.eraseIdx i)
  | _, _, _, .nil => .nil
  | _, _, 0, .cons _ t => t
  | _, _, i + 1, .cons r t => .cons r (Vals.eraseIdx i t)
theorem Vals.reverse {xs : List V} {us : List Value} (h : Vals xs us) : Vals xs.reverse us.reverse := by
  induction h with
  | nil => exact .nil
  | cons r t ih => rw [List.reverse_cons, List.reverse_cons]; exact Vals.append ih (.cons r .nil)
theorem Vals.rep {xs : List V} {us : List Value} (h : Vals xs us) : ∀ k : Nat, Vals (List.replicate k xs).flatten (List.replicate k us).flatten
  | 0 => .nil
  | k + 1 => by
    rw [List.replicate_succ, List.replicate_succ, List.flatten_cons, List.flatten_cons]
    exact Vals.append h (Vals.rep h k)
theorem erase_last {α : Type} (l : List α) : l.eraseIdx (l.length - 1) = l.dropLast := by
  induction l with
  | nil => rfl
  | cons a r ih =>
    cases r with
    | nil => rfl
    | cons b r =>
      have e : (a :: b :: r).length - 1 = ((b :: r).length - 1) + 1 := by
        have h1 : (a :: b :: r).length = r.length + 2 := rfl
        have h2 : (b :: r).length = r.length + 1 := rfl
        omega
      rw [e, List.eraseIdx_cons_succ, ih]
      all_goals rfl
theorem len_erase {α : Type} : ∀ (l : List α) (i : Nat), (l.eraseIdx i).length ≤ l.length
  | [], _ => Nat.le_refl _
  | _ :: _, 0 => Nat.le_succ _
  | _ :: r, i + 1 => Nat.succ_le_succ (len_erase r i)
theorem foldl_rep (its : List Value) : ∀ (k : Nat) (acc : List Value),
    List.foldl (fun x1 x2 => x1 ++ x2) acc.toArray (List.replicate k its.toArray) = (acc ++ (List.replicate k its).flatten).toArray
  | 0, acc => by simp
  | k + 1, acc => by
    have e : acc.toArray ++ its.toArray = (acc ++ its).toArray := by simp
    have e2 : (acc ++ its) ++ (List.replicate k its).flatten = acc ++ (List.replicate (k + 1) its).flatten := by
      rw [List.replicate_succ, List.flatten_cons, List.append_assoc]
    rw [← e2, ← foldl_rep its k (acc ++ its), ← e, List.replicate_succ, List.foldl_cons]

section
variable {X : Cx} {pins : List (Addr × Obj)} {σ : St} {H : Hp} {s : Shared} {l b : Addr} {xs ys zs : List V}

/-! ### the two steps: a tracked list is rewritten, a new list is laid -/
theorem Inv.lset {its its' : List Value} {n : Nat} {f : Array Value → Array Value} {t' : Nat} (I : Inv X pins σ H s) (hH : H l = some (.lst xs))
    (e : s.heap.get? l = some { cls := .type "list", data := .seq its.toArray n }) (hf : f its.toArray = its'.toArray) (hv : Vals ys its') (hz : ys.length ≤ sizeLine) :
    Inv X pins σ (upd H l (.lst ys)) { s with heap := s.heap.update l (Obj.mapSeq f), toks := t' } := by
  have q := PySem.IsL.update e f
  rw [hf] at q
  refine I.write (x := l) (e := l) (by rw [hH]; exact trivial) (.inl rfl) (fun b' u hb hu => (Heap.get?_update_other s.heap (Obj.mapSeq f) (Ne.symm hb)).trans hu) ⟨_, q⟩ ?_
  exact ⟨hz, its', _, hv, q⟩
theorem Inv.lnew {its : List Value} {t' : Nat} (I : Inv X pins σ H s) (hv : Vals ys its) (hz : ys.length ≤ sizeLine) :
    Inv X pins σ (upd H s.heap.objs.size (.lst ys)) { s with heap := s.heap.push { cls := .type "list", data := .seq its.toArray }, toks := t' } :=
  I.laid (fun _ _ q => Heap.get?_push_of_some _ q) (Nat.le_refl _) ⟨hz, its, 0, hv, Heap.get?_push_size _ rfl⟩
theorem Inv.fresh (I : Inv X pins σ H s) : H s.heap.objs.size = none := I.hok.fresh (Nat.le_refl _)
theorem Inv.lstM (I : Inv X pins σ H s) (hH : H l = some (.lst xs)) : xs.length ≤ sizeLine ∧ ∃ (its : List Value) (n : Nat), Vals xs its ∧ xs.length = its.length ∧ s.heap.get? l = some { cls := .type "list", data := .seq its.toArray n } := by
  obtain ⟨z, its, n, r, e⟩ := I.hok l _ hH
  exact ⟨z, its, n, r, r.length, e⟩

theorem notLongL {n : Nat} (h : n ≤ sizeLine) : Builtin.List.listTooLong n = false := by
  unfold Builtin.List.listTooLong
  exact decide_eq_false (by omega)
end

section
variable {X : Cx}

/-! ### methods -/
def rAppend : V → List V → Hp → VK → Prop := fun x vs H Q => ∃ l xs y, x = .ref l ∧ vs = [y] ∧ H l = some (.lst xs) ∧ xs.length < sizeLine ∧ Q .non (upd H l (.lst (xs ++ [y])))
theorem mt_append : MtM X "list.append" rAppend := by
  intro pins s σ H x vs v us Q I rx rv h
  obtain ⟨l, xs, y, rfl, rfl, hH, hz, q⟩ := h
  cases rx
  obtain ⟨u, rfl, ru⟩ := rv.one
  obtain ⟨z, its, n, r, hl, e⟩ := I.lstM hH
  refine call_meets F.slot_list_append ⟨_, e, rfl⟩ F.entry_list_append (F.args_list_append_2 _ _) (PySem.list_append l its.toArray n u (by rw [List.size_toArray]; omega)) ⟨e, ?_⟩
  refine ⟨.non, _, I.lset (its' := its ++ [u]) hH e (by simp) (r.append (.cons ru .nil)) ?_, rfl, q⟩
  rw [List.length_append, List.length_singleton]
  omega

def rExtend : V → List V → Hp → VK → Prop := fun x vs H Q => ∃ l b xs zs, x = .ref l ∧ vs = [.ref b] ∧ H l = some (.lst xs) ∧ H b = some (.lst zs) ∧ xs.length + zs.length ≤ sizeLine ∧ Q .non (upd H l (.lst (xs ++ zs)))
theorem mt_extend : MtM X "list.extend" rExtend := by
  intro pins s σ H x vs v us Q I rx rv h
  obtain ⟨l, b, xs, zs, rfl, rfl, hH, hB, hz, q⟩ := h
  cases rx
  obtain ⟨u, rfl, ru⟩ := rv.one
  cases ru
  obtain ⟨z, its, n, r, hl, e⟩ := I.lstM hH
  obtain ⟨z2, its2, n2, r2, hl2, e2⟩ := I.lstM hB
  have hsz : its.toArray.size + its2.toArray.size ≤ sizeLine := by rw [List.size_toArray, List.size_toArray]; omega
  have hlong : ¬ (!its.toArray.isEmpty && Builtin.List.listTooLong (its.toArray.size + its2.toArray.size)) = true := by
    rw [notLongL hsz, Bool.and_false]
    exact Bool.false_ne_true
  refine call_meets F.slot_list_extend ⟨_, e, rfl⟩ F.entry_list_extend (F.args_list_extend_2 _ _)
    (AutoSeq1.list_extend_list_list_0 l its.toArray n b its2.toArray n2 hlong (by rw [List.size_toArray]; omega) (by omega)) ⟨e, e2, ?_⟩
  refine ⟨.non, _, I.lset (its' := its ++ its2) hH e (by simp) (r.append r2) ?_, rfl, q⟩
  rw [List.length_append]
  omega

def rPop : V → List V → Hp → VK → Prop := fun x vs H Q => ∃ l xs y, x = .ref l ∧ vs = [] ∧ H l = some (.lst xs) ∧ xs[xs.length - 1]? = some y ∧ Q y (upd H l (.lst xs.dropLast))
theorem mt_pop : MtM X "list.pop" rPop := by
  intro pins s σ H x vs v us Q I rx rv h
  obtain ⟨l, xs, y, rfl, rfl, hH, hy, q⟩ := h
  cases rx
  have hus := rv.zero
  subst hus
  obtain ⟨z, its, n, r, hl, e⟩ := I.lstM hH
  obtain ⟨u, hu, ru⟩ := r.get hy
  have hy' : its.toArray[its.toArray.size - 1]? = some u := by
    show its.toArray[its.length - 1]? = some u
    rw [← Array.getElem?_toList, ← hl]
    exact hu
  refine call_meets F.slot_list_pop ⟨_, e, rfl⟩ F.entry_list_pop (F.args_list_pop_1 _) (MeetsSeq.list_pop_last l its.toArray n u hy' (by rw [List.size_toArray]; omega)) ⟨e, ?_⟩
  refine ⟨y, _, I.lset (its' := its.dropLast) hH e ?_ r.dropLast ?_, ru, q⟩
  · show its.toArray.eraseIdxIfInBounds (its.toArray.size - 1) = its.dropLast.toArray
    rw [List.size_toArray, List.eraseIdxIfInBounds_toArray, erase_last]
  · rw [List.length_dropLast]
    omega

def rPopAt : V → List V → Hp → VK → Prop := fun x vs H Q => ∃ l xs i k y, x = .ref l ∧ vs = [.int i] ∧ H l = some (.lst xs) ∧ -(2 ^ 63) ≤ i ∧ i < 2 ^ 63 ∧ seqIndex? i xs.length = some k ∧ xs[k]? = some y ∧ Q y (upd H l (.lst (xs.eraseIdx k)))
theorem mt_popAt : MtM X "list.pop" rPopAt := by
  intro pins s σ H x vs v us Q I rx rv h
  obtain ⟨l, xs, i, k, y, rfl, rfl, hH, h1, h2, hk, hy, q⟩ := h
  cases rx
  obtain ⟨u, rfl, ru⟩ := rv.one
  obtain ⟨t, rfl⟩ := ru
  obtain ⟨z, its, n, r, hl, e⟩ := I.lstM hH
  obtain ⟨w, hw, rw'⟩ := r.get hy
  refine call_meets F.slot_list_pop ⟨_, e, rfl⟩ F.entry_list_pop (F.args_list_pop_2 _ _)
    (MeetsSeq.list_pop_at l its.toArray n i t k w (fitsIndex_both h1 h2) (by rw [List.size_toArray, ← hl]; exact hk) (by rw [← Array.getElem?_toList]; exact hw) (by rw [List.size_toArray]; omega)) ⟨e, ?_⟩
  refine ⟨y, _, I.lset (its' := its.eraseIdx k) hH e ?_ (r.eraseIdx k) ?_, rw', q⟩
  · show its.toArray.eraseIdxIfInBounds k = (its.eraseIdx k).toArray
    rw [List.eraseIdxIfInBounds_toArray]
  · have := len_erase xs k
    omega

def rReverse : V → List V → Hp → VK → Prop := fun x vs H Q => ∃ l xs, x = .ref l ∧ vs = [] ∧ H l = some (.lst xs) ∧ Q .non (upd H l (.lst xs.reverse))
theorem mt_reverse : MtM X "list.reverse" rReverse := by
  intro pins s σ H x vs v us Q I rx rv h
  obtain ⟨l, xs, rfl, rfl, hH, q⟩ := h
  cases rx
  have hus := rv.zero
  subst hus
  obtain ⟨z, its, n, r, hl, e⟩ := I.lstM hH
  refine call_meets F.slot_list_reverse ⟨_, e, rfl⟩ F.entry_list_reverse (F.args_list_reverse_1 _) (AutoSeq1.list_reverse_list_0 l its.toArray n (by rw [List.size_toArray]; omega)) ⟨e, ?_⟩
  refine ⟨.non, _, I.lset (its' := its.reverse) hH e (by simp) r.reverse ?_, rfl, q⟩
  rw [List.length_reverse]
  omega

def rClear : V → List V → Hp → VK → Prop := fun x vs H Q => ∃ l xs, x = .ref l ∧ vs = [] ∧ H l = some (.lst xs) ∧ Q .non (upd H l (.lst []))
theorem mt_clear : MtM X "list.clear" rClear := by
  intro pins s σ H x vs v us Q I rx rv h
  obtain ⟨l, xs, rfl, rfl, hH, q⟩ := h
  cases rx
  have hus := rv.zero
  subst hus
  obtain ⟨z, its, n, r, hl, e⟩ := I.lstM hH
  refine call_meets F.slot_list_clear ⟨_, e, rfl⟩ F.entry_list_clear (F.args_list_clear_1 _) (AutoSeq1.list_clear_list_0 l its.toArray n (by rw [List.size_toArray]; omega)) ⟨e, ?_⟩
  exact ⟨.non, _, I.lset (its' := []) (ys := []) hH e rfl .nil (Nat.zero_le _), rfl, q⟩

/-! ### list + list, list += list, list * int -/
def rCat : R2 := fun x y H Q => ∃ l b xs zs, x = .ref l ∧ y = .ref b ∧ H l = some (.lst xs) ∧ H b = some (.lst zs) ∧ xs.length + zs.length ≤ sizeLine ∧ ∀ p, H p = none → Q (.ref p) (upd H p (.lst (xs ++ zs)))
theorem op_cat : OpR X (binaryOp .Add) rCat := by
  intro pins s σ H x y v u Q I rx ry h
  obtain ⟨l, b, xs, zs, rfl, rfl, hH, hB, hz, q⟩ := h
  cases rx
  cases ry
  obtain ⟨z, its, n, r, hl, e⟩ := I.lstM hH
  obtain ⟨z2, its2, n2, r2, hl2, e2⟩ := I.lstM hB
  refine PySem.P.add_list e e2 ?_ (by rw [List.size_toArray, List.size_toArray]; omega)
  have ea : its.toArray ++ its2.toArray = (its ++ its2).toArray := by simp
  rw [ea]
  exact ⟨.ref _, _, I.lnew (t' := s.toks) (r.append r2) (by rw [List.length_append]; omega), rfl, q _ I.fresh⟩
/-- a list times an int (a negative one is nothing) -/
def rRep : R2 := fun x y H Q => ∃ l k xs, x = .ref l ∧ y = .int k ∧ H l = some (.lst xs) ∧ -(2 ^ 63) ≤ k ∧ k < 2 ^ 63 ∧ xs.length * k.toNat ≤ sizeLine ∧
  ∀ p, H p = none → Q (.ref p) (upd H p (.lst (List.replicate k.toNat xs).flatten))
theorem len_rep {α : Type} (xs : List α) (k : Nat) : (List.replicate k xs).flatten.length = k * xs.length := by
  induction k with
  | zero => simp
  | succ k ih => rw [List.replicate_succ, List.flatten_cons, List.length_append, ih, Nat.succ_mul, Nat.add_comm]
theorem op_rep : OpR X (binaryOp .Mult) rRep := by
  intro pins s σ H x y v u Q I rx ry h
  obtain ⟨l, k, xs, rfl, rfl, hH, h1, h2, hz, q⟩ := h
  cases rx
  obtain ⟨t, rfl⟩ := ry
  obtain ⟨z, its, n, r, hl, e⟩ := I.lstM hH
  have hlen : its.toArray.size * k.toNat ≤ sizeLine := by rw [List.size_toArray, ← hl]; exact hz
  have hcap : ¬ its.toArray.size * k.toNat > (2 ^ 63 - 1) / 8 := by
    have : (sizeLine : Nat) ≤ (2 ^ 63 - 1) / 8 := by decide
    omega
  have hfit : ¬ (!Builtin.List.listFitsIndex k) = true := by
    rw [fitsIndex_both h1 h2]
    exact Bool.false_ne_true
  have hlong : ¬ Builtin.List.listTooLong (its.toArray.size * k.toNat) = true := by
    rw [notLongL hlen]
    exact Bool.false_ne_true
  have hnew : List.foldl (fun x1 x2 => x1 ++ x2) #[] (List.replicate (if its.toArray.isEmpty = true then 0 else k.toNat) its.toArray) = (List.replicate k.toNat its).flatten.toArray := by
    have f0 : ∀ m : Nat, List.foldl (fun x1 x2 => x1 ++ x2) #[] (List.replicate m its.toArray) = (List.replicate m its).flatten.toArray := fun m => by
      have := foldl_rep its m []
      rw [List.nil_append] at this
      exact this
    rw [f0]
    cases its with
    | nil => simp
    | cons a r' => rw [if_neg (by simp)]
  refine wpAny_binaryOp_repeat_ref (T := "list") (U := "int") (by decide) ⟨_, e, rfl⟩ (fun s' => typeIs_int s' k t) noFill_list_mul F.fills_int_mul F.slot_int_rmul repeat_list F.slot_int_index.lookup
    (call_meets F.slot_int_rmul (typeIs_int s k t) F.entry_int_rmul (F.args_int_rmul_2 _ _) (int___rmul___int_list k t l its.toArray n)
      ⟨e, rfl, ⟨_, e, rfl⟩, call_meets F.slot_list_mul ⟨_, e, rfl⟩ F.entry_list_mul (F.args_list_mul_2 _ _) (AutoListH.list___mul___list_int_3 l its.toArray n k t hfit hcap hlong) ⟨e, ?_⟩⟩)
  rw [hnew]
  exact ⟨.ref _, _, I.lnew (t' := s.toks) (r.rep k.toNat) (by rw [len_rep, Nat.mul_comm]; exact hz), rfl, q _ I.fresh⟩

/-! ### del xs[i] -/
theorem del_list {pins : List (Addr × Obj)} {s : Shared} {σ : St} {H : Hp} {l : Addr} {xs : List V} {i : Int} {t : Tok} {k : Nat} {Q : Unit → Shared → Prop} (I : Inv X pins σ H s) (hH : H l = some (.lst xs))
    (h1 : -(2 ^ 63) ≤ i) (h2 : i < 2 ^ 63) (hk : seqIndex? i xs.length = some k) (h : ∀ s', Inv X pins σ (upd H l (.lst (xs.eraseIdx k))) s' → Q () s') :
    wpAny (model X.prog X.w) X.A (delItem (.ref l) (.int i t)) Q X.xe s := by
  obtain ⟨z, its, n, r, hl, e⟩ := I.lstM hH
  refine PySem.P.delItem_list (k := k) e (fitsIndex_both h1 h2) (by rw [List.size_toArray, ← hl]; exact hk) (h _ ?_) (by rw [List.size_toArray]; omega)
  refine I.lset (its' := its.eraseIdx k) (t' := s.toks) hH e ?_ (r.eraseIdx k) ?_
  · show its.toArray.eraseIdxIfInBounds k = (its.eraseIdx k).toArray
    rw [List.eraseIdxIfInBounds_toArray]
  · have := len_erase xs k
    omega
end

/-! ### xs[a:b] = ys -/
section
variable {prog : Program} {w : World} {A : Around} {E : Value → Shared → Prop} {s : Shared}
theorem splice_eq (its its2 : List Value) (a c : Nat) : its.toArray.extract 0 a ++ its2.toArray ++ its.toArray.extract c its.toArray.size = (its.take a ++ its2 ++ its.drop c).toArray := by
  apply Array.toList_inj.mp
  first
    | (simp
       exact List.take_of_length_le (by simp))
    | simp [List.take_of_length_le]
    | simp
theorem bounds_run {a c n : Nat} (hac : a ≤ c) (hc : c ≤ n) : sliceBounds (some (a : Int)) (some (c : Int)) none n = ((a : Int), (c : Int), 1) := by
  simp only [sliceBounds, Option.getD_none]
  have h1 : ¬ ((a : Int) < 0) := by omega
  have h2 : ¬ ((c : Int) < 0) := by omega
  simp only [h1, h2, if_false, show (1 : Int) > 0 by decide, if_true]
  congr 1
  · omega
  · congr 1; omega
set_option maxRecDepth 100000 in
/-- list.__setitem__ with a slice of step one and another list -/
theorem setItem_slice {l b sl : Addr} {items new : Array Value} {n n2 : Nat} {vl vu : Value} {a c : Nat} {Q : Unit → Shared → Prop}
    (e : s.heap.get? l = some { cls := .type "list", data := .seq items n }) (e2 : s.heap.get? b = some { cls := .type "list", data := .seq new n2 }) (hne : l ≠ b)
    (hs : s.heap.IsSliceOf sl vl vu .none) (pl : IsPart vl (some (a : Int))) (pu : IsPart vu (some (c : Int))) (hac : a ≤ c) (hc : c ≤ items.size)
    (hsz : items.size + new.size ≤ sizeLine) (h : Q () { s with heap := s.heap.update l (Obj.mapSeq fun xs => xs.extract 0 a ++ new ++ xs.extract c xs.size) }) :
    wpAny (model prog w) A (setItem (.ref l) (.ref sl) (.ref b)) Q E s := by
  have hl : s.heap.IsList l items := PySem.IsL.isList e
  have hb : s.heap.IsList b new := PySem.IsL.isList e2
  obtain ⟨os, hos, hcs, hds⟩ := id hs
  have hTs : s.TypeIs (.ref sl) "slice" := ⟨os, hos, hcs⟩
  have hstep : ¬ ((rawPart none == rawInt 0) = true) := Bool.false_ne_true
  have hsame : Builtin.List.listSameRef (.ref l) (.ref b) = false := by
    unfold Builtin.List.listSameRef
    exact beq_eq_false_iff_ne.mpr hne
  have hmax : (max (a : Int) (c : Int)).toNat = c := by omega
  have hz' : ((fun xs : Array Value => xs.extract 0 a ++ new ++ xs.extract c xs.size) items).size ≤ sizeLine + 1 := by
    simp only [Array.size_append, Array.size_extract]
    omega
  unfold setItem
  try with_reducible refine wpAny_holding ?_
  first | refine wpAny_bind (wpAny_pure ?_) | skip
  refine wpAny_bind (wpAny_sequenceKey hl.typeIs (by decide) ?_)
  refine wpAny_bind (wpAny_callSpecial?_slot (name := Str.ofString "__setitem__") hl.typeIs slot_list_setitem
    (wpAny_call_entry slot_list_setitem hl.typeIs entry_list_setitem ?_ (args_list_setitem _ _ _)))
  show wpAny _ _ (Builtin.List.listSubscript? (.ref sl) >>= _) _ _ s
  refine wpAny_bind ?_
  unfold Builtin.List.listSubscript?
  refine wpAny_bind (wpAny_specialOf hTs slice_no_index ?_)
  simp only [Option.isNone_none, if_true]
  refine wpAny_pure ?_
  show wpAny _ _ (typeOf (.ref sl) >>= _) _ _ s
  refine wpAny_bind (wpAny_typeOf hTs ?_)
  first
    | rw [if_neg (by decide)]
    | refine PySem.W.KFB.if_not (by decide) ?_
  rw [listSliceParts_eq]
  refine wpAny_bind (wpAny_bind (wpAny_field hos hds (x := .none) rfl (wpAny_bind (wpAny_listPart .none ?_))))
  rw [if_neg hstep]
  refine wpAny_bind (wpAny_field hos hds (x := vl) rfl (wpAny_bind (wpAny_listPart pl ?_)))
  refine wpAny_bind (wpAny_field hos hds (x := vu) rfl (wpAny_bind (wpAny_listPart pu (wpAny_pure ?_))))
  first
    | simp only [hsame, Bool.false_eq_true, if_false]
    | refine PySem.W.KFB.if_not hsame ?_
    | (dsimp only
       rw [if_neg (by rw [hsame]; exact Bool.false_ne_true)])
  refine wpAny_bind (m := Builtin.List.listAllItems (.ref b) "must assign iterable to extended slice") ?_
  unfold Builtin.List.listAllItems
  refine wpAny_bind (wpAny_typeOf hb.typeIs ?_)
  first
    | refine PySem.W.KFB.if_so (by decide) ?_
    | rw [if_pos (by decide)]
    | simp only [beq_self_eq_true, Bool.true_or, if_true]
  unfold Builtin.List.listItems
  refine wpAny_bind (wpAny_seqItems e2 rfl (wpAny_pure ?_))
  refine wpAny_bind (wpAny_bind (wpAny_seqItems e rfl (wpAny_pure ?_)))
  refine wpAny_bind (wpAny_of_eq ((sliceIndices_raw (some (a : Int)) (some (c : Int)) none items.size (by simp)).trans (congrArg (pure : Int × Int × Int → Sem (Int × Int × Int)) (bounds_run hac hc))) ?_)
  show wpAny _ _ (if ((1 : Int) == 1) = true then _ else _) _ _ s
  rw [if_pos (by decide)]
  refine wpAny_bind (wpAny_rule ?_)
  first
    | simp only [notLongL hsz, Bool.false_eq_true, if_false]
    | refine PySem.W.KFB.if_not (notLongL hsz) ?_
  first | refine wpAny_bind (wpAny_pure ?_) | skip
  show wpAny _ _ (updateSeq l (fun xs => xs.extract 0 ((a : Int)).toNat ++ new ++ xs.extract (max (a : Int) (c : Int)).toNat xs.size) >>= _) _ _ s
  rw [hmax, Int.toNat_natCast]
  refine wpAny_bind (wpAny_updateSeq (hz := Nat.le_trans (Nat.le_add_right _ _) hsz) (_hz' := hz') e rfl ?_)
  refine wpAny_bind (wpAny_letGo ?_)
  first
    | exact wpAny_bind (wpAny_pure (wpAny_pure ⟨.none, rfl, wpAny_pure h⟩))
    | exact wpAny_pure ⟨.none, rfl, wpAny_pure h⟩
end

section
variable {X : Cx}
/-- xs[a:c] = ys of another list, at the value level: sl is the slice object that was just made -/
theorem set_slice {pins : List (Addr × Obj)} {s : Shared} {σ : St} {H : Hp} {l b sl : Addr} {xs ys : List V} {a c : Int} {vl vu : Value} {Q : Unit → Shared → Prop} (I : Inv X pins σ H s)
    (hH : H l = some (.lst xs)) (hB : H b = some (.lst ys)) (hne : l ≠ b) (hs : s.heap.IsSliceOf sl vl vu .none) (ra : RelV (.int a) vl) (rc : RelV (.int c) vu) (h0 : 0 ≤ a) (hac : a ≤ c) (hc : c ≤ xs.length)
    (hz : xs.length + ys.length ≤ sizeLine) (h : ∀ s', Inv X pins σ (upd H l (.lst (xs.take a.toNat ++ ys ++ xs.drop c.toNat))) s' → Q () s') :
    wpAny (model X.prog X.w) X.A (setItem (.ref l) (.ref sl) (.ref b)) Q X.xe s := by
  obtain ⟨ta, rfl⟩ := ra
  obtain ⟨tc, rfl⟩ := rc
  obtain ⟨z, its, n, r, hl, e⟩ := I.lstM hH
  obtain ⟨z2, its2, n2, r2, hl2, e2⟩ := I.lstM hB
  obtain ⟨a', rfl⟩ := Int.eq_ofNat_of_zero_le h0
  obtain ⟨c', rfl⟩ := Int.eq_ofNat_of_zero_le (Int.le_trans h0 hac)
  simp only [Int.toNat_natCast] at h
  refine setItem_slice (a := a') (c := c') e e2 hne hs (.int _ _) (.int _ _) (by omega) (by rw [List.size_toArray]; omega) (by rw [List.size_toArray, List.size_toArray]; omega) (h _ ?_)
  refine I.lset (its' := its.take a' ++ its2 ++ its.drop c') (t' := s.toks) hH e ?_ (Vals.append (Vals.append (r.take _) r2) (r.drop _)) ?_
  · exact splice_eq its its2 a' c'
  · rw [List.length_append, List.length_append, List.length_take, List.length_drop]
    omega
end
end L2

namespace Att
open PySem PySem.W PySem.Calls PyProof.Rows

/-! ### the script -/
theorem ints_of_wellAll {P : Params} {h : Heap} : ∀ (ns : List Int) (vs : List Value), WellAll P h vs (ns.map WData.int) → IntsAre vs ns := by
  intro ns
  induction ns with
  | nil =>
    intro vs w
    rw [List.map_nil] at w
    cases w
    exact .nil
  | cons n ns ih =>
    intro vs w
    rw [List.map_cons] at w
    cases w with
    | cons a b =>
      cases a
      exact .cons _ _ (ih _ b)

theorem script_of {l : OpenLaw} {n : Nat} (hn : l.most = some n) {P : Params} {h : Heap} {args : List WData} {vals : List Value}
    (hpre : l.row.toRowW.claim.pre args = true) (hwl : WellAll P h vals args) :
    ∃ a vs ns, vals = [Value.ref a] ∧ args = [WData.list (ns.map WData.int)] ∧ h.get? a = some { cls := .type "list", data := .seq vs.toArray } ∧ IntsAre vs ns ∧ ns.length ≤ n := by
  have hsh : WShape.hasAll [] args [.list .int] = true := (pre_splitW hpre).1
  have hc : l.pre.holds [] { args := args } = true := (pre_splitW hpre).2
  obtain ⟨d, r, rfl, h1, h2⟩ := hasAllW_cons hsh
  obtain rfl := hasAllW_nil h2
  obtain ⟨xs, rfl, h3⟩ := hasW_list h1
  obtain ⟨ns, rfl⟩ := items_int h3
  have hlen : ns.length ≤ n := by
    unfold OpenLaw.pre at hc
    have h4 : (WTm.not (.lt (.lit (.int (n : Int))) (.len (.arg 0)))).holds [] { args := [.list (ns.map .int)] } = true := by
      have h4 := (holds_andW hc).1
      rw [hn] at h4
      exact h4
    have h5 := condW_of h4 (w_not (w_lt w_lit (w_len_list (w_arg rfl))))
    rw [List.length_map] at h5
    refine Nat.le_of_not_lt fun q => ?_
    have q' : (n : Int) < ((ns.length : Nat) : Int) := by omega
    first
      | (rw [decide_eq_true q'] at h5; exact absurd h5 (by decide))
      | (simp at h5; omega)
  cases hwl with
  | cons w1 w2 =>
    cases w2
    cases w1 with
    | list ho hall => exact ⟨_, _, ns, rfl, rfl, ho, ints_of_wellAll ns _ hall, hlen⟩

theorem post_true (l : OpenLaw) (args : List WData) : l.row.toRowW.claim.post args (.bool true) args = true :=
  postW_of (r := l.row.toRowW) (X := (true == true))
    (show WShape.has [] (.bool true) .bool = true by first | rfl | decide | simp [WShape.has, WShape.arms, WShape.armsAll])
    (show (WTm.eq .res (.lit (.bool true))).value [] { args := args, res := some (.bool true), after := args } = some (.bool (true == true)) from w_eq_bool (w_res rfl) w_lit) rfl

/-! ### the attachment: holds_open's last premise (the goal 'hc' behind k_head) from a wpAny of the law's body -/
theorem attach {l : OpenLaw} {n : Nat} {q : Program} {loose : List Str} {XP : (Str → Option Value) → Heap → Prop} {YP : World → Heap → Prop} {d : DefRec} {x : Str}
    (hn : l.most = some n) (hdf : d.params.defaults = [])
    (hbind : ∀ pm cd doc v : Value, bindArgs (docDef d.name d.params d.body d.scope pm cd doc) ⟨[v], []⟩ = pure [(x, v)])
    (hx : d.scope.names.lookup x = some .local ∨ d.scope.names.lookup x = some .cell)
    (hk : d.scope.kind = .function) (hco : d.scope.isCoroutine = false) (hgen : d.scope.isGenerator = false)
    (body : ∀ (w : World) (s₀ s₁ s : Shared) (mg mb : Str → Option Value) (fa : Addr) (o : Obj) (pm cd doc : Value) (a : Addr) (vs : List Value) (ns : List Int),
      Ground q loose [] XP w s₀ mg mb s₁.heap → YP w s₁.heap →
      s₁.heap.get? fa = some o → o.data = .func (docDef d.name d.params d.body d.scope pm cd doc) → s₁.heap.CodeRec cd d.name → mg d.name = some (.ref fa) →
      s₁.heap.get? a = some { cls := .type "list", data := .seq vs.toArray } → IntsAre vs ns → ns.length ≤ n →
      s.gens = #[] → s.os = s₁.os →
      Fr s₁.heap s₁.heap.objs.size s.heap (bindL (envOfC d.name d.scope s₁.heap.objs.size fa cd).kindOf [(x, .ref a)] fun _ => none) →
      Cl s₁.heap.objs.size (cellsFrom (s₁.heap.objs.size + 1) d.scope.names []) s.heap (bindC (envOfC d.name d.scope s₁.heap.objs.size fa cd).kindOf [(x, .ref a)] fun _ => none) →
      wpAny (model l.prog w) (callerA.deeper (envOfC d.name d.scope s₁.heap.objs.size fa cd)) (execs d.body (envOfC d.name d.scope s₁.heap.objs.size fa cd))
        (fun f s' => f = .ret (.bool true) ∧ OldK s₁.heap s'.heap ∧ s'.os = s₁.os ∧ AllBare s'.gens) (fun _ _ => False) s) :
    WalkO q loose XP YP l.row.toRowW d [] (fun f vs => PySem.call f vs) := by
  intro w s₀ s₁ mg mb G Y fa o pm cd doc dV kV ho hd hcd hD hmg hg args vals as hpre hlay hrd hwl hlo
  obtain rfl : dV = .none := Dflts.none hD hdf
  obtain rfl : kV = .none := Dflts.noKw hD
  obtain ⟨a, vs, ns, rfl, rfl, hobj, hints, hlen⟩ := script_of hn hpre hwl
  refine enter_call ?_
  refine call_cells_ret (o := o) (by rw [depth_caller]; decide) ho (fd_plain hd) G.T.nolimit hcd (hbind pm cd doc (.ref a)) (fun y hy => ?_) (fun h₁ tk F X => ?_) hco hgen hk
  · obtain rfl : y = (x, Value.ref a) := List.mem_singleton.mp hy
    rcases hx with e | e
    · exact .inl e
    · exact .inr ⟨e, cellsFrom_some _ _ _ (.inl e)⟩
  · refine wpAny_mono (body w s₀ s₁ { s₁ with heap := h₁, toks := tk } mg mb fa o pm cd doc a vs ns G Y ho (fd_plain hd) hcd hmg hobj hints hlen hg rfl F X) (fun f s' hq => ?_) (fun _ _ hq => hq)
    obtain ⟨rfl, h2, h3, h4⟩ := hq
    exact ⟨.inl ⟨.bool true, .bool true, [], rfl, fun _ => rfl, .bool true, post_true l _, fun _ => ⟨List.Pairwise.nil, fun _ hm => (nomatch hm)⟩⟩, h2, h3, h4⟩

/-- the same from a codeAny of the CALL (for a layer whose function contracts speak of calls) -/
theorem attach_call {l : OpenLaw} {n : Nat} {q : Program} {loose : List Str} {XP : (Str → Option Value) → Heap → Prop} {YP : World → Heap → Prop} {d : DefRec}
    (hn : l.most = some n) (hdf : d.params.defaults = [])
    (call : ∀ (w : World) (s₀ s₁ : Shared) (mg mb : Str → Option Value) (fa : Addr) (o : Obj) (pm cd doc : Value) (a : Addr) (vs : List Value) (ns : List Int),
      Ground q loose [] XP w s₀ mg mb s₁.heap → YP w s₁.heap →
      s₁.heap.get? fa = some o → o.data = .func (docDef d.name d.params d.body d.scope pm cd doc) → s₁.heap.CodeRec cd d.name → mg d.name = some (.ref fa) →
      s₁.heap.get? a = some { cls := .type "list", data := .seq vs.toArray } → IntsAre vs ns → ns.length ≤ n → s₁.gens = #[] →
      codeAny (model l.prog w) callerA (.call (.ref fa) ⟨[.ref a], []⟩) (fun r s' => r = .ok (.ret (.bool true)) ∧ OldK s₁.heap s'.heap ∧ s'.os = s₁.os ∧ AllBare s'.gens) s₁) :
    WalkO q loose XP YP l.row.toRowW d [] (fun f vs => PySem.call f vs) := by
  intro w s₀ s₁ mg mb G Y fa o pm cd doc dV kV ho hd hcd hD hmg hg args vals as hpre hlay hrd hwl hlo
  obtain rfl : dV = .none := Dflts.none hD hdf
  obtain rfl : kV = .none := Dflts.noKw hD
  obtain ⟨a, vs, ns, rfl, rfl, hobj, hints, hlen⟩ := script_of hn hpre hwl
  refine enter_call (codeAny_mono (call w s₀ s₁ mg mb fa o pm cd doc a vs ns G Y ho (fd_plain hd) hcd hmg hobj hints hlen hg) fun r s' hq => ?_)
  obtain ⟨rfl, h2, h3, h4⟩ := hq
  exact ⟨.inl ⟨.bool true, .bool true, [], rfl, fun _ => rfl, .bool true, post_true l _, fun _ => ⟨List.Pairwise.nil, fun _ hm => (nomatch hm)⟩⟩, h2, h3, h4⟩

/-- the same where the top left finished generators (o_head chose holds_openN): nothing may have changed at all and no generator may be left -/
theorem attachN {l : OpenLaw} {n : Nat} {q : Program} {loose : List Str} {XP : (Str → Option Value) → Heap → Prop} {YP : World → Heap → Prop} {d : DefRec} {x : Str}
    (hn : l.most = some n) (hdf : d.params.defaults = [])
    (hbind : ∀ pm cd doc v : Value, bindArgs (docDef d.name d.params d.body d.scope pm cd doc) ⟨[v], []⟩ = pure [(x, v)])
    (hx : d.scope.names.lookup x = some .local ∨ d.scope.names.lookup x = some .cell)
    (hk : d.scope.kind = .function) (hco : d.scope.isCoroutine = false) (hgen : d.scope.isGenerator = false)
    (body : ∀ (w : World) (s₀ s₁ s : Shared) (mg mb : Str → Option Value) (fa : Addr) (o : Obj) (pm cd doc : Value) (a : Addr) (vs : List Value) (ns : List Int),
      Ground q loose [] XP w s₀ mg mb s₁.heap → YP w s₁.heap →
      s₁.heap.get? fa = some o → o.data = .func (docDef d.name d.params d.body d.scope pm cd doc) → s₁.heap.CodeRec cd d.name → mg d.name = some (.ref fa) →
      s₁.heap.get? a = some { cls := .type "list", data := .seq vs.toArray } → IntsAre vs ns → ns.length ≤ n →
      s.gens = #[] → s.os = s₁.os →
      Fr s₁.heap s₁.heap.objs.size s.heap (bindL (envOfC d.name d.scope s₁.heap.objs.size fa cd).kindOf [(x, .ref a)] fun _ => none) →
      Cl s₁.heap.objs.size (cellsFrom (s₁.heap.objs.size + 1) d.scope.names []) s.heap (bindC (envOfC d.name d.scope s₁.heap.objs.size fa cd).kindOf [(x, .ref a)] fun _ => none) →
      wpAny (model l.prog w) (callerA.deeper (envOfC d.name d.scope s₁.heap.objs.size fa cd)) (execs d.body (envOfC d.name d.scope s₁.heap.objs.size fa cd))
        (fun f s' => f = .ret (.bool true) ∧ (∀ b o, s₁.heap.get? b = some o → s'.heap.get? b = some o) ∧ s'.os = s₁.os ∧ s'.gens = #[]) (fun _ _ => False) s) :
    WalkN q loose XP YP l.row.toRowW d [] (fun f vs => PySem.call f vs) := by
  intro w s₀ s₁ mg mb G Y fa o pm cd doc dV kV ho hd hcd hD hmg hg args vals as hpre hlay hrd hwl hlo
  obtain rfl : dV = .none := Dflts.none hD hdf
  obtain rfl : kV = .none := Dflts.noKw hD
  obtain ⟨a, vs, ns, rfl, rfl, hobj, hints, hlen⟩ := script_of hn hpre hwl
  refine enter_callW ?_
  refine call_cells_ret (o := o) (by rw [depth_caller]; decide) ho (fd_plain hd) G.T.nolimit hcd (hbind pm cd doc (.ref a)) (fun y hy => ?_) (fun h₁ tk F X => ?_) hco hgen hk
  · obtain rfl : y = (x, Value.ref a) := List.mem_singleton.mp hy
    rcases hx with e | e
    · exact .inl e
    · exact .inr ⟨e, cellsFrom_some _ _ _ (.inl e)⟩
  · refine wpAny_mono (body w s₀ s₁ { s₁ with heap := h₁, toks := tk } mg mb fa o pm cd doc a vs ns G Y ho (fd_plain hd) hcd hmg hobj hints hlen hg rfl F X) (fun f s' hq => ?_) (fun _ _ hq => hq)
    obtain ⟨rfl, h2, h3, h4⟩ := hq
    exact ⟨.inl ⟨.bool true, .bool true, [], rfl, fun _ => rfl, .bool true, post_true l _, fun _ => ⟨List.Pairwise.nil, fun _ hm => (nomatch hm)⟩⟩, h2, h3, h4⟩

/-! ### rules over ANY heap (no ledger) from facts about the written part K: the library's own take a ledger (News) for what they write -/
section
variable {prog : Program} {w : World} {A : Around} {E : Value → Shared → Prop} {s : Shared} {K : Frag}

/-- a def of the module, or a method (qual 'C.m'), entered: the frame is the next address; cells behind it -/
theorem call_fn {R : Result → Shared → Prop} {name qual : Str} {params : Arguments} {body : List Stmt} {scope : Scope} {dV kV doc pm cdv ct oc : Value} {an od : Option Addr} {osl : Array (Option Value)} {f : Addr} {args : Args} {binds : List (Str × Value)}
    (X : K.In s.heap) (hlim : s.heap.NoLimit) (ho : K.lookup f = some ⟨oc, od, .func (fnOf name qual params body scope dV kV doc pm an cdv ct), osl⟩) (hcd : codeIn K cdv qual = true) (hroom : A.depth < recursionLimit)
    (hbind : BindsTo s (fnOf name qual params body scope dV kV doc pm an cdv ct) args binds)
    (hkind : (binds.all fun y => scope.names.lookup y.1 == some .local || scope.names.lookup y.1 == some .cell) = true)
    (h : ∀ s₁, InCallC s s.heap.objs.size (bindL (envOfC qual scope s.heap.objs.size f cdv).kindOf binds fun _ => none) (cellsFrom (s.heap.objs.size + 1) scope.names [])
        (bindC (envOfC qual scope s.heap.objs.size f cdv).kindOf binds fun _ => none) s₁ →
      wpAny (model prog w) (A.deeper (envOfC qual scope s.heap.objs.size f cdv)) (execs body (envOfC qual scope s.heap.objs.size f cdv))
        (fun fl s' => R (.ok (.ret (match fl with | .ret v => v | _ => .none))) s')
        (fun e s' => wpAny (model prog w) (A.deeper (envOfC qual scope s.heap.objs.size f cdv)) (leaving (envOfC qual scope s.heap.objs.size f cdv) e) (fun _ s'' => R (.error e) s'') (fun e' s'' => R (.error e') s'') s') s₁)
    (hco : scope.isCoroutine = false) (hgen : scope.isGenerator = false) (hk : scope.kind = .function) : codeAny (model prog w) A (.call (.ref f) args) R s := by
  refine codeAny_call_function hroom (X _ _ ho) rfl hco hgen rfl (codeRec_of X hcd) (hbind _ _ _ _ ?_)
  refine wpAny_newFunctionEnv_cells hk (kindsX hkind _) fun env he s₁ x => ?_
  subst he
  exact ⟨hlim.keeps x.toInCall.keep, codeAny_func (h s₁ x)⟩

/-- C(..): dict at size, instance at size + 1, then __init__ -/
theorem make_obj {R : Result → Shared → Prop} {C fI : Addr} {rest : List Value} {kw : List (Str × Value)}
    (X : K.In s.heap) (hm : makesIn K C = true) (hi : findIn K (.ref C) "__init__" = some (some (.ref fI))) (hf : isFn K (.ref fI) = true)
    (h : codeAny (model prog w) (A.under (.builtin "type.__call__" ⟨.ref C :: rest, kw⟩)) (.call (.ref fI) ⟨.ref (s.heap.objs.size + 1) :: rest, kw⟩) (InitBack (s.heap.objs.size + 1) R)
      { s with heap := (s.heap.push emptyDict).push (instObj C s.heap.objs.size) }) : codeAny (model prog w) A (.call (.ref C) ⟨rest, kw⟩) R s := by
  obtain ⟨hh, g, d, t, os⟩ := s
  exact make_core (makes_of X hm) (looks_findIn X hi) (fun self => bind_fn X self (beq_iff_eq.mp hf)) (.inl rfl) h

/-- x.name where the instance's dict holds the name and the class does not -/
theorem get_field {x C : Addr} {ox : Obj} {es : List DictEntry} {n : Nat} {name : Str} {expr : Bool} {v : Value} {Q : Value → Shared → Prop}
    (X : K.In s.heap) (I : PySem.W.InstAt s.heap x ox C (some (dictOf es n))) (hg : plainGet K C name = true) (hh : hasDictIn K C = true) (ha : findIn K (.ref C) name = some none)
    (hl : getL name es = some (some v)) (hv : handedIn v = true) (h : Q v { s with toks := s.toks + 1 }) : wpAny (model prog w) A (getAttr (.ref x) name expr) Q E s :=
  get_value X I (plainGet_of hg).1 (findObj_own hh ha rfl hl) hv h

/-- x.m(..): the method found in the class -/
theorem get_method {x C f : Addr} {ox : Obj} {es : List DictEntry} {n : Nat} {name : Str} {pl : Sem Bool} {Q : Value × List Value → Shared → Prop}
    (X : K.In s.heap) (I : PySem.W.InstAt s.heap x ox C (some (dictOf es n))) (hg : plainGet K C name = true) (hf : findIn K (.ref C) name = some (some (.ref f))) (ht : isFn K (.ref f) = true)
    (hl : getL name es = some none) (h : Q (.ref f, [.ref x]) s) : wpAny (model prog w) A (getMethod (.ref x) name pl) Q E s :=
  method_fn X I (plainGet_of hg).1 (plainGet_of hg).2 hf (beq_iff_eq.mp ht) (by show (lookIn name (dictOf es n)).map _ = _; rw [lookIn_dict, hl]; rfl) h

/-! the whole heap as the ledger: makes every rule that writes through a ledger a rule over any heap -/
def noObjs (h : Heap) : Heap := { h with objs := #[] }
theorem noObjs_get (h : Heap) (b : Addr) : (noObjs h).get? b = none := by
  cases e : (noObjs h).get? b with
  | none => rfl
  | some o => exact absurd (Heap.lt_size e) (Nat.not_lt_zero _)
def ledger (h : Heap) (L d : Addr) : List (Addr × Obj) := (List.range h.objs.size).filterMap fun a => if a = L ∨ a = d then none else (h.get? a).map fun o => (a, o)
theorem mem_ledger {h : Heap} {L d a : Addr} {o : Obj} : (a, o) ∈ ledger h L d ↔ a ≠ L ∧ a ≠ d ∧ h.get? a = some o := by
  unfold ledger
  rw [List.mem_filterMap]
  constructor
  · rintro ⟨b, _, e⟩
    split at e
    · cases e
    · rename_i hb
      obtain ⟨o', ho, e'⟩ := Option.map_eq_some_iff.mp e
      cases e'
      exact ⟨fun q => hb (.inl q), fun q => hb (.inr q), ho⟩
  · rintro ⟨n1, n2, ho⟩
    refine ⟨a, List.mem_range.mpr (Heap.lt_size ho), ?_⟩
    rw [if_neg (show ¬ (a = L ∨ a = d) from fun q => q.elim n1 n2), ho] <;> rfl
theorem news_ledger {h : Heap} {L d : Addr} {od : Obj} (hne : d ≠ L) (ho : h.get? d = some od) : News (noObjs h) L h ([] ++ (d, od) :: ledger h L d) := by
  rintro ⟨a, o⟩ hp
  rcases List.mem_cons.mp hp with e | hp
  · cases e
    exact ⟨ho, hne, noObjs_get _ _⟩
  · obtain ⟨n1, n2, e⟩ := mem_ledger.mp hp
    exact ⟨e, n1, noObjs_get _ _⟩
theorem fr_all {h : Heap} {L : Addr} {m : Str → Option Value} (n : h.Ns L m) : Fr (noObjs h) L h m :=
  ⟨n, fun b o e => (by rw [noObjs_get] at e; cases e), Nat.zero_le _⟩
/-- Upd of the head entry (for append_K, setItem_K ..) -/
theorem upd_ledger {h : Heap} {L d : Addr} {o o' : Obj} : Upd d o o' ((d, o) :: ledger h L d) ((d, o') :: ledger h L d) :=
  .head fun ⟨_, _⟩ hp => (mem_ledger.mp hp).2.1

/-- x.name = v over any heap: L is any namespace of the heap (the frame's, say): its map stays, its object is not told; all else but the dict stays -/
theorem set_field {x C dx L : Addr} {ox : Obj} {m : Str → Option Value} {es es' : List DictEntry} {n n' : Nat} {name : Str} {v : Value} {Q : Unit → Shared → Prop}
    (X : K.In s.heap) (I : PySem.W.InstAt s.heap x ox C (some (dictOf es n))) (hd : ox.dict = some dx) (hL : s.heap.Ns L m) (hne : dx ≠ L)
    (hs : findIn K (.ref C) "__setattr__" = some (some (.builtin "object.__setattr__"))) (hp : plainOver K C = true) (ht : takerIn K C name = some none) (hh : hasDictIn K C = true) (hl : (getL name es).isSome = true)
    (e : (putL name (PyData.keyHash w.params name) (.str name (s.toks + 1)) v es, putN name es n) = (es', n')) (hz : es'.length ≤ 1000)
    (h : ∀ h' : Heap, h'.Ns L m → h'.get? dx = some (dictOf es' n') → (∀ b o, b ≠ dx → b ≠ L → s.heap.get? b = some o → h'.get? b = some o) → Q () { s with heap := h', toks := s.toks + 2 }) :
    wpAny (model prog w) A (setAttr (.ref x) name v) Q E s := by
  obtain ⟨e1, e2⟩ := Prod.mk.inj e
  have hdx : s.heap.get? dx = some (dictOf es n) := by
    have := I.dict
    rw [hd] at this
    exact this
  refine set_plain X I hs (osa_dict (s := { s with toks := s.toks + 1 }) (h₀ := noObjs s.heap) (L := L) (m := m) (od := dictOf es n) (od' := dictOf es' n') (es := es') (n := n') (pre := []) (post := ledger s.heap L dx)
    (fr_all hL) (news_ledger hne hdx) X I hd hp ht hh hl (fun _ q => nomatch q) (fun ⟨_, _⟩ q => (mem_ledger.mp q).2.1) (by rw [putName_dict, e1, e2]) rfl hz fun h' F' N' => ?_)
  exact h h' F'.ns (N'.get (List.Mem.head _)) fun b o n1 n2 ho => N'.get (List.Mem.tail _ (mem_ledger.mpr ⟨n2, n1, ho⟩))
end
end Att

namespace L2
open PySem PySem.Spec PyProof.Rows

theorem vals_ints : ∀ {vs : List Value} {ns : List Int}, IntsAre vs ns → Vals (ns.map V.int) vs
  | _, _, .nil => .nil
  | _, _, .cons n t h => .cons ⟨t, rfl⟩ (vals_ints h)

/-- nothing is tracked but the script, known to the object (or it is an object of the module) -/
def Only (H : Hp) : Prop := ∀ b, H b = none ∨ ∃ o xs, H b = some (.frz o (.lst xs))

/-- THE HEAD: the law's promise, at the heap behind the top. F, the promise of the law's def, may use that base is part of the heap (so K.In base, base.Ns mainGlobals mg stand in Mod) -/
theorem law_call {P : Program} {w : World} {K : PySem.W.Frag} {mg mb : Str → Option Value} {CX : CXT} {k : Nat} {fa a : Addr} {fd : FuncData} {x : Str} {sp : Sp} {s₁ : Shared} {vs : List Value} {ns : List Int}
    (KX : K.In s₁.heap) (hns : s₁.heap.Ns mainGlobals mg) (hb : s₁.heap.Ns builtinsNs mb) (hbb : ∀ x : Str, x ≠ "__name__" → mb x = bootBuiltins x) (hlim : s₁.heap.NoLimit) (hg : s₁.gens = #[])
    (ha : s₁.heap.get? a = some { cls := .type "list", data := .seq vs.toArray }) (hi : IntsAre vs ns) (hl : ns.length ≤ sizeLine) (hr : Room k callerA)
    (F : ∀ base : Heap, K.In base → base.Ns mainGlobals mg → FnOk P w K mg base CX k fa fd [x] sp) (hbind : ∀ (s : Shared) (u : Value), BindsTo s fd ⟨[u], []⟩ [(x, u)])
    (hsp : ∀ H : Hp, Only H → SqL K H a (ns.map V.int) → sp [.ref a] H (fun v _ => v = .bl true) fun _ _ _ => False)
    (hCX : ∀ H e s', CX [] H s₁ (fun _ _ _ => False) e s' → False) :
    codeAny (model P w) callerA (.call (.ref fa) ⟨[.ref a], []⟩) (fun r s' => r = .ok (.ret (.bool true)) ∧ OldK s₁.heap s'.heap ∧ s'.os = s₁.os ∧ AllBare s'.gens) s₁ := by
  have rv := vals_ints hi
  have lenV := hi.length
  -- from an abstract heap in which nothing but the script may be tracked
  have core : ∀ H : Hp, Only H → SqL K H a (ns.map V.int) → HOk P w H s₁.heap → (∀ b, H b ≠ none → b = a) → (H a ≠ none → K.lookup a = none) →
      codeAny (model P w) callerA (.call (.ref fa) ⟨[.ref a], []⟩) (fun r s' => r = .ok (.ret (.bool true)) ∧ OldK s₁.heap s'.heap ∧ s'.os = s₁.os ∧ AllBare s'.gens) s₁ := by
    intro H hO hS hok hA hK
    have base_of : ∀ {b : Addr} {o : Obj}, s₁.heap.get? b = some o → H b = none → (hidT s₁.heap H).get? b = some o := fun e n => hidT_get e n
    have noA : ∀ {b : Addr} {o : Obj} {es : Array DictEntry} {ep : Nat}, s₁.heap.get? b = some o → o.data = .dict es ep → H b = none := fun {b o es ep} e d => by
      cases q : H b with
      | none => rfl
      | some u =>
        have e' : b = a := hA b (by rw [q]; simp)
        subst e'
        rw [ha] at e; cases e
        have d' : Data.seq vs.toArray _ = Data.dict es ep := d
        cases d'
    have nsK : ∀ {b : Addr} {m : Str → Option Value}, s₁.heap.Ns b m → (hidT s₁.heap H).Ns b m := fun {b m} ⟨o, es, ep, e, d, r⟩ => ⟨o, es, ep, base_of e (noA e d), d, r⟩
    have hKb : K.In (hidT s₁.heap H) := fun b o e => base_of (KX b o e) (by
      cases q : H b with
      | none => rfl
      | some u =>
        have e' : b = a := hA b (by rw [q]; simp)
        subst e'
        rw [hK (by rw [q]; simp)] at e; cases e)
    have hM : Mod K mg (hidT s₁.heap H) := ⟨hKb, nsK hns, ⟨mb, nsK hb, hbb⟩, let ⟨mc, h1, h2⟩ := hlim; ⟨mc, nsK h1, h2⟩⟩
    have e0 : Env0 P w K mg (hidT s₁.heap H) callerA [] s₁ H := ⟨rfl, hM, fun b o e => of_hidT e, Nat.le_of_eq (hidT_size _ _), trivial, fun b hb => absurd (show b ∈ ([] : List Addr) from hb) (by simp), hok, .of_eq hg⟩
    refine codeAny_mono ((F _ hKb (nsK hns)).run callerA [] s₁ H ⟨[.ref a], []⟩ [.ref a] [.ref a] _ _ hr e0 (hbind s₁ (.ref a)) (.cons rfl .nil) (hsp H hO hS)) fun r s' h => ?_
    cases r with
    | error e => exact (hCX H e s' h).elim
    | ok fl =>
      cases fl with
      | next => exact False.elim h
      | brk => exact False.elim h
      | cont => exact False.elim h
      | ret u =>
        obtain ⟨v, H', os, bare, un, hok', r', q⟩ := h
        have q' : v = .bl true := q
        subst q'
        obtain rfl : u = Value.bool true := r'
        refine ⟨rfl, OldK.of_keep fun b o e => ?_, os, bare⟩
        cases q : H b with
        | none => exact un.keep b o e q (by intro z; exact absurd (show b ∈ ([] : List Addr) from z) (by simp)) (by simp)
        | some u =>
          rcases hO b with z | ⟨ob, xs, z⟩
          · rw [q] at z; cases z
          · have z2 := un.frzs b ob _ z
            obtain ⟨e1, _⟩ := hok b _ z
            obtain ⟨e2, _⟩ := hok' b _ z2
            rw [e] at e1; cases e1
            exact e2
  cases hk : K.lookup a with
  | some o =>
    -- the script is one of the module's own objects
    have e := KX a o hk
    rw [ha] at e
    cases e
    refine core (fun _ => none) (fun _ => .inl rfl) (.inr ⟨_, vs.toArray, _, hk, rfl, rfl, rfl, by rw [List.size_toArray, lenV]; exact hl, by simpa using rv⟩) (fun b u z => by have z' : (none : Option HO) = some u := z; cases z') (fun b z => absurd rfl z) fun z => absurd rfl z
  | none =>
    refine core (fun b => if b = a then some (.frz { cls := .type "list", data := .seq vs.toArray } (.lst (ns.map V.int))) else none) (fun b => ?_) (.inl (.inr ⟨{ cls := .type "list", data := .seq vs.toArray }, if_pos rfl⟩)) (fun b u z => ?_) (fun b z => ?_) fun _ => hk
    · by_cases hb : b = a
      · exact .inr ⟨_, _, if_pos hb⟩
      · exact .inl (if_neg hb)
    · by_cases hb : b = a
      · have z' := (if_pos hb).symm.trans z
        cases z'
        subst hb
        exact ⟨ha, by rw [List.length_map]; exact hl, vs, _, rv, ha⟩
      · have z' := (if_neg hb).symm.trans z
        cases z'
    · by_cases hb : b = a
      · exact hb
      · exact absurd (if_neg hb) z
end L2

namespace L2
open PySem PySem.Spec PyProof.Rows

abbrev KOf {K : PySem.W.Frag} {h : Heap} (_ : K.In h) : PySem.W.Frag := K

/-- the goal that k_head leaves (case hc), from the law's promise. F gives the function object fd (K's own) once, then the promise over every base -/
theorem walk_of {l : PySem.W.OpenLaw} {n k : Nat} {q : Program} {loose : List Str} {XP : (Str → Option Value) → Heap → Prop} {YP : World → Heap → Prop} {d : DefRec} {K : Params → PySem.W.Frag} {CX : World → CXT} {sp : World → Sp} {x : Str}
    (hn : l.most = some n) (hn2 : n ≤ sizeLine) (hdf : d.params.defaults = []) (hr : Room k callerA)
    (hY : ∀ (w : World) (h : Heap), YP w h → (K w.params).In h)
    (F : ∀ (w : World) (mg : Str → Option Value) (fa : Addr) (h : Heap), (K w.params).In h → h.Ns mainGlobals mg → mg d.name = some (.ref fa) →
      ∃ fd : FuncData, (∀ (s : Shared) (u : Value), BindsTo s fd ⟨[u], []⟩ [(x, u)]) ∧
        ∀ base : Heap, (K w.params).In base → base.Ns mainGlobals mg → FnOk l.prog w (K w.params) mg base (CX w) k fa fd [x] (sp w))
    (hsp : ∀ (w : World) (H : Hp) (a : Addr) (ns : List Int), ns.length ≤ n → Only H → SqL (K w.params) H a (ns.map V.int) → sp w [.ref a] H (fun v _ => v = .bl true) fun _ _ _ => False)
    (hCX : ∀ (w : World) (H : Hp) (s : Shared) (e : Value) (s' : Shared), CX w [] H s (fun _ _ _ => False) e s' → False) :
    PySem.W.WalkO q loose XP YP l.row.toRowW d [] (fun f vs => PySem.call f vs) := by
  refine Att.attach_call hn hdf fun w s₀ s₁ mg mb fa o pm cd doc a vs ns G Y ho hd hcd hmg hobj hints hlen hg => ?_
  have KX := hY w _ Y
  obtain ⟨fd, hb, hF⟩ := F w mg fa _ KX G.T.g hmg
  exact law_call KX G.T.g G.T.b G.T.builtins G.T.nolimit hg hobj hints (Nat.le_trans hlen hn2) hr hF hb (fun H hO hS => hsp w H a ns hlen hO hS) fun H e s' => hCX w H s₁ e s'
/-- the same where the promise hangs on the written part alone: (sp := My.sp_law), no hole under a binder -/
theorem walk_ofK {l : PySem.W.OpenLaw} {n k : Nat} {q : Program} {loose : List Str} {XP : (Str → Option Value) → Heap → Prop} {YP : World → Heap → Prop} {d : DefRec} {K : Params → PySem.W.Frag} {CX : CXT} {sp : PySem.W.Frag → Sp} {x : Str}
    (hn : l.most = some n) (hn2 : n ≤ sizeLine) (hdf : d.params.defaults = []) (hr : Room k callerA)
    (hY : ∀ (w : World) (h : Heap), YP w h → (K w.params).In h)
    (F : ∀ (w : World) (mg : Str → Option Value) (fa : Addr) (h : Heap), (K w.params).In h → h.Ns mainGlobals mg → mg d.name = some (.ref fa) →
      ∃ fd : FuncData, (∀ (s : Shared) (u : Value), BindsTo s fd ⟨[u], []⟩ [(x, u)]) ∧
        ∀ base : Heap, (K w.params).In base → base.Ns mainGlobals mg → FnOk l.prog w (K w.params) mg base CX k fa fd [x] (sp (K w.params)))
    (hsp : ∀ (K : PySem.W.Frag) (H : Hp) (a : Addr) (ns : List Int), ns.length ≤ n → Only H → SqL K H a (ns.map V.int) → sp K [.ref a] H (fun v _ => v = .bl true) fun _ _ _ => False)
    (hCX : ∀ (H : Hp) (s : Shared) (e : Value) (s' : Shared), CX [] H s (fun _ _ _ => False) e s' → False) :
    PySem.W.WalkO q loose XP YP l.row.toRowW d [] (fun f vs => PySem.call f vs) :=
  walk_of (K := K) (CX := fun _ => CX) (sp := fun w => sp (K w.params)) hn hn2 hdf hr hY F (fun w H a ns h1 h2 h3 => hsp (K w.params) H a ns h1 h2 h3) fun _ H s e s' => hCX H s e s'
end L2

/- THE LAST THEOREM (shape; LID, My.* are yours):
   My.Adr: a structure of the addresses that your layer names (classes, functions); My.Txt K t: a structure (Prop) of the equations over K;
   My.txt_mk : {K} {implicit addresses ..} (e1 : nsIn K mainGlobals "law" = some (some (.ref f))) (e2 : K.lookup f = some ⟨oc, od, .func (fnOf "law" "law" params body scope dV kV doc pm an cdv ct), sl⟩) (e3 : codeIn K cdv "law" = true) .. : ∃ t, My.Txt K t

set_option maxRecDepth 100000 in
set_option maxHeartbeats 0 in
theorem PySem.Challenge.cw_LID_holds : PySem.Challenge.rw_LID.Holds := by
  w_on; o_law; k_head; (case hw => w_witness2)
  k_fill
  refine L2.walk_of (l := PySem.Challenge.rw_LID) (n := 63) (k := 40) (x := "script") (CX := fun w => ..) (sp := fun _ => My.sp_law) rfl (by decide) rfl ⟨rfl, by decide, by decide⟩ (fun w h Y => PySem.W.kIn_of Y) ?F ?S ?C
  case F =>
    intro w mg fa h KX G hmg
    have T : ∃ t, My.Txt (L2.KOf KX) t := by
      dsimp only [L2.KOf]                          -- K must stand as «<heap const> w.params» for k_is
      refine' My.txt_mk ?e1 ?e2 ?e3 ..
      (case e1 => PySem.W.k_is)                    -- in the order: a name -> its address -> its object -> its parts
      (case e2 => PySem.W.k_is)
      ..
    obtain ⟨t, T⟩ := T
    have e0 := hmg.symm.trans (PySem.W.mg_of KX G T.law)
    cases e0                                       -- fa is the law's own address
    exact ⟨_, fun s u => .of_eq rfl, fun base kb nb => My.law_fn T kb nb⟩     -- if «.of_eq rfl» comes too early: refine' ⟨_, ?b, fun base kb nb => My.law_fn T kb nb⟩; exact fun s u => .of_eq rfl
  case S => exact fun w H a ns hl hO hS => ..
  case C => exact ..
(the tactic k_is has no namespace: write k_is) -/

/-! SHORT WORDS over the layer: a def of the text, its body, what a loop and a test want. -/
namespace L2
open PySem PySem.Spec PyProof.Rows

/-! ### the text by places -/
/-- the j-th statement of a class's body -/
def inClass (s : Stmt) (j : Nat) : Stmt := match s with
  | .ClassDef _ _ _ body _ _ _ _ _ _ _ => body.getD j (.Pass ⟨0, 0, 0, 0⟩)
  | _ => .Pass ⟨0, 0, 0, 0⟩
def defArgs (s : Stmt) : Arguments := match s with
  | .FunctionDef _ a _ _ _ _ _ _ _ _ => a
  | _ => { posonlyargs := [], args := [], vararg := none, kwonlyargs := [], kw_defaults := [], kwarg := none, defaults := [] }
def defBody (s : Stmt) : List Stmt := match s with
  | .FunctionDef _ _ b _ _ _ _ _ _ _ => b
  | _ => []
def defScope (s : Stmt) : Scope := match s with
  | .FunctionDef _ _ _ _ _ _ sc _ _ _ => sc
  | _ => { kind := .function, names := [], isGenerator := false, isCoroutine := false }

/-! ### no exception leaves a def -/
abbrev CX0 : CXT := fun _ _ _ _ _ _ => False
abbrev E0 : XK := fun _ _ _ => False
theorem pass0 {X : Cx} : Passes CX0 X E0 := fun _ _ _ _ _ _ _ h => h.elim

/-! ### a def (or method) of the text as it stands behind the top -/
structure Fun (K : PySem.W.Frag) (x qual : Str) (st : Stmt) (f : Addr) (fd : FuncData) : Prop where
  ex : ∃ (oc : Value) (od : Option Addr) (kV doc pm : Value) (an : Option Addr) (cdv ct : Value) (osl : Array (Option Value)),
    fd = PySem.W.fnOf x qual (defArgs st) (defBody st) (defScope st) .none kV doc pm an cdv ct ∧ K.lookup f = some ⟨oc, od, .func fd, osl⟩ ∧ PySem.W.codeIn K cdv qual = true
  kp : PySem.W.keepIn K (.ref f) = true
section
variable {P : Program} {w : World} {K : PySem.W.Frag} {mg : Str → Option Value} {base : Heap}
/-- THE RULE for a def: its body as a term of rules, and the reading of that term -/
theorem Fun.ok {x qual : Str} {st : Stmt} {f : Addr} {fd : FuncData} {N ps : List Str} {k : Nat} {sp : Sp} (F : Fun K x qual st f fd) (S : FnScope N ps (defScope st)) (len : ∀ vs H Q E, sp vs H Q E → vs.length = ps.length)
    (hbody : ∀ (cdv : Value) (A : Around) (outer : List Env) (s : Shared) (H : Hp) (vs : List V) (Q : VK) (E : XK), Room k (A.deeper (envOfC qual (defScope st) s.heap.objs.size f cdv)) → sp vs H Q E →
      ∃ t, PSs (cxOf CX0 P w K mg base N qual (defScope st) f cdv A outer s H E).nox (defBody st) t ∧ t { nx := fun _ H' => Q .non H', rt := Q } (start N vs) H) : FnOk P w K mg base CX0 (k + 1) f fd ps sp := by
  obtain ⟨oc, od, kV, doc, pm, an, cdv, ct, osl, rfl, lk, hcd⟩ := F.ex
  refine fn_of lk hcd S len fun A outer s H vs Q E hr hsp => ?_
  obtain ⟨t, h, q⟩ := hbody cdv A outer s H vs Q E hr hsp
  exact ⟨t, h.nox, q⟩
/-- how its arguments bind (no defaults): h is «fun _ _ _ _ _ _ us hl => match us, hl with | [_, _], _ => rfl», one _ a parameter -/
theorem Fun.binds {x qual : Str} {st : Stmt} {f : Addr} {fd : FuncData} {ps : List Str} (F : Fun K x qual st f fd)
    (h : ∀ (kV doc pm : Value) (an : Option Addr) (cdv ct : Value) (us : List Value), us.length = ps.length → bindArgs (PySem.W.fnOf x qual (defArgs st) (defBody st) (defScope st) .none kV doc pm an cdv ct) ⟨us, []⟩ = pure (ps.zip us)) : Binds K fd ps [] := by
  obtain ⟨oc, od, kV, doc, pm, an, cdv, ct, osl, rfl, lk, hcd⟩ := F.ex
  exact .all (h kV doc pm an cdv ct)
theorem fun_mk {x qual : Str} {st : Stmt} {f : Addr} {oc : Value} {od an : Option Addr} {osl : Array (Option Value)} {kV doc pm cdv ct : Value} (l : K.lookup f = some ⟨oc, od, .func (PySem.W.fnOf x qual (defArgs st) (defBody st) (defScope st) .none kV doc pm an cdv ct), osl⟩)
    (c : PySem.W.codeIn K cdv qual = true) (k : PySem.W.keepIn K (.ref f) = true) : Fun K x qual st f (PySem.W.fnOf x qual (defArgs st) (defBody st) (defScope st) .none kV doc pm an cdv ct) := ⟨⟨oc, od, kV, doc, pm, an, cdv, ct, osl, rfl, l, c⟩, k⟩
end
theorem hu_of {A : Around} {k : Nat} (hr : Room k A) : A.units + 1 < cLine := Nat.lt_of_le_of_lt (Nat.add_le_add_left (by decide : 1 ≤ 64) _) hr.units
theorem small1000 {n : Nat} (h : n ≤ 1000) : n < sizeLine := Nat.lt_of_le_of_lt h (by decide)

/-! ### expressions in short: the name that stands in the i-th slot -/
section
variable {X : Cx}
theorem pv (i : Nat) {x : Str} {pos : Pos} (hN : X.N[i]? = some x := by rfl) (hv : Vis X.env.scope x := by first | exact Or.inl rfl | exact Or.inr (Or.inl rfl) | exact Or.inr (Or.inr rfl)) (hd : (x == ("__debug__" : Str)) = false := by decide)
    (hcd : (x == ("__classdict__" : Str)) = false := by decide) : PE X (.Name x pos) (tVar i) := pe_var hN hv hd hcd
end

/-! ### tests -/
theorem iteF {A B : Prop} (h : B) : if false = true then A else B := by
  rw [if_neg Bool.false_ne_true]
  exact h
theorem iteT {A B : Prop} (h : A) : if true = true then A else B := by
  rw [if_pos rfl]
  exact h
theorem ite2 {c A B : Prop} [Decidable c] (h1 : c → A) (h2 : ¬ c → B) : if c then A else B := by
  by_cases h : c
  · rw [if_pos h]
    exact h1 h
  · rw [if_neg h]
    exact h2 h
theorem iteNS {c A B : Prop} [Decidable c] (hc : c) (h : B) : if (!decide c) = true then A else B := by
  rw [decide_eq_true hc]
  exact iteF h

/-! ### heaps -/
/-- all that was tracked is as it was -/
def Same (H H' : Hp) : Prop := ∀ b o, H b = some o → H' b = some o
theorem Same.refl (H : Hp) : Same H H := fun _ _ h => h
theorem Same.trans {H H1 H2 : Hp} (a : Same H H1) (b : Same H1 H2) : Same H H2 := fun c o h => b c o (a c o h)
theorem Same.free {H H' : Hp} (e : Same H H') {l : Addr} (h : H' l = Option.none) : H l = Option.none := by
  cases q : H l with
  | none => rfl
  | some o =>
    rw [e l o q] at h
    cases h
theorem Same.seq {K : PySem.W.Frag} {H H' : Hp} {a : Addr} {xs : List V} (e : Same H H') (h : SqL K H a xs) : SqL K H' a xs := by
  rcases h with (h | ⟨o, h⟩) | h
  · exact .inl (.inl (e _ _ h))
  · exact .inl (.inr ⟨o, e _ _ h⟩)
  · exact .inr h

end L2

set_option maxHeartbeats 4000000
namespace L2
open PySem PySem.Spec PyProof.Rows

/-! ### lists of pairs as tables -/
section
variable {κ : Type} [DecidableEq κ]
def valV (kvs : List (κ × V)) (k : κ) : Option V := (kvs.find? fun kv => decide (kv.1 = k)).map (·.2)
/-- in its place, or at the end -/
def putK (kvs : List (κ × V)) (k : κ) (v : V) : List (κ × V) :=
  if (kvs.any fun kv => decide (kv.1 = k)) = true then kvs.map (fun kv => if kv.1 = k then (kv.1, v) else kv) else kvs ++ [(k, v)]
def dropK (kvs : List (κ × V)) (k : κ) : List (κ × V) := kvs.filter fun kv => decide (kv.1 ≠ k)

theorem valV_nil {k : κ} : valV ([] : List (κ × V)) k = none := rfl
theorem valV_pos {p : κ × V} {r : List (κ × V)} {k : κ} (e : p.1 = k) : valV (p :: r) k = some p.2 := by simp [valV, List.find?_cons, e]
theorem valV_neg {p : κ × V} {r : List (κ × V)} {k : κ} (e : ¬ p.1 = k) : valV (p :: r) k = valV r k := by simp [valV, List.find?_cons, e]
theorem valV_any (k : κ) : ∀ kvs : List (κ × V), (kvs.any fun kv => decide (kv.1 = k)) = (valV kvs k).isSome
  | [] => rfl
  | p :: r => by
    rw [List.any_cons]
    by_cases e : p.1 = k
    · simp only [valV_pos e, decide_eq_true e, Bool.true_or, Option.isSome_some]
    · rw [valV_neg e, decide_eq_false e, Bool.false_or]; exact valV_any k r
theorem valV_map (k j : κ) (y : V) : ∀ kvs : List (κ × V), valV (kvs.map fun kv => if kv.1 = k then (kv.1, y) else kv) j = (valV kvs j).map fun x => if j = k then y else x
  | [] => rfl
  | p :: r => by
    have ih := valV_map k j y r
    rw [List.map_cons]
    by_cases h : p.1 = k
    · rw [if_pos h]
      by_cases e : p.1 = j
      · rw [valV_pos (p := (p.1, y)) e, valV_pos e, Option.map_some, if_pos (e.symm.trans h)]
      · rw [valV_neg (p := (p.1, y)) e, valV_neg e, ih]
    · rw [if_neg h]
      by_cases e : p.1 = j
      · rw [valV_pos (p := p) e, valV_pos e, Option.map_some, if_neg (fun z => h (e.trans z))]
      · rw [valV_neg (p := p) e, valV_neg e, ih]
theorem valV_snoc (k j : κ) (y : V) : ∀ kvs : List (κ × V), valV kvs k = none → valV (kvs ++ [(k, y)]) j = if j = k then some y else valV kvs j
  | [], _ => by
    by_cases e : k = j
    · rw [if_pos e.symm]; exact valV_pos (p := (k, y)) e
    · rw [if_neg (fun z => e z.symm)]; exact valV_neg (p := (k, y)) e
  | p :: r, hn => by
    rw [List.cons_append]
    have hk : ¬ p.1 = k := fun z => by rw [valV_pos z] at hn; cases hn
    rw [valV_neg hk] at hn
    have ih := valV_snoc k j y r hn
    by_cases e : p.1 = j
    · rw [valV_pos e, valV_pos e, if_neg (fun z => hk (e.trans z))]
    · rw [valV_neg e, valV_neg e, ih]
theorem valV_put (kvs : List (κ × V)) (k j : κ) (y : V) : valV (putK kvs k y) j = if j = k then some y else valV kvs j := by
  unfold putK
  by_cases a : (kvs.any fun kv => decide (kv.1 = k)) = true
  · rw [if_pos a, valV_map]
    rw [valV_any] at a
    by_cases e : j = k
    · obtain ⟨x, hx⟩ := Option.isSome_iff_exists.mp a
      rw [if_pos e, e, hx, Option.map_some, if_pos rfl]
    · rw [if_neg e]
      cases valV kvs j with
      | none => rfl
      | some x => rw [Option.map_some, if_neg e]
  · rw [if_neg a]
    refine valV_snoc k j y kvs ?_
    rw [valV_any] at a
    cases q : valV kvs k with
    | none => rfl
    | some x => rw [q] at a; exact (a rfl).elim
theorem length_putK (kvs : List (κ × V)) (k : κ) (v : V) : (putK kvs k v).length ≤ kvs.length + 1 := by
  unfold putK
  split
  · rw [List.length_map]; omega
  · rw [List.length_append, List.length_cons, List.length_nil]; omega
theorem putK_new {kvs : List (κ × V)} {k : κ} (v : V) (h : valV kvs k = none) : putK kvs k v = kvs ++ [(k, v)] := by
  unfold putK
  rw [valV_any, h]
  exact if_neg (by decide)

theorem RelO.isSome_eq {o : Option V} {u : Option Value} (r : RelO o u) : o.isSome = u.isSome := by
  cases o with
  | none => cases u with
    | none => rfl
    | some _ => exact (show False from r).elim
  | some _ => cases u with
    | none => exact (show False from r).elim
    | some _ => rfl
theorem RelO.getD {o : Option V} {u : Option Value} {d : V} {d' : Value} (r : RelO o u) (rd : RelV d d') : RelV (o.getD d) (u.getD d') := by
  cases o with
  | none => cases u with
    | none => exact rd
    | some _ => exact (show False from r).elim
  | some _ => cases u with
    | none => exact (show False from r).elim
    | some _ => exact r

/-- raw tables of the same keys -/
theorem KV.val {kvs : List (κ × V)} {vs : List (κ × Value)} (r : KV kvs vs) (k : κ) : RelO (valV kvs k) (valueAt vs k) := by
  unfold KV at r
  induction r with
  | nil => exact True.intro
  | @cons p q ps qs h t ih =>
    obtain ⟨h1, h2⟩ := h
    by_cases e : p.1 = k
    · have e' : q.1 = k := h1.symm.trans e
      have b : valueAt (q :: qs) k = some q.2 := by simp [valueAt, List.find?_cons, e']
      rw [valV_pos e, b]; exact h2
    · have e' : ¬ q.1 = k := fun z => e (h1.trans z)
      have b : valueAt (q :: qs) k = valueAt qs k := by simp [valueAt, List.find?_cons, e']
      rw [valV_neg e, b]; exact ih
theorem KV.any {kvs : List (κ × V)} {vs : List (κ × Value)} (r : KV kvs vs) (k : κ) : (kvs.any fun kv => decide (kv.1 = k)) = vs.any fun kv => decide (kv.1 = k) := by
  unfold KV at r
  induction r with
  | nil => rfl
  | cons h t ih => rw [List.any_cons, List.any_cons, ih, h.1]
theorem KV.repl {kvs : List (κ × V)} {vs : List (κ × Value)} (r : KV kvs vs) (k : κ) {y : V} {u : Value} (ry : RelV y u) :
    KV (kvs.map fun kv => if kv.1 = k then (kv.1, y) else kv) (vs.map fun kv => if kv.1 = k then (kv.1, u) else kv) := by
  unfold KV at r ⊢
  induction r with
  | nil => exact .nil
  | @cons p q ps qs h t ih =>
    rw [List.map_cons, List.map_cons]
    refine .cons ?_ ih
    obtain ⟨h1, h2⟩ := h
    by_cases e : p.1 = k
    · rw [if_pos e, if_pos (h1.symm.trans e)]; exact ⟨h1, ry⟩
    · rw [if_neg e, if_neg (fun z => e (h1.trans z))]; exact ⟨h1, h2⟩
theorem KV.put {kvs : List (κ × V)} {vs : List (κ × Value)} (r : KV kvs vs) (k : κ) {y : V} {u : Value} (ry : RelV y u) : KV (putK kvs k y) (stored vs k u) := by
  unfold putK stored
  rw [r.any k]
  by_cases e : (vs.any fun kv => decide (kv.1 = k)) = true
  · rw [if_pos e, if_pos e]; exact r.repl k ry
  · rw [if_neg e, if_neg e]; exact Paired.snoc r ⟨rfl, ry⟩
theorem KV.drop {kvs : List (κ × V)} {vs : List (κ × Value)} (r : KV kvs vs) (k : κ) : KV (dropK kvs k) (without vs k) := by
  unfold KV at r ⊢
  unfold dropK without
  induction r with
  | nil => exact .nil
  | @cons p q ps qs h t ih =>
    obtain ⟨h1, h2⟩ := h
    rw [List.filter_cons, List.filter_cons]
    by_cases e : p.1 = k
    · have a : ¬ decide (p.1 ≠ k) = true := by simp [e]
      have b : ¬ decide (q.1 ≠ k) = true := by simp [h1.symm.trans e]
      rw [if_neg a, if_neg b]; exact ih
    · have e' : ¬ q.1 = k := fun z => e (h1.trans z)
      have a : decide (p.1 ≠ k) = true := by simp [e]
      have b : decide (q.1 ≠ k) = true := by simp [e']
      rw [if_pos a, if_pos b]; exact .cons ⟨h1, h2⟩ ih
theorem KV.keys {kvs : List (κ × V)} {vs : List (κ × Value)} (r : KV kvs vs) : kvs.map (·.1) = vs.map (·.1) := by
  unfold KV at r
  induction r with
  | nil => rfl
  | cons h t ih => rw [List.map_cons, List.map_cons, ih, h.1]
theorem KV.length {kvs : List (κ × V)} {vs : List (κ × Value)} (r : KV kvs vs) : kvs.length = vs.length := Paired.length r
theorem dropK_le (kvs : List (κ × V)) (k : κ) : (dropK kvs k).length ≤ kvs.length := List.length_filter_le _ _
end


/-! ### a tracked dict, its keys ints and texts or tuples of these -/
theorem kV_is {P : Program} {w : World} {k : Key} {u : Value} (r : RelV (kV k) u) : (mixKind P w).is k u = true := by
  cases k with
  | inl i => obtain ⟨t, e⟩ := (show ∃ t, u = Value.int i t from r); subst e; exact mixKind_int P w i t
  | inr x => obtain ⟨t, e⟩ := (show ∃ t, u = Value.str x t from r); subst e; exact mixKind_str P w x t
theorem kV_inj {a b : Key} (e : kV a = kV b) : a = b := by
  cases a with
  | inl i => cases b with
    | inl j => have e' : V.int i = V.int j := e; injection e' with e'; rw [e']
    | inr y => exact nomatch (show V.int i = V.str y from e)
  | inr x => cases b with
    | inl j => exact nomatch (show V.str x = V.int j from e)
    | inr y => have e' : V.str x = V.str y := e; injection e' with e'; rw [e']
theorem kVs_inj : ∀ {a b : List Key}, a.map kV = b.map kV → a = b
  | [], [], _ => rfl
  | [], _ :: _, e => by simp at e
  | _ :: _, [], e => by simp at e
  | x :: xs, y :: ys, e => by
    rw [List.map_cons, List.map_cons] at e
    injection e with e1 e2
    rw [kV_inj e1, kVs_inj e2]
theorem items_are {P : Program} {w : World} : ∀ {ks : List Key} {us : List Value}, Vals (ks.map kV) us → ItemsAre (mixKind P w) ks us
  | [], _, r => by rw [List.map_nil] at r; cases r; exact .nil
  | k :: ks, _, r => by
    rw [List.map_cons] at r
    cases r with
    | cons h t => exact .cons (kV_is h) (items_are t)

/-- raw entries of a dict with tuple keys -/
abbrev KT (H : Hp) : List (List Key × V) → List (List Key × Addr × Value) → Prop := Paired fun p q => p.1 = q.1 ∧ H q.2.1 = some (.tup (p.1.map kV)) ∧ RelV p.2 q.2.2
theorem KT.val {H : Hp} {kvs : List (List Key × V)} {xs : List (List Key × Addr × Value)} (r : KT H kvs xs) (k : List Key) : RelO (valV kvs k) ((atKey xs k).map (·.2)) := by
  induction r with
  | nil => exact True.intro
  | @cons p q ps qs h t ih =>
    obtain ⟨h1, _, h2⟩ := h
    by_cases e : p.1 = k
    · have e' : q.1 = k := h1.symm.trans e
      have b : atKey (q :: qs) k = some q.2 := by simp [atKey, List.find?_cons, e']
      rw [valV_pos e, b]; exact h2
    · have e' : ¬ q.1 = k := fun z => e (h1.trans z)
      have b : atKey (q :: qs) k = atKey qs k := by simp [atKey, List.find?_cons, e']
      rw [valV_neg e, b]; exact ih
theorem KT.repl {H : Hp} {kvs : List (List Key × V)} {xs : List (List Key × Addr × Value)} (r : KT H kvs xs) (k : List Key) {y : V} {u : Value} (ry : RelV y u) :
    KT H (kvs.map fun kv => if kv.1 = k then (kv.1, y) else kv) (xs.map (putAt k u)) := by
  induction r with
  | nil => exact .nil
  | @cons p q ps qs h t ih =>
    rw [List.map_cons, List.map_cons]
    refine .cons ?_ ih
    obtain ⟨h1, h2, h3⟩ := h
    unfold putAt
    by_cases e : p.1 = k
    · rw [if_pos e, if_pos (h1.symm.trans e)]; exact ⟨h1, h2, ry⟩
    · rw [if_neg e, if_neg (fun z => e (h1.trans z))]; exact ⟨h1, h2, h3⟩
theorem KT.put {H : Hp} {kvs : List (List Key × V)} {xs : List (List Key × Addr × Value)} (r : KT H kvs xs) (k : List Key) {b : Addr} {y : V} {u : Value} (hb : H b = some (.tup (k.map kV))) (ry : RelV y u) :
    KT H (putK kvs k y) (storedH xs k b u) := by
  have e : (kvs.any fun kv => decide (kv.1 = k)) = (atKey xs k).isSome := by
    rw [valV_any, (r.val k).isSome_eq, Option.isSome_map]
  unfold putK storedH
  rw [e]
  by_cases q : (atKey xs k).isSome = true
  · rw [if_pos q, if_pos q]; exact r.repl k ry
  · rw [if_neg q, if_neg q]; exact Paired.snoc r ⟨rfl, hb, ry⟩
theorem KT.keeps {H H' : Hp} {kvs : List (List Key × V)} {xs : List (List Key × Addr × Value)} (r : KT H kvs xs) (ht : ∀ b ys, H b = some (.tup ys) → H' b = some (.tup ys)) : KT H' kvs xs :=
  Paired.mapP r fun _ _ z => ⟨z.1, ht _ _ z.2.1, z.2.2⟩

section
variable {P : Program} {w : World} {H : Hp} {h : Heap} {a : Addr}
theorem rd_of {u : HO} (ok : HOk P w H h) (e : Rd H a u) : ObjOk P w H h a u := e.ok ok
theorem dk_rd {kvs : List (Key × V)} (ok : HOk P w H h) (e : Rd H a (.dK kvs)) : kvs.length ≤ sizeLine ∧ (a == sysModules) = false ∧ ∃ vs, KV kvs vs ∧ h.DictOf (mixKind P w) a vs :=
  show ObjOk P w H h a (.dK kvs) from rd_of ok e
theorem dk_of {kvs : List (Key × V)} (ok : HOk P w H h) (e : H a = some (.dK kvs)) : kvs.length ≤ sizeLine ∧ (a == sysModules) = false ∧ ∃ vs, KV kvs vs ∧ h.DictOf (mixKind P w) a vs := dk_rd ok (.inl e)
/-- a tracked tuple of ints and texts is a key -/
theorem key_of {ks : List Key} (ok : HOk P w H h) (e : H a = some (.tup (ks.map kV))) : (tupleKind (mixKind P w)).is h ks a := by
  obtain ⟨_, its, r, o, h1, h2, n, h3⟩ := (show ObjOk P w H h a (.tup (ks.map kV)) from ok a _ e)
  exact ⟨o, its.toArray, n, h1, h2, h3, by simpa using items_are r⟩
theorem dt_rd {kvs : List (List Key × V)} (ok : HOk P w H h) (e : Rd H a (.dT kvs)) : kvs.length ≤ sizeLine ∧ (a == sysModules) = false ∧
    ∃ xs, KT H kvs xs ∧ h.DictOfH (tupleKind (mixKind P w)) a xs := by
  obtain ⟨z, y, xs, r, o, es, ep, h1, h2, h3, h4, h5⟩ := (show ObjOk P w H h a (.dT kvs) from rd_of ok e)
  refine ⟨z, y, xs, r, o, es, ep, h1, h2, h3, h4, fun x hx => ?_, h5⟩
  have all : ∀ {l : List (List Key × V)} {m : List (List Key × Addr × Value)}, KT H l m → ∀ x ∈ m, (tupleKind (mixKind P w)).is h x.1 x.2.1 := by
    intro l m q
    induction q with
    | nil => intro x hx; exact nomatch hx
    | @cons p q ps qs hq t ih =>
      intro x hx
      rcases List.mem_cons.mp hx with e | hx
      · subst e
        exact key_of ok (by rw [← hq.1]; exact hq.2.1)
      · exact ih x hx
  exact all r x hx
theorem dt_of {kvs : List (List Key × V)} (ok : HOk P w H h) (e : H a = some (.dT kvs)) : kvs.length ≤ sizeLine ∧ (a == sysModules) = false ∧
    ∃ xs, KT H kvs xs ∧ h.DictOfH (tupleKind (mixKind P w)) a xs := dt_rd ok (.inl e)
end

/-- what the dict at a holds at the key y -/
def DGet (H : Hp) (a : Addr) (y : V) (r : Option V) : Prop :=
  (∃ kvs k, Rd H a (.dK kvs) ∧ y = kV k ∧ r = valV kvs k) ∨ ∃ kvs k b, Rd H a (.dT kvs) ∧ y = .ref b ∧ H b = some (.tup (k.map kV)) ∧ r = valV kvs k
/-- the heap behind a[y] = v -/
def DPut (H : Hp) (a : Addr) (y v : V) (H' : Hp) : Prop :=
  (∃ kvs k, H a = some (.dK kvs) ∧ y = kV k ∧ kvs.length < sizeLine ∧ H' = upd H a (.dK (putK kvs k v))) ∨
  ∃ kvs k b, H a = some (.dT kvs) ∧ y = .ref b ∧ H b = some (.tup (k.map kV)) ∧ kvs.length < sizeLine ∧ H' = upd H a (.dT (putK kvs k v))
theorem DGet.k {H : Hp} {a : Addr} {kvs : List (Key × V)} {k : Key} (e : H a = some (.dK kvs)) : DGet H a (kV k) (valV kvs k) := .inl ⟨kvs, k, .inl e, rfl, rfl⟩
theorem DGet.t {H : Hp} {a b : Addr} {kvs : List (List Key × V)} {k : List Key} (e : H a = some (.dT kvs)) (eb : H b = some (.tup (k.map kV))) : DGet H a (.ref b) (valV kvs k) := .inr ⟨kvs, k, b, .inl e, rfl, eb, rfl⟩
theorem DPut.k {H : Hp} {a : Addr} {kvs : List (Key × V)} {k : Key} {v : V} (e : H a = some (.dK kvs)) (hl : kvs.length < sizeLine) : DPut H a (kV k) v (upd H a (.dK (putK kvs k v))) := .inl ⟨kvs, k, e, rfl, hl, rfl⟩
theorem DPut.t {H : Hp} {a b : Addr} {kvs : List (List Key × V)} {k : List Key} {v : V} (e : H a = some (.dT kvs)) (eb : H b = some (.tup (k.map kV))) (hl : kvs.length < sizeLine) :
    DPut H a (.ref b) v (upd H a (.dT (putK kvs k v))) := .inr ⟨kvs, k, b, e, rfl, eb, hl, rfl⟩


section
variable {X : Cx} {pins : List (Addr × Obj)} {σ : St} {H : Hp} {s : Shared} {a : Addr} {y v : V} {u r : Value} {o : Option V} {A : Around} {E : Value → Shared → Prop}

theorem Inv.big (I : Inv X pins σ H s) : sysModules < s.heap.objs.size := by
  have h : mainGlobals < s.heap.objs.size := (I.mod.glob.keeps I.bk).lt
  exact Nat.lt_trans (by decide) h

/-- d[y], there -/
theorem d_getItem {Q : Value → Shared → Prop} (hu : A.units + 1 < cLine) (I : Inv X pins σ H s) (g : DGet H a y (some v)) (ry : RelV y u) (h : ∀ w' s', Inv X pins σ H s' → RelV v w' → Q w' s') :
    wpAny (model X.prog X.w) A (getItem (.ref a) u) Q E s := by
  rcases g with ⟨kvs, k, e, ey, l⟩ | ⟨kvs, k, b, e, ey, eb, l⟩
  · subst ey
    obtain ⟨z, hd, vs, rel, dd⟩ := dk_rd I.hok e
    obtain ⟨w', hw, rw'⟩ := RelO.some_of (v := v) (o := valueAt vs k) (by rw [l]; exact rel.val k)
    exact wpAny_getItem_of (kV_is ry) dd.mapOf hw (h w' _ (I.tok _) rw')
  · subst ey
    cases (show u = Value.ref b from ry)
    obtain ⟨z, hd, xs, rel, dd⟩ := dt_rd I.hok e
    obtain ⟨w', hw, rw'⟩ := RelO.some_of (v := v) (o := (atKey xs k).map (·.2)) (by rw [l]; exact rel.val k)
    obtain ⟨p, hp, hp2⟩ := Option.map_eq_some_iff.mp hw
    refine wpAny_getItem_heap (tupleKind_room_in1 hu) (key_of I.hok eb) dd hp ?_
    rw [hp2]
    exact h w' _ (I.tok _) rw'
/-- y in d -/
theorem d_in {Q : Value → Shared → Prop} (hu : A.units + 1 < cLine) (I : Inv X pins σ H s) (g : DGet H a y o) (ry : RelV y u) (h : ∀ s', Inv X pins σ H s' → Q (.bool o.isSome) s') :
    wpAny (model X.prog X.w) A (compareOp .In u (.ref a)) Q E s := by
  rcases g with ⟨kvs, k, e, ey, l⟩ | ⟨kvs, k, b, e, ey, eb, l⟩
  · subst ey
    obtain ⟨z, hd, vs, rel, dd⟩ := dk_rd I.hok e
    refine wpAny_in_of (kV_is ry) hd dd.mapOf ?_
    rw [← (rel.val k).isSome_eq, ← l]
    exact h _ (I.tok _)
  · subst ey
    cases (show u = Value.ref b from ry)
    obtain ⟨z, hd, xs, rel, dd⟩ := dt_rd I.hok e
    refine wpAny_in_heap (tupleKind_room_in1 hu) (key_of I.hok eb) hd dd ?_
    have q := (rel.val k).isSome_eq
    rw [Option.isSome_map] at q
    rw [← q, ← l]
    exact h _ (I.tok _)
theorem d_notIn {Q : Value → Shared → Prop} (hu : A.units + 1 < cLine) (I : Inv X pins σ H s) (g : DGet H a y o) (ry : RelV y u) (h : ∀ s', Inv X pins σ H s' → Q (.bool (!o.isSome)) s') :
    wpAny (model X.prog X.w) A (compareOp .NotIn u (.ref a)) Q E s := by
  rcases g with ⟨kvs, k, e, ey, l⟩ | ⟨kvs, k, b, e, ey, eb, l⟩
  · subst ey
    obtain ⟨z, hd, vs, rel, dd⟩ := dk_rd I.hok e
    refine wpAny_notIn_of (kV_is ry) hd dd.mapOf ?_
    rw [← (rel.val k).isSome_eq, ← l]
    exact h _ (I.tok _)
  · subst ey
    cases (show u = Value.ref b from ry)
    obtain ⟨z, hd, xs, rel, dd⟩ := dt_rd I.hok e
    refine wpAny_notIn_heap (tupleKind_room_in1 hu) (key_of I.hok eb) hd dd ?_
    have q := (rel.val k).isSome_eq
    rw [Option.isSome_map] at q
    rw [← q, ← l]
    exact h _ (I.tok _)
/-- a dict's object is replaced -/
theorem d_write {h' : Heap} {t' : Nat} {ob : HO} (I : Inv X pins σ H s) (mu : Mut (H a)) (hs : Heap.SameBut a s.heap h') (he : ∃ q, h'.get? a = some q) (new : ObjOk X.prog X.w (upd H a ob) h' a ob) :
    Inv X pins σ (upd H a ob) { s with heap := h', toks := t' } :=
  I.write (x := a) (e := a) mu (.inl rfl) (fun b q hb z => (hs.2 b hb).trans z) he new
theorem dk_new {P : Program} {w : World} {H' : Hp} {h' : Heap} {kvs : List (Key × V)} {vs : List (Key × Value)} (z : kvs.length ≤ sizeLine) (hd : (a == sysModules) = false) (rel : KV kvs vs) (dd : h'.DictOf (mixKind P w) a vs) :
    ObjOk P w H' h' a (.dK kvs) := ⟨z, hd, vs, rel, dd⟩
/-- d[y] = v -/
theorem d_setItem {H' : Hp} {Q : Unit → Shared → Prop} (hu : A.units + 1 < cLine) (I : Inv X pins σ H s) (g : DPut H a y v H') (ry : RelV y u) (rv : RelV v r) (h : ∀ s', Inv X pins σ H' s' → Q () s') :
    wpAny (model X.prog X.w) A (setItem (.ref a) u r) Q E s := by
  rcases g with ⟨kvs, k, e, ey, l, eH⟩ | ⟨kvs, k, b, e, ey, eb, l, eH⟩
  · subst ey eH
    obtain ⟨z, hd, vs, rel, dd⟩ := dk_of I.hok e
    have hz : vs.length ≤ sizeLine := by rw [← rel.length]; exact z
    have hl : (putK kvs k v).length ≤ sizeLine := by have := length_putK kvs k v; omega
    refine wpAny_setItem_pairs (hsz := hz) (kV_is ry) dd fun h' dd' hs => h _ ?_
    have he : ∃ q, h'.get? a = some q := let ⟨q, _, _, hq, _⟩ := dd'; ⟨q, hq⟩
    exact d_write I (by rw [e]; exact True.intro) hs he (dk_new hl hd (rel.put k rv) dd')
  · subst ey eH
    cases (show u = Value.ref b from ry)
    obtain ⟨z, hd, xs, rel, dd⟩ := dt_of I.hok e
    have hz : xs.length ≤ sizeLine := by rw [← Paired.length rel]; exact z
    have hl : (putK kvs k v).length ≤ sizeLine := by have := length_putK kvs k v; omega
    refine wpAny_setItem_heap (hsz := hz) (tupleKind_room_in1 hu) (key_of I.hok eb) dd fun h' dd' hs => h _ ?_
    obtain ⟨q, es, ep, hq, h2, h3, h4, _, h5⟩ := dd'
    refine d_write I (by rw [e]; exact True.intro) hs ⟨q, hq⟩ ⟨hl, hd, _, (rel.put k eb rv).keeps fun c ys ec => ?_, q, es, ep, hq, h2, h3, h4, h5⟩
    rw [upd_ne (ne_of ec e (fun z => nomatch z))]
    exact ec
end

section
variable {X : Cx} {pins : List (Addr × Obj)} {σ : St} {H : Hp} {s : Shared} {a : Addr} {kvs : List (Key × V)} {k : Key} {u : Value} {A : Around} {E : Value → Shared → Prop}
/-- del d[k] -/
theorem d_delItem {Q : Unit → Shared → Prop} (I : Inv X pins σ H s) (e : H a = some (.dK kvs)) (ry : RelV (kV k) u) (l : (valV kvs k).isSome = true) (h : ∀ s', Inv X pins σ (upd H a (.dK (dropK kvs k))) s' → Q () s') :
    wpAny (model X.prog X.w) A (delItem (.ref a) u) Q E s := by
  obtain ⟨z, hd, vs, rel, dd⟩ := dk_of I.hok e
  refine wpAny_delItem_slot dd.typeIs (by decide) PySem.F.slot_dict_delitem
    (call_meetsIn PySem.F.slot_dict_delitem dd.typeIs PySem.F.entry_dict_delitem (PySem.F.args_dict_delitem_2 _ _) (meets_dict_delitem_pairs (mixKind X.prog X.w) a (kV_is ry)) ⟨vs, dd, by rw [← rel.length]; exact z, by rw [← (rel.val k).isSome_eq]; exact l, fun h' dd' hs => h _ ?_⟩)
  have he : ∃ q, h'.get? a = some q := let ⟨q, _, _, hq, _⟩ := dd'; ⟨q, hq⟩
  exact d_write I (by rw [e]; exact True.intro) hs he (dk_new (Nat.le_trans (dropK_le kvs k) z) hd (rel.drop k) dd')
/-- d.pop(k[, x]), there -/
theorem d_pop {v : V} {more : List Value} {Q : Value → Shared → Prop} (I : Inv X pins σ H s) (e : H a = some (.dK kvs)) (ry : RelV (kV k) u) (l : valV kvs k = some v) (hm : more = [] ∨ ∃ x, more = [x])
    (h : ∀ w' s', Inv X pins σ (upd H a (.dK (dropK kvs k))) s' → RelV v w' → Q w' s') : wpAny (model X.prog X.w) A (call (.builtin "dict.pop") (.ref a :: u :: more)) Q E s := by
  obtain ⟨z, hd, vs, rel, dd⟩ := dk_of I.hok e
  obtain ⟨w', hw, rw'⟩ := RelO.some_of (v := v) (o := valueAt vs k) (by rw [← l]; exact rel.val k)
  have hp : (keyPart u).isSome = true := by
    cases k with
    | inl i => obtain ⟨t, q⟩ := (show ∃ t, u = Value.int i t from ry); subst q; rfl
    | inr x => obtain ⟨t, q⟩ := (show ∃ t, u = Value.str x t from ry); subst q; rfl
  have ha : argsOk "dict.pop" ⟨.ref a :: u :: more, []⟩ := by
    rcases hm with q | ⟨x, q⟩
    · subst q; exact PySem.F.args_dict_pop_2 _ _
    · subst q; exact PySem.F.args_dict_pop_3 _ _ _
  refine call_meetsIn PySem.F.slot_dict_pop dd.typeIs PySem.F.entry_dict_pop ha (meets_dict_pop_there (mixKind X.prog X.w) a (kV_is ry) more hm hp)
    ⟨vs, w', dd, by rw [← rel.length]; exact z, hw, fun h' dd' hs => h w' _ ?_ rw'⟩
  have he : ∃ q, h'.get? a = some q := let ⟨q, _, _, hq, _⟩ := dd'; ⟨q, hq⟩
  exact d_write I (by rw [e]; exact True.intro) hs he (dk_new (Nat.le_trans (dropK_le kvs k) z) hd (rel.drop k) dd')
/-- d.pop(k, x), not there -/
theorem d_popD {r : Value} {Q : Value → Shared → Prop} (I : Inv X pins σ H s) (e : H a = some (.dK kvs)) (ry : RelV (kV k) u) (l : valV kvs k = none) (h : ∀ s', Inv X pins σ H s' → Q r s') :
    wpAny (model X.prog X.w) A (call (.builtin "dict.pop") [.ref a, u, r]) Q E s := by
  obtain ⟨z, hd, vs, rel, dd⟩ := dk_of I.hok e
  have hn : valueAt vs k = none := RelO.none_of (by rw [← l]; exact rel.val k)
  have hp : (keyPart u).isSome = true := by
    cases k with
    | inl i => obtain ⟨t, q⟩ := (show ∃ t, u = Value.int i t from ry); subst q; rfl
    | inr x => obtain ⟨t, q⟩ := (show ∃ t, u = Value.str x t from ry); subst q; rfl
  exact call_meetsIn PySem.F.slot_dict_pop dd.typeIs PySem.F.entry_dict_pop (PySem.F.args_dict_pop_3 _ _ _) (meets_dict_pop_default (mixKind X.prog X.w) a (kV_is ry) hd hp r) ⟨vs, dd, hn, h _ (I.tok _)⟩
/-- d.clear() -/
theorem d_clear {Q : Value → Shared → Prop} (I : Inv X pins σ H s) (e : H a = some (.dK kvs)) (h : ∀ s', Inv X pins σ (upd H a (.dK [])) s' → Q .none s') : wpAny (model X.prog X.w) A (call (.builtin "dict.clear") [.ref a]) Q E s := by
  obtain ⟨z, hd, vs, rel, dd⟩ := dk_of I.hok e
  refine call_meetsIn PySem.F.slot_dict_clear dd.typeIs PySem.F.entry_dict_clear (PySem.F.args_dict_clear_1 _) (meets_dict_clear (mixKind X.prog X.w) a) ⟨vs, dd, by rw [← rel.length]; exact z, fun h' dd' hs => h _ ?_⟩
  have he : ∃ q, h'.get? a = some q := let ⟨q, _, _, hq, _⟩ := dd'; ⟨q, hq⟩
  exact d_write (t' := s.toks) I (by rw [e]; exact True.intro) hs he (dk_new (Nat.zero_le _) hd .nil dd')
/-- len(d) -/
theorem d_len {Q : Value → Shared → Prop} (I : Inv X pins σ H s) (e : Rd H a (.dK kvs)) (h : ∀ t s', Inv X pins σ H s' → Q (.int kvs.length t) s') : wpAny (model X.prog X.w) A (call (.builtin "len") [.ref a]) Q E s := by
  obtain ⟨z, hd, vs, rel, dd⟩ := dk_rd I.hok e
  refine call_len_dict hd dd (by rw [← rel.length]; rw [sizeLine_eq] at z; omega) ?_
  rw [← rel.length]
  exact h _ _ (I.tok _)
/-- if d -/
theorem d_truth {Q : Bool → Shared → Prop} (I : Inv X pins σ H s) (e : Rd H a (.dK kvs)) (h : ∀ s', Inv X pins σ H s' → Q (!kvs.isEmpty) s') : wpAny (model X.prog X.w) A (truthy (.ref a)) Q E s := by
  obtain ⟨z, hd, vs, rel, dd⟩ := dk_rd I.hok e
  refine wpAny_truthy_dict hd dd (by rw [← rel.length]; rw [sizeLine_eq] at z; omega) ?_
  have q : kvs.isEmpty = vs.isEmpty := by cases rel <;> rfl
  rw [← q]
  exact h _ (I.tok _)
end


/-! ### readings and rules -/
/-- the element of a subscription, not a slice -/
def NoSl (i : Expr) : Prop := ∀ ov iv, subscripted i false ov iv = operate [ov, iv] (getItem ov iv)
theorem subD_of {prog : Program} {w : World} {A : Around} {E : Value → Shared → Prop} {s : Shared} {env : Env} {value slice : Expr} {pos : Pos} {T id : String} {Q : Value → Shared → Prop}
    (hl : typeLookup (.type T) "__getitem__" = pure (some (.builtin id))) (hs : NoSl slice)
    (h : wpAny (model prog w) A (eval value env) (fun o s₁ => wpAny (model prog w) A (eval slice env) (fun i s₂ => s₂.TypeIs o T ∧ wpAny (model prog w) A (getItem o i) Q E s₂) E s₁) E s) :
    wpAny (model prog w) A (eval (.Subscript value slice pos) env) Q E s := by
  refine Subscript_ (wpAny_mono h (fun o s₁ h₁ => wpAny_mono h₁ (fun i s₂ h₂ => ?_) fun _ _ x => x) fun _ _ x => x)
  obtain ⟨hT, h₂⟩ := h₂
  unfold subscriptTail
  refine wpAny_bind ?_
  rw [getitemInPython_of_ne hT.not_modules]
  refine wpAny_bind (wpAny_specialOf hT hl ?_)
  have fin : wpAny (model prog w) A (subscripted slice false o i) (fun r s₃ => wpAny (model prog w) A (letTemporaryGo value o r >>= fun _ => pure r) Q E s₃) E s₂ := by
    rw [hs o i]
    exact wpAny_operating (wpAny_mono h₂ (fun r s₃ h₃ => wpAny_bind (wpAny_letTemporaryGo (wpAny_pure h₃))) fun _ _ x => x)
  first
    | exact wpAny_pure (wpAny_bind fin)
    | exact wpAny_bind (wpAny_pure (wpAny_bind fin))
    | exact wpAny_bind fin

theorem dict_typeIs {X : Cx} {pins : List (Addr × Obj)} {σ : St} {H : Hp} {s : Shared} {a : Addr} {y : V} {o : Option V} (I : Inv X pins σ H s) (g : DGet H a y o) : s.TypeIs (.ref a) "dict" := by
  rcases g with ⟨kvs, k, e, _, _⟩ | ⟨kvs, k, b, e, _, _, _⟩
  · obtain ⟨_, _, vs, _, dd⟩ := dk_rd I.hok e
    exact dd.typeIs
  · obtain ⟨_, _, xs, _, dd⟩ := dt_rd I.hok e
    exact dd.typeIs
theorem dict_noDict {X : Cx} {pins : List (Addr × Obj)} {σ : St} {H : Hp} {s : Shared} {a : Addr} {y : V} {o : Option V} (I : Inv X pins σ H s) (g : DGet H a y o) :
    ∀ b, Value.ref a = .ref b → ∃ ob, s.heap.get? b = some ob ∧ ob.dict = none := fun b q => by
  cases q
  rcases g with ⟨kvs, k, e, _, _⟩ | ⟨kvs, k, b, e, _, _, _⟩
  · obtain ⟨_, _, vs, _, ob, _, _, h1, h2, _⟩ := dk_rd I.hok e
    exact ⟨ob, h1, h2.2.1⟩
  · obtain ⟨_, _, xs, _, ob, _, _, h1, h2, _⟩ := dt_rd I.hok e
    exact ⟨ob, h1, h2.2.1⟩

/-- d[y] -/
def tDGet (td ty : TE) : TE := fun σ H Q => td σ H fun x H1 => ty σ H1 fun y H2 => ∃ a v, x = .ref a ∧ DGet H2 a y (some v) ∧ Q v H2
/-- y in d, y not in d -/
def tDIn (ty td : TE) : TE := fun σ H Q => ty σ H fun y H1 => td σ H1 fun x H2 => ∃ a o, x = .ref a ∧ DGet H2 a y o ∧ Q (.bl o.isSome) H2
def tDNotIn (ty td : TE) : TE := fun σ H Q => ty σ H fun y H1 => td σ H1 fun x H2 => ∃ a o, x = .ref a ∧ DGet H2 a y o ∧ Q (.bl (!o.isSome)) H2
/-- d[y] = v -/
def sDPut (td ty tv : TE) : TS := fun D σ H => tv σ H fun v H1 => td σ H1 fun x H2 => ty σ H2 fun y H3 => ∃ a H4, x = .ref a ∧ DPut H3 a y v H4 ∧ D.nx σ H4
/-- d[y] op= v -/
def sDAug (td ty tv : TE) (rd : V → V → Hp → VK → Prop) : TS := fun D σ H => td σ H fun x H1 => ty σ H1 fun y H2 => ∃ a v, x = .ref a ∧ DGet H2 a y (some v) ∧
  tv σ H2 fun y2 H3 => rd v y2 H3 fun z H4 => ∃ H5, DPut H4 a y z H5 ∧ D.nx σ H5
/-- del d[y] -/
def sDDel (td ty : TE) : TS := fun D σ H => td σ H fun x H1 => ty σ H1 fun y H2 => ∃ a kvs k, x = .ref a ∧ H2 a = some (.dK kvs) ∧ y = kV k ∧ (valV kvs k).isSome = true ∧ D.nx σ (upd H2 a (.dK (dropK kvs k)))

section
variable {X : Cx} {o i e value : Expr} {pos pos' tpos : Pos} {td ty tv : TE}
theorem pe_dget (hu : X.A.units + 1 < cLine) (ho : PE X o td) (hi : PE X i ty) (hs : NoSl i) : PE X (.Subscript o i pos) (tDGet td ty) := by
  intro pins s σ H Q I h
  refine subD_of PySem.F.slot_dict_getitem.lookup hs (thn (ho pins s σ H _ I h) fun u s1 ⟨x, H1, I1, rx, q1⟩ => thn (hi pins s1 σ H1 _ I1 q1) fun iv s2 ⟨y, H2, I2, ry, a, v, ex, g, q2⟩ => ?_)
  subst ex
  obtain rfl : u = Value.ref a := rx
  exact ⟨dict_typeIs I2 g, d_getItem hu I2 g ry fun w' s3 I3 rw' => ⟨v, H2, I3, rw', q2⟩⟩
theorem pc_din (hu : X.A.units + 1 < cLine) (hi : PE X i ty) (ho : PE X o td) : PC X .In i o (tDIn ty td) := by
  intro pins s σ H Q I h
  refine thn (hi pins s σ H _ I h) fun iv s1 ⟨y, H1, I1, ry, q1⟩ => thn (ho pins s1 σ H1 _ I1 q1) fun u s2 ⟨x, H2, I2, rx, a, ov, ex, g, q2⟩ => ?_
  subst ex
  obtain rfl : u = Value.ref a := rx
  exact d_in hu I2 g ry fun s3 I3 => ⟨.bl ov.isSome, H2, I3, rfl, q2⟩
theorem pc_dnotin (hu : X.A.units + 1 < cLine) (hi : PE X i ty) (ho : PE X o td) : PC X .NotIn i o (tDNotIn ty td) := by
  intro pins s σ H Q I h
  refine thn (hi pins s σ H _ I h) fun iv s1 ⟨y, H1, I1, ry, q1⟩ => thn (ho pins s1 σ H1 _ I1 q1) fun u s2 ⟨x, H2, I2, rx, a, ov, ex, g, q2⟩ => ?_
  subst ex
  obtain rfl : u = Value.ref a := rx
  exact d_notIn hu I2 g ry fun s3 I3 => ⟨.bl (!ov.isSome), H2, I3, rfl, q2⟩
theorem ps_dput (hu : X.A.units + 1 < cLine) (ho : PE X o td) (hi : PE X i ty) (hv : PE X value tv) (hs : swapsWith value (some (.Subscript o i pos')) pos.line X.env = pure false) :
    PS X (.Assign [.Subscript o i pos'] value pos) (sDPut td ty tv) := by
  intro pins s σ H D I h
  refine wpAny_Assign_Subscript (thn (hv pins s σ H _ I h) fun r s1 ⟨v, H1, I1, rv, q1⟩ => thn (ho pins s1 σ H1 _ I1 q1) fun u s2 ⟨x, H2, I2, rx, q2⟩ => thn (hi pins s2 σ H2 _ I2 q2) fun iv s3 ⟨y, H3, I3, ry, a, H4, ex, g, q3⟩ => ?_) hs
  subst ex
  obtain rfl : u = Value.ref a := rx
  exact d_setItem hu I3 g ry rv fun s4 I4 => ⟨σ, H4, I4, q3⟩
theorem ps_daug {op : Operator} {rd : V → V → Hp → VK → Prop} (hu : X.A.units + 1 < cLine) (ho : PE X o td) (hi : PE X i ty) (hv : PE X value tv) (hop : InOp X op rd)
    (ha : ∀ ov iv new, augStore i ov iv new = (do holding [new, ov, iv] (setItem ov iv new); release [new, ov, iv] []; pure .next)) : PS X (.AugAssign (.Subscript o i tpos) op value pos) (sDAug td ty tv rd) := by
  intro pins s σ H D I h
  refine wpAny_AugAssign_SubscriptAny (thn (ho pins s σ H _ I h) fun u s1 ⟨x, H1, I1, rx, q1⟩ => thn (hi pins s1 σ H1 _ I1 q1) fun iv s2 ⟨y, H2, I2, ry, a, v, ex, g, q2⟩ => ?_) ha
  subst ex
  obtain rfl : u = Value.ref a := rx
  refine d_getItem hu I2 g ry fun w' s3 I3 rw' => thn (hv pins s3 σ H2 _ I3 q2) fun w2 s4 ⟨y2, H3, I4, ry2, q3⟩ => thn (hop pins s4 σ H3 v y2 w' w2 _ I4 rw' ry2 q3) fun w3 s5 ⟨z, H4, I5, rz, H5, g5, q4⟩ => ?_
  exact d_setItem hu I5 g5 ry rz fun s6 I6 => ⟨σ, H5, I6, q4⟩
theorem ps_ddel (ho : PE X o td) (hi : PE X i ty) : PS X (.Delete [.Subscript o i tpos] pos) (sDDel td ty) := by
  intro pins s σ H D I h
  refine wpAny_Delete (wpAny_deleteEach_cons (wpAny_delete_Subscript (thn (ho pins s σ H _ I h) fun u s1 ⟨x, H1, I1, rx, q1⟩ => thn (hi pins s1 σ H1 _ I1 q1) fun iv s2 ⟨y, H2, I2, ry, a, kvs, k, ex, e, ey, l, q2⟩ => ?_)))
  subst ex ey
  obtain rfl : u = Value.ref a := rx
  exact d_delItem I2 e ry l fun s3 I3 => wpAny_deleteEach_nil ⟨σ, _, I3, q2⟩
end


/-! ### displays -/
theorem dk_empty {P : Program} {w : World} {H : Hp} (h : Heap) (hb : sysModules < h.objs.size) : ObjOk P w H (h.push { cls := .type "dict", data := .dict #[] }) h.objs.size (.dK []) :=
  ⟨Nat.zero_le _, beq_eq_false_iff_ne.mpr (Ne.symm (Nat.ne_of_lt hb)), [], .nil, Heap.DictOf.new h⟩
theorem dt_empty {P : Program} {w : World} {H : Hp} (h : Heap) (hb : sysModules < h.objs.size) : ObjOk P w H (h.push { cls := .type "dict", data := .dict #[] }) h.objs.size (.dT []) :=
  ⟨Nat.zero_le _, beq_eq_false_iff_ne.mpr (Ne.symm (Nat.ne_of_lt hb)), [], .nil, _, #[], 0, Heap.get?_push_size _ rfl, ⟨rfl, rfl, rfl⟩, rfl, rfl, List.nodup_nil⟩
/-- {}, to be a dict of the kind that is wanted -/
def tDNewK : TE := fun _ H Q => ∀ p, H p = none → Q (.ref p) (upd H p (.dK []))
def tDNewT : TE := fun _ H Q => ∀ p, H p = none → Q (.ref p) (upd H p (.dT []))
section
variable {X : Cx} {pos : Pos}
theorem pe_dnewK : PE X (.Dict [] [] pos) tDNewK := fun pins s σ H Q I h =>
  wpAny_Dict_empty ⟨.ref s.heap.objs.size, _, I.laid (a := s.heap.objs.size) (o := .dK []) (t' := s.toks) (fun _ _ q => Heap.get?_push_of_some _ q) (Nat.le_refl _) (dk_empty s.heap I.big), rfl, h _ (I.hok.fresh (Nat.le_refl _))⟩
theorem pe_dnewT : PE X (.Dict [] [] pos) tDNewT := fun pins s σ H Q I h =>
  wpAny_Dict_empty ⟨.ref s.heap.objs.size, _, I.laid (a := s.heap.objs.size) (o := .dT []) (t' := s.toks) (fun _ _ q => Heap.get?_push_of_some _ q) (Nat.le_refl _) (dt_empty s.heap I.big), rfl, h _ (I.hok.fresh (Nat.le_refl _))⟩
end

/-- the pairs of a display, from the left -/
def tPairs : List (TE × TE) → St → Hp → (List (V × V) → Hp → Prop) → Prop
  | [], _, H, Q => Q [] H
  | (tk, tv) :: r, σ, H, Q => tk σ H fun x H1 => tv σ H1 fun y H2 => tPairs r σ H2 fun ps H3 => Q ((x, y) :: ps) H3
abbrev VV : List (V × V) → List (Value × Value) → Prop := Paired fun p q => RelV p.1 q.1 ∧ RelV p.2 q.2
def PPs (X : Cx) (pos : Pos) (keys : List (Option Expr)) (values : List Expr) (trs : List (TE × TE)) : Prop :=
  ∀ (pins : List (Addr × Obj)) (s : Shared) (σ : St) (H : Hp) (Q : List (V × V) → Hp → Prop), Inv X pins σ H s → tPairs trs σ H Q →
    wpAny (model X.prog X.w) X.A (evalPairs (pairTrees keys values X.env pos)) (fun vs s' => ∃ ps H', Inv X pins σ H' s' ∧ VV ps vs ∧ Q ps H') X.xe s
theorem pps_nil {X : Cx} {pos : Pos} : PPs X pos [] [] [] := fun pins s σ H Q I h => pairTrees_nil_walk ⟨[], H, I, .nil, h⟩
theorem pps_cons {X : Cx} {pos : Pos} {k v : Expr} {ks : List (Option Expr)} {vs : List Expr} {tk tv : TE} {trs : List (TE × TE)} (hk : PE X k tk) (hv : PE X v tv) (hr : PPs X pos ks vs trs) :
    PPs X pos (some k :: ks) (v :: vs) ((tk, tv) :: trs) := fun pins s σ H Q I h =>
  pairTrees_cons_walk (thn (hk pins s σ H _ I h) fun u s1 ⟨x, H1, I1, rx, q1⟩ => thn (hv pins s1 σ H1 _ I1 q1) fun w2 s2 ⟨y, H2, I2, ry, q2⟩ =>
    thn (hr pins s2 σ H2 _ I2 q2) fun ws s3 ⟨ps, H3, I3, rel, q3⟩ => ⟨(x, y) :: ps, H3, I3, .cons ⟨rx, ry⟩ rel, q3⟩)

def mergeK (kvs more : List (Key × V)) : List (Key × V) := more.foldl (fun acc kv => putK acc kv.1 kv.2) kvs
theorem KV.merge : ∀ {more : List (Key × V)} {rs : List (Key × Value)} {kvs : List (Key × V)} {vs : List (Key × Value)}, KV more rs → KV kvs vs → KV (mergeK kvs more) (merged vs rs) := by
  intro more rs kvs vs r
  unfold KV at r
  induction r generalizing kvs vs with
  | nil => intro q; exact q
  | @cons p q ps qs h t ih =>
    intro r0
    have e : KV (putK kvs p.1 p.2) (stored vs q.1 q.2) := by
      have := r0.put p.1 h.2
      rw [← h.1]; exact this
    exact ih e
theorem length_mergeK : ∀ (more kvs : List (Key × V)), (mergeK kvs more).length ≤ kvs.length + more.length
  | [], kvs => by show kvs.length ≤ kvs.length + 0; omega
  | p :: r, kvs => by
    have h1 := length_mergeK r (putK kvs p.1 p.2)
    have h2 := length_putK kvs p.1 p.2
    show (mergeK (putK kvs p.1 p.2) r).length ≤ _
    rw [List.length_cons]; omega
theorem carries_of {P : Program} {w : World} : ∀ {kvs : List (Key × V)} {ws : List (Value × Value)}, VV (kvs.map fun kv => (kV kv.1, kv.2)) ws → ∃ rs, Carries (mixKind P w) ws rs ∧ KV kvs rs
  | [], _, r => by rw [List.map_nil] at r; cases r; exact ⟨[], True.intro, .nil⟩
  | p :: kvs, _, r => by
    rw [List.map_cons] at r
    cases r with
    | @cons a b as bs h t =>
      obtain ⟨rs, c, q⟩ := carries_of (P := P) (w := w) t
      obtain ⟨b1, b2⟩ := b
      exact ⟨(p.1, b2) :: rs, ⟨kV_is h.1, rfl, c⟩, .cons ⟨rfl, h.2⟩ q⟩
/-- {k: v, ..} with keys ints and texts; the new dict stands empty while the pairs are made -/
def tDisp (trs : List (TE × TE)) : TE := fun σ H Q => ∀ p, H p = none → tPairs trs σ (upd H p (.dK [])) fun ps H2 => H2 p = some (.dK []) ∧ ∃ kvs : List (Key × V), ps = kvs.map (fun kv => (kV kv.1, kv.2)) ∧ kvs.length ≤ 15 ∧ Q (.ref p) (upd H2 p (.dK (mergeK [] kvs)))
theorem pe_disp {X : Cx} {pos : Pos} {keys : List (Option Expr)} {values : List Expr} {trs : List (TE × TE)} (h : PPs X pos keys values trs) (hall : keys.all (·.isSome) = true) (hl : keys.length = values.length) (h0 : keys ≠ [])
    (h15 : keys.length ≤ 15) : PE X (.Dict keys values pos) (tDisp trs) := by
  intro pins s σ H Q I q
  have hn := I.hok.fresh (Nat.le_refl s.heap.objs.size)
  have I1 := I.laid (a := s.heap.objs.size) (o := .dK []) (h' := s.heap.push { cls := .type "dict", data := .dict #[] }) (t' := s.toks) (fun _ _ q => Heap.get?_push_of_some _ q) (Nat.le_refl _) (dk_empty s.heap I.big)
  refine wpAny_Dict_walk (knd := mixKind X.prog X.w) hall hl h0 h15 (thn (h pins _ σ _ _ I1 (q _ hn)) fun ws s2 ⟨ps, H2, I2, rel, e, kvs, ep, lk, q2⟩ => ?_)
  subst ep
  obtain ⟨rs, c, rk⟩ := carries_of (P := X.prog) (w := X.w) rel
  obtain ⟨z, hd, vs0, r0, dd⟩ := dk_of I2.hok e
  cases r0
  refine ⟨rs, c, dd, fun h' dd' hs => ⟨.ref s.heap.objs.size, _, ?_, rfl, q2⟩⟩
  have hz : (mergeK [] kvs).length ≤ sizeLine := by
    have h1 := length_mergeK kvs []
    rw [List.length_nil] at h1
    rw [sizeLine_eq]; omega
  have he : ∃ q, h'.get? s.heap.objs.size = some q := let ⟨q, _, _, hq, _⟩ := dd'; ⟨q, hq⟩
  exact d_write I2 (by rw [e]; exact True.intro) hs he (dk_new hz hd (rk.merge .nil) dd')


/-! ### methods -/
/-- a method call o.m(e) of a built-in, with one argument: what must be seen of the text -/
structure M1 (X : Cx) (o : Expr) (m : Str) (apos : Pos) (e : Expr) (cpos : Pos) : Prop where
  base : attributeBase o m X.env (eval o X.env) = eval o X.env
  few : ((backTo cpos (starEach [e] X.env)).all (fun x => !x.1) && (backToKw cpos (keywordEach [] X.env)).all (fun x => x.1.isSome)
    && decide (([e] : List Expr).length + ([] : List Keyword).length + (if ([] : List Keyword).isEmpty then 0 else 1) < 30)) = true
  line : (apos.endLine == cpos.line) = true
  trees : backTo cpos (starEach [e] X.env) = [(false, eval e X.env)]
structure M2 (X : Cx) (o : Expr) (m : Str) (apos : Pos) (e f : Expr) (cpos : Pos) : Prop where
  base : attributeBase o m X.env (eval o X.env) = eval o X.env
  few : ((backTo cpos (starEach [e, f] X.env)).all (fun x => !x.1) && (backToKw cpos (keywordEach [] X.env)).all (fun x => x.1.isSome)
    && decide (([e, f] : List Expr).length + ([] : List Keyword).length + (if ([] : List Keyword).isEmpty then 0 else 1) < 30)) = true
  line : (apos.endLine == cpos.line) = true
  trees : backTo cpos (starEach [e, f] X.env) = [(false, eval e X.env), (false, eval f X.env)]

/-- a is a dict, whatever its keys -/
def IsD (H : Hp) (a : Addr) : Prop := (∃ kvs, Rd H a (.dK kvs)) ∨ ∃ kvs, Rd H a (.dT kvs)
theorem isD_at {X : Cx} {pins : List (Addr × Obj)} {σ : St} {H : Hp} {s : Shared} {a : Addr} (I : Inv X pins σ H s) (d : IsD H a) :
    s.TypeIs (.ref a) "dict" ∧ (∀ b, Value.ref a = .ref b → ∃ ob, s.heap.get? b = some ob ∧ ob.dict = none) ∧ (a == sysModules) = false := by
  rcases d with ⟨kvs, e⟩ | ⟨kvs, e⟩
  · obtain ⟨_, hd, vs, _, dd⟩ := dk_rd I.hok e
    refine ⟨dd.typeIs, fun b q => ?_, hd⟩
    cases q
    obtain ⟨ob, _, _, h1, h2, _⟩ := dd
    exact ⟨ob, h1, h2.2.1⟩
  · obtain ⟨_, hd, xs, _, dd⟩ := dt_rd I.hok e
    refine ⟨dd.typeIs, fun b q => ?_, hd⟩
    cases q
    obtain ⟨ob, _, _, h1, h2, _⟩ := dd
    exact ⟨ob, h1, h2.2.1⟩

section
variable {X : Cx} {pins : List (Addr × Obj)} {σ : St} {H : Hp} {s : Shared} {a : Addr} {y d : V} {u r : Value} {o : Option V} {A : Around} {E : Value → Shared → Prop}
/-- d.get(y) -/
theorem d_get1 {Q : Value → Shared → Prop} (hu : A.units + 1 < cLine) (I : Inv X pins σ H s) (g : DGet H a y o) (ry : RelV y u) (h : ∀ w' s', Inv X pins σ H s' → RelV (o.getD .non) w' → Q w' s') :
    wpAny (model X.prog X.w) A (call (.builtin "dict.get") [.ref a, u]) Q E s := by
  rcases g with ⟨kvs, k, e, ey, l⟩ | ⟨kvs, k, b, e, ey, eb, l⟩
  · subst ey
    obtain ⟨z, hd, vs, rel, dd⟩ := dk_rd I.hok e
    refine call_meetsIn PySem.F.slot_dict_get dd.typeIs PySem.F.entry_dict_get (PySem.F.args_dict_get_2 _ _) (meets_dict_get (mixKind X.prog X.w) a (kV_is ry) hd) ⟨_, dd.mapOf, h _ _ (I.tok _) ?_⟩
    rw [l]
    exact (rel.val k).getD rfl
  · subst ey
    cases (show u = Value.ref b from ry)
    obtain ⟨z, hd, xs, rel, dd⟩ := dt_rd I.hok e
    refine call_meetsIn PySem.F.slot_dict_get dd.typeIs PySem.F.entry_dict_get (PySem.F.args_dict_get_2 _ _) (meetsH_dict_get (tupleKind (mixKind X.prog X.w)) a b hd) ⟨tupleKind_room_in1 hu, k, xs, key_of I.hok eb, dd, h _ _ (I.tok _) ?_⟩
    rw [l]
    exact (rel.val k).getD rfl
/-- d.get(y, x) -/
theorem d_get2 {Q : Value → Shared → Prop} (hu : A.units + 1 < cLine) (I : Inv X pins σ H s) (g : DGet H a y o) (ry : RelV y u) (rd : RelV d r) (h : ∀ w' s', Inv X pins σ H s' → RelV (o.getD d) w' → Q w' s') :
    wpAny (model X.prog X.w) A (call (.builtin "dict.get") [.ref a, u, r]) Q E s := by
  rcases g with ⟨kvs, k, e, ey, l⟩ | ⟨kvs, k, b, e, ey, eb, l⟩
  · subst ey
    obtain ⟨z, hd, vs, rel, dd⟩ := dk_rd I.hok e
    refine call_meetsIn PySem.F.slot_dict_get dd.typeIs PySem.F.entry_dict_get (PySem.F.args_dict_get_3 _ _ _) (meets_dict_get_default (mixKind X.prog X.w) a (kV_is ry) hd r) ⟨_, dd.mapOf, h _ _ (I.tok _) ?_⟩
    rw [l]
    exact (rel.val k).getD rd
  · subst ey
    cases (show u = Value.ref b from ry)
    obtain ⟨z, hd, xs, rel, dd⟩ := dt_rd I.hok e
    refine call_meetsIn PySem.F.slot_dict_get dd.typeIs PySem.F.entry_dict_get (PySem.F.args_dict_get_3 _ _ _) (meetsH_dict_get_default (tupleKind (mixKind X.prog X.w)) a b hd r) ⟨tupleKind_room_in1 hu, k, xs, key_of I.hok eb, dd, h _ _ (I.tok _) ?_⟩
    rw [l]
    exact (rel.val k).getD rd
end

def tDGet1 (td ty : TE) : TE := fun σ H Q => td σ H fun x H1 => ∃ a, x = .ref a ∧ IsD H1 a ∧ ty σ H1 fun y H2 => ∃ o, DGet H2 a y o ∧ Q (o.getD .non) H2
def tDGet2 (td ty tx : TE) : TE := fun σ H Q => td σ H fun x H1 => ∃ a, x = .ref a ∧ IsD H1 a ∧ ty σ H1 fun y H2 => tx σ H2 fun z H3 => ∃ o, DGet H3 a y o ∧ Q (o.getD z) H3
/-- d.pop(k): there; d.pop(k, x): there or not -/
def tDPop1 (td ty : TE) : TE := fun σ H Q => td σ H fun x H1 => ∃ a, x = .ref a ∧ IsD H1 a ∧ ty σ H1 fun y H2 => ∃ kvs k v, H2 a = some (.dK kvs) ∧ y = kV k ∧ valV kvs k = some v ∧ Q v (upd H2 a (.dK (dropK kvs k)))
def tDPop2 (td ty tx : TE) : TE := fun σ H Q => td σ H fun x H1 => ∃ a, x = .ref a ∧ IsD H1 a ∧ ty σ H1 fun y H2 => tx σ H2 fun z H3 => ∃ kvs k, H3 a = some (.dK kvs) ∧ y = kV k ∧
  (∀ v, valV kvs k = some v → Q v (upd H3 a (.dK (dropK kvs k)))) ∧ (valV kvs k = none → Q z H3)
section
variable {X : Cx} {o e f : Expr} {apos cpos : Pos} {td ty tx : TE}
theorem pe_dget1 (hu : X.A.units + 1 < cLine) (ho : PE X o td) (he : PE X e ty) (m : M1 X o "get" apos e cpos) : PE X (.Call (.Attribute o "get" apos) [e] [] cpos) (tDGet1 td ty) := by
  intro pins s σ H Q I h
  refine wpAny_Call_method m.base m.few m.line PySem.F.plainAttrs_dict PySem.F.slot_dict_get PySem.F.type_dict_get (thn (ho pins s σ H _ I h) fun u s1 ⟨x, H1, I1, rx, a, ex, d, q1⟩ => ?_)
  subst ex
  obtain rfl : u = Value.ref a := rx
  obtain ⟨t1, t2, _⟩ := isD_at I1 d
  refine ⟨t1, t2, ?_⟩
  rw [m.trees]
  refine Calls.callWith_builtin rfl (Calls.evalArgs_plain (Calls.spliced_cons (thn (he pins s1 σ H1 _ I1 q1) fun iv s2 ⟨y, H2, I2, ry, ov, g, q2⟩ => Calls.spliced_nil ?_)))
  exact d_get1 hu I2 g ry fun w' s3 I3 rw' => ⟨_, H2, I3, rw', q2⟩
theorem pe_dget2 (hu : X.A.units + 1 < cLine) (ho : PE X o td) (he : PE X e ty) (hf : PE X f tx) (m : M2 X o "get" apos e f cpos) : PE X (.Call (.Attribute o "get" apos) [e, f] [] cpos) (tDGet2 td ty tx) := by
  intro pins s σ H Q I h
  refine wpAny_Call_method m.base m.few m.line PySem.F.plainAttrs_dict PySem.F.slot_dict_get PySem.F.type_dict_get (thn (ho pins s σ H _ I h) fun u s1 ⟨x, H1, I1, rx, a, ex, d, q1⟩ => ?_)
  subst ex
  obtain rfl : u = Value.ref a := rx
  obtain ⟨t1, t2, _⟩ := isD_at I1 d
  refine ⟨t1, t2, ?_⟩
  rw [m.trees]
  refine Calls.callWith_builtin rfl (Calls.evalArgs_plain (Calls.spliced_cons (thn (he pins s1 σ H1 _ I1 q1) fun iv s2 ⟨y, H2, I2, ry, q2⟩ =>
    Calls.spliced_cons (thn (hf pins s2 σ H2 _ I2 q2) fun fv s3 ⟨z, H3, I3, rz, ov, g, q3⟩ => Calls.spliced_nil ?_))))
  exact d_get2 hu I3 g ry rz fun w' s4 I4 rw' => ⟨_, H3, I4, rw', q3⟩
theorem pe_dpop1 (ho : PE X o td) (he : PE X e ty) (m : M1 X o "pop" apos e cpos) : PE X (.Call (.Attribute o "pop" apos) [e] [] cpos) (tDPop1 td ty) := by
  intro pins s σ H Q I h
  refine wpAny_Call_method m.base m.few m.line PySem.F.plainAttrs_dict PySem.F.slot_dict_pop PySem.F.type_dict_pop (thn (ho pins s σ H _ I h) fun u s1 ⟨x, H1, I1, rx, a, ex, d, q1⟩ => ?_)
  subst ex
  obtain rfl : u = Value.ref a := rx
  obtain ⟨t1, t2, _⟩ := isD_at I1 d
  refine ⟨t1, t2, ?_⟩
  rw [m.trees]
  refine Calls.callWith_builtin rfl (Calls.evalArgs_plain (Calls.spliced_cons (thn (he pins s1 σ H1 _ I1 q1) fun iv s2 ⟨y, H2, I2, ry, kvs, k, v, ea, ey, l, q2⟩ => Calls.spliced_nil ?_)))
  subst ey
  exact d_pop I2 ea ry l (.inl rfl) fun w' s3 I3 rw' => ⟨v, _, I3, rw', q2⟩
theorem pe_dpop2 (ho : PE X o td) (he : PE X e ty) (hf : PE X f tx) (m : M2 X o "pop" apos e f cpos) : PE X (.Call (.Attribute o "pop" apos) [e, f] [] cpos) (tDPop2 td ty tx) := by
  intro pins s σ H Q I h
  refine wpAny_Call_method m.base m.few m.line PySem.F.plainAttrs_dict PySem.F.slot_dict_pop PySem.F.type_dict_pop (thn (ho pins s σ H _ I h) fun u s1 ⟨x, H1, I1, rx, a, ex, d, q1⟩ => ?_)
  subst ex
  obtain rfl : u = Value.ref a := rx
  obtain ⟨t1, t2, _⟩ := isD_at I1 d
  refine ⟨t1, t2, ?_⟩
  rw [m.trees]
  refine Calls.callWith_builtin rfl (Calls.evalArgs_plain (Calls.spliced_cons (thn (he pins s1 σ H1 _ I1 q1) fun iv s2 ⟨y, H2, I2, ry, q2⟩ =>
    Calls.spliced_cons (thn (hf pins s2 σ H2 _ I2 q2) fun fv s3 ⟨z, H3, I3, rz, kvs, k, ea, ey, q3, q4⟩ => Calls.spliced_nil ?_))))
  subst ey
  cases l : valV kvs k with
  | some v => exact d_pop I3 ea ry l (.inr ⟨fv, rfl⟩) fun w' s4 I4 rw' => ⟨v, _, I4, rw', q3 v l⟩
  | none => exact d_popD I3 ea ry l fun s4 I4 => ⟨z, H3, I4, rz, q4 l⟩
end

/-! ### dict(d): a copy -/
section
variable {X : Cx} {pins : List (Addr × Obj)} {σ : St} {H : Hp} {s : Shared} {a : Addr} {kvs : List (Key × V)} {A : Around} {E : Value → Shared → Prop}
theorem d_copyOf {Q : Value → Shared → Prop} (I : Inv X pins σ H s) (e : Rd H a (.dK kvs)) (h : ∀ p s', H p = none → Inv X pins σ (upd H p (.dK kvs)) s' → Q (.ref p) s') : wpAny (model X.prog X.w) A (call (.type "dict") [.ref a]) Q E s := by
  obtain ⟨z, hd, vs, rel, dd⟩ := dk_rd I.hok e
  refine kt_call_dict hd dd (by rw [← rel.length]; exact z) fun h' dd' hs => ?_
  refine h _ _ (I.hok.fresh (Nat.le_refl _)) (I.laid (a := s.heap.objs.size) (o := .dK kvs) (t' := s.toks) (fun b q hq => ?_) (Nat.le_refl _) (dk_new z (beq_eq_false_iff_ne.mpr (Ne.symm (Nat.ne_of_lt I.big))) rel dd'))
  exact (hs.2 b (Nat.ne_of_lt (Heap.lt_size hq))).trans (Heap.get?_push_of_some _ hq)
end


section
variable {X : Cx} {pins : List (Addr × Obj)} {σ : St} {H : Hp} {s : Shared} {a : Addr} {y : V} {u : Value} {A : Around} {E : Value → Shared → Prop}
/-- d[y], not there: a KeyError -/
theorem d_missing {Q : Value → Shared → Prop} (hu : A.units + 1 < cLine) (hh : A.handled = none) (I : Inv X pins σ H s) (g : DGet H a y none) (ry : RelV y u)
    (h : ∀ h' e t', Heap.NewExc s.heap h' e "KeyError" → E (.ref e) { s with heap := h', toks := t' }) : wpAny (model X.prog X.w) A (getItem (.ref a) u) Q E s := by
  rcases g with ⟨kvs, k, e, ey, l⟩ | ⟨kvs, k, b, e, ey, eb, l⟩
  · subst ey
    obtain ⟨z, hd, vs, rel, dd⟩ := dk_rd I.hok e
    have hn : valueAt vs k = none := RelO.none_of (by rw [l]; exact rel.val k)
    exact wpAny_getItem_missing_of (kV_is ry) hd hh dd.mapOf hn fun h' ex ne => h h' ex _ ne
  · subst ey
    cases (show u = Value.ref b from ry)
    obtain ⟨z, hd, xs, rel, dd⟩ := dt_rd I.hok e
    have hn : (atKey xs k).map (·.2) = none := RelO.none_of (by rw [l]; exact rel.val k)
    exact wpAny_getItem_missing_heap (tupleKind_room_in1 hu) (key_of I.hok eb) hd hh dd (Option.map_eq_none_iff.mp hn) fun h' ex ne => h h' ex _ ne
end
end L2

set_option maxHeartbeats 4000000
namespace L2
open PySem PySem.Spec PyProof.Rows
/-! ### EXT 1: list comprehensions -/
theorem cf_app : ∀ (names : List (Str × NameKind)) (n : Nat) (acc : List (Str × Addr)), cellsFrom n names acc = cellsFrom n names [] ++ acc
  | [], _, acc => rfl
  | (y, k) :: r, n, acc => by
    unfold cellsFrom
    split
    · rw [cf_app r (n + 1) ((y, n) :: acc), cf_app r (n + 1) [(y, n)], List.append_assoc]
      rfl
    · exact cf_app r n acc
theorem of_cfA : ∀ {names : List (Str × NameKind)} {n : Nat} {acc : List (Str × Addr)} {x : Str} {c : Addr}, (cellsFrom n names acc).lookup x = some c → (x, NameKind.cell) ∈ names ∨ acc.lookup x = some c
  | [], _, _, _, _, h => .inr h
  | (y, k) :: r, n, acc, x, c, h => by
    unfold cellsFrom at h
    split at h
    · rename_i hk
      rcases of_cfA h with q | q
      · exact .inl (List.mem_cons_of_mem _ q)
      · rw [List.lookup_cons] at q
        cases hb : x == y with
        | true =>
          have e1 : x = y := by simpa using hb
          have e2 : k = .cell := by simpa using hk
          subst e1 e2
          exact .inl List.mem_cons_self
        | false => rw [hb] at q; exact .inr q
    · rcases of_cfA h with q | q
      · exact .inl (List.mem_cons_of_mem _ q)
      · exact .inr q
theorem of_cf {names : List (Str × NameKind)} {n : Nat} {x : Str} {c : Addr} (h : (cellsFrom n names []).lookup x = some c) : (x, NameKind.cell) ∈ names := by
  rcases of_cfA h with q | q
  · exact q
  · simp at q
/-- the cells that a block takes from around it -/
def clGo (cells : List (Str × Addr)) : List (Str × NameKind) → List (Str × Addr) → List (Str × Addr)
  | [], acc => acc
  | (x, k) :: r, acc => clGo cells r (if k == .free then (x, (cells.lookup x).getD 0) :: acc else acc)
theorem closure_go (env : Env) (f : Str × NameKind → List (Str × Addr) → Sem (ForInStep (List (Str × Addr))))
    (hf : ∀ name kind cs, f (name, kind) cs = if kind == .free then (do let a ← cellOf env name; pure (.yield ((name, a) :: cs))) else pure (.yield cs)) :
    ∀ (names : List (Str × NameKind)) (acc : List (Str × Addr)), (∀ x, (x, NameKind.free) ∈ names → ∃ c, env.cells.lookup x = some c) →
      forIn names acc f = (pure (clGo env.cells names acc) : Sem (List (Str × Addr)))
  | [], acc, _ => by rw [List.forIn_nil]; rfl
  | (x, k) :: r, acc, h => by
    rw [List.forIn_cons, hf]
    have hr := fun y hy => h y (List.mem_cons_of_mem _ hy)
    unfold clGo
    by_cases hk : (k == NameKind.free) = true
    · rw [if_pos hk, if_pos hk]
      have ek : k = .free := by simpa using hk
      subst ek
      obtain ⟨c, hc⟩ := h x List.mem_cons_self
      have e1 : cellOf env x = pure c := by unfold cellOf; rw [hc]
      rw [e1, hc]
      exact closure_go env f hf r ((x, c) :: acc) hr
    · rw [if_neg hk, if_neg hk]
      exact closure_go env f hf r acc hr
theorem closure_eq {scope : Scope} {env : Env} (h : ∀ x, (x, NameKind.free) ∈ scope.names → ∃ c, env.cells.lookup x = some c) : closureFor scope env = pure (clGo env.cells scope.names []) := by
  simp only [closureFor]
  rw [closure_go env _ (fun name kind cs => by cases hkc : kind == NameKind.free <;> simp [hkc]) scope.names [] h]
  rfl
theorem clGo_sub (cells : List (Str × Addr)) : ∀ (names : List (Str × NameKind)) (acc : List (Str × Addr)), (∀ x, (x, NameKind.free) ∈ names → ∃ c, cells.lookup x = some c) →
    (∀ x c, acc.lookup x = some c → cells.lookup x = some c) → ∀ x c, (clGo cells names acc).lookup x = some c → cells.lookup x = some c
  | [], acc, _, ha, x, c, e => ha x c e
  | (y, k) :: r, acc, h, ha, x, c, e => by
    unfold clGo at e
    refine clGo_sub cells r _ (fun y hy => h y (List.mem_cons_of_mem _ hy)) ?_ x c e
    intro z d q
    by_cases hk : (k == NameKind.free) = true
    · rw [if_pos hk] at q
      have ek : k = .free := by simpa using hk
      subst ek
      obtain ⟨c', hc⟩ := h y List.mem_cons_self
      rw [List.lookup_cons, hc] at q
      cases hb : z == y with
      | true => rw [hb] at q; have e1 : z = y := by simpa using hb
                subst e1; rw [hc]; exact q
      | false => rw [hb] at q; exact ha z d q
    · rw [if_neg hk] at q; exact ha z d q
theorem clGo_acc (cells : List (Str × Addr)) : ∀ (names : List (Str × NameKind)) (acc : List (Str × Addr)) (x : Str), (acc.lookup x).isSome = true → ((clGo cells names acc).lookup x).isSome = true
  | [], acc, x, h => h
  | (y, k) :: r, acc, x, h => by
    unfold clGo
    refine clGo_acc cells r _ x ?_
    split
    · rw [List.lookup_cons]
      cases x == y <;> simp [h]
    · exact h
theorem clGo_has (cells : List (Str × Addr)) : ∀ (names : List (Str × NameKind)) (acc : List (Str × Addr)) (x : Str), (x, NameKind.free) ∈ names → ((clGo cells names acc).lookup x).isSome = true
  | (y, k) :: r, acc, x, h => by
    unfold clGo
    rcases List.mem_cons.mp h with e | h
    · have e1 : x = y := congrArg Prod.fst e
      have e2 : NameKind.free = k := congrArg Prod.snd e
      subst e1 e2
      refine clGo_acc cells r _ x ?_
      simp
    · exact clGo_has cells r _ x h
theorem relabel_free {env : Env} : ∀ {names : List (Str × NameKind)} {x : Str}, names.lookup x = some .free →
    (names.map fun (n, k) => if (k == NameKind.free && env.scope.kind == .function && env.kindOf n == some .cell) then (n, NameKind.cell) else (n, k)).lookup x = some .cell ∨
    (names.map fun (n, k) => if (k == NameKind.free && env.scope.kind == .function && env.kindOf n == some .cell) then (n, NameKind.cell) else (n, k)).lookup x = some .free
  | [], _, h => by simp at h
  | (n, k) :: r, x, h => by
    have ih := @relabel_free env r x
    rw [List.map_cons]
    by_cases hc : (k == NameKind.free && env.scope.kind == .function && env.kindOf n == some .cell) = true
    · simp only [hc, if_true]
      rw [List.lookup_cons]
      rw [List.lookup_cons] at h
      cases hx : x == n with
      | true => exact .inl rfl
      | false => rw [hx] at h; exact ih h
    · have hc' : (k == NameKind.free && env.scope.kind == .function && env.kindOf n == some .cell) = false := by simpa using hc
      simp only [hc', Bool.false_eq_true, if_false]
      rw [List.lookup_cons]
      rw [List.lookup_cons] at h
      cases hx : x == n with
      | true => rw [hx] at h; exact .inr h
      | false => rw [hx] at h; exact ih h
theorem of_relabel {env : Env} : ∀ {names : List (Str × NameKind)} {x : Str} {k : NameKind},
    (names.map fun (n, k) => if (k == NameKind.free && env.scope.kind == .function && env.kindOf n == some .cell) then (n, NameKind.cell) else (n, k)).lookup x = some k →
    (x, k) ∈ names ∨ (k = .cell ∧ (x, NameKind.free) ∈ names)
  | [], _, _, h => by simp at h
  | (n, k') :: r, x, k, h => by
    have ih := @of_relabel env r x k
    rw [List.map_cons] at h
    by_cases hc : (k' == NameKind.free && env.scope.kind == .function && env.kindOf n == some .cell) = true
    · simp only [hc, if_true] at h
      rw [List.lookup_cons] at h
      cases hx : x == n with
      | true =>
        rw [hx] at h; cases h
        have e1 : x = n := by simpa using hx
        subst e1
        have e2 : k' = .free := by
          have := (Bool.and_eq_true _ _ ▸ (Bool.and_eq_true _ _ ▸ hc).1).1
          simpa using this
        subst e2
        exact .inr ⟨rfl, List.mem_cons_self⟩
      | false =>
        rw [hx] at h
        rcases ih h with q | ⟨q1, q2⟩
        · exact .inl (List.mem_cons_of_mem _ q)
        · exact .inr ⟨q1, List.mem_cons_of_mem _ q2⟩
    · have hc' : (k' == NameKind.free && env.scope.kind == .function && env.kindOf n == some .cell) = false := by simpa using hc
      simp only [hc', Bool.false_eq_true, if_false] at h
      rw [List.lookup_cons] at h
      cases hx : x == n with
      | true =>
        rw [hx] at h; cases h
        have e1 : x = n := by simpa using hx
        subst e1
        exact .inl List.mem_cons_self
      | false =>
        rw [hx] at h
        rcases ih h with q | ⟨q1, q2⟩
        · exact .inl (List.mem_cons_of_mem _ q)
        · exact .inr ⟨q1, List.mem_cons_of_mem _ q2⟩
/-- the block's environment: cs its cells, C its namespace -/
def cxComp (X : Cx) (scope : Scope) (cs : List (Str × Addr)) (C : Addr) (NY : List Str) (s : Shared) (H : Hp) (ex : List Addr) : Cx where
  prog := X.prog
  w := X.w
  K := X.K
  mg := X.mg
  base := X.base
  A := X.A
  N := NY
  s₀ := s
  H₀ := H
  env := compEnvC scope cs C X.env
  outer := X.stack
  stack := X.stack
  ex := ex
  fn := fun x => scope.names.lookup x == some .cell
  calm := X.calm
  pn := []
  xe := fun _ _ => False
/-- the values that the block's names have at its start: fr says for each whether it is one of the names around -/
def frSt (fr : List (Option Nat)) (σ : St) : St := fr.map fun o => o.bind fun j => (σ[j]?).getD none
structure CompOk (X : Cx) (scope : Scope) (NY : List Str) (fr : List (Option Nat)) : Prop where
  kind : scope.kind = .function
  names : ∀ x ∈ scope.names, x.2 = .local → scope.names.lookup x.1 = some .local
  cells : ∀ x ∈ scope.names, x.2 = .cell → scope.names.lookup x.1 = some .cell
  len : fr.length = NY.length
  frees : (scope.names.all fun p => p.2 != .free || (X.env.scope.names.lookup p.1 == some .cell || X.env.scope.names.lookup p.1 == some .free)) = true
  ix : ((NY.zip fr).all fun p => match p.2 with | none => true | some j => X.N[j]? == some p.1 && scope.names.lookup p.1 == some .free) = true
theorem CompOk.free {X : Cx} {scope : Scope} {NY : List Str} {fr : List (Option Nat)} (S : CompOk X scope NY fr) {x : Str} (h : (x, NameKind.free) ∈ scope.names) : X.env.kindOf x = some .cell ∨ X.env.kindOf x = some .free := by
  have q := List.all_eq_true.mp S.frees _ h
  simpa [Env.kindOf] using q
theorem CompOk.at {X : Cx} {scope : Scope} {NY : List Str} {fr : List (Option Nat)} (S : CompOk X scope NY fr) {i j : Nat} {x : Str} (h1 : NY[i]? = some x) (h2 : fr[i]? = some (some j)) : X.N[j]? = some x ∧ scope.names.lookup x = some .free := by
  have hm : (x, some j) ∈ NY.zip fr := by
    have : (NY.zip fr)[i]? = some (x, some j) := by
      rw [List.getElem?_zip_eq_some]; exact ⟨h1, h2⟩
    exact List.mem_of_getElem? this
  have q := List.all_eq_true.mp S.ix _ hm
  simpa using q
/-- the tests of a comprehension's clause -/
def PIfs (X : Cx) (ifs : List Expr) (t : TT) : Prop :=
  ∀ (pins : List (Addr × Obj)) (s : Shared) (σ : St) (H : Hp) (Q : Bool → Hp → Prop), Inv X pins σ H s → t σ H Q →
    wpAny (model X.prog X.w) X.A (forIn ifs true fun c r => if r = true then do let ok ← isTrue c X.env (eval c X.env); pure (ForInStep.yield ok) else pure (ForInStep.yield r)) (TP X pins σ Q) X.xe s
def tYes : TT := fun _ H Q => Q true H
theorem pif_nil {X : Cx} : PIfs X [] tYes := fun pins s σ H Q I h => by
  rw [List.forIn_nil]
  exact wpAny_pure ⟨H, I, h⟩
theorem pif_one {X : Cx} {c : Expr} {t : TT} (hc : PT X c t) : PIfs X [c] t := fun pins s σ H Q I h => by
  rw [List.forIn_cons]
  refine wpAny_bind ?_
  rw [if_pos rfl]
  refine wpAny_bind (thn (hc pins s σ H Q I h) fun b s1 h1 => wpAny_pure ?_)
  show wpAny _ _ (forIn [] b _) _ _ _
  rw [List.forIn_nil]
  exact wpAny_pure h1
def tComp (fr : List (Option Nat)) (wi : TI) (g : TG) (tt : TT) (te : TE) : TE := fun σ H Q => wi σ H fun J H1 => ∀ D, H1 D = none →
  ∃ W : Nat → Nat → St → List V → Hp → Prop, (∃ m, W 0 m (frSt fr σ) [] (upd H1 D (.lst []))) ∧
    ∀ i m σ' ys Hc, W i m σ' ys Hc → (J.stop i Hc ∧ Q (.ref D) Hc) ∨ (J.go i Hc ∧ ys.length < sizeLine ∧ ∀ x H', J.yld i Hc x H' → g x σ' H' fun σ2 H2 => tt σ2 H2 fun b H3 =>
      if b = true then te σ2 H3 fun y H4 => H4 D = some (.lst ys) ∧ ∃ m', m' < m ∧ W (i + 1) m' σ2 (ys ++ [y]) (upd H4 D (.lst (ys ++ [y]))) else ∃ m', m' < m ∧ W (i + 1) m' σ2 ys H3)
section
variable {X : Cx} {tg iter elt : Expr} {ifs : List Expr} {scope : Scope} {pos : Pos} {NY : List Str} {fr : List (Option Nat)} {wi : TI} {g : TG} {tt : TT} {te : TE}
/-- one turn of a comprehension, the owned tuple let go -/
theorem compLoop_tests {prog : Program} {w : World} {A : Around} {R : Result → Shared → Prop} {s : Shared} {it acc : Value} {env : Env} (I : Nat → Shared → Prop)
    (turn : ∀ n s, I n s → wpAny (model prog w) A (pyNext it) (fun r s₁ => match r with
      | none => R (.ok .next) s₁
      | some v => wpAny (model prog w) A (letOwnedTupleGo tg it v) (fun _ s₀ => wpAny (model prog w) A (assign tg env v) (fun _ s₂ =>
          wpAny (model prog w) A (forIn ifs true fun c r => if r = true then do let ok ← isTrue c env (eval c env); pure (ForInStep.yield ok) else pure (ForInStep.yield r)) (fun ok s₃ =>
            if ok = true then wpAny (model prog w) A (eval elt env) (fun x s₄ =>
              wpAny (model prog w) A (call (.builtin "list.append") [acc, x]) (fun _ s₅ => ∃ m, m < n ∧ I m s₅) (fun _ _ => False) s₄) (fun _ _ => False) s₃
            else ∃ m, m < n ∧ I m s₃) (fun _ _ => False) s₂) (fun _ _ => False) s₀) (fun _ _ => False) s₁) (fun _ _ => False) s)
    (n : Nat) (h : I n s) : codeAny (model prog w) A (.compLoop (.ListComp elt [⟨tg, iter, ifs, 0⟩] scope pos) 0 it acc env) R s := by
  refine codeAny_loop rfl I (fun n s hI => ?_) n h
  show wpAny _ A ((compTurn (.ListComp elt [⟨tg, iter, ifs, 0⟩] scope pos) 0 it acc env).onRaise (fun x => do noteFrame x env; theTreesLotGoes x)) _ _ s
  refine wpAny_noted ?_
  rw [compTurn_list]
  refine wpAny_bind (wpAny_standAt (wpAny_bind (wpAny_mono (turn n s hI) (fun r s₁ h₁ => ?_) fun _ _ h' => h'.elim)))
  cases r with
  | none => exact wpAny_pure h₁
  | some v =>
    refine wpAny_bind (wpAny_mono h₁ (fun _ s₀ h₀ => ?_) fun _ _ h' => h'.elim)
    refine wpAny_bind (wpAny_mono h₀ (fun _ s₂ h₂ => wpAny_bind (wpAny_mono h₂ (fun ok s₃ h₃ => ?_) fun _ _ h' => h'.elim)) fun _ _ h' => h'.elim)
    cases ok with
    | false => exact wpAny_pure ⟨rfl, h₃⟩
    | true =>
      exact wpAny_bind (wpAny_bind (wpAny_mono h₃ (fun x s₄ h₄ => wpAny_bind (wpAny_mono h₄ (fun _ s₅ h₅ => wpAny_pure (wpAny_pure ⟨rfl, h₅⟩)) fun _ _ h' => h'.elim)) fun _ _ h' => h'.elim))
/-- the block: from the iterator at hand to the list -/
theorem comp_block (hc : X.calm = true) (S : CompOk X scope NY fr)
    (hB : ∀ (C : Addr) (cs : List (Str × Addr)) (s : Shared) (H : Hp) (ex : List Addr), PG (cxComp X scope cs C NY s H ex) tg g ∧ PIfs (cxComp X scope cs C NY s H ex) ifs tt ∧ PE (cxComp X scope cs C NY s H ex) elt te)
    {pins : List (Addr × Obj)} {σ : St} {H2 : Hp} {s2 : Shared} {E : Value → Shared → Prop} {it : Addr} {fp : List Addr} {tn : Nat → Heap → Prop} {J : It} {Q : VK}
    (I2 : Inv X pins σ H2 s2) (T : Turn X.prog X.w X.K tg J fp it tn) (st2 : tn 0 s2.heap) (f2 : ∀ b ∈ fp, FpOk X pins H2 b)
    (h : ∀ D, H2 D = none →
      ∃ W : Nat → Nat → St → List V → Hp → Prop, (∃ m, W 0 m (frSt fr σ) [] (upd H2 D (.lst []))) ∧
        ∀ i m σ' ys Hc, W i m σ' ys Hc → (J.stop i Hc ∧ Q (.ref D) Hc) ∨ (J.go i Hc ∧ ys.length < sizeLine ∧ ∀ x H', J.yld i Hc x H' → g x σ' H' fun σ2 H2 => tt σ2 H2 fun b H3 =>
          if b = true then te σ2 H3 fun y H4 => H4 D = some (.lst ys) ∧ ∃ m', m' < m ∧ W (i + 1) m' σ2 (ys ++ [y]) (upd H4 D (.lst (ys ++ [y]))) else ∃ m', m' < m ∧ W (i + 1) m' σ2 ys H3))
    {RR : Value → Addr → Result → Shared → Prop}
    (hRR : ∀ (D C : Addr) (Hc : Hp) (s' : Shared), Inv X pins σ Hc s' → Q (.ref D) Hc → (∃ m, s'.heap.Ns C m) → Hc C = none → C ≠ X.env.locals → X.s₀.heap.objs.size ≤ C → (∀ x c, X.env.cells.lookup x = some c → c ≠ C) → (∀ p ∈ X.pn ++ pins, p.1 ≠ C) → RR (.ref D) C (.ok .next) s') :
    wpAny (model X.prog X.w) X.A (newList []) (fun acc s₃ => wpAny (model X.prog X.w) X.A (newFunctionEnv scope X.env.globals (clGo X.env.cells scope.names []) [] X.env.qual none .none (some X.env)) (fun cenv s₄ =>
      codeAny (model X.prog X.w) X.A (.compStart (.ListComp elt [⟨tg, iter, ifs, 0⟩] scope pos) 0 (.ref it) acc { cenv with scope := relabel scope X.env }) (RR acc cenv.locals) s₄) E s₃) E s2 := by
  have frees : ∀ x, (x, NameKind.free) ∈ scope.names → ∃ c, X.env.cells.lookup x = some c := fun x hx => I2.ok.has x (S.free hx)
  have sub : ∀ x c, (clGo X.env.cells scope.names []).lookup x = some c → X.env.cells.lookup x = some c := clGo_sub X.env.cells scope.names [] frees (fun x c e => by simp at e)
  refine wpAny_newObj_type ?_
  -- the list, tracked
  have hz : s2.heap.objs.size = s2.heap.objs.size := rfl
  generalize eD : s2.heap.objs.size = D at hz ⊢
  have hD2 : H2 D = none := by rw [← eD]; exact I2.fresh
  have I3 : Inv X pins σ (upd H2 D (.lst [])) { s2 with heap := s2.heap.push { cls := .type "list", dict := none, data := .seq ([] : List Value).toArray } } := by
    rw [← eD]; exact I2.lnew (t' := s2.toks) (ys := []) (its := []) .nil (Nat.zero_le _)
  have below : ∀ b ∈ fp, b < D := fun b hb => by
    obtain ⟨o, e, _⟩ := T.obj _ _ st2 b hb
    rw [← eD]
    exact Heap.lt_size e
  generalize e3 : ({ s2 with heap := s2.heap.push { cls := .type "list", dict := none, data := .seq ([] : List Value).toArray } } : Shared) = s3 at I3
  have z3 : s3.heap.objs.size = D + 1 := by rw [← e3, ← eD]; exact Heap.size_push ..
  have st3 : tn 0 s3.heap := T.keep _ _ _ st2 fun b _ o e => by rw [← e3]; exact Heap.get?_push_of_some _ e
  have ne3 : ∀ b ∈ fp, b ≠ D := fun b hb => Nat.ne_of_lt (below b hb)
  have f3 : ∀ b ∈ fp, FpOk X pins (upd H2 D (.lst [])) b := fun b hb => ⟨by rw [upd_ne (ne3 b hb)]; exact (f2 b hb).1, (f2 b hb).2⟩
  obtain ⟨W, ⟨m0, w0⟩, turn⟩ := h D hD2
  clear h
  generalize eH : upd H2 D (.lst []) = H3 at I3 f3 w0
  clear e3 eD
  -- the block's namespace and cells
  show wpAny _ _ (newFunctionEnv scope X.env.globals (clGo X.env.cells scope.names []) [] X.env.qual none .none (some X.env)) _ _ s3
  simp only [newFunctionEnv, Option.isSome_some, if_true]
  refine wpAny_bind (wpAny_alloc ?_)
  refine wpAny_bind (wpAny_layCells _ (fun name kind cells => by cases hkc : kind == NameKind.cell <;> simp [hkc]) _ _ _ _ ?_)
  rw [show ({ s3 with heap := s3.heap.push { cls := .type "dict", data := .dict #[] } } : Shared).heap.objs.size = s3.heap.objs.size + 1 from Heap.size_push ..]
  have ok := cellsFrom_ok scope.names (s3.heap.push { cls := .type "dict", data := .dict #[] }) (s3.heap.objs.size + 1) [] ⟨fun _ _ hm => (nomatch hm), List.Pairwise.nil⟩ (by rw [Heap.size_push]; exact Nat.le_refl _)
  rw [Heap.size_push] at ok
  rw [cf_app]
  generalize eO : cellsFrom (s3.heap.objs.size + 1) scope.names [] = O at ok
  refine wpAny_bind (wpAny_pure (wpAny_pure ?_))
  have kept : ∀ b o, s3.heap.get? b = some o → (pushCells (s3.heap.push { cls := .type "dict", data := .dict #[] }) scope.names).get? b = some o := fun b o e => pushCells_keeps _ _ b o (Heap.get?_push_of_some _ e)
  have nsC : (pushCells (s3.heap.push { cls := .type "dict", data := .dict #[] }) scope.names).Ns s3.heap.objs.size (fun _ => none) := (Heap.Ns.new s3.heap (.type "dict")).keeps (pushCells_keeps _ _)
  generalize eh : pushCells (s3.heap.push { cls := .type "dict", data := .dict #[] }) scope.names = h4 at ok kept nsC ⊢
  have eC : s3.heap.objs.size = s3.heap.objs.size := rfl
  generalize hC : s3.heap.objs.size = C at eC ok nsC eO z3 ⊢
  have belowC : ∀ b ∈ fp, b < C := fun b hb => by rw [z3]; exact Nat.lt_succ_of_lt (below b hb)
  -- lookups among the cells
  have look : ∀ x c, (O ++ clGo X.env.cells scope.names []).lookup x = some c → (O.lookup x = some c ∧ C + 1 ≤ c ∧ h4.IsCell c none) ∨ (X.env.cells.lookup x = some c) := fun x c e => by
    rw [List.lookup_append] at e
    cases q : O.lookup x with
    | none => rw [q] at e; exact .inr (sub x c (by simpa using e))
    | some c' =>
      rw [q] at e
      have e' : c' = c := by simpa using e
      subst e'
      exact .inl ⟨rfl, (ok.empty x c' (PySem.mem_of_lookup q)).2, (ok.empty x c' (PySem.mem_of_lookup q)).1⟩
  have cellLt : ∀ x c, X.env.cells.lookup x = some c → c < C := fun x c e => by
    obtain ⟨v, o, ho, _⟩ := I3.cell x c e
    rw [← hC]; exact Heap.lt_size ho
  have okY : (cxComp X scope (O ++ clGo X.env.cells scope.names []) C NY s3 H3 fp).Ok := by
    refine ⟨I3.ok.mod, S.kind, I3.ok.glob, I3.ok.blt, by rw [← hC]; exact Nat.le_refl _, fun x y c h1 h2 => ?_, fun x hx => ?_, fun x c hf h1 => ?_, fun hh => I3.ok.hd hh, I3.ok.frames, .inl rfl, fun b hb => ⟨?_, fun x c h1 => ?_⟩, I3.bs, Nat.le_trans I3.ok.bsz I3.sz, fun b o e hb => ?_, fun b hb z => ?_, I3.stack, I3.stkFree⟩
    · rcases look x c h1 with ⟨a1, a2, _⟩ | a1 <;> rcases look y c h2 with ⟨b1, b2, _⟩ | b1
      · exact name_of_addr ok.apart (PySem.mem_of_lookup a1) (PySem.mem_of_lookup b1)
      · exact absurd (cellLt y c b1) (Nat.not_lt.mpr (Nat.le_of_succ_le a2))
      · exact absurd (cellLt x c a1) (Nat.not_lt.mpr (Nat.le_of_succ_le b2))
      · exact I3.ok.inj x y c a1 b1
    · have hx' : (relabel scope X.env).names.lookup x = some .cell ∨ (relabel scope X.env).names.lookup x = some .free := hx
      show ∃ c, (O ++ clGo X.env.cells scope.names []).lookup x = some c
      rw [List.lookup_append]
      cases q : O.lookup x with
      | some c => exact ⟨c, by simp⟩
      | none =>
        have hfree : (x, NameKind.free) ∈ scope.names := by
          rcases hx' with z | z
          · rcases of_relabel z with z | ⟨_, z⟩
            · have := PySem.W.cellsFrom_some (x := x) scope.names (C + 1) [] (.inl (S.cells _ z rfl))
              rw [eO, q] at this
              cases this
            · exact z
          · rcases of_relabel z with z | ⟨z, _⟩
            · exact z
            · cases z
        have := clGo_has X.env.cells scope.names [] x hfree
        obtain ⟨c, e⟩ := Option.isSome_iff_exists.mp this
        exact ⟨c, by simp [e]⟩
    · rcases look x c h1 with ⟨_, a2, _⟩ | a1
      · show s3.heap.objs.size ≤ c
        rw [hC]; exact Nat.le_of_succ_le a2
      · exfalso
        have hf' : scope.names.lookup x = some .cell := by
          have : (scope.names.lookup x == some NameKind.cell) = true := hf
          simpa using this
        have := PySem.W.cellsFrom_some (x := x) scope.names (C + 1) [] (.inl hf')
        rw [eO] at this
        obtain ⟨c', e'⟩ := Option.isSome_iff_exists.mp this
        have h1' : (O ++ clGo X.env.cells scope.names []).lookup x = some c := h1
        rw [List.lookup_append, e'] at h1'
        have ec : c' = c := by simpa using h1'
        subst ec
        have h9 := (ok.empty x c' (PySem.mem_of_lookup e')).2
        exact absurd (cellLt x c' a1) (Nat.not_lt.mpr (Nat.le_of_succ_le h9))
    · exact Nat.ne_of_lt (belowC b hb)
    · rcases look x c h1 with ⟨_, a2, _⟩ | a1
      · exact Nat.ne_of_gt (Nat.lt_of_lt_of_le (belowC b hb) (Nat.le_of_succ_le a2))
      · exact (f3 b hb).2.2.2.2.1 x c a1
    · rcases (f3 b hb).2.2.2.1 with z | z
      · exact I3.ok.noex b o e z
      · exact absurd (Nat.lt_of_lt_of_le (Heap.lt_size e) (Nat.le_trans I3.ok.bsz z)) (Nat.lt_irrefl _)
    · rcases List.mem_cons.mp (I3.stkSub b z) with e | e
      · exact (f3 b hb).2.1 e
      · exact (f3 b hb).2.2.1 e
  have H3C : H3 C = none := I3.hok.fresh (by rw [hC]; exact Nat.le_refl _)
  have IY : Inv (cxComp X scope (O ++ clGo X.env.cells scope.names []) C NY s3 H3 fp) [] (frSt fr σ) H3 { s3 with heap := h4 } := by
    refine ⟨okY, rfl, I3.bare, Un.kept kept, ⟨_, nsC, fun i x v h1 h2 h3 => ?_⟩, fun x c h1 => ?_, H3C, fun x c h1 => ?_, fun p hp => absurd (show p ∈ ([] : List (Addr × Obj)) from hp) (by simp), I3.hok.kept kept, ?_⟩
    · have h2' : (fr.map fun o => o.bind fun j => (σ[j]?).getD none)[i]? = some (some v) := h2
      rw [List.getElem?_map] at h2'
      cases q : fr[i]? with
      | none => rw [q] at h2'; simp at h2'
      | some o =>
        rw [q] at h2'
        cases o with
        | none => simp at h2'
        | some j =>
          have hv : σ[j]? = some (some v) := by
            have : (σ[j]?).getD none = some v := by simpa using h2'
            cases q2 : σ[j]? with
            | none => rw [q2] at this; simp at this
            | some o2 => rw [q2] at this; simp at this; rw [this]
          obtain ⟨n1, n2⟩ := S.at (i := i) (j := j) h1 q
          have hfree : (x, NameKind.free) ∈ scope.names := PySem.mem_of_lookup n2
          have hk := S.free hfree
          obtain ⟨m, hn, hl⟩ := I3.loc
          obtain ⟨u, r, l⟩ := hl j x v n1 hv (by rcases hk with z | z; exact .inr (.inl z); exact .inr (.inr z))
          rcases l with ⟨z, _⟩ | ⟨_, c, e, z⟩
          · rcases hk with y | y <;> rw [y] at z <;> cases z
          · refine ⟨u, r, .inr ⟨relabel_free n2, c, ?_, z.keeps kept⟩⟩
            show (O ++ clGo X.env.cells scope.names []).lookup x = some c
            rw [List.lookup_append]
            have hO : O.lookup x = none := by
              cases q3 : O.lookup x with
              | none => rfl
              | some c3 =>
                exfalso
                have hcell : (x, NameKind.cell) ∈ scope.names := by
                  rw [← eO] at q3
                  exact of_cf q3
                have := S.cells _ hcell rfl
                rw [n2] at this; cases this
            rw [hO]
            have h5 := clGo_has X.env.cells scope.names [] x hfree
            obtain ⟨c', e'⟩ := Option.isSome_iff_exists.mp h5
            have := sub x c' e'
            rw [e] at this; cases this
            simp [e']
    · rcases look x c h1 with ⟨_, _, a3⟩ | a1
      · exact ⟨_, a3⟩
      · obtain ⟨v, z⟩ := I3.cell x c a1
        exact ⟨v, z.keeps kept⟩
    · rcases look x c h1 with ⟨_, a2, _⟩ | a1
      · exact I3.hok.fresh (by rw [hC]; exact Nat.le_of_succ_le a2)
      · exact I3.freeC x c a1
    · unfold frSt; rw [List.length_map]; exact S.len
  obtain ⟨hG, hT, hE⟩ := hB C (O ++ clGo X.env.cells scope.names []) s3 H3 fp
  have st4 : tn 0 h4 := T.keep _ _ _ st3 fun b _ o e => kept b o e
  -- the facts about C that the end wants
  have cL : C ≠ X.env.locals := by have h9 := I3.lt; rw [hC] at h9; exact Nat.ne_of_gt h9
  have cS : X.s₀.heap.objs.size ≤ C := by have h9 := I3.sz; rw [hC] at h9; exact h9
  have cC : ∀ x c, X.env.cells.lookup x = some c → c ≠ C := fun x c e => Nat.ne_of_lt (cellLt x c e)
  have cP : ∀ p ∈ X.pn ++ pins, p.1 ≠ C := fun p hp => by
    obtain ⟨e, _⟩ := I3.pin p hp
    have h9 := Heap.lt_size e
    rw [hC] at h9
    exact Nat.ne_of_lt h9
  have loop : ∀ s5 : Shared, s5 = { s3 with heap := h4 } →
      codeAny (model X.prog X.w) X.A (.compLoop (.ListComp elt [⟨tg, iter, ifs, 0⟩] scope pos) 0 (.ref it) (.ref D) (compEnvC scope (O ++ clGo X.env.cells scope.names []) C X.env)) (RR (.ref D) C) s5 := by
    rintro s5 rfl
    refine compLoop_tests (fun n s' => ∃ i σ' ys Hc, Inv (cxComp X scope (O ++ clGo X.env.cells scope.names []) C NY s3 H3 fp) [] σ' Hc s' ∧ tn i s'.heap ∧ (∀ b ∈ fp, Hc b = none) ∧ W i n σ' ys Hc) ?_ m0 ⟨0, _, [], H3, IY, st4, fun b hb => (f3 b hb).1, w0⟩
    rintro n s6 ⟨i, σ6, ys, H6, I6, st6, fr6, w6⟩
    have stat : ∀ {H' : Hp}, (∀ b ∈ fp, H' b = none) → ∀ b ∈ fp, FpOk (cxComp X scope (O ++ clGo X.env.cells scope.names []) C NY s3 H3 fp) [] H' b := fun hn b hb =>
      ⟨hn b hb, (okY.exf b hb).1, okY.exfs b hb, .inl hb, (okY.exf b hb).2, fun p hp => absurd (show p ∈ ([] : List (Addr × Obj)) from hp) (by simp)⟩
    rcases turn i n σ6 ys H6 w6 with ⟨stop, qn⟩ | ⟨go, hlen, step⟩
    · refine thn (T.done (cxComp X scope (O ++ clGo X.env.cells scope.names []) C NY s3 H3 fp) rfl rfl rfl hc i [] s6 σ6 H6 (fun _ _ => False) I6 (stat fr6) st6 stop) fun r s7 ⟨hr, I7⟩ => ?_
      subst hr
      refine hRR D C H6 s7 ?_ qn (let ⟨m, hm, _⟩ := I7.loc; ⟨m, hm⟩) I7.free cL cS cC cP
      exact I3.call' I7.os I7.base I7.hok I7.bare fun b hb => ⟨(f3 b hb).2.2.2.1, (f3 b hb).2.1, (f3 b hb).2.2.2.2.1, (f3 b hb).2.2.2.2.2⟩
    · refine thn (T.item (cxComp X scope (O ++ clGo X.env.cells scope.names []) C NY s3 H3 fp) rfl rfl rfl hc i [] s6 σ6 H6 (fun _ _ => False) I6 (stat fr6) st6 go) fun r s7 ⟨u, hr, h7⟩ => ?_
      subst hr
      refine thn h7 fun _ s8 ⟨x, H8, I8, r8, y8, st8, fr8⟩ => ?_
      have I8' := I8.pinned (stat fr8) (T.obj _ _ st8)
      refine thn (hG _ s8 σ6 H8 x u _ I8' r8 (step x H8 y8)) fun _ s9 ⟨σ9, H9, I9, q9⟩ => ?_
      refine thn (hT _ s9 σ9 H9 _ I9 q9) fun b s10 ⟨H10, I10, q10⟩ => ?_
      have again : ∀ {ys' : List V} {H7 : Hp} {s7 : Shared}, Inv (cxComp X scope (O ++ clGo X.env.cells scope.names []) C NY s3 H3 fp) ([] ++ pinsAt fp s8.heap) σ9 H7 s7 → (∃ m', m' < n ∧ W (i + 1) m' σ9 ys' H7) →
          ∃ m, m < n ∧ ∃ i σ' ys Hc, Inv (cxComp X scope (O ++ clGo X.env.cells scope.names []) C NY s3 H3 fp) [] σ' Hc s7 ∧ tn i s7.heap ∧ (∀ b ∈ fp, Hc b = none) ∧ W i m σ' ys Hc := fun {ys' H7 s7} I7 n7 => by
        obtain ⟨m', hm, w7⟩ := n7
        refine ⟨m', hm, i + 1, σ9, ys', H7, I7.unpinned, T.keep _ _ _ st8 fun b hb o e => (I7.pin (b, o) (List.mem_append_right _ (List.mem_append_right _ (mem_pinsAt hb e)))).1, fun b hb => ?_, w7⟩
        obtain ⟨o, e, d⟩ := T.obj _ _ st8 b hb
        exact (I7.pin (b, o) (List.mem_append_right _ (List.mem_append_right _ (mem_pinsAt hb e)))).2.1
      cases b with
      | false => exact again (ys' := ys) I10 (by simpa using q10)
      | true =>
        have q10' : te σ9 H10 fun y H4 => H4 D = some (.lst ys) ∧ ∃ m', m' < n ∧ W (i + 1) m' σ9 (ys ++ [y]) (upd H4 D (.lst (ys ++ [y]))) := by simpa using q10
        refine thn (hE _ s10 σ9 H10 _ I10 q10') fun yv s11 ⟨y, H11, I11, ry, hD11, q11⟩ => ?_
        refine thn (mt_append _ s11 σ9 H11 (.ref D) [y] (.ref D) [yv] (fun _ H' => ∃ m', m' < n ∧ W (i + 1) m' σ9 (ys ++ [y]) H') I11 rfl (.cons ry .nil) ⟨D, ys, y, rfl, rfl, hD11, hlen, q11⟩) fun _ s12 ⟨_, H12, I12, _, q12⟩ => ?_
        exact again I12 q12
  exact codeAny_compStart_list (loop _ rfl) (T.self _ 0 _ _ _ st4 (loop _ rfl))
theorem pe_comp (hc : X.calm = true) (S : CompOk X scope NY fr) (hi : PI X tg iter wi)
    (hB : ∀ (C : Addr) (cs : List (Str × Addr)) (s : Shared) (H : Hp) (ex : List Addr), PG (cxComp X scope cs C NY s H ex) tg g ∧ PIfs (cxComp X scope cs C NY s H ex) ifs tt ∧ PE (cxComp X scope cs C NY s H ex) elt te)
    (hs : ∀ x, foldedSetIterable iter X.env x = pure x := by intro _; rfl) : PE X (.ListComp elt [⟨tg, iter, ifs, 0⟩] scope pos) (tComp fr wi g tt te) := by
  intro pins s σ H Q I h
  rw [eval_ListComp]
  have frees : ∀ x, (x, NameKind.free) ∈ scope.names → ∃ c, X.env.cells.lookup x = some c := fun x hx => I.ok.has x (S.free hx)
  refine wpAny_comprehension_free (use := none) rfl hs (closure_eq frees) S.kind S.names (thn (hi pins s σ H _ I h) fun v s1 h1 => thn h1 fun itv s2 h2 => ?_)
  obtain ⟨it, fp, tn, J, H2, e, I2, T, st2, f2, R⟩ := h2
  subst e
  refine comp_block (E := X.xe) (RR := fun acc C => compPost (model X.prog X.w) X.A X.xe none (EP X pins σ Q) acc C) hc S hB I2 T st2 f2 R ?_
  intro D C Hc s' I' q ⟨m, hm⟩ a1 a2 a3 a4 a5
  exact ⟨m, hm, fun h' hs' => ⟨.ref D, Hc, I'.turned (t' := s'.toks) (fun b o hb e => (hs'.2 b hb).trans e) a1 a2 (.inr a3) a4 a5, rfl, q⟩⟩
/-- name = [..]: the store comes ahead of the variables' going -/
theorem ps_setC {i : Nat} {y : Str} {py spos : Pos} (hN : X.N.Nodup) (hiN : X.N[i]? = some y) (hx : X.env.scope.names.lookup y = some .local) (hc : X.calm = true) (S : CompOk X scope NY fr) (hi : PI X tg iter wi)
    (hB : ∀ (C : Addr) (cs : List (Str × Addr)) (s : Shared) (H : Hp) (ex : List Addr), PG (cxComp X scope cs C NY s H ex) tg g ∧ PIfs (cxComp X scope cs C NY s H ex) ifs tt ∧ PE (cxComp X scope cs C NY s H ex) elt te)
    (hsw : swapsWith (.ListComp elt [⟨tg, iter, ifs, 0⟩] scope pos) (some (.Name y py)) spos.line X.env = pure true := by rfl)
    (hs : ∀ x, foldedSetIterable iter X.env x = pure x := by intro _; rfl) : PS X (.Assign [.Name y py] (.ListComp elt [⟨tg, iter, ifs, 0⟩] scope pos) spos) (tAsg (tComp fr wi g tt te) (gName i)) := by
  intro pins s σ H D I h
  have frees : ∀ x, (x, NameKind.free) ∈ scope.names → ∃ c, X.env.cells.lookup x = some c := fun x hx => I.ok.has x (S.free hx)
  rw [exec_Assign_Name_used _ _ _ _ hsw]
  refine wpAny_bind (wpAny_standAt (wpAny_bind ?_))
  show wpAny _ X.A (do let _ ← comprehension (.ListComp elt [⟨tg, iter, ifs, 0⟩] scope pos) scope X.env _ (newList []) false (eval iter X.env) (some (assign (.Name y py) X.env))) _ _ s
  refine wpAny_bind (wpAny_mono (wpAny_comprehension_free (use := some (assign (.Name y py) X.env)) (Q := fun _ s' => SP X pins D .next s') rfl hs (closure_eq frees) S.kind S.names
    (thn (hi pins s σ H _ I h) fun v s1 h1 => thn h1 fun itv s2 h2 => ?_)) (fun _ s' hq => wpAny_pure (wpAny_pure hq)) fun _ _ e => e)
  obtain ⟨it, fp, tn, J, H2, e, I2, T, st2, f2, R⟩ := h2
  subst e
  refine comp_block (E := X.xe) (RR := fun acc C => compPost (model X.prog X.w) X.A X.xe (some (assign (.Name y py) X.env)) (fun _ s' => SP X pins D .next s') acc C) (Q := fun x H1 => gName i x σ H1 D.nx) hc S hB I2 T st2 f2 R ?_
  intro D' C Hc s' I' q ⟨m, hm⟩ a1 a2 a3 a4 a5
  show wpAny _ X.A (assign (.Name y py) X.env (.ref D')) _ _ _
  refine wpAny_assign_Name (store_ok2 I' hN hiN (.inl hx) (v := .ref D') rfl (fun s'' I'' hh => ?_) (.inr hx))
  obtain ⟨a, hsb, ha⟩ := hh
  have hCa : C ≠ a := by
    rcases ha with e | e
    · rw [e]; exact a2
    · exact (a4 y a e).symm
  exact ⟨m, hm.sameBut hsb hCa, fun h' hs' => ⟨_, Hc, I''.turned (t' := s''.toks) (fun b o hb e => (hs'.2 b hb).trans e) a1 a2 (.inr a3) a4 a5, q⟩⟩
end
/-! the forms one uses: one own name in slot 0, no test -/
theorem cmp_list {K : PySem.W.Frag} {a D : Addr} {xs : List V} {te : TE} {fr : List (Option Nat)} {σ0 : St} {H : Hp} {Q : Hp → Prop} (Pv : Nat → List V → Hp → Prop) (h0 : Pv 0 [] H) (hl : ∀ i ys H, i ≤ xs.length → Pv i ys H → SqL K H a xs)
    (hz : ∀ i ys H, i < xs.length → Pv i ys H → ys.length < sizeLine)
    (hs : ∀ i x ys H (R : VK), xs[i]? = some x → Pv i ys H → (∀ y H4, H4 D = some (.lst ys) → Pv (i + 1) (ys ++ [y]) (upd H4 D (.lst (ys ++ [y]))) → R y H4) → te (some x :: frSt fr σ0) H R) (hd : ∀ ys H, Pv xs.length ys H → Q H) :
    ∃ W : Nat → Nat → St → List V → Hp → Prop, (∃ m, W 0 m (frSt (none :: fr) σ0) [] H) ∧
      ∀ i m σ' ys Hc, W i m σ' ys Hc → ((Itl K a).stop i Hc ∧ Q Hc) ∨ ((Itl K a).go i Hc ∧ ys.length < sizeLine ∧ ∀ x H', (Itl K a).yld i Hc x H' → gName 0 x σ' H' fun σ2 H2 => tYes σ2 H2 fun b H3 =>
        if b = true then te σ2 H3 fun y H4 => H4 D = some (.lst ys) ∧ ∃ m', m' < m ∧ W (i + 1) m' σ2 (ys ++ [y]) (upd H4 D (.lst (ys ++ [y]))) else ∃ m', m' < m ∧ W (i + 1) m' σ2 ys H3) := by
  refine ⟨fun i m σ ys H => m = xs.length - i ∧ i ≤ xs.length ∧ (∃ o, σ = o :: frSt fr σ0) ∧ Pv i ys H, ⟨xs.length, by simp, Nat.zero_le _, ⟨none, rfl⟩, h0⟩, ?_⟩
  rintro i m σ ys H ⟨rfl, hi, ⟨o', rfl⟩, p⟩
  have q := hl i ys H hi p
  by_cases hlt : i < xs.length
  · refine .inr ⟨⟨xs, xs[i], q, by simp [hlt]⟩, hz i ys H hlt p, fun x H' y => ?_⟩
    obtain ⟨e, y⟩ := y
    subst e
    unfold gName tYes
    simp only [if_true]
    exact hs i x ys _ _ (y xs q) p fun v H1 e1 e2 => ⟨e1, xs.length - (i + 1), by omega, rfl, hlt, ⟨_, rfl⟩, e2⟩
  · have e : i = xs.length := by omega
    subst e
    exact .inl ⟨⟨xs, q, Nat.le_refl _⟩, hd ys H p⟩
theorem cmp_range {D : Addr} {lo : Int} {n : Nat} {te : TE} {fr : List (Option Nat)} {σ0 : St} {H : Hp} {Q : Hp → Prop} (Pv : Nat → List V → Hp → Prop) (h0 : Pv 0 [] H)
    (hz : ∀ i ys H, i < n → Pv i ys H → ys.length < sizeLine)
    (hs : ∀ i ys H (R : VK), i < n → Pv i ys H → (∀ y H4, H4 D = some (.lst ys) → Pv (i + 1) (ys ++ [y]) (upd H4 D (.lst (ys ++ [y]))) → R y H4) → te (some (.int (lo + i)) :: frSt fr σ0) H R) (hd : ∀ ys H, Pv n ys H → Q H) :
    ∃ W : Nat → Nat → St → List V → Hp → Prop, (∃ m, W 0 m (frSt (none :: fr) σ0) [] H) ∧
      ∀ i m σ' ys Hc, W i m σ' ys Hc → ((Itr lo n).stop i Hc ∧ Q Hc) ∨ ((Itr lo n).go i Hc ∧ ys.length < sizeLine ∧ ∀ x H', (Itr lo n).yld i Hc x H' → gName 0 x σ' H' fun σ2 H2 => tYes σ2 H2 fun b H3 =>
        if b = true then te σ2 H3 fun y H4 => H4 D = some (.lst ys) ∧ ∃ m', m' < m ∧ W (i + 1) m' σ2 (ys ++ [y]) (upd H4 D (.lst (ys ++ [y]))) else ∃ m', m' < m ∧ W (i + 1) m' σ2 ys H3) := by
  refine ⟨fun i m σ ys H => m = n - i ∧ i ≤ n ∧ (∃ o, σ = o :: frSt fr σ0) ∧ Pv i ys H, ⟨n, by simp, Nat.zero_le _, ⟨none, rfl⟩, h0⟩, ?_⟩
  rintro i m σ ys H ⟨rfl, hi, ⟨o', rfl⟩, p⟩
  by_cases hlt : i < n
  · refine .inr ⟨hlt, hz i ys H hlt p, fun x H' y => ?_⟩
    obtain ⟨e, y⟩ := y
    subst e y
    unfold gName tYes
    simp only [if_true]
    exact hs i ys _ _ hlt p fun v H1 e1 e2 => ⟨e1, n - (i + 1), by omega, rfl, hlt, ⟨_, rfl⟩, e2⟩
  · have e : i = n := by omega
    subst e
    exact .inl ⟨Nat.le_refl _, hd ys H p⟩
end L2

namespace L2
open PySem PySem.Spec PyProof.Rows
/-! ### EXT 2: sum, enumerate, == of nested data, isinstance -/
section
variable {X : Cx}
theorem call_sum (hc : X.calm = true) : CallR X (.builtin "sum") (fun xs H Q => ∃ (p : Addr) (ns : List Int), xs = [.ref p] ∧ SqL X.K H p (ns.map V.int) ∧ Q (.int ns.sum) H) := by
  intro pins s σ H xs us Q I r h
  obtain ⟨p, ns, e, hq, q⟩ := h
  subst e
  obtain ⟨u, e, ru⟩ := vals1 r
  subst e
  cases ru
  obtain ⟨its, rv, pl, hz⟩ := I.list hq
  have hi : IntsAre its ns := intsAre_of rv
  obtain ⟨ys, hx⟩ := hi.allInts.items
  have hl' : s.heap.IsList p (intItems ys) := hx ▸ pl.isList
  refine sum_intListG (I.ok.hd hc) hl' fun h' tk t' hk => ?_
  have e1 : ns = ys.toList.map (·.1) := by
    rw [← nums_intItems, ← hx]
    exact (show numsOf its.toArray.toList = ns from hi.numsOf).symm
  have e2 : preSum (numAt ys) ys.size = ns.sum := by
    rw [preSum_eq, List.take_of_length_le (by simp), e1]
  rw [e2]
  exact ⟨.int ns.sum, H, I.kept hk, ⟨t', rfl⟩, q⟩
end
/-! enumerate(list), its pairs unpacked at once -/
def Ite (K : PySem.W.Frag) (a : Addr) : It :=
  ⟨fun i H => ∃ xs x, SqL K H a xs ∧ xs[i]? = some x, fun i H x H' => ∃ p y, H p = none ∧ x = .ref p ∧ (∀ xs, SqL K H a xs → xs[i]? = some y) ∧ H' = upd H p (.tup [.int i, y]), fun i H => ∃ xs, SqL K H a xs ∧ xs.length ≤ i⟩
theorem turn_enum {P : Program} {w : World} {K : PySem.W.Frag} {es : List Expr} {k : Nat} {tp : Pos} (a e it : Addr) (hei : e ≠ it) : Turn P w K (.Tuple es k tp) (Ite K a) [e, it] e (fun i h => (∃ old, IsEnum h e it i old) ∧ h.IsListIter it a i) where
  mem := by simp
  obj := fun i h st b hb => by
    obtain ⟨⟨old, he⟩, hit⟩ := st
    rcases List.mem_cons.mp hb with z | hb
    · subst z
      exact ⟨_, he, fun v z => by
        have z' : Data.fields _ = Data.cell v := z
        cases z'⟩
    · have z : b = it := by simpa using hb
      subst z
      obtain ⟨o, e1, c, d⟩ := hit
      exact ⟨o, e1, fun v z => by rw [d] at z; cases z⟩
  keep := fun i h h' st kk => by
    obtain ⟨⟨old, he⟩, hit⟩ := st
    exact ⟨⟨old, kk e (by simp) _ he⟩, hit.at fun o x => kk it (by simp) o x⟩
  item := by
    intro X hP hw hK hc i pins s σ H E I hf st hg
    subst hP hw hK
    obtain ⟨xs, x, hq, hx⟩ := hg
    obtain ⟨its, rv, p, hz⟩ := I.list hq
    obtain ⟨u, hu, ru⟩ := rv.get hx
    obtain ⟨e0, e1, e2, e3, e4, e5⟩ := hf e (by simp)
    obtain ⟨f0, f1, f2, f3, f4, f5⟩ := hf it (by simp)
    obtain ⟨⟨old, he⟩, hit⟩ := st
    refine wpAny_pyNext_enum_item he hit p.isList (x := u) (by simpa using hu) hei fun h' ho hit' hT hsz hk => ?_
    refine ⟨_, rfl, wpAny_letOwnedTupleGo_enum ho fun h'' he'' hs'' => ?_⟩
    have hTe : s.heap.objs.size ≠ e := Nat.ne_of_gt (Heap.lt_size he)
    have hT2 : h''.get? s.heap.objs.size = some { cls := .type "tuple", data := .seq #[.int i s.toks, u] } := (hs''.2 _ hTe).trans hT
    have kk : ∀ b o, b ≠ e → b ≠ it → s.heap.get? b = some o → h''.get? b = some o := fun b o h1 h2 q => (hs''.2 b h1).trans (hk b o h1 h2 q)
    have hfresh : H s.heap.objs.size = none := I.fresh
    have lt : ∀ b o, s.heap.get? b = some o → b ≠ s.heap.objs.size := fun b o q => Nat.ne_of_lt (Heap.lt_size q)
    refine ⟨.ref s.heap.objs.size, upd H s.heap.objs.size (.tup [.int i, x]), ?_, rfl, ⟨_, x, hfresh, rfl, fun ys hy => by rw [I.list_inj hy hq]; exact hx, rfl⟩, ⟨⟨u, by simpa using he''⟩, hit'.at fun o y => (hs''.2 it hei.symm).trans y⟩, fun b hb => ?_⟩
    · show Inv X pins σ (upd H s.heap.objs.size (.tup [.int i, x])) { s with heap := h'', gens := s.gens, drawn := s.drawn, toks := s.toks + 1 }
      refine I.step (g' := s.gens) (d' := s.drawn) (t' := s.toks + 1) (ch := [e, it]) (fun b hb => ?_) (fun b o _ _ hc q _ => kk b o (fun z => hc (by simp [z])) (fun z => hc (by simp [z])) q) (fun b o _ _ hc q _ => ⟨o.slots, kk b o (fun z => hc (by simp [z])) (fun z => hc (by simp [z])) q⟩)
        (fun b o _ q n => by rw [upd_ne (lt b o q)]; exact n) (fun b o hc q => ⟨o, kk b o (fun z => hc (by simp [z])) (fun z => hc (by simp [z])) q⟩) (fun b ys q => by rw [upd_ne (ne_of_none q hfresh)]; exact q) (fun b o v q => by rw [upd_ne (ne_of_none q hfresh)]; exact q)
        (fun b ps q => ⟨#[], by rw [upd_ne (ne_of_none q hfresh), q]; simp⟩) (fun m hm => ?_) (fun b o q => ?_) I.bare
      · rcases List.mem_cons.mp hb with z | hb
        · subst z; exact ⟨e3, e1, e4, e5⟩
        · have z : b = it := by simpa using hb
          subst z; exact ⟨f3, f1, f4, f5⟩
      · obtain ⟨o, es', ep, ho', r⟩ := hm
        exact ⟨o, es', ep, kk _ o (Ne.symm e1) (Ne.symm f1) ho', r⟩
      · by_cases hb : b = s.heap.objs.size
        · rw [hb, upd_same] at q
          cases q
          rw [hb]
          exact ⟨(by show 2 ≤ sizeLine; decide), [.int i s.toks, u], .cons ⟨_, rfl⟩ (.cons ru .nil), _, hT2, rfl, _, rfl⟩
        · rw [upd_ne hb] at q
          refine (I.hok b o q).stay (fun c v hc q' => kk c v ?_ ?_ q') (fun c hc => by rw [upd_ne (ne_of_none hc hfresh)]; exact hc) (fun c ys hc => by rw [upd_ne (ne_of_none hc hfresh)]; exact hc)
          · rcases hc with z | z
            · rw [z]; exact ne_of_none q e0
            · exact ne_of_none z e0
          · rcases hc with z | z
            · rw [z]; exact ne_of_none q f0
            · exact ne_of_none z f0
    · rcases List.mem_cons.mp hb with z | hb
      · rw [z, upd_ne (Ne.symm hTe)]; exact e0
      · have z : b = it := by simpa using hb
        obtain ⟨o, q, _⟩ := id hit
        rw [z, upd_ne (lt it o q)]; exact f0
  done := by
    intro X hP hw hK hc i pins s σ H E I hf st hg
    subst hP hw hK
    obtain ⟨xs, hq, hx⟩ := hg
    obtain ⟨its, rv, p, hz⟩ := I.list hq
    obtain ⟨f0, f1, f2, f3, f4, f5⟩ := hf it (by simp)
    have hl := rv.length
    obtain ⟨⟨old, he⟩, hit⟩ := st
    exact wpAny_pyNext_enum_end (I.ok.hd hc) he hit p.isList (by simp; omega) fun h' eb => ⟨rfl, I.turned (t' := s.toks) (fun b o hb e => eb b o hb e) f0 f1 f3 f4 f5⟩
  self := fun _ _ _ _ _ st h => let ⟨⟨_, he⟩, _⟩ := st; wpAny_pyIter_enum he h
section
variable {X : Cx}
def iEnum (K : PySem.W.Frag) (ta : TA) : TI := fun σ H R => ta σ H fun vs H1 => ∃ a, vs = [.ref a] ∧ (∃ xs, SqL K H1 a xs) ∧ R (Ite K a) H1
theorem pi_enum {a : Expr} {ta : TA} {p pos tp : Pos} {es : List Expr} {k : Nat} (hg : Gl X "enumerate") (hm : X.mg "enumerate" = none) (ha : PA X [a] ta) (hs : starEach [a] X.env = [(false, eval a X.env)] := by rfl) :
    PI X (.Tuple es k tp) (.Call (.Name "enumerate" p) [a] [] pos) (iEnum X.K ta) := by
  intro pins s σ H R I h
  refine Call_ (ld_blt I hg hm boot_enumerate (PyProof.Rows.callWith_type1 (thn (ha pos pins s σ H _ I h) fun us s1 ⟨vs, H1, I1, r1, q1⟩ => ?_) hs rfl))
  obtain ⟨a, e, ⟨xs, hq⟩, q⟩ := q1
  subst e
  obtain ⟨u, e, ru⟩ := vals1 r1
  subst e
  cases ru
  obtain ⟨its, rv, pl, hz⟩ := I1.list hq
  refine call_enumerate_list pl.isList fun h' he hit hsz hk => ?_
  refine wpAny_pyIter_enum he ?_
  refine ⟨s1.heap.objs.size + 1, [s1.heap.objs.size + 1, s1.heap.objs.size], _, _, H1, rfl, I1.kept (t' := s1.toks) hk, turn_enum a _ _ (Nat.succ_ne_self _), ⟨⟨_, he⟩, hit⟩, fun b hb => ?_, q⟩
  have e : s1.heap.objs.size ≤ b := by
    rcases List.mem_cons.mp hb with z | hb
    · rw [z]; exact Nat.le_succ _
    · have z : b = s1.heap.objs.size := by simpa using hb
      rw [z]; exact Nat.le_refl _
  exact I1.fpOk e (I1.hok.fresh e)
/-- for k, x in enumerate(list): the list stays as it is; each turn's pair is a new tuple -/
theorem for_enum {K : PySem.W.Frag} {a : Addr} {xs : List V} {g : TG} {tb : TS} {D : Ends} {σ : St} {H : Hp} (Pv : Nat → St → Hp → Prop) (h0 : Pv 0 σ H) (hl : ∀ i σ H, i ≤ xs.length → Pv i σ H → SqL K H a xs)
    (hs : ∀ i x σ H p, xs[i]? = some x → Pv i σ H → H p = none → g (.ref p) σ (upd H p (.tup [.int i, x])) fun σ2 H2 => tb { D with nx := Pv (i + 1), ct := Pv (i + 1), bk := D.nx } σ2 H2) (hd : ∀ σ H, Pv xs.length σ H → D.nx σ H) :
    ∃ W : Nat → Nat → St → Hp → Prop, (∃ m, W 0 m σ H) ∧ ∀ i m σ H, W i m σ H →
      ((Ite K a).stop i H ∧ D.nx σ H) ∨ ((Ite K a).go i H ∧ ∃ N : St → Hp → Prop, (∀ σ' H', N σ' H' → ∃ m', m' < m ∧ W (i + 1) m' σ' H') ∧ ∀ x H', (Ite K a).yld i H x H' → g x σ H' fun σ2 H2 => tb { D with nx := N, ct := N, bk := D.nx } σ2 H2) := by
  refine ⟨fun i m σ H => m = xs.length - i ∧ i ≤ xs.length ∧ Pv i σ H, ⟨xs.length, by simp, Nat.zero_le _, h0⟩, ?_⟩
  rintro i m σ H ⟨rfl, hi, p⟩
  have q := hl i σ H hi p
  by_cases hlt : i < xs.length
  · refine .inr ⟨⟨xs, xs[i], q, by simp [hlt]⟩, Pv (i + 1), fun σ' H' p' => ⟨xs.length - (i + 1), by omega, rfl, hlt, p'⟩, fun x H' y => ?_⟩
    obtain ⟨t, z, n, e1, e2, e3⟩ := y
    subst e1 e3
    exact hs i z σ H t (e2 xs q) p n
  · have e : i = xs.length := by omega
    subst e
    exact .inl ⟨⟨xs, q, Nat.le_refl _⟩, hd σ H p⟩
/-! nested data, read off the heap -/
def Dat (X : Cx) (H : Hp) (n : Nat) (x : V) (d : PyData) : Prop :=
  d.canLay0 = true ∧ d.depth ≤ n ∧ ∀ (pins : List (Addr × Obj)) (σ : St) (s : Shared) (u : Value), Inv X pins σ H s → RelV x u → ∃ as, Reads s.heap u d as
variable {H : Hp} {n : Nat}
theorem dat_int (i : Int) : Dat X H n (.int i) (.int i) := ⟨rfl, Nat.zero_le _, fun _ _ _ _ _ ⟨t, e⟩ => by subst e; exact ⟨_, .int i t⟩⟩
theorem dat_non : Dat X H n .non .none := ⟨rfl, Nat.zero_le _, fun _ _ _ _ _ e => by cases e; exact ⟨_, .none⟩⟩
theorem dat_bl (b : Bool) : Dat X H n (.bl b) (.bool b) := ⟨rfl, Nat.zero_le _, fun _ _ _ _ _ e => by cases e; exact ⟨_, .bool b⟩⟩
theorem dat_str (x : Str) (h : PyData.strOk x = true) : Dat X H n (.str x) (.str x) := ⟨h, Nat.zero_le _, fun _ _ _ _ _ ⟨t, e⟩ => by subst e; exact ⟨_, .str x t⟩⟩
theorem dats_ok : ∀ {xs : List V} {ds : List PyData}, Paired (Dat X H n) xs ds → PyData.canLayAll0 ds = true ∧ PyData.depthAll ds ≤ n
  | _, _, .nil => ⟨rfl, Nat.zero_le _⟩
  | _, _, .cons a r => by
    have q := dats_ok r
    refine ⟨by simp [PyData.canLayAll0, a.1, q.1], ?_⟩
    have := a.2.1
    have := q.2
    simp only [PyData.depthAll]
    omega
theorem dats_reads {pins : List (Addr × Obj)} {σ : St} {s : Shared} (I : Inv X pins σ H s) : ∀ {xs : List V} {ds : List PyData} {us : List Value}, Paired (Dat X H n) xs ds → Vals xs us → ∃ as, ReadsAll s.heap us ds as
  | _, _, _, .nil, .nil => ⟨_, .nil⟩
  | _, _, _, .cons a r, .cons b q => by
    obtain ⟨as, h1⟩ := a.2.2 pins σ s _ I b
    obtain ⟨bs, h2⟩ := dats_reads I r q
    exact ⟨_, .cons h1 h2⟩
theorem dat_list {a : Addr} {xs : List V} {ds : List PyData} (hq : SqL X.K H a xs) (h : Paired (Dat X H n) xs ds) : Dat X H (n + 1) (.ref a) (.list ds) := by
  refine ⟨(dats_ok h).1, by have := (dats_ok h).2; simp only [PyData.depth]; omega, fun pins σ s u I r => ?_⟩
  cases r
  obtain ⟨its, rv, ⟨o, k, e1, e2, e3, e4⟩, hz⟩ := I.list hq
  obtain ⟨as, ra⟩ := dats_reads I h rv
  exact ⟨_, .list e1 e2 e4 (by simpa using ra)⟩
theorem dat_tup {a : Addr} {xs : List V} {ds : List PyData} (hq : SqT X.K H a xs) (h : Paired (Dat X H n) xs ds) : Dat X H (n + 1) (.ref a) (.tuple ds) := by
  refine ⟨(dats_ok h).1, by have := (dats_ok h).2; simp only [PyData.depth]; omega, fun pins σ s u I r => ?_⟩
  cases r
  obtain ⟨its, rv, ⟨o, e1, e2, k, e4⟩, hz⟩ := I.tuple hq
  obtain ⟨as, ra⟩ := dats_reads I h rv
  exact ⟨_, .tuple e1 e2 e4 (by simpa using ra)⟩
theorem dats_ints : ∀ ns : List Int, Paired (Dat X H n) (ns.map V.int) (ns.map PyData.int)
  | [] => .nil
  | i :: r => .cons (dat_int i) (dats_ints r)
theorem dat_ints {a : Addr} {ns : List Int} (hq : SqL X.K H a (ns.map V.int)) : Dat X H (n + 1) (.ref a) (.list (ns.map PyData.int)) := dat_list hq (dats_ints ns)
theorem Dat.shaped {x : V} {d : PyData} (h : Dat X H 64 x d) : SeqAt.shaped d = true := by
  unfold SeqAt.shaped
  rw [h.1, Bool.true_and]
  exact decide_eq_true h.2.1
theorem op_eqD (hu : X.A.units + 64 < cLine) : OpR X (compareOp .Eq) (fun x y H Q => ∃ d, Dat X H 64 x d ∧ Dat X H 64 y d ∧ Q (.bl true) H) := by
  intro pins s σ H x y v u Q I rx ry ⟨d, hx, hy, q⟩
  obtain ⟨as, h1⟩ := hx.2.2 pins σ s v I rx
  obtain ⟨bs, h2⟩ := hy.2.2 pins σ s u I ry
  refine eq_dataH h1 h2 hx.shaped hy.shaped hu ?_
  rw [SeqAt.eqv_refl d hx.1]
  exact ⟨.bl true, H, I, rfl, q⟩
theorem op_neD (hu : X.A.units + 64 < cLine) : OpR X (compareOp .NotEq) (fun x y H Q => ∃ d, Dat X H 64 x d ∧ Dat X H 64 y d ∧ Q (.bl false) H) := by
  intro pins s σ H x y v u Q I rx ry ⟨d, hx, hy, q⟩
  obtain ⟨as, h1⟩ := hx.2.2 pins σ s v I rx
  obtain ⟨bs, h2⟩ := hy.2.2 pins σ s u I ry
  refine ne_dataH h1 h2 hx.shaped hy.shaped hu ?_
  rw [SeqAt.eqv_refl d hx.1]
  exact ⟨.bl false, H, I, rfl, q⟩
/-! isinstance(x, T) with a built-in type -/
theorem call_isinst : CallR X (.builtin "isinstance") (fun xs H Q => ∃ x c t b, xs = [x, .ty c] ∧ TyOf X.K H x t ∧ PySem.W.kitOne X.K t (.type c) = some b ∧ Q (.bl b) H) := by
  intro pins s σ H xs us Q I r ⟨x, c, t, b, e, ty, k, q⟩
  subst e
  obtain ⟨u, u', e, ru, ru'⟩ := vals2 r
  subst e
  cases ru'
  exact isinst_ok I ru ty k fun tk => ⟨.bl b, H, I.tok tk, rfl, q⟩
end
theorem kit_int_int (K : PySem.W.Frag) : PySem.W.kitOne K (.type "int") (.type "int") = some true := rfl
theorem kit_int_bool (K : PySem.W.Frag) : PySem.W.kitOne K (.type "int") (.type "bool") = some false := by
  have h1 : PySem.W.kitMeta "bool" = true := by decide +kernel
  have h2 : (fastBuiltinMro "int").map (·.contains (.type "bool")) = some false := by decide +kernel
  have h3 : ¬ (Value.type "int" == Value.type "bool") = true := by decide +kernel
  unfold PySem.W.kitOne
  rw [if_neg h3]
  show (if PySem.W.kitMeta "bool" = true then PySem.W.subIn K (.type "int") (.type "bool") else none) = some false
  rw [if_pos h1]
  exact h2
theorem kit_list (K : PySem.W.Frag) : PySem.W.kitOne K (.type "list") (.type "list") = some true := rfl
theorem kit_tuple (K : PySem.W.Frag) : PySem.W.kitOne K (.type "tuple") (.type "tuple") = some true := rfl
end L2

namespace L2
open PySem PySem.Spec PyProof.Rows
/-! ### EXT 3: small words -/
theorem iteD {p : Prop} [Decidable p] {A B : Prop} (h1 : p → A) (h2 : ¬ p → B) : if decide p = true then A else B := by
  by_cases h : p
  · rw [if_pos (decide_eq_true h)]; exact h1 h
  · rw [if_neg (by simpa using h)]; exact h2 h
theorem iteDn {p : Prop} [Decidable p] {A B : Prop} (h1 : ¬ p → A) (h2 : p → B) : if (!decide p) = true then A else B := by
  by_cases h : p
  · rw [if_neg (by simpa using h)]; exact h2 h
  · rw [if_pos (by simpa using h)]; exact h1 h
theorem iteEq {i j : Int} {A B : Prop} (h1 : i = j → A) (h2 : i ≠ j → B) : if decide (V.int i = V.int j) = true then A else B :=
  iteD (fun h => h1 (by injection h)) (fun h => h2 fun z => h (by rw [z]))
theorem iteNe {i j : Int} {A B : Prop} (h1 : i ≠ j → A) (h2 : i = j → B) : if (!decide (V.int i = V.int j)) = true then A else B :=
  iteDn (fun h => h1 fun z => h (by rw [z])) (fun h => h2 (by injection h))
theorem same_new {H : Hp} {p : Addr} (h : H p = none) (o : HO) : Same H (upd H p o) := fun b u q => by rw [upd_ne (ne_of_none q h)]; exact q
theorem same_upd {H H' : Hp} {p : Addr} (s : Same H H') (h : H p = none) (o : HO) : Same H (upd H' p o) := fun b u q => by rw [upd_ne (ne_of_none q h)]; exact s b u q
theorem small {n : Nat} (h : n ≤ 1000) : n ≤ sizeLine := Nat.le_of_lt (small1000 h)
section
variable {α β : Type} {F : α → β → Prop}
theorem pr_len : ∀ {xs : List α} {ys : List β}, Paired F xs ys → xs.length = ys.length
  | _, _, .nil => rfl
  | _, _, .cons _ r => by simp [pr_len r]
theorem pr_get : ∀ {xs : List α} {ys : List β} {i : Nat} {x : α}, Paired F xs ys → xs[i]? = some x → ∃ y, ys[i]? = some y ∧ F x y
  | _, _, i, x, .nil, h => by simp at h
  | _, _, 0, x, .cons a _, h => by
    cases h; exact ⟨_, rfl, a⟩
  | _, _, i + 1, x, .cons _ r, h => by
    obtain ⟨y, e, f⟩ := pr_get (i := i) r (by simpa using h)
    exact ⟨y, by simpa using e, f⟩
theorem pr_getR : ∀ {xs : List α} {ys : List β} {i : Nat} {y : β}, Paired F xs ys → ys[i]? = some y → ∃ x, xs[i]? = some x ∧ F x y
  | _, _, i, x, .nil, h => by simp at h
  | _, _, 0, x, .cons a _, h => by
    cases h; exact ⟨_, rfl, a⟩
  | _, _, i + 1, x, .cons _ r, h => by
    obtain ⟨y, e, f⟩ := pr_getR (i := i) r (by simpa using h)
    exact ⟨y, by simpa using e, f⟩
theorem pr_imp {G : α → β → Prop} (f : ∀ a b, F a b → G a b) {xs : List α} {ys : List β} (r : Paired F xs ys) : Paired G xs ys := Paired.imp' f r
/-- one pair changed -/
theorem pr_set {G : α → β → Prop} : ∀ {xs : List α} {ys : List β} {i : Nat} {y' : β}, Paired F xs ys → (∀ (j : Nat) x y, j ≠ i → xs[j]? = some x → F x y → G x y) → (∀ x, xs[i]? = some x → G x y') → Paired G xs (ys.set i y')
  | _, _, _, _, .nil, _, _ => by simpa using Paired.nil
  | _, _, 0, y', .cons a r, h, h' => by
    refine .cons (h' _ rfl) ?_
    have : ∀ {xs : List α} {ys : List β}, Paired F xs ys → (∀ (j : Nat) x y, xs[j]? = some x → F x y → G x y) → Paired G xs ys := fun {xs ys} r => by
      induction r with
      | nil => intro _; exact .nil
      | cons a r ih => intro h; exact .cons (h 0 _ _ rfl a) (ih fun j x y e f => h (j + 1) x y (by simpa using e) f)
    exact this r fun j x y e f => h (j + 1) x y (by omega) (by simpa using e) f
  | _, _, i + 1, y', .cons a r, h, h' => .cons (h 0 _ _ (by omega) rfl a) (pr_set r (fun j x y n e f => h (j + 1) x y (by omega) (by simpa using e) f) fun x e => h' x (by simpa using e))
end
theorem at_map {α β : Type} {f : α → β} {xs : List α} {i : Nat} {y : β} (h : (xs.map f)[i]? = some y) : ∃ x, xs[i]? = some x ∧ y = f x := by
  rw [List.getElem?_map] at h
  cases e : xs[i]? with
  | none => rw [e] at h; cases h
  | some x => rw [e] at h; exact ⟨x, rfl, (Option.some.inj h).symm⟩
theorem map_at {α β : Type} {f : α → β} {xs : List α} {i : Nat} {x : α} (h : xs[i]? = some x) : (xs.map f)[i]? = some (f x) := by rw [List.getElem?_map, h]; rfl
theorem take_snoc {α : Type} {xs : List α} {i : Nat} {x : α} (h : xs[i]? = some x) : xs.take (i + 1) = xs.take i ++ [x] := by
  obtain ⟨hi, e⟩ := List.getElem?_eq_some_iff.mp h
  rw [List.take_succ_eq_append_getElem hi, e]
theorem drop_cons {α : Type} {xs : List α} {i : Nat} {x : α} (h : xs[i]? = some x) : xs.drop i = x :: xs.drop (i + 1) := by
  obtain ⟨hi, e⟩ := List.getElem?_eq_some_iff.mp h
  rw [List.drop_eq_getElem_cons hi, e]
/-! comprehensions whose items are known ahead: the heap grows at most -/
theorem cmp_mapL {K : PySem.W.Frag} {a D : Addr} {xs ys : List V} {te : TE} {fr : List (Option Nat)} {σ0 : St} {H : Hp} {Q : Hp → Prop} (hD : H D = none) (hl : SqL K H a xs) (hz : xs.length ≤ 1000) (hy : ys.length = xs.length)
    (hs : ∀ i x y Hc (R : VK), xs[i]? = some x → ys[i]? = some y → Same H Hc → Hc D = some (.lst (ys.take i)) → (∀ H4, Same H H4 → H4 D = some (.lst (ys.take i)) → R y H4) → te (some x :: frSt fr σ0) Hc R)
    (hd : ∀ H', Same H H' → H' D = some (.lst ys) → Q H') :
    ∃ W : Nat → Nat → St → List V → Hp → Prop, (∃ m, W 0 m (frSt (none :: fr) σ0) [] (upd H D (.lst []))) ∧
      ∀ i m σ' ys Hc, W i m σ' ys Hc → ((Itl K a).stop i Hc ∧ Q Hc) ∨ ((Itl K a).go i Hc ∧ ys.length < sizeLine ∧ ∀ x H', (Itl K a).yld i Hc x H' → gName 0 x σ' H' fun σ2 H2 => tYes σ2 H2 fun b H3 =>
        if b = true then te σ2 H3 fun y H4 => H4 D = some (.lst ys) ∧ ∃ m', m' < m ∧ W (i + 1) m' σ2 (ys ++ [y]) (upd H4 D (.lst (ys ++ [y]))) else ∃ m', m' < m ∧ W (i + 1) m' σ2 ys H3) := by
  refine cmp_list (fun i zs Hc => zs = ys.take i ∧ Same H Hc ∧ Hc D = some (.lst zs)) ⟨by simp, same_new hD _, upd_same⟩ (fun i zs Hc _ p => p.2.1.seq hl) (fun i zs Hc hi p => ?_) (fun i x zs Hc R hx p hR => ?_) (fun zs Hc p => ?_)
  · rw [p.1, List.length_take]; exact small1000 (by omega)
  · obtain ⟨rfl, s, d⟩ := p
    have hi : i < ys.length := by rw [hy]; exact (List.getElem?_eq_some_iff.mp hx).1
    have ey : ys[i]? = some ys[i] := by simp [hi]
    refine hs i x ys[i] Hc R hx ey s d fun H4 s4 d4 => hR _ _ d4 ⟨(take_snoc ey).symm, same_upd s4 hD _, upd_same⟩
  · obtain ⟨rfl, s, d⟩ := p
    rw [← hy, List.take_length] at d
    exact hd Hc s d
theorem cmp_mapR {D : Addr} {n : Nat} {ys : List V} {te : TE} {fr : List (Option Nat)} {σ0 : St} {H : Hp} {Q : Hp → Prop} (hD : H D = none) (hz : n ≤ 1000) (hy : ys.length = n)
    (hs : ∀ i y Hc (R : VK), i < n → ys[i]? = some y → Same H Hc → Hc D = some (.lst (ys.take i)) → (∀ H4, Same H H4 → H4 D = some (.lst (ys.take i)) → R y H4) → te (some (.int (0 + i)) :: frSt fr σ0) Hc R)
    (hd : ∀ H', Same H H' → H' D = some (.lst ys) → Q H') :
    ∃ W : Nat → Nat → St → List V → Hp → Prop, (∃ m, W 0 m (frSt (none :: fr) σ0) [] (upd H D (.lst []))) ∧
      ∀ i m σ' ys Hc, W i m σ' ys Hc → ((Itr 0 n).stop i Hc ∧ Q Hc) ∨ ((Itr 0 n).go i Hc ∧ ys.length < sizeLine ∧ ∀ x H', (Itr 0 n).yld i Hc x H' → gName 0 x σ' H' fun σ2 H2 => tYes σ2 H2 fun b H3 =>
        if b = true then te σ2 H3 fun y H4 => H4 D = some (.lst ys) ∧ ∃ m', m' < m ∧ W (i + 1) m' σ2 (ys ++ [y]) (upd H4 D (.lst (ys ++ [y]))) else ∃ m', m' < m ∧ W (i + 1) m' σ2 ys H3) := by
  refine cmp_range (fun i zs Hc => zs = ys.take i ∧ Same H Hc ∧ Hc D = some (.lst zs)) ⟨by simp, same_new hD _, upd_same⟩ (fun i zs Hc hi p => ?_) (fun i zs Hc R hx p hR => ?_) (fun zs Hc p => ?_)
  · rw [p.1, List.length_take]; exact small1000 (by omega)
  · obtain ⟨rfl, s, d⟩ := p
    have hi : i < ys.length := by omega
    have ey : ys[i]? = some ys[i] := by simp [hi]
    refine hs i ys[i] Hc R hx ey s d fun H4 s4 d4 => hR _ _ d4 ⟨(take_snoc ey).symm, same_upd s4 hD _, upd_same⟩
  · obtain ⟨rfl, s, d⟩ := p
    rw [← hy, List.take_length] at d
    exact hd Hc s d
end L2
namespace L2
open PySem PySem.Spec PyProof.Rows
/-! the rules that speak of the written part, with it named -/
section
variable {X : Cx} (K : PySem.W.Frag)
theorem ix_listK (h : X.K = K := by rfl) : IxR X (rIxL K) := by subst h; exact ix_list
theorem ix_tupK (h : X.K = K := by rfl) : IxR X (rIxT K) := by subst h; exact ix_tup
theorem call_lenK (h : X.K = K := by rfl) : CallR X (.builtin "len") (fun xs H Q => ∃ p ys, xs = [.ref p] ∧ (SqL K H p ys ∨ SqT K H p ys) ∧ Q (.int ys.length) H) := by subst h; exact call_len_seq
theorem call_sumK (hc : X.calm = true := by rfl) (h : X.K = K := by rfl) : CallR X (.builtin "sum") (fun xs H Q => ∃ (p : Addr) (ns : List Int), xs = [.ref p] ∧ SqL K H p (ns.map V.int) ∧ Q (.int ns.sum) H) := by subst h; exact call_sum hc
theorem call_isiK (h : X.K = K := by rfl) : CallR X (.builtin "isinstance") (fun xs H Q => ∃ x c t b, xs = [x, .ty c] ∧ TyOf K H x t ∧ PySem.W.kitOne K t (.type c) = some b ∧ Q (.bl b) H) := by subst h; exact call_isinst
theorem call_listK (h : X.K = K := by rfl) : CallR X (.type "list") (fun xs H Q => ∃ p ys, xs = [.ref p] ∧ (SqL K H p ys ∨ SqT K H p ys) ∧ ∀ l, H l = none → Q (.ref l) (upd H l (.lst ys))) := by subst h; exact call_list_of
theorem pi_listK {tg l : Expr} {tl : TE} (hl : PE X l tl) (h : X.K = K := by rfl) : PI X tg l (iList K tl) := by subst h; exact pi_list hl
theorem pi_enumK {a : Expr} {ta : TA} {p pos tp : Pos} {es : List Expr} {k : Nat} (hg : Gl X "enumerate") (hm : X.mg "enumerate" = none) (ha : PA X [a] ta) (hs : starEach [a] X.env = [(false, eval a X.env)] := by rfl) (h : X.K = K := by rfl) :
    PI X (.Tuple es k tp) (.Call (.Name "enumerate" p) [a] [] pos) (iEnum K ta) := by subst h; exact pi_enum hg hm ha hs
theorem pg_tupK {es : List Expr} {k : Nat} {pos : Pos} {t : TGs} {n : Nat} (hc : X.calm = true) (hh : PGs X es t) (hn : (assignEach es X.env).length = n := by rfl) (hst : (assignEach es X.env).findIdx? (·.1) = none := by rfl) (h : X.K = K := by rfl) : PG X (.Tuple es k pos) (gTup K n t) := by
  subst h; exact pg_tup hc hh hn hst
theorem op_inK (h : X.K = K := by rfl) : OpR X (compareOp .In) (rIn K false) := by subst h; exact op_in_seq
theorem op_notInK (h : X.K = K := by rfl) : OpR X (compareOp .NotIn) (rIn K true) := by subst h; exact op_notIn_seq
variable {o e : Expr} {es : List Expr} {to : TE} {t : TA} {name : Str} {apos cpos : Pos} {T id : String} {r : V → List V → Hp → VK → Prop}
theorem pe_bm0K (pa : PlainAttrs T) (slot : Slot T name id) (hty : typeOf (.builtin id) = pure (.type "method_descriptor")) (hm : MtR X id r) (ho : PE X o to)
    (hbase : attributeBase o name X.env (eval o X.env) = eval o X.env := by rfl) (hline : (apos.endLine == cpos.line) = true := by rfl) (h : X.K = K := by rfl) : PE X (.Call (.Attribute o name apos) [] [] cpos) (tBM0 K T r to) := by
  subst h; exact pe_bm0 pa slot hty hm ho hbase hline
end
end L2
namespace L2
theorem pr_app {α β : Type} {F : α → β → Prop} : ∀ {xs : List α} {ys : List β} {us : List α} {vs : List β}, PySem.Paired F xs ys → PySem.Paired F us vs → PySem.Paired F (xs ++ us) (ys ++ vs)
  | _, _, _, _, .nil, h => h
  | _, _, _, _, .cons a r, h => .cons a (pr_app r h)
end L2

namespace L2
open PySem PySem.Spec PyProof.Rows
/-! ### EXT 4: o[i] += e on lists; comprehensions over a list of pairs -/
section
variable {X : Cx} (K : PySem.W.Frag)
def rGetL : V → V → Hp → VK → Prop := fun o i H Q => ∃ (p : Addr) (xs : List V) (k : Int) (v : V), o = .ref p ∧ i = .int k ∧ 0 ≤ k ∧ SqL K H p xs ∧ atI xs k = some v ∧ Q v H
theorem get_listK (h : X.K = K := by rfl) : PGet X (rGetL K) := by
  subst h
  intro pins s σ H o i ov iv Q I ro ri ⟨p, xs, k, z, e1, e2, h0, hq, he, q⟩
  subst e1 e2
  cases ro
  obtain ⟨t, e⟩ := ri
  subst e
  obtain ⟨its, r, pl, hz⟩ := I.list hq
  obtain ⟨j, h1, h2, h3, h4, h5⟩ := atI_get he
  obtain ⟨w, ew, rw'⟩ := r.get h2
  have hl := r.length
  have hn := line63
  have hj : k.toNat = j := by
    rw [seqIndex_of h0 h5] at h1
    exact Option.some.inj h1
  exact wpAny_getItem_list pl.isList h0 (by omega) (by rw [hj]; simpa using ew) ⟨z, H, I, rw', q⟩
end
/-- [.. for u, v in xs] -/
theorem cmp_list2 {K : PySem.W.Frag} {a D : Addr} {xs : List V} {te : TE} {fr : List (Option Nat)} {σ0 : St} {H : Hp} {Q : Hp → Prop} (Pv : Nat → List V → Hp → Prop) (h0 : Pv 0 [] H) (hl : ∀ i ys H, i ≤ xs.length → Pv i ys H → SqL K H a xs)
    (hz : ∀ i ys H, i < xs.length → Pv i ys H → ys.length < sizeLine)
    (hp : ∀ i x ys H, xs[i]? = some x → Pv i ys H → ∃ (t : Addr) (u v : V), x = .ref t ∧ SqT K H t [u, v] ∧ ∀ R : VK, (∀ y H4, H4 D = some (.lst ys) → Pv (i + 1) (ys ++ [y]) (upd H4 D (.lst (ys ++ [y]))) → R y H4) → te (some u :: some v :: frSt fr σ0) H R) (hd : ∀ ys H, Pv xs.length ys H → Q H) :
    ∃ W : Nat → Nat → St → List V → Hp → Prop, (∃ m, W 0 m (frSt (none :: none :: fr) σ0) [] H) ∧
      ∀ i m σ' ys Hc, W i m σ' ys Hc → ((Itl K a).stop i Hc ∧ Q Hc) ∨ ((Itl K a).go i Hc ∧ ys.length < sizeLine ∧ ∀ x H', (Itl K a).yld i Hc x H' → gTup K 2 (gCons (gName 0) (gCons (gName 1) gNil)) x σ' H' fun σ2 H2 => tYes σ2 H2 fun b H3 =>
        if b = true then te σ2 H3 fun y H4 => H4 D = some (.lst ys) ∧ ∃ m', m' < m ∧ W (i + 1) m' σ2 (ys ++ [y]) (upd H4 D (.lst (ys ++ [y]))) else ∃ m', m' < m ∧ W (i + 1) m' σ2 ys H3) := by
  refine ⟨fun i m σ ys H => m = xs.length - i ∧ i ≤ xs.length ∧ (∃ o1 o2, σ = o1 :: o2 :: frSt fr σ0) ∧ Pv i ys H, ⟨xs.length, by simp, Nat.zero_le _, ⟨none, none, rfl⟩, h0⟩, ?_⟩
  rintro i m σ ys H ⟨rfl, hi, ⟨o1, o2, rfl⟩, p⟩
  have q := hl i ys H hi p
  by_cases hlt : i < xs.length
  · refine .inr ⟨⟨xs, xs[i], q, by simp [hlt]⟩, hz i ys H hlt p, fun x H' y => ?_⟩
    obtain ⟨e, y⟩ := y
    subst e
    obtain ⟨t, u, v, ex, et, k⟩ := hp i x ys _ (y xs q) p
    subst ex
    refine ⟨t, [u, v], rfl, et, rfl, u, [v], rfl, v, [], rfl, rfl, ?_⟩
    unfold tYes
    simp only [if_true]
    exact k _ fun v H1 e1 e2 => ⟨e1, xs.length - (i + 1), by omega, rfl, hlt, ⟨_, _, rfl⟩, e2⟩
  · have e : i = xs.length := by omega
    subst e
    exact .inl ⟨⟨xs, q, Nat.le_refl _⟩, hd ys H p⟩
end L2
namespace L2
open PySem PySem.Spec PyProof.Rows
/-- a statement with a word N of one's own behind it, then the rest -/
def tCut (t u : TS) : TS := fun D σ H => ∃ N : St → Hp → Prop, t { D with nx := N } σ H ∧ ∀ σ' H', N σ' H' → u D σ' H'
theorem pss_cut {X : Cx} {st : Stmt} {rest : List Stmt} {t u : TS} (h1 : PS X st t) (h2 : PSs X rest u) : PSs X (st :: rest) (tCut t u) := by
  intro pins s σ H D I h
  obtain ⟨N, ht, hN⟩ := h
  have h1' : PS X st (fun D' σ' H' => D'.nx = u D ∧ D'.rt = D.rt ∧ D'.bk = D.bk ∧ D'.ct = D.ct ∧ t { D with nx := N } σ' H') := by
    intro pins s σ H D' I h
    obtain ⟨e1, e2, e3, e4, h⟩ := h
    refine thn (h1 pins s σ H { D with nx := N } I h) fun f s' q => ?_
    cases f with
    | next => obtain ⟨σ', H', I', q⟩ := q; exact ⟨σ', H', I', by rw [e1]; exact hN σ' H' q⟩
    | brk => obtain ⟨σ', H', I', q⟩ := q; exact ⟨σ', H', I', by rw [e3]; exact q⟩
    | cont => obtain ⟨σ', H', I', q⟩ := q; exact ⟨σ', H', I', by rw [e4]; exact q⟩
    | ret v => obtain ⟨x, σ', H', I', r, q⟩ := q; exact ⟨x, σ', H', I', r, by rw [e2]; exact q⟩
  exact pss_cons h1' h2 pins s σ H D I ⟨rfl, rfl, rfl, rfl, ht⟩
end L2

namespace L2
open PySem PySem.Spec PyProof.Rows
/-! ### EXT 11: dicts walked; min, max, sorted, set of a list of whole numbers -/
section
variable {X : Cx} {pins : List (Addr × Obj)} {σ : St} {H : Hp} {s : Shared}
theorem Inv.freeze {d : Addr} {kvs : List (Key × V)} (I : Inv X pins σ H s) (h : H d = some (.dK kvs)) : ∃ (ob : Obj) (vs : List (Key × Value)) (ep : Nat), s.heap.get? d = some ob ∧ KV kvs vs ∧
    (∀ h' : Heap, h'.get? d = some ob → h'.DictAt (mixKind X.prog X.w) d vs ep) ∧ (d == sysModules) = false ∧ Inv X pins σ (upd H d (.frz ob (.dK kvs))) s := by
  obtain ⟨z, lo, vs, rel, ob, es, ep, e, rest⟩ := I.hok d _ h
  refine ⟨ob, vs, ep, e, rel, fun h' e' => ⟨ob, es, e', rest⟩, lo, ?_⟩
  exact I.write (h' := s.heap) (t' := s.toks) (x := d) (e := d) (by rw [h]; exact trivial) (.inl rfl) (fun _ _ _ q => q) ⟨ob, e⟩ ⟨e, z, lo, vs, rel, ob, es, ep, e, rest⟩
theorem kV_of {P : Program} {w : World} {k : Key} {u : Value} (h : (mixKind P w).is k u = true) : RelV (kV k) u := by
  rcases keyIs_shape (show keyIs k u = true from h) with ⟨i, t, rfl, rfl⟩ | ⟨x, t, rfl, rfl⟩
  · exact ⟨t, rfl⟩
  · exact ⟨t, rfl⟩
theorem KV.get {kvs : List (Key × V)} {vs : List (Key × Value)} (r : KV kvs vs) {i : Nat} {p : Key × V} (h : kvs[i]? = some p) : ∃ q, vs[i]? = some q ∧ p.1 = q.1 ∧ RelV p.2 q.2 := by
  obtain ⟨q, e, f⟩ := pr_get (F := fun (p : Key × V) (q : Key × Value) => p.1 = q.1 ∧ RelV p.2 q.2) r h
  exact ⟨q, e, f⟩
end
/-- the keys of the dict at d, which stands still -/
def Itk (d : Addr) (ob : Obj) (kvs : List (Key × V)) : It :=
  ⟨fun i H => H d = some (.frz ob (.dK kvs)) ∧ i < kvs.length, fun i H x H' => H' = H ∧ ∃ p, kvs[i]? = some p ∧ x = kV p.1, fun i H => H d = some (.frz ob (.dK kvs)) ∧ kvs.length ≤ i⟩
/-- its pairs, each a new tuple -/
def Iti (d : Addr) (ob : Obj) (kvs : List (Key × V)) : It :=
  ⟨fun i H => H d = some (.frz ob (.dK kvs)) ∧ i < kvs.length, fun i H x H' => ∃ t p, H t = none ∧ x = .ref t ∧ kvs[i]? = some p ∧ H' = upd H t (.tup [kV p.1, p.2]), fun i H => H d = some (.frz ob (.dK kvs)) ∧ kvs.length ≤ i⟩
theorem turn_keys {P : Program} {w : World} {K : PySem.W.Frag} {tg : Expr} {d it : Addr} {ob : Obj} {kvs : List (Key × V)} {vs : List (Key × Value)} {ep : Nat} (rel : KV kvs vs) (at' : ∀ h' : Heap, h'.get? d = some ob → h'.DictAt (mixKind P w) d vs ep) :
    Turn P w K tg (Itk d ob kvs) [it] it (fun i h => h.IsKeyIter it d i vs.length ep) where
  mem := by simp
  obj := fun i h st b hb => by
    have e : b = it := by simpa using hb
    subst e
    obtain ⟨o, e, c, dd⟩ := st
    exact ⟨o, e, fun v z => by rw [dd] at z; cases z⟩
  keep := fun i h h' st k => st.at fun o e => k it (by simp) o e
  item := by
    intro X hP hw hK hc i pins s σ H E I hf st hg
    subst hP hw hK
    obtain ⟨hd, hi⟩ := hg
    obtain ⟨e0, _⟩ := (show ObjOk X.prog X.w H s.heap d (.frz ob (.dK kvs)) from I.hok d _ hd)
    obtain ⟨f0, f1, f2, f3, f4, f5⟩ := hf it (by simp)
    have ex : kvs[i]? = some kvs[i] := List.getElem?_eq_getElem hi
    obtain ⟨q, eq, k1, k2⟩ := rel.get ex
    refine wpAny_pyNext_dict_item st (at' _ e0) (k := q.1) (v := q.2) eq fun key h' hkey hit' sb => ?_
    have I1 : Inv X pins σ H { s with heap := h' } := I.turned (t' := s.toks) (fun b o hb e => (sb.2 b hb).trans e) f0 f1 f3 f4 f5
    refine ⟨key, rfl, letGo_keyiter (s' := { s with heap := h' }) hit' ⟨kV kvs[i].1, H, I1, by rw [k1]; exact kV_of hkey, ⟨rfl, kvs[i], ex, rfl⟩, hit', fun b hb => (hf b hb).1⟩⟩
  done := by
    intro X hP hw hK hc i pins s σ H E I hf st hg
    subst hP hw hK
    obtain ⟨hd, hi⟩ := hg
    obtain ⟨e0, _⟩ := (show ObjOk X.prog X.w H s.heap d (.frz ob (.dK kvs)) from I.hok d _ hd)
    obtain ⟨f0, f1, f2, f3, f4, f5⟩ := hf it (by simp)
    have hl := rel.length
    exact wpAny_pyNext_dict_end (I.ok.hd hc) st (at' _ e0) (List.getElem?_eq_none (by omega)) fun h' eb => ⟨rfl, I.turned (t' := s.toks) (fun b o hb e => eb b o hb e) f0 f1 f3 f4 f5⟩
  self := fun _ _ _ _ _ st h => wpAny_pyIter_keyiter st h
theorem entry_itemiter_iter : entryFor table "dict_itemiterator.__iter__" = some Builtin.«dict_keyiterator.__iter__» :=
  entryFor_alias (id' := "dict_keyiterator.__iter__") (by kernel_rfl) rfl (by decide +kernel) (by kernel_rfl)
theorem turn_items {P : Program} {w : World} {K : PySem.W.Frag} {es : List Expr} {k : Nat} {tp : Pos} {d it : Addr} {ob : Obj} {kvs : List (Key × V)} {vs : List (Key × Value)} {ep : Nat} (rel : KV kvs vs) (at' : ∀ h' : Heap, h'.get? d = some ob → h'.DictAt (mixKind P w) d vs ep) :
    Turn P w K (.Tuple es k tp) (Iti d ob kvs) [it] it (fun i h => ∃ ok ov, IsItemIter h it d i vs.length ep ok ov) where
  mem := by simp
  obj := fun i h st b hb => by
    have e : b = it := by simpa using hb
    subst e
    obtain ⟨ok, ov, e⟩ := st
    exact ⟨_, e, fun v z => by
      have z' : Data.fields _ = Data.cell v := z
      cases z'⟩
  keep := fun i h h' st k => let ⟨ok, ov, e⟩ := st; ⟨ok, ov, k it (by simp) _ e⟩
  item := by
    intro X hP hw hK hc i pins s σ H E I hf st hg
    subst hP hw hK
    obtain ⟨hd, hi⟩ := hg
    obtain ⟨e0, _⟩ := (show ObjOk X.prog X.w H s.heap d (.frz ob (.dK kvs)) from I.hok d _ hd)
    obtain ⟨f0, f1, f2, f3, f4, f5⟩ := hf it (by simp)
    obtain ⟨ok, ov, he⟩ := st
    have ex : kvs[i]? = some kvs[i] := List.getElem?_eq_getElem hi
    obtain ⟨q, eq, k1, k2⟩ := rel.get ex
    refine wpAny_pyNext_items_item he (at' _ e0) (k := q.1) (v := q.2) eq fun key h' hkey ho hT hsz hk => ?_
    refine ⟨_, rfl, wpAny_letOwnedTupleGo_items (s := { s with heap := h' }) ho fun h'' he'' hs'' => ?_⟩
    have hTe : s.heap.objs.size ≠ it := Nat.ne_of_gt (Heap.lt_size he)
    have hT2 : h''.get? s.heap.objs.size = some { cls := .type "tuple", data := .seq #[key, q.2] } := (hs''.2 _ hTe).trans hT
    have kk : ∀ b o, b ≠ it → s.heap.get? b = some o → h''.get? b = some o := fun b o h1 q => (hs''.2 b h1).trans (hk b o h1 q)
    have hfresh : H s.heap.objs.size = none := I.fresh
    have lt : ∀ b o, s.heap.get? b = some o → b ≠ s.heap.objs.size := fun b o q => Nat.ne_of_lt (Heap.lt_size q)
    refine ⟨.ref s.heap.objs.size, upd H s.heap.objs.size (.tup [kV kvs[i].1, kvs[i].2]), ?_, rfl, ⟨_, kvs[i], hfresh, rfl, ex, rfl⟩, ⟨key, q.2, he''⟩, fun b hb => ?_⟩
    · show Inv X pins σ (upd H s.heap.objs.size (.tup [kV kvs[i].1, kvs[i].2])) { s with heap := h'', gens := s.gens, drawn := s.drawn, toks := s.toks }
      refine I.step (g' := s.gens) (d' := s.drawn) (t' := s.toks) (ch := [it]) (fun b hb => ?_) (fun b o _ _ hc q _ => kk b o (fun z => hc (by simp [z])) q) (fun b o _ _ hc q _ => ⟨o.slots, kk b o (fun z => hc (by simp [z])) q⟩)
        (fun b o _ q n => by rw [upd_ne (lt b o q)]; exact n) (fun b o hc q => ⟨o, kk b o (fun z => hc (by simp [z])) q⟩) (fun b ys q => by rw [upd_ne (ne_of_none q hfresh)]; exact q) (fun b o v q => by rw [upd_ne (ne_of_none q hfresh)]; exact q)
        (fun b ps q => ⟨#[], by rw [upd_ne (ne_of_none q hfresh), q]; simp⟩) (fun m hm => ?_) (fun b o q => ?_) I.bare
      · have z : b = it := by simpa using hb
        subst z; exact ⟨f3, f1, f4, f5⟩
      · obtain ⟨o, es', ep', ho', r⟩ := hm
        exact ⟨o, es', ep', kk _ o (Ne.symm f1) ho', r⟩
      · by_cases hb : b = s.heap.objs.size
        · rw [hb, upd_same] at q
          cases q
          rw [hb]
          exact ⟨(by show 2 ≤ sizeLine; decide), [key, _], .cons (by rw [k1]; exact kV_of hkey) (.cons k2 .nil), _, hT2, rfl, _, rfl⟩
        · rw [upd_ne hb] at q
          refine (I.hok b o q).stay (fun c v hc q' => kk c v ?_ q') (fun c hc => by rw [upd_ne (ne_of_none hc hfresh)]; exact hc) (fun c ys hc => by rw [upd_ne (ne_of_none hc hfresh)]; exact hc)
          rcases hc with z | z
          · rw [z]; exact ne_of_none q f0
          · exact ne_of_none z f0
    · have z : b = it := by simpa using hb
      rw [z, upd_ne (lt it _ he)]; exact f0
  done := by
    intro X hP hw hK hc i pins s σ H E I hf st hg
    subst hP hw hK
    obtain ⟨hd, hi⟩ := hg
    obtain ⟨e0, _⟩ := (show ObjOk X.prog X.w H s.heap d (.frz ob (.dK kvs)) from I.hok d _ hd)
    obtain ⟨f0, f1, f2, f3, f4, f5⟩ := hf it (by simp)
    have hl := rel.length
    obtain ⟨ok, ov, he⟩ := st
    exact wpAny_pyNext_items_end (I.ok.hd hc) he (at' _ e0) (List.getElem?_eq_none (by omega)) fun h' eb => ⟨rfl, I.turned (t' := s.toks) (fun b o hb e => eb b o hb e) f0 f1 f3 f4 f5⟩
  self := fun A i s Q E st h => by
    obtain ⟨ok, ov, he⟩ := st
    refine wpAny_pyIter_slot (T := "dict_itemiterator") ⟨_, he, rfl⟩ F.slot_dict_itemiterator_iter (wpAny_call_entry F.slot_dict_itemiterator_iter ⟨_, he, rfl⟩ entry_itemiter_iter ?_ (F.args_dict_itemiterator_iter_1 _))
    show wpAny _ _ (ret (.ref it)) _ _ s
    exact wpAny_pure ⟨_, rfl, "dict_itemiterator", _, ⟨_, he, rfl⟩, F.slot_dict_itemiterator_next.lookup, h⟩
section
variable {X : Cx} {tg : Expr}
def iKeys (tl : TE) : TI := fun σ H R => tl σ H fun x H1 => ∃ d kvs, x = .ref d ∧ H1 d = some (.dK kvs) ∧ ∀ ob, R (Itk d ob kvs) (upd H1 d (.frz ob (.dK kvs)))
theorem pi_keys {l : Expr} {tl : TE} (hl : PE X l tl) : PI X tg l (iKeys tl) := by
  intro pins s σ H R I h
  refine thn (hl pins s σ H _ I h) fun v s1 ⟨x, H1, I1, r1, q1⟩ => ?_
  obtain ⟨d, kvs, e, hd, q⟩ := q1
  subst e
  cases r1
  obtain ⟨ob, vs, ep, e0, rel, at', lo, I2⟩ := I1.freeze hd
  refine wpAny_pyIter_dict lo (at' _ e0) ?_
  refine ⟨s1.heap.objs.size, [s1.heap.objs.size], _, _, _, rfl, I2.kept (t' := s1.toks) fun b o e => Heap.get?_push_of_some _ e, turn_keys rel at', ⟨_, Heap.get?_push_size _ rfl, rfl, rfl⟩, fun b hb => ?_, q ob⟩
  have e : b = s1.heap.objs.size := by simpa using hb
  subst e
  exact I2.fpOk (Nat.le_refl _) (I2.hok.fresh (Nat.le_refl _))
def iItems (tl : TE) : TI := fun σ H R => tl σ H fun x H1 => ∃ d kvs, x = .ref d ∧ H1 d = some (.dK kvs) ∧ ∀ ob, R (Iti d ob kvs) (upd H1 d (.frz ob (.dK kvs)))
theorem pi_items {l : Expr} {tl : TE} {apos cpos tp : Pos} {es : List Expr} {k : Nat} (hl : PE X l tl) (hbase : attributeBase l "items" X.env (eval l X.env) = eval l X.env := by rfl) (hline : (apos.endLine == cpos.line) = true := by rfl) :
    PI X (.Tuple es k tp) (.Call (.Attribute l "items" apos) [] [] cpos) (iItems tl) := by
  intro pins s σ H R I h
  refine wpAny_Call_method0_late hbase hline (thn (hl pins s σ H _ I h) fun v s1 ⟨x, H1, I1, r1, q1⟩ => ?_)
  obtain ⟨d, kvs, e, hd, q⟩ := q1
  subst e
  cases r1
  obtain ⟨h1, h2⟩ := tyV_is (T := "dict") I1 (show RelV (.ref d) (.ref d) from rfl) (.inr (.inr (.inl ⟨rfl, .inl ⟨kvs, hd⟩⟩)))
  obtain ⟨ob, vs, ep, e0, rel, at', lo, I2⟩ := I1.freeze hd
  refine ⟨"dict", "dict.items", PySem.F.plainAttrs_dict, PySem.F.slot_dict_items, PySem.F.type_dict_items, h1, h2, Calls.callWith_builtin rfl (PySem.evalArgs_none ?_)⟩
  refine call_meetsIn PySem.F.slot_dict_items h1 PySem.F.entry_dict_items (PySem.F.args_dict_items_1 _) (meets_dict_items (mixKind X.prog X.w) d lo) ⟨⟨vs, (at' _ e0).dictOf⟩, ?_⟩
  have I3 : Inv X pins σ (upd H1 d (.frz ob (.dK kvs))) { s1 with heap := s1.heap.push { cls := .type "dict_items", data := .fields #[.ref d] } } := I2.kept (t' := s1.toks) fun b o e => Heap.get?_push_of_some _ e
  refine wpAny_pyIter_items (s := { s1 with heap := s1.heap.push { cls := .type "dict_items", data := .fields #[.ref d] } }) ⟨_, Heap.get?_push_size _ rfl, rfl, rfl⟩ (at' _ (Heap.get?_push_of_some _ e0)) ?_
  refine ⟨_, [(s1.heap.push { cls := .type "dict_items", data := .fields #[.ref d] }).objs.size], _, _, _, rfl, I3.kept (t' := s1.toks) fun b o e => Heap.get?_push_of_some _ e, turn_items rel at', ⟨_, _, Heap.get?_push_size _ rfl⟩, fun b hb => ?_, q ob⟩
  have e : b = (s1.heap.push { cls := .type "dict_items", data := .fields #[.ref d] }).objs.size := by simpa using hb
  subst e
  exact I3.fpOk (Nat.le_refl _) (I3.hok.fresh (Nat.le_refl _))
/-! the calls -/
theorem call_minL (K : PySem.W.Frag) (hc : X.calm = true := by rfl) (h : X.K = K := by rfl) : CallR X (.builtin "min") (fun xs H Q => ∃ (p : Addr) (ns : List Int), xs = [.ref p] ∧ SqL K H p (ns.map V.int) ∧ 0 < ns.length ∧ ∀ M, M ∈ ns → (∀ a ∈ ns, M ≤ a) → Q (.int M) H) := by
  subst h
  intro pins s σ H xs us Q I r ⟨p, ns, e, hq, hne, q⟩
  subst e
  obtain ⟨u, e, ru⟩ := vals1 r
  subst e
  cases ru
  obtain ⟨its, rv, pl, hz⟩ := I.list hq
  have hi : IntsAre its ns := intsAre_of rv
  obtain ⟨ys, hx⟩ := hi.allInts.items
  have hns : ns = ys.toList.map (·.1) := by
    rw [← nums_intItems, ← hx]
    exact (show numsOf its.toArray.toList = ns from hi.numsOf).symm
  have hsz : 0 < ys.size := by rw [hns, List.length_map, Array.length_toList] at hne; exact hne
  have hl' : s.heap.IsList p (intItems ys) := hx ▸ pl.isList
  refine min_intList (I.ok.hd hc) hl' hsz fun v h' tk hv hk => ?_
  obtain ⟨t, rfl⟩ := intItems_at hv
  obtain ⟨h1, h2⟩ := argBest_lt (numAt ys) (ys.size - 1)
  refine ⟨.int _, H, I.kept hk, ⟨t, rfl⟩, q _ ?_ fun a ha => ?_⟩
  · rw [hns, numAt_eq]; exact getD_mem (by rw [List.length_map, Array.length_toList]; omega)
  · rw [hns] at ha
    obtain ⟨j, hj, rfl⟩ := mem_getD ha
    rw [List.length_map, Array.length_toList] at hj
    rw [← numAt_eq]; exact h2 j (by omega)
theorem call_maxL (K : PySem.W.Frag) (hc : X.calm = true := by rfl) (h : X.K = K := by rfl) : CallR X (.builtin "max") (fun xs H Q => ∃ (p : Addr) (ns : List Int), xs = [.ref p] ∧ SqL K H p (ns.map V.int) ∧ 0 < ns.length ∧ ∀ M, M ∈ ns → (∀ a ∈ ns, a ≤ M) → Q (.int M) H) := by
  subst h
  intro pins s σ H xs us Q I r ⟨p, ns, e, hq, hne, q⟩
  subst e
  obtain ⟨u, e, ru⟩ := vals1 r
  subst e
  cases ru
  obtain ⟨its, rv, pl, hz⟩ := I.list hq
  have hi : IntsAre its ns := intsAre_of rv
  obtain ⟨ys, hx⟩ := hi.allInts.items
  have hns : ns = ys.toList.map (·.1) := by
    rw [← nums_intItems, ← hx]
    exact (show numsOf its.toArray.toList = ns from hi.numsOf).symm
  have hsz : 0 < ys.size := by rw [hns, List.length_map, Array.length_toList] at hne; exact hne
  have hl' : s.heap.IsList p (intItems ys) := hx ▸ pl.isList
  refine max_intList (I.ok.hd hc) hl' hsz fun v h' tk hv hk => ?_
  obtain ⟨t, rfl⟩ := intItems_at hv
  obtain ⟨h1, h2⟩ := argBest_gt (numAt ys) (ys.size - 1)
  refine ⟨.int _, H, I.kept hk, ⟨t, rfl⟩, q _ ?_ fun a ha => ?_⟩
  · rw [hns, numAt_eq]; exact getD_mem (by rw [List.length_map, Array.length_toList]; omega)
  · rw [hns] at ha
    obtain ⟨j, hj, rfl⟩ := mem_getD ha
    rw [List.length_map, Array.length_toList] at hj
    rw [← numAt_eq]; exact h2 j (by omega)
theorem call_sortL (K : PySem.W.Frag) (h : X.K = K := by rfl) : CallR X (.builtin "sorted") (fun xs H Q => ∃ (p : Addr) (ns : List Int), xs = [.ref p] ∧ SqL K H p (ns.map V.int) ∧ ns.length < 64 ∧ ∀ (l : Addr) (ms : List Int), H l = none → ms.Perm ns → ms.Pairwise (· ≤ ·) → Q (.ref l) (upd H l (.lst (ms.map V.int)))) := by
  subst h
  intro pins s σ H xs us Q I r ⟨p, ns, e, hq, h64, q⟩
  subst e
  obtain ⟨u, e, ru⟩ := vals1 r
  subst e
  cases ru
  obtain ⟨its, rv, pl, hz⟩ := I.list hq
  have hi : IntsAre its ns := intsAre_of rv
  have hlen := rv.length
  rw [List.length_map] at hlen
  refine sorted_ints pl.isList hi (by omega) fun out ms a1 a2 a3 => ?_
  obtain ⟨e, he⟩ := sortedAll_at s.heap its out
  have z : (ms.map V.int).length ≤ sizeLine := by rw [List.length_map, a2.length_eq]; exact small (by omega)
  refine ⟨.ref (s.heap.objs.size + 1), _, I.laid (t' := s.toks) (a := s.heap.objs.size + 1) (o := .lst (ms.map V.int)) (fun _ _ => sortedAll_old) (Nat.le_succ _) ⟨z, out.toList, e, vals_ints a1, ?_⟩, rfl, q _ ms (I.hok.fresh (Nat.le_succ _)) a2 a3⟩
  rw [he]
theorem call_setL (K : PySem.W.Frag) (hc : X.calm = true := by rfl) (h : X.K = K := by rfl) : CallR X (.type "set") (fun xs H Q => ∃ (p : Addr) (ns : List Int), xs = [.ref p] ∧ SqL K H p (ns.map V.int) ∧ ns.length ≤ 1000 ∧ ∀ l S, H l = none → Q (.ref l) (upd H l (.set S (firstMet (fun i => ns.getD i 0) ns.length).length))) := by
  subst h
  intro pins s σ H xs us Q I r ⟨p, ns, e, hq, hk, q⟩
  subst e
  obtain ⟨u, e, ru⟩ := vals1 r
  subst e
  cases ru
  obtain ⟨its, rv, pl, hz⟩ := I.list hq
  have hi : IntsAre its ns := intsAre_of rv
  have hlen := rv.length
  rw [List.length_map] at hlen
  have hl2 : its.toArray.size = ns.length := by rw [List.size_toArray]; omega
  refine call_set_list (I.ok.hd hc) pl.isList hi (by rw [hl2]; unfold scanBound; omega) fun h' tk hS kp => ?_
  rw [hl2] at hS
  refine ⟨.ref s.heap.objs.size, _, I.laid (t' := tk) (a := s.heap.objs.size) (o := .set _ _) (fun b o e => kp b o (Heap.lt_size e) e) (Nat.le_refl _) hS, rfl, q _ _ I.fresh⟩
theorem call_lenS : CallR X (.builtin "len") (fun xs H Q => ∃ (p : Addr) (S : Int → Bool) (n : Nat), xs = [.ref p] ∧ H p = some (.set S n) ∧ Q (.int n) H) := by
  intro pins s σ H xs us Q I r ⟨p, S, n, e, hp, q⟩
  subst e
  obtain ⟨u, e, ru⟩ := vals1 r
  subst e
  cases ru
  obtain ⟨o, es, ep, t, ho, hex, hd, h1, h2, h3, h4, h5⟩ := I.hok p _ hp
  subst h5
  exact call_len_set ho hex hd h4 (by unfold scanBound at h3; omega) ⟨.int _, H, I.tok _, ⟨_, rfl⟩, q⟩
theorem call_lenD : CallR X (.builtin "len") (fun xs H Q => ∃ (d : Addr) (kvs : List (Key × V)), xs = [.ref d] ∧ Rd H d (.dK kvs) ∧ Q (.int kvs.length) H) := by
  intro pins s σ H xs us Q I r ⟨d, kvs, e, hd, q⟩
  subst e
  obtain ⟨u, e, ru⟩ := vals1 r
  subst e
  cases ru
  exact d_len I hd fun t s' I' => ⟨.int kvs.length, H, I', ⟨t, rfl⟩, q⟩
/-- sorted(d), the keys being whole numbers -/
theorem call_sortD (hc : X.calm = true := by rfl) : CallR X (.builtin "sorted") (fun xs H Q => ∃ (d : Addr) (kvs : List (Key × V)) (ns : List Int), xs = [.ref d] ∧ Rd H d (.dK kvs) ∧ kvs.map (·.1) = ns.map Sum.inl ∧ ns.length < 64 ∧ ∀ (l : Addr) (ms : List Int), H l = none → ms.Perm ns → ms.Pairwise (· ≤ ·) → Q (.ref l) (upd H l (.lst (ms.map V.int)))) := by
  intro pins s σ H xs us Q I r ⟨d, kvs, ns, e, hd, hk, h64, q⟩
  subst e
  obtain ⟨u, e, ru⟩ := vals1 r
  subst e
  cases ru
  obtain ⟨z, lo, vs, rel, ob, es, ep, e, rest⟩ := rd_of I.hok hd
  have hat : s.heap.DictAt (mixKind X.prog X.w) d vs ep := ⟨ob, es, e, rest⟩
  have hl := rel.length
  have hl2 : kvs.length = ns.length := by have := congrArg List.length hk; simpa using this
  refine Calls.call_function_entry kind_sorted plain_sorted entry_sorted (args_sorted1 _) ?_
  unfold Builtin.«sorted»
  refine wpAny_bind (m := checkCount "sorted" 1 1 _) (wpAny_pure ?_)
  refine wpAny_bind (PySem.W.kdu_collect (A := X.A.in1) (PySem.W.kdl_dict (knd := mixKind X.prog X.w) (kvs := vs) (ep := ep) lo) (I.ok.hd hc) hat (small (by omega)) fun h' tk acc kp hacc => ?_)
  have hacl : acc.toList.length = vs.length := by rw [Array.length_toList]; exact hacc.1
  refine wpAny_bind (wpAny_newList ?_ (by rw [hacl]; exact small (by omega)))
  have hI : IntsAre acc.toList ns := by
    have key : ∀ (j : Nat) (v : Value) (n : Int), acc.toList[j]? = some v → ns[j]? = some n → ∃ t, v = .int n t := fun j v n h1 h2 => by
      obtain ⟨k, x, e1, e2⟩ := hacc.2 j v (by rw [← Array.getElem?_toList]; exact h1)
      obtain ⟨p, e3, e4, _⟩ := pr_getR (F := fun (p : Key × V) (q : Key × Value) => p.1 = q.1 ∧ RelV p.2 q.2) rel e1
      have e5 : (kvs.map (·.1))[j]? = some p.1 := by rw [List.getElem?_map, e3]; rfl
      rw [hk, List.getElem?_map, h2] at e5
      have e6 : Sum.inl n = p.1 := by simpa using e5
      have e7 : k = Sum.inl n := by rw [e6]; exact e4.symm
      rw [e7] at e2
      have := kV_of e2
      exact this
    have gen : ∀ {us : List Value} {ms : List Int}, us.length = ms.length → (∀ (j : Nat) (v : Value) (n : Int), us[j]? = some v → ms[j]? = some n → ∃ t, v = .int n t) → Vals (ms.map V.int) us := fun {us} => by
      induction us with
      | nil => intro ms hl _; have : ms = [] := by simpa using hl.symm
               subst this; exact .nil
      | cons u us ih =>
        intro ms hl hk
        cases ms with
        | nil => simp at hl
        | cons n ms =>
          refine .cons (hk 0 u n rfl rfl) (ih (by simpa using hl) fun j v m h1 h2 => hk (j + 1) v m (by simpa using h1) (by simpa using h2))
    exact intsAre_of (gen (by omega) key)
  have hoL : (h'.push (seqObj "list" acc.toList.toArray 0)).get? h'.objs.size = some (seqObj "list" acc.toList.toArray 0) := Heap.get?_push_size _ rfl
  show wpAny _ _ _ _ _ { s with heap := h'.push (seqObj "list" acc.toList.toArray 0), toks := tk }
  refine wpAny_bind (wpAny_holding (wpAny_call_entry slot_list_sort ⟨_, hoL, rfl⟩ entry_list_sort (list_sort_tree hoL hI (by omega) fun out ms a1 a2 a3 => ⟨_, rfl, ?_⟩) (args_list_sort _)))
  refine wpAny_pure ⟨_, rfl, ?_⟩
  obtain ⟨e9, he9⟩ := sortedHeap_at (out := out) hoL
  have I1 : Inv X pins σ H { s with heap := h', toks := tk } := I.kept kp
  have z2 : (ms.map V.int).length ≤ sizeLine := by rw [List.length_map, a2.length_eq]; exact small (by omega)
  refine ⟨.ref h'.objs.size, _, I1.laid (t' := tk) (a := h'.objs.size) (o := .lst (ms.map V.int)) (fun b o eb => ?_) (Nat.le_refl _) ⟨z2, out.toList, e9, vals_ints a1, ?_⟩, rfl, q _ ms (I1.hok.fresh (Nat.le_refl _)) a2 a3⟩
  · have hlt : b < h'.objs.size := Heap.lt_size eb
    rw [sortedHeap_old (Nat.ne_of_lt hlt) (by rw [size_push']; exact Nat.lt_succ_of_lt hlt), Heap.get?_push_ne _ _ _ (Nat.ne_of_lt hlt)]
    exact eb
  · rw [he9]
end
end L2

namespace Ev
open PySem L2
/-! ### tables in the heap -/
structure Tab (H : Hp) (a : Addr) (ps : List Addr) (T : List (List Int)) : Prop where
  top : H a = some (.lst (ps.map V.ref))
  rows : Paired (fun p (r : List Int) => H p = some (.lst (r.map V.int))) ps T
  nd : (a :: ps).Nodup
theorem Tab.same {H H' : Hp} {a : Addr} {ps : List Addr} {T : List (List Int)} (t : Tab H a ps T) (s : Same H H') : Tab H' a ps T :=
  ⟨s _ _ t.top, pr_imp (fun p r h => s _ _ h) t.rows, t.nd⟩
theorem Tab.len {H : Hp} {a : Addr} {ps : List Addr} {T : List (List Int)} (t : Tab H a ps T) : ps.length = T.length := pr_len t.rows
def Valid (T : List (List Int)) : Prop := 1 ≤ T.length ∧ T.length ≤ 8 ∧ ∀ r ∈ T, r.length = T.length ∧ ∀ x ∈ r, 0 ≤ x ∧ x ≤ 1000000
/-! ### sums -/
def colS (T : List (List Int)) (c : Nat) : Int := (T.map fun r => r.getD c 0).sum
def rowsS (T : List (List Int)) : List Int := T.map List.sum
def colsS (T : List (List Int)) : List Int := (List.range T.length).map (colS T)
/-- the place of the first that is not w -/
def fo (w : Int) : List Int → Nat → Option Nat
  | [], _ => none
  | x :: r, k => if x = w then fo w r (k + 1) else some k
def oddOf (T : List (List Int)) : Option (Bool × Nat) :=
  match fo ((rowsS T).headD 0) (rowsS T) 0 with
  | some k => some (true, k)
  | none => match fo ((rowsS T).headD 0) (colsS T) 0 with
    | some k => some (false, k)
    | none => none
def optV : Option Nat → V
  | none => .non
  | some k => .int k
def OddIs (H : Hp) (v : V) : Option (Bool × Nat) → Prop
  | none => v = .non
  | some (b, k) => ∃ t, v = .ref t ∧ H t = some (.tup [.str (if b then "row" else "column"), .int k])
theorem OddIs.same {H H' : Hp} {v : V} {o : Option (Bool × Nat)} (h : OddIs H v o) (s : Same H H') : OddIs H' v o := by
  match o, h with
  | none, h => exact h
  | some (b, k), ⟨t, e, q⟩ => exact ⟨t, e, s _ _ q⟩
/-! ### promises -/
def spMany : Sp := fun vs H Q _ => ∃ n : Int, vs = [.int n] ∧ 1 ≤ n ∧ n ≤ 8 ∧ Q .non H
def spRow (K : PySem.W.Frag) : Sp := fun vs H Q _ => ∃ (p : Addr) (r : List Int), vs = [.ref p, .int r.length] ∧ SqL K H p (r.map V.int) ∧ (∀ x ∈ r, 0 ≤ x ∧ x ≤ 1000000) ∧ Q .non H
def spTable : Sp := fun vs H Q _ => ∃ (a : Addr) (ps : List Addr) (T : List (List Int)), vs = [.ref a] ∧ Tab H a ps T ∧ Valid T ∧ Q .non H
def spCol : Sp := fun vs H Q _ => ∃ (a : Addr) (ps : List Addr) (T : List (List Int)) (c : Nat), vs = [.ref a, .int c] ∧ Tab H a ps T ∧ T.length ≤ 1000 ∧ (∀ r ∈ T, c < r.length) ∧ ∀ H', Same H H' → Q (.int (colS T c)) H'
/-- sums, and the law's own sums: a new pair of two new lists -/
def spSums : Sp := fun vs H Q _ => ∃ (a : Addr) (ps : List Addr) (T : List (List Int)), vs = [.ref a] ∧ Tab H a ps T ∧ Valid T ∧
  ∀ (t p q : Addr) (H' : Hp), Same H H' → H t = none → H p = none → H q = none → p ≠ q → t ≠ p → t ≠ q → H' t = some (.tup [.ref p, .ref q]) → H' p = some (.lst ((rowsS T).map V.int)) → H' q = some (.lst ((colsS T).map V.int)) → Q (.ref t) H'
def spFirst (K : PySem.W.Frag) : Sp := fun vs H Q _ => ∃ (p : Addr) (ns : List Int) (w : Int), vs = [.ref p, .int w] ∧ SqL K H p (ns.map V.int) ∧ ∀ H', Same H H' → Q (optV (fo w ns 0)) H'
def spOdd : Sp := fun vs H Q _ => ∃ (a : Addr) (ps : List Addr) (T : List (List Int)), vs = [.ref a] ∧ Tab H a ps T ∧ Valid T ∧ ∀ (v : V) (H' : Hp), Same H H' → OddIs H' v (oddOf T) → Q v H'
theorem Valid.cols {T : List (List Int)} (v : Valid T) {c : Nat} (h : c < T.length) : ∀ r ∈ T, c < r.length := fun r hr => by rw [(v.2.2 r hr).1]; exact h
theorem rowsS_len (T : List (List Int)) : (rowsS T).length = T.length := by unfold rowsS; simp
theorem colsS_len (T : List (List Int)) : (colsS T).length = T.length := by unfold colsS; simp
theorem rowsS_at {T : List (List Int)} {i : Nat} {r : List Int} (h : T[i]? = some r) : ((rowsS T).map V.int)[i]? = some (.int r.sum) := by
  unfold rowsS; rw [List.map_map]; exact map_at h
theorem colsS_at {T : List (List Int)} {i : Nat} (h : i < T.length) : ((colsS T).map V.int)[i]? = some (.int (colS T i)) := by
  unfold colsS; rw [List.map_map]
  exact map_at (f := V.int ∘ colS T) (by rw [List.getElem?_range h])
theorem headD_at {ns : List Int} (h : 0 < ns.length) : ns[0]? = some (ns.headD 0) := by
  cases ns with
  | nil => simp at h
  | cons x r => rfl
theorem fo_drop {w : Int} {ns : List Int} {i : Nat} {z : Int} (h : ns[i]? = some z) : fo w (ns.drop i) i = if z = w then fo w (ns.drop (i + 1)) (i + 1) else some i := by
  rw [drop_cons h]; rfl
end Ev
namespace Ev
open PySem L2
theorem at_bd {xs : List Int} {k : Int} {lo hi : Int} (h : ∀ x ∈ xs, lo ≤ x ∧ x ≤ hi) (h0 : 0 ≤ k) (h1 : k < xs.length) : ∃ v, atI (xs.map V.int) k = some (.int v) ∧ lo ≤ v ∧ v ≤ hi := by
  have hk : k.toNat < xs.length := by omega
  have ek : k = ((k.toNat : Nat) : Int) := by omega
  have q : atI (xs.map V.int) ((k.toNat : Nat) : Int) = some (.int xs[k.toNat]) := atI_nat (map_at (by simp [hk]))
  rw [← ek] at q
  exact ⟨xs[k.toNat], q, h _ (List.getElem_mem hk)⟩
def cellAt (ns : List Int) (k : Int) : Int := ns.getD k.toNat 0
theorem cell_at {ns : List Int} {k : Int} (h0 : 0 ≤ k) (h1 : k < ns.length) : atI (ns.map V.int) k = some (.int (cellAt ns k)) := by
  have hk : k.toNat < ns.length := by omega
  have ek : k = ((k.toNat : Nat) : Int) := by omega
  have q : atI (ns.map V.int) ((k.toNat : Nat) : Int) = some (.int ns[k.toNat]) := atI_nat (map_at (by simp [hk]))
  rw [← ek] at q
  unfold cellAt
  rw [q, List.getD_eq_getElem?_getD, List.getElem?_eq_getElem hk]
  rfl
theorem cell_out {ns : List Int} {k : Int} (h1 : ¬ k < ns.length) : cellAt ns k = 0 := by
  unfold cellAt
  rw [List.getD_eq_getElem?_getD, List.getElem?_eq_none (by omega)]
  rfl
/-! promises of the law's own defs -/
def spCell (K : PySem.W.Frag) : Sp := fun vs H Q _ => ∃ (a : Addr) (ns : List Int) (k : Int), vs = [.ref a, .int k] ∧ SqL K H a (ns.map V.int) ∧ 0 ≤ k ∧ Q (.int (cellAt ns k)) H
def spWhole : Sp := fun vs H Q _ => ∃ i : Int, vs = [.int i] ∧ Q (.bl true) H
def spNumBy : Sp := fun vs H Q _ => ∃ c w : Int, vs = [.int c, .int w] ∧ 0 ≤ w ∧ w ≤ 3 ∧ ∀ (i : Int) (H' : Hp), Same H H' → 0 ≤ i → i ≤ 1000000 → Q (.int i) H'
/-- n rows of n numbers, those of row j from 0 to b j -/
def Bd (n : Nat) (b : Nat → Int) (T : List (List Int)) : Prop := T.length = n ∧ ∀ (j : Nat) r, T[j]? = some r → r.length = n ∧ ∀ x ∈ r, 0 ≤ x ∧ x ≤ b j
theorem Bd.valid {n : Nat} {b : Nat → Int} {T : List (List Int)} (h : Bd n b T) (h1 : 1 ≤ n) (h8 : n ≤ 8) (hb : ∀ j, b j ≤ 1000000) : Valid T := by
  refine ⟨by rw [h.1]; exact h1, by rw [h.1]; exact h8, fun r hr => ?_⟩
  obtain ⟨j, hj, e⟩ := List.getElem_of_mem hr
  have q := h.2 j r (by simp [hj, e])
  refine ⟨by rw [q.1, h.1], fun x hx => ?_⟩
  have := q.2 x hx
  have := hb j
  omega
/-- a table made anew: t its list, ps its rows, none of them there before -/
def NewTab (H H' : Hp) (t : Addr) (ps : List Addr) (T : List (List Int)) : Prop := Same H H' ∧ Tab H' t ps T ∧ ∀ b ∈ t :: ps, H b = none
def spTabBy (K : PySem.W.Frag) : Sp := fun vs H Q _ => ∃ (a : Addr) (ns : List Int) (fi w : Int) (n : Nat), vs = [.ref a, .int fi, .int n, .int w] ∧ SqL K H a (ns.map V.int) ∧ 0 ≤ fi ∧ 1 ≤ n ∧ n ≤ 8 ∧ 0 ≤ w ∧ w ≤ 3 ∧
  ∀ (t : Addr) (ps : List Addr) (T : List (List Int)) (H' : Hp), NewTab H H' t ps T → Bd n (fun _ => 1000000) T → Q (.ref t) H'
def spOrder : Sp := fun vs H Q _ => ∃ (c : Int) (n : Nat), vs = [.int c, .int n] ∧ 1 ≤ n ∧ n ≤ 8 ∧
  ∀ (o : Addr) (os : List Int) (H' : Hp), Same H H' → H o = none → H' o = some (.lst (os.map V.int)) → os.Perm ((List.range n).map Int.ofNat) → Q (.ref o) H'
def spLevel (K : PySem.W.Frag) : Sp := fun vs H Q _ => ∃ (a : Addr) (ns : List Int) (fi : Int) (n m : Nat), vs = [.ref a, .int fi, .int n, .int m] ∧ SqL K H a (ns.map V.int) ∧ 0 ≤ fi ∧ 1 ≤ n ∧ n ≤ 8 ∧ m ≤ 8 ∧
  ∀ (t : Addr) (ps : List Addr) (T : List (List Int)) (H' : Hp), NewTab H H' t ps T → Bd n (fun _ => 30000 * m) T → Q (.ref t) H'
def spNums : Sp := fun vs H Q _ => ∃ (p q : Addr) (ns : List Int), vs = [.ref p, .ref q] ∧ H p = some (.lst (ns.map V.int)) ∧ H q = some (.lst (ns.map V.int)) ∧ Q (.bl true) H
def spCopied : Sp := fun vs H Q _ => ∃ (a : Addr) (ps : List Addr) (T : List (List Int)), vs = [.ref a] ∧ Tab H a ps T ∧ T.length ≤ 1000 ∧ ∀ (t : Addr) (qs : List Addr) (H' : Hp), NewTab H H' t qs T → Q (.ref t) H'
def spRight : Sp := fun vs H Q _ => ∃ (a : Addr) (ps : List Addr) (T : List (List Int)), vs = [.ref a] ∧ Tab H a ps T ∧ Valid T ∧ ∀ H', Same H H' → Q (.bl true) H'
def spLaw (K : PySem.W.Frag) : Sp := fun vs H Q _ => ∃ (a : Addr) (ns : List Int), vs = [.ref a] ∧ SqL K H a (ns.map V.int) ∧ ns.length ≤ 63 ∧ ∀ H', Q (.bl true) H'
theorem nodup_ixA {N : List Addr} (hN : N.Nodup) {i j : Nat} {x : Addr} (a : N[i]? = some x) (b : N[j]? = some x) : i = j := by
  obtain ⟨h1, e1⟩ := List.getElem?_eq_some_iff.mp a
  obtain ⟨h2, e2⟩ := List.getElem?_eq_some_iff.mp b
  exact (List.getElem_inj hN).mp (e1.trans e2.symm)
/-! tables changed -/
theorem Tab.push {H : Hp} {t u : Addr} {ps : List Addr} {T : List (List Int)} {r : List Int} (h : Tab H t ps T) (hu : H u = some (.lst (r.map V.int))) (n1 : u ≠ t) (n2 : u ∉ ps) : Tab (upd H t (.lst (ps.map V.ref ++ [.ref u]))) t (ps ++ [u]) (T ++ [r]) := by
  have nt : t ∉ ps := (List.nodup_cons.mp h.nd).1
  refine ⟨by rw [upd_same]; simp, Paired.snoc ?_ (by rw [upd_ne n1]; exact hu), ?_⟩
  · have : ∀ {ps : List Addr} {T : List (List Int)} (o : HO), Paired (fun p (r : List Int) => H p = some (.lst (r.map V.int))) ps T → t ∉ ps → Paired (fun p (r : List Int) => upd H t o p = some (.lst (r.map V.int))) ps T := fun {ps T} o q => by
      induction q with
      | nil => intro _; exact .nil
      | cons a r ih =>
        intro nn
        rw [List.mem_cons, not_or] at nn
        exact .cons (by rw [upd_ne (Ne.symm nn.1)]; exact a) (ih nn.2)
    exact this _ h.rows nt
  · obtain ⟨a1, a2⟩ := List.nodup_cons.mp h.nd
    refine List.nodup_cons.mpr ⟨?_, ?_⟩
    · rw [List.mem_append, not_or]
      exact ⟨a1, by simpa using Ne.symm n1⟩
    · rw [List.nodup_append]
      refine ⟨a2, by simp, fun x hx y hy e => ?_⟩
      have : y = u := by simpa using hy
      rw [this] at e
      exact n2 (e ▸ hx)
theorem Tab.set {H : Hp} {t p : Addr} {ps : List Addr} {T : List (List Int)} {i : Nat} {r' : List Int} (h : Tab H t ps T) (hp : ps[i]? = some p) : Tab (upd H p (.lst (r'.map V.int))) t ps (T.set i r') := by
  obtain ⟨nt, np⟩ := List.nodup_cons.mp h.nd
  have hpm := List.mem_of_getElem? hp
  have ntp : t ≠ p := fun e => nt (e ▸ hpm)
  refine ⟨by rw [upd_ne ntp]; exact h.top, pr_set h.rows (fun j x y hj hx hf => ?_) (fun x hx => ?_), h.nd⟩
  · rw [upd_ne]
    · exact hf
    · intro e
      rw [e] at hx
      exact hj (nodup_ixA np hx hp)
  · rw [hp] at hx; cases hx
    exact upd_same
theorem NewTab.push {H H1 : Hp} {t u : Addr} {ps : List Addr} {T : List (List Int)} {r : List Int} (h : NewTab H H1 t ps T) (hu : H1 u = some (.lst (r.map V.int))) (n1 : u ≠ t) (n2 : u ∉ ps) (n : H u = none) :
    NewTab H (upd H1 t (.lst (ps.map V.ref ++ [.ref u]))) t (ps ++ [u]) (T ++ [r]) := by
  refine ⟨same_upd h.1 (h.2.2 t List.mem_cons_self) _, h.2.1.push hu n1 n2, fun b hb => ?_⟩
  rcases List.mem_cons.mp hb with e | hb
  · rw [e]; exact h.2.2 t List.mem_cons_self
  · rcases List.mem_append.mp hb with hb | hb
    · exact h.2.2 b (List.mem_cons_of_mem _ hb)
    · have e : b = u := by simpa using hb
      rw [e]; exact n
theorem NewTab.set {H H1 : Hp} {t p : Addr} {ps : List Addr} {T : List (List Int)} {i : Nat} {r' : List Int} (h : NewTab H H1 t ps T) (hp : ps[i]? = some p) : NewTab H (upd H1 p (.lst (r'.map V.int))) t ps (T.set i r') :=
  ⟨same_upd h.1 (h.2.2 p (List.mem_cons_of_mem _ (List.mem_of_getElem? hp))) _, h.2.1.set hp, h.2.2⟩
theorem NewTab.grow {H H1 H2 : Hp} {t : Addr} {ps : List Addr} {T : List (List Int)} (h : NewTab H H1 t ps T) (s : Same H1 H2) : NewTab H H2 t ps T := ⟨h.1.trans s, h.2.1.same s, h.2.2⟩
theorem Bd.snoc {n i : Nat} {b : Int} {T : List (List Int)} {r : List Int} (h : T.length = i ∧ ∀ (j : Nat) r, T[j]? = some r → r.length = n ∧ ∀ x ∈ r, 0 ≤ x ∧ x ≤ b) (hr : r.length = n ∧ ∀ x ∈ r, 0 ≤ x ∧ x ≤ b) :
    (T ++ [r]).length = i + 1 ∧ ∀ (j : Nat) q, (T ++ [r])[j]? = some q → q.length = n ∧ ∀ x ∈ q, 0 ≤ x ∧ x ≤ b := by
  refine ⟨by simp [h.1], fun j q hq => ?_⟩
  by_cases hj : j < T.length
  · rw [List.getElem?_append_left hj] at hq
    exact h.2 j q hq
  · have hm := List.mem_of_getElem? hq
    rcases List.mem_append.mp hm with z | z
    · rw [List.getElem?_append_right (by omega)] at hq
      have e : q = r := by
        have := List.mem_of_getElem? hq
        simpa using this
      rw [e]; exact hr
    · have e : q = r := by simpa using z
      rw [e]; exact hr
theorem mem_set {α : Type} {xs : List α} {i : Nat} {v x : α} (h : x ∈ xs.set i v) : x ∈ xs ∨ x = v := List.mem_or_eq_of_mem_set h
theorem erase_map {α β : Type} (g : α → β) : ∀ (xs : List α) (k : Nat), (xs.map g).eraseIdx k = (xs.eraseIdx k).map g
  | [], _ => rfl
  | _ :: _, 0 => rfl
  | x :: r, k + 1 => by simp [erase_map g r k]
theorem erase_perm {α : Type} : ∀ (xs : List α) (k : Nat) (h : k < xs.length), (xs[k] :: xs.eraseIdx k).Perm xs
  | x :: r, 0, _ => List.Perm.refl _
  | x :: r, k + 1, h => by
    have ih := erase_perm r k (by simpa using h)
    simp only [List.getElem_cons_succ, List.eraseIdx_cons_succ]
    exact (List.Perm.swap _ _ _).trans (List.Perm.cons x ih)
theorem setV_map {xs : List Int} {k : Nat} {v : Int} : (xs.set k v).map V.int = (xs.map V.int).set k (.int v) := by rw [List.map_set]
end Ev

namespace Ev
open PySem L2
/-! ### pairs in the heap -/
def plV : Option Int → V
  | none => .non
  | some c => .int c
def plD : Option Int → PyData
  | none => .none
  | some c => .int c
abbrev Pr := Int × List (Option Int)
def PairAt (H : Hp) (t : Addr) (pr : Pr) : Prop := ∃ l, H t = some (.tup [.int pr.1, .ref l]) ∧ H l = some (.lst (pr.2.map plV))
theorem PairAt.same {H H' : Hp} {t : Addr} {pr : Pr} (h : PairAt H t pr) (s : Same H H') : PairAt H' t pr := let ⟨l, a, b⟩ := h; ⟨l, s _ _ a, s _ _ b⟩
structure PairsAt (H : Hp) (a : Addr) (ts : List Addr) (prs : List Pr) : Prop where
  top : H a = some (.lst (ts.map V.ref))
  rows : Paired (PairAt H) ts prs
theorem PairsAt.same {H H' : Hp} {a : Addr} {ts : List Addr} {prs : List Pr} (h : PairsAt H a ts prs) (s : Same H H') : PairsAt H' a ts prs := ⟨s _ _ h.top, pr_imp (fun _ _ q => q.same s) h.rows⟩
theorem PairsAt.len {H : Hp} {a : Addr} {ts : List Addr} {prs : List Pr} (h : PairsAt H a ts prs) : ts.length = prs.length := pr_len h.rows
/-- a part-seating of n rows -/
def PartOk (n : Nat) (pls : List (Option Int)) : Prop := pls.length = n ∧ (∀ c, some c ∈ pls → 0 ≤ c ∧ c < n) ∧ (pls.filterMap id).Nodup
def PairOk (n : Nat) (pr : Pr) : Prop := 1 ≤ pr.1 ∧ PartOk n pr.2
/-! ### laying -/
def addAt (tm : Int) (r : List Int) : Option Int → List Int
  | none => r
  | some c => r.set c.toNat (r.getD c.toNat 0 + tm)
def addTo (tm : Int) (pls : List (Option Int)) : Nat → List (List Int) → List (List Int)
  | 0, T => T
  | k + 1, T => (addTo tm pls k T).set k (addAt tm ((addTo tm pls k T).getD k []) (pls.getD k none))
def zeros (n : Nat) : List (List Int) := List.replicate n (List.replicate n 0)
def layT (n : Nat) (prs : List Pr) : List (List Int) := prs.foldl (fun T pr => addTo pr.1 pr.2 n T) (zeros n)
def Sh (n : Nat) (T : List (List Int)) : Prop := T.length = n ∧ ∀ r ∈ T, r.length = n
theorem Sh.zeros (n : Nat) : Sh n (zeros n) := ⟨by simp [Ev.zeros], fun r hr => by rw [List.eq_of_mem_replicate hr]; simp⟩
theorem addAt_len (tm : Int) (r : List Int) (o : Option Int) : (addAt tm r o).length = r.length := by cases o <;> simp [addAt]
theorem Sh.set {n : Nat} {T : List (List Int)} {k : Nat} {r : List Int} (h : Sh n T) (hr : r.length = n) : Sh n (T.set k r) := by
  refine ⟨by rw [List.length_set]; exact h.1, fun q hq => ?_⟩
  rcases mem_set hq with z | z
  · exact h.2 q z
  · rw [z]; exact hr
theorem getD_at {T : List (List Int)} {k : Nat} {r : List Int} (h : T[k]? = some r) : T.getD k [] = r := by rw [List.getD_eq_getElem?_getD, h]; rfl
theorem Sh.at {n : Nat} {T : List (List Int)} {k : Nat} (h : Sh n T) (hk : k < n) : ∃ r, T[k]? = some r ∧ r.length = n := by
  have hl : k < T.length := by rw [h.1]; exact hk
  exact ⟨T[k], List.getElem?_eq_getElem hl, h.2 _ (List.getElem_mem hl)⟩
theorem Sh.add {n : Nat} {tm : Int} {pls : List (Option Int)} {T : List (List Int)} (h : Sh n T) : ∀ k, k ≤ n → Sh n (addTo tm pls k T)
  | 0, _ => h
  | k + 1, hk => by
    have ih := Sh.add (tm := tm) (pls := pls) h k (by omega)
    obtain ⟨r, e, hr⟩ := ih.at (k := k) (by omega)
    exact ih.set (by rw [addAt_len, getD_at e]; exact hr)
theorem Sh.fold {n : Nat} : ∀ (prs : List Pr) {T : List (List Int)}, Sh n T → Sh n (prs.foldl (fun T pr => addTo pr.1 pr.2 n T) T)
  | [], _, h => h
  | _ :: r, _, h => Sh.fold r (h.add n (Nat.le_refl n))
theorem fold_snoc {n : Nat} {prs : List Pr} {i : Nat} {pr : Pr} {T : List (List Int)} (h : prs[i]? = some pr) : (prs.take (i + 1)).foldl (fun T pr => addTo pr.1 pr.2 n T) T = addTo pr.1 pr.2 n ((prs.take i).foldl (fun T pr => addTo pr.1 pr.2 n T) T) := by
  rw [take_snoc h, List.foldl_append]; rfl
/-! promises -/
def spPlaces : Sp := fun vs H Q _ => ∃ (n : Nat) (l : Addr) (pls : List (Option Int)), vs = [.int n, .ref l] ∧ H l = some (.lst (pls.map plV)) ∧ PartOk n pls ∧ n ≤ 8 ∧ ∀ H', Same H H' → Q .non H'
def spPair : Sp := fun vs H Q _ => ∃ (n : Nat) (t : Addr) (pr : Pr), vs = [.int n, .ref t] ∧ PairAt H t pr ∧ PairOk n pr ∧ n ≤ 8 ∧ ∀ H', Same H H' → Q .non H'
def spLay : Sp := fun vs H Q _ => ∃ (n : Nat) (a t l : Addr) (ps : List Addr) (T : List (List Int)) (tm : Int) (pls : List (Option Int)), vs = [.ref a, .ref t] ∧ Tab H a ps T ∧ Sh n T ∧ H t = some (.tup [.int tm, .ref l]) ∧ H l = some (.lst (pls.map plV)) ∧ PartOk n pls ∧ l ∉ ps ∧
  ∀ H', Tab H' a ps (addTo tm pls n T) → (∀ b o, H b = some o → b ∉ ps → H' b = some o) → Q .non H'
def spLaid : Sp := fun vs H Q _ => ∃ (n : Nat) (a : Addr) (ts : List Addr) (prs : List Pr), vs = [.int n, .ref a] ∧ 1 ≤ n ∧ n ≤ 8 ∧ PairsAt H a ts prs ∧ (∀ pr ∈ prs, PairOk n pr) ∧ ∀ (t : Addr) (ps : List Addr) (H' : Hp), NewTab H H' t ps (layT n prs) → Q (.ref t) H'
def spSame : Sp := fun vs H Q _ => ∃ (n : Nat) (a b : Addr) (ps qs : List Addr) (T : List (List Int)), vs = [.ref a, .ref b] ∧ n ≤ 8 ∧ Tab H a ps T ∧ Tab H b qs T ∧ Sh n T ∧ Q (.bl true) H
/-- pairs made anew: their list, tuples and places were not there before -/
structure NewPairs (H H' : Hp) (a : Addr) (ts : List Addr) (prs : List Pr) : Prop where
  same : Same H H'
  top : H' a = some (.lst (ts.map V.ref))
  newA : H a = none
  rows : Paired (fun t (pr : Pr) => ∃ l, H t = none ∧ H l = none ∧ H' t = some (.tup [.int pr.1, .ref l]) ∧ H' l = some (.lst (pr.2.map plV)) ∧ l ≠ a) ts prs
theorem NewPairs.at {H H' : Hp} {a : Addr} {ts : List Addr} {prs : List Pr} (h : NewPairs H H' a ts prs) : PairsAt H' a ts prs := ⟨h.top, pr_imp (fun _ _ ⟨l, _, _, b, c, _⟩ => ⟨l, b, c⟩) h.rows⟩
theorem NewPairs.grow {H H1 H2 : Hp} {a : Addr} {ts : List Addr} {prs : List Pr} (h : NewPairs H H1 a ts prs) (s : Same H1 H2) : NewPairs H H2 a ts prs :=
  ⟨h.same.trans s, s _ _ h.top, h.newA, pr_imp (fun _ _ ⟨l, n1, n2, b, c, d⟩ => ⟨l, n1, n2, s _ _ b, s _ _ c, d⟩) h.rows⟩
/-- one more pair appended to the list at a -/
theorem NewPairs.push {H H1 : Hp} {a t l : Addr} {ts : List Addr} {prs : List Pr} {pr : Pr} (h : NewPairs H H1 a ts prs) (n1 : H t = none) (n2 : H l = none) (e1 : H1 t = some (.tup [.int pr.1, .ref l])) (e2 : H1 l = some (.lst (pr.2.map plV))) (n3 : l ≠ a) :
    NewPairs H (upd H1 a (.lst (ts.map V.ref ++ [.ref t]))) a (ts ++ [t]) (prs ++ [pr]) := by
  have nt : ∀ {u : Addr} {xs : List V}, H1 u = some (.tup xs) → u ≠ a := fun e => ne_of e h.top (by intro z; cases z)
  refine ⟨same_upd h.same h.newA _, by rw [upd_same]; simp, h.newA, Paired.snoc (pr_imp (fun u q ⟨l, a1, a2, b, c, d⟩ => ⟨l, a1, a2, by rw [upd_ne (nt b)]; exact b, by rw [upd_ne d]; exact c, d⟩) h.rows) ⟨l, n1, n2, by rw [upd_ne (nt e1)]; exact e1, by rw [upd_ne n3]; exact e2, n3⟩⟩
def spPairsBy (K : PySem.W.Frag) : Sp := fun vs H Q _ => ∃ (a : Addr) (ns : List Int) (fi : Int) (n m : Nat), vs = [.ref a, .int fi, .int n, .int m] ∧ SqL K H a (ns.map V.int) ∧ 0 ≤ fi ∧ 1 ≤ n ∧ n ≤ 8 ∧ m ≤ 9 ∧
  ∀ (t : Addr) (ts : List Addr) (prs : List Pr) (H' : Hp), NewPairs H H' t ts prs → prs.length = m → (∀ pr ∈ prs, PairOk n pr) → Q (.ref t) H'
theorem rep_flat (n : Nat) : (List.replicate n ([.int 0] : List V)).flatten = (List.replicate n (0 : Int)).map V.int := by
  induction n with
  | zero => rfl
  | succ k ih => rw [List.replicate_succ, List.flatten_cons, ih, List.replicate_succ]; rfl
/-! an order with some places left out -/
def Thin (os : List Int) (pls : List (Option Int)) : Prop := Paired (fun c o => o = none ∨ o = some c) os pls
theorem Thin.full : ∀ os : List Int, Thin os (os.map some)
  | [] => .nil
  | _ :: r => .cons (.inr rfl) (Thin.full r)
theorem Thin.set {os : List Int} {pls : List (Option Int)} {k : Nat} (h : Thin os pls) : Thin os (pls.set k none) := pr_set h (fun _ _ _ _ _ f => f) (fun _ _ => .inl rfl)
theorem Thin.sub : ∀ {os : List Int} {pls : List (Option Int)}, Thin os pls → (pls.filterMap id).Sublist os
  | _, _, .nil => List.Sublist.refl _
  | _, _, .cons (.inl e) r => by subst e; exact (Thin.sub r).cons _
  | _, _, .cons (.inr e) r => by subst e; exact (Thin.sub r).cons₂ _
theorem nodup_ofNat (n : Nat) : ((List.range n).map Int.ofNat).Nodup := by
  have : ∀ {l : List Nat}, l.Nodup → (l.map Int.ofNat).Nodup := fun {l} h => by
    induction l with
    | nil => exact List.nodup_nil
    | cons x r ih =>
      obtain ⟨h1, h2⟩ := List.nodup_cons.mp h
      rw [List.map_cons]
      refine List.nodup_cons.mpr ⟨fun hm => ?_, ih h2⟩
      obtain ⟨z, hz, e⟩ := List.mem_map.mp hm
      have e' : (z : Int) = (x : Int) := e
      have : z = x := by omega
      rw [this] at hz
      exact h1 hz
  exact this List.nodup_range
theorem perm_range {n : Nat} {os : List Int} (h : os.Perm ((List.range n).map Int.ofNat)) : os.length = n ∧ (∀ c ∈ os, 0 ≤ c ∧ c < n) ∧ os.Nodup := by
  refine ⟨by simpa using h.length_eq, fun c hc => ?_, h.symm.nodup ?_⟩
  · obtain ⟨z, hz, e⟩ := List.mem_map.mp (h.mem_iff.mp hc)
    have hz' := List.mem_range.mp hz
    have e' : (z : Int) = c := e
    omega
  · exact nodup_ofNat n
theorem Thin.ok {n : Nat} {os : List Int} {pls : List (Option Int)} (h : Thin os pls) (p : os.Perm ((List.range n).map Int.ofNat)) : PartOk n pls := by
  obtain ⟨h1, h2, h3⟩ := perm_range p
  refine ⟨by rw [← pr_len h]; exact h1, fun c hc => ?_, h3.sublist h.sub⟩
  exact h2 c (h.sub.subset (List.mem_filterMap.mpr ⟨some c, hc, rfl⟩))
end Ev
namespace Ev
open PySem L2
theorem set_self {α : Type} {xs : List α} {i : Nat} {x : α} (h : xs[i]? = some x) : xs.set i x = xs := by
  apply List.ext_getElem?
  intro j
  by_cases e : i = j
  · subst e
    rw [List.getElem?_set_self (List.getElem?_eq_some_iff.mp h).1, h]
  · rw [List.getElem?_set_ne e]
end Ev

namespace Ev
/-! ### who holds which column: pairs (column, row) -/
def getN (hs : List (Nat × Nat)) (c : Nat) : Option Nat := (hs.find? fun p => decide (p.1 = c)).map (·.2)
def putN (hs : List (Nat × Nat)) (c r : Nat) : List (Nat × Nat) :=
  if (hs.any fun p => decide (p.1 = c)) = true then hs.map (fun p => if p.1 = c then (p.1, r) else p) else hs ++ [(c, r)]
def cellT (T : List (List Int)) (r c : Nat) : Int := (T.getD r []).getD c 0
theorem getN_nil (c : Nat) : getN [] c = none := rfl
theorem getN_pos {p : Nat × Nat} {r : List (Nat × Nat)} {c : Nat} (e : p.1 = c) : getN (p :: r) c = some p.2 := by simp [getN, List.find?_cons, e]
theorem getN_neg {p : Nat × Nat} {r : List (Nat × Nat)} {c : Nat} (e : ¬ p.1 = c) : getN (p :: r) c = getN r c := by simp [getN, List.find?_cons, e]
theorem getN_any (c : Nat) : ∀ hs : List (Nat × Nat), (hs.any fun p => decide (p.1 = c)) = (getN hs c).isSome
  | [] => rfl
  | p :: r => by
    rw [List.any_cons]
    by_cases e : p.1 = c
    · simp only [getN_pos e, decide_eq_true e, Bool.true_or, Option.isSome_some]
    · rw [getN_neg e, decide_eq_false e, Bool.false_or]; exact getN_any c r
theorem getN_map (c d y : Nat) : ∀ hs : List (Nat × Nat), getN (hs.map fun p => if p.1 = c then (p.1, y) else p) d = (getN hs d).map fun x => if d = c then y else x
  | [] => rfl
  | p :: r => by
    rw [List.map_cons]
    by_cases e : p.1 = d
    · rw [getN_pos e]
      by_cases q : p.1 = c
      · rw [if_pos q, getN_pos (p := (p.1, y)) e]; simp [← e, q]
      · rw [if_neg q, getN_pos e]; simp [← e, q]
    · rw [getN_neg e, ← getN_map c d y r]
      by_cases q : p.1 = c
      · rw [if_pos q, getN_neg (p := (p.1, y)) e]
      · rw [if_neg q, getN_neg e]
theorem getN_snoc (c d y : Nat) : ∀ hs : List (Nat × Nat), getN hs c = none → getN (hs ++ [(c, y)]) d = if d = c then some y else getN hs d
  | [], _ => by
    by_cases e : d = c
    · rw [if_pos e, List.nil_append, getN_pos (p := (c, y)) e.symm]
    · rw [if_neg e, List.nil_append, getN_neg (p := (c, y)) (Ne.symm e)]
  | p :: r, h => by
    have e0 : ¬ p.1 = c := fun e => by rw [getN_pos e] at h; cases h
    rw [getN_neg e0] at h
    rw [List.cons_append]
    by_cases e : p.1 = d
    · have : d ≠ c := fun z => e0 (e.trans z)
      rw [getN_pos e, getN_pos e, if_neg this]
    · rw [getN_neg e, getN_neg e, getN_snoc c d y r h]
theorem getN_put (hs : List (Nat × Nat)) (c d y : Nat) : getN (putN hs c y) d = if d = c then some y else getN hs d := by
  unfold putN
  rw [getN_any]
  cases h : getN hs c with
  | none => simp only [Option.isSome_none, Bool.false_eq_true, if_false]; exact getN_snoc c d y hs h
  | some x =>
    simp only [Option.isSome_some, if_true]
    rw [getN_map]
    by_cases e : d = c
    · rw [if_pos e, e, h]; simp
    · simp [e]
theorem getN_mem {hs : List (Nat × Nat)} {c r : Nat} (h : getN hs c = some r) : (c, r) ∈ hs := by
  unfold getN at h
  cases e : hs.find? fun p => decide (p.1 = c) with
  | none => rw [e] at h; cases h
  | some p =>
    rw [e] at h
    have h1 := List.mem_of_find?_eq_some e
    have h2 := List.find?_some e
    have e1 : p.1 = c := by simpa using h2
    have e2 : p.2 = r := by simpa using h
    rw [← e1, ← e2]; exact h1
theorem getN_of_mem : ∀ {hs : List (Nat × Nat)} {c r : Nat}, (hs.map (·.1)).Nodup → (c, r) ∈ hs → getN hs c = some r
  | [], _, _, _, h => by simp at h
  | p :: q, c, r, nd, h => by
    rw [List.map_cons, List.nodup_cons] at nd
    rcases List.mem_cons.mp h with e | e
    · rw [← e]; exact getN_pos rfl
    · have : ¬ p.1 = c := fun z => nd.1 (by rw [z]; exact List.mem_map.mpr ⟨_, e, rfl⟩)
      rw [getN_neg this]; exact getN_of_mem nd.2 e
theorem getN_key {hs : List (Nat × Nat)} {c : Nat} (h : c ∈ hs.map (·.1)) : ∃ r, getN hs c = some r := by
  cases e : getN hs c with
  | some r => exact ⟨r, rfl⟩
  | none =>
    have := getN_any c hs
    rw [e] at this
    obtain ⟨p, hp, ep⟩ := List.mem_map.mp h
    have h2 : (hs.any fun p => decide (p.1 = c)) = true := List.any_eq_true.mpr ⟨p, hp, by simpa using ep⟩
    rw [h2] at this; cases this
theorem keys_put {hs : List (Nat × Nat)} {c y : Nat} (nd : (hs.map (·.1)).Nodup) : ((putN hs c y).map (·.1)).Nodup := by
  unfold putN
  by_cases h : (hs.any fun p => decide (p.1 = c)) = true
  · rw [if_pos h, List.map_map]
    have : (hs.map ((fun p : Nat × Nat => p.1) ∘ fun p => if p.1 = c then (p.1, y) else p)) = hs.map (·.1) := by
      apply List.map_congr_left
      intro p _
      show (if p.1 = c then (p.1, y) else p).1 = p.1
      by_cases e : p.1 = c
      · rw [if_pos e]
      · rw [if_neg e]
    rw [this]; exact nd
  · rw [if_neg h, List.map_append]
    rw [List.nodup_append]
    refine ⟨nd, by simp, fun a ha b hb e => h ?_⟩
    have eb : b = c := by simpa using hb
    obtain ⟨p, hp, ep⟩ := List.mem_map.mp ha
    exact List.any_eq_true.mpr ⟨p, hp, by simp [ep, e, eb]⟩
theorem put_len (hs : List (Nat × Nat)) (c y : Nat) : (putN hs c y).length ≤ hs.length + 1 := by
  unfold putN
  split
  · rw [List.length_map]; omega
  · simp
/-! ### the search for a column -/
structure HoldOk (n : Nat) (T : List (List Int)) (hs : List (Nat × Nat)) : Prop where
  nd : (hs.map (·.1)).Nodup
  at' : ∀ c r, getN hs c = some r → c < n ∧ r < n ∧ 1 ≤ cellT T r c
def InjH (hs : List (Nat × Nat)) : Prop := ∀ c c' r, getN hs c = some r → getN hs c' = some r → c = c'
structure Gave (n : Nat) (T : List (List Int)) (row : Nat) (hs : List (Nat × Nat)) (t : List Nat) (hs' : List (Nat × Nat)) : Prop where
  ok : HoldOk n T hs'
  len : hs'.length ≤ n
  ex : ∃ c2, c2 ∉ t ∧ getN hs' c2 = some row ∧ (∀ c ∈ t, getN hs' c = getN hs c) ∧ (∀ c c' r, c ≠ c2 → c' ≠ c2 → getN hs' c = some r → getN hs' c' = some r → c = c') ∧
    (∀ c, getN hs' c = some row → c = c2 ∨ c ∈ t) ∧ (∀ r, (∃ c, getN hs' c = some r) ↔ r = row ∨ ∃ c, getN hs c = some r)
structure Part (n : Nat) (T : List (List Int)) (row : Nat) (hs : List (Nat × Nat)) (t : List Nat) (i : Nat) (t' : List Nat) : Prop where
  nd : t'.Nodup
  lt : ∀ c ∈ t', c < n
  sub : ∀ c ∈ t, c ∈ t'
  len : t.length ≤ t'.length
  mine : ∀ c, c < i → 1 ≤ cellT T row c → c ∈ t'
  shut : ∀ c ∈ t', c ∉ t → ∃ r, getN hs c = some r ∧ (∀ c', c' < n → 1 ≤ cellT T r c' → c' ∈ t') ∧ ∃ r', (r' = row ∨ ∃ c'' ∈ t', c'' ∉ t ∧ getN hs c'' = some r') ∧ 1 ≤ cellT T r' c
section
variable {n : Nat} {T : List (List Int)} {row : Nat} {hs : List (Nat × Nat)} {t : List Nat}
theorem sub_len : ∀ {t l : List Nat}, t.Nodup → (∀ c ∈ t, c ∈ l) → t.length ≤ l.length
  | [], l, _, _ => Nat.zero_le _
  | a :: t, l, nd, h => by
    have nd' := List.nodup_cons.mp nd
    have ha := h a List.mem_cons_self
    have ih := sub_len (t := t) (l := l.erase a) nd'.2 fun c hc => (List.mem_erase_of_ne (fun z => nd'.1 (by rw [← z]; exact hc))).mpr (h c (List.mem_cons_of_mem _ hc))
    rw [List.length_erase_of_mem ha] at ih
    have : 0 < l.length := List.length_pos_of_mem ha
    rw [List.length_cons]; omega
theorem nodup_le {t : List Nat} {n : Nat} (nd : t.Nodup) (h : ∀ c ∈ t, c < n) : t.length ≤ n := by
  simpa using sub_len nd (l := List.range n) fun c hc => List.mem_range.mpr (h c hc)
theorem hold_len (h : HoldOk n T hs) : hs.length ≤ n := by
  have := nodup_le h.nd fun c hc => by
    obtain ⟨r, e⟩ := getN_key hc
    exact (h.at' c r e).1
  simpa using this
theorem Part.zero (nd : t.Nodup) (lt : ∀ c ∈ t, c < n) : Part n T row hs t 0 t := ⟨nd, lt, fun _ h => h, Nat.le_refl _, fun c h => absurd h (Nat.not_lt_zero c), fun c h h' => absurd h h'⟩
theorem Part.skip {i : Nat} {t' : List Nat} (p : Part n T row hs t i t') (h : ¬ 1 ≤ cellT T row i ∨ i ∈ t') : Part n T row hs t (i + 1) t' := by
  refine ⟨p.nd, p.lt, p.sub, p.len, fun c hc hp => ?_, p.shut⟩
  by_cases e : c = i
  · subst e
    rcases h with z | z
    · exact absurd hp z
    · exact z
  · exact p.mine c (by omega) hp
theorem Part.inner {i r1 : Nat} {t' t'' : List Nat} (p : Part n T row hs t i t') (hi : i ∉ t') (hp : 1 ≤ cellT T row i) (hg : getN hs i = some r1) (q : Part n T r1 hs (t' ++ [i]) n t'') : Part n T row hs t (i + 1) t'' := by
  have s1 : ∀ c ∈ t', c ∈ t'' := fun c hc => q.sub c (List.mem_append_left _ hc)
  have si : i ∈ t'' := q.sub i (List.mem_append_right _ (by simp))
  have nit : i ∉ t := fun z => hi (p.sub i z)
  refine ⟨q.nd, q.lt, fun c hc => s1 c (p.sub c hc), ?_, fun c hc hc1 => ?_, fun c hc hn => ?_⟩
  · have := q.len
    have := p.len
    rw [List.length_append] at *
    omega
  · by_cases e : c = i
    · rw [e]; exact si
    · exact s1 c (p.mine c (by omega) hc1)
  · by_cases e : c = i
    · subst e
      exact ⟨r1, hg, q.mine, row, .inl rfl, hp⟩
    · by_cases h' : c ∈ t'
      · obtain ⟨r, a1, a2, r', a3, a4⟩ := p.shut c h' hn
        refine ⟨r, a1, fun c' h1 h2 => s1 c' (a2 c' h1 h2), r', ?_, a4⟩
        rcases a3 with z | ⟨c'', z1, z2, z3⟩
        · exact .inl z
        · exact .inr ⟨c'', s1 c'' z1, z2, z3⟩
      · have hm : c ∉ t' ++ [i] := fun z => by
          rcases List.mem_append.mp z with z | z
          · exact h' z
          · exact e (by simpa using z)
        obtain ⟨r, a1, a2, r', a3, a4⟩ := q.shut c hc hm
        refine ⟨r, a1, a2, r', .inr ?_, a4⟩
        rcases a3 with z | ⟨c'', z1, z2, z3⟩
        · exact ⟨i, si, nit, by rw [z]; exact hg⟩
        · exact ⟨c'', z1, fun y => z2 (List.mem_append_left _ (p.sub c'' y)), z3⟩
theorem Gave.free {i : Nat} (ok : HoldOk n T hs) (inj : InjH hs) (own : ∀ c, getN hs c = some row → c ∈ t) (hr : row < n) (hi : i < n) (nt : i ∉ t) (hp : 1 ≤ cellT T row i) (hg : getN hs i = none) : Gave n T row hs t (putN hs i row) := by
  have ok' : HoldOk n T (putN hs i row) := by
    refine ⟨keys_put ok.nd, fun c r e => ?_⟩
    rw [getN_put] at e
    by_cases q : c = i
    · rw [if_pos q] at e
      cases e
      rw [q]; exact ⟨hi, hr, hp⟩
    · rw [if_neg q] at e; exact ok.at' c r e
  refine ⟨ok', hold_len ok', i, nt, by rw [getN_put, if_pos rfl], fun c hc => ?_, fun c c' r h1 h2 e1 e2 => ?_, fun c e => ?_, fun r => ⟨fun ⟨c, e⟩ => ?_, fun h => ?_⟩⟩
  · rw [getN_put, if_neg (show ¬ c = i from fun z => nt (by rw [← z]; exact hc))]
  · rw [getN_put, if_neg h1] at e1
    rw [getN_put, if_neg h2] at e2
    exact inj c c' r e1 e2
  · rw [getN_put] at e
    by_cases q : c = i
    · exact .inl q
    · rw [if_neg q] at e; exact .inr (own c e)
  · rw [getN_put] at e
    by_cases q : c = i
    · rw [if_pos q] at e; cases e; exact .inl rfl
    · rw [if_neg q] at e; exact .inr ⟨c, e⟩
  · rcases h with z | ⟨c, e⟩
    · exact ⟨i, by rw [getN_put, if_pos rfl, z]⟩
    · have : c ≠ i := fun z => by rw [z, hg] at e; cases e
      exact ⟨c, by rw [getN_put, if_neg this]; exact e⟩
theorem Gave.inner {i r1 : Nat} {t' : List Nat} {hs1 : List (Nat × Nat)} (ok : HoldOk n T hs) (inj : InjH hs) (own : ∀ c, getN hs c = some row → c ∈ t) (hr : row < n) (hi : i < n) (sub : ∀ c ∈ t, c ∈ t') (nt : i ∉ t') (hp : 1 ≤ cellT T row i) (hg : getN hs i = some r1)
    (q : Gave n T r1 hs (t' ++ [i]) hs1) : Gave n T row hs t (putN hs1 i row) := by
  obtain ⟨okq, _, c2, n2, g2, keep, injx, ownx, rows⟩ := q
  have nit : i ∉ t := fun z => nt (sub i z)
  have im : i ∈ t' ++ [i] := List.mem_append_right _ (by simp)
  have c2i : c2 ≠ i := fun z => n2 (z ▸ im)
  have r1row : r1 ≠ row := fun z => nit (own i (by rw [← z]; exact hg))
  have g1i : getN hs1 i = some r1 := by rw [keep i im]; exact hg
  have ok' : HoldOk n T (putN hs1 i row) := by
    refine ⟨keys_put okq.nd, fun c r e => ?_⟩
    rw [getN_put] at e
    by_cases q : c = i
    · rw [if_pos q] at e
      cases e
      rw [q]; exact ⟨hi, hr, hp⟩
    · rw [if_neg q] at e; exact okq.at' c r e
  refine ⟨ok', hold_len ok', i, nit, by rw [getN_put, if_pos rfl], fun c hc => ?_, fun c c' r h1 h2 e1 e2 => ?_, fun c e => ?_, fun r => ⟨fun ⟨c, e⟩ => ?_, fun h => ?_⟩⟩
  · rw [getN_put, if_neg (show ¬ c = i from fun z => nit (by rw [← z]; exact hc))]
    exact keep c (List.mem_append_left _ (sub c hc))
  · rw [getN_put, if_neg h1] at e1
    rw [getN_put, if_neg h2] at e2
    have one : ∀ d, d ≠ i → d ≠ c2 → getN hs1 d = some r1 → False := fun d hd1 hd2 e => by
      rcases ownx d e with z | z
      · exact hd2 z
      · rw [keep d z] at e
        exact hd1 (inj d i r1 e hg)
    by_cases z1 : c = c2
    · by_cases z2 : c' = c2
      · rw [z1, z2]
      · rw [z1, g2] at e1; cases e1
        exact (one c' h2 z2 e2).elim
    · by_cases z2 : c' = c2
      · rw [z2, g2] at e2; cases e2
        exact (one c h1 z1 e1).elim
      · exact injx c c' r z1 z2 e1 e2
  · rw [getN_put] at e
    by_cases z : c = i
    · exact .inl z
    · rw [if_neg z] at e
      refine .inr ?_
      have cc2 : c ≠ c2 := fun y => by rw [y, g2] at e; exact r1row (Option.some.inj e)
      rcases (rows row).mp ⟨c, e⟩ with y | ⟨d, ed⟩
      · exact absurd y.symm r1row
      · have dt := own d ed
        have dm : d ∈ t' ++ [i] := List.mem_append_left _ (sub d dt)
        have e2 : getN hs1 d = some row := by rw [keep d dm]; exact ed
        have dc2 : d ≠ c2 := fun y => n2 (y ▸ dm)
        rw [injx c d row cc2 dc2 e e2]; exact dt
  · rw [getN_put] at e
    by_cases z : c = i
    · rw [if_pos z] at e; cases e; exact .inl rfl
    · rw [if_neg z] at e
      rcases (rows r).mp ⟨c, e⟩ with y | y
      · exact .inr ⟨i, by rw [y]; exact hg⟩
      · exact .inr y
  · rcases h with z | y
    · exact ⟨i, by rw [getN_put, if_pos rfl, z]⟩
    · obtain ⟨c, e⟩ := (rows r).mpr (.inr y)
      by_cases z : c = i
      · rw [z, g1i] at e
        exact ⟨c2, by rw [getN_put, if_neg c2i, g2]; exact e⟩
      · exact ⟨c, by rw [getN_put, if_neg z]; exact e⟩
/-- rows 0 to k - 1 hold one column each -/
structure Held (n : Nat) (T : List (List Int)) (k : Nat) (hs : List (Nat × Nat)) : Prop where
  ok : HoldOk n T hs
  inj : InjH hs
  rows : ∀ r, (∃ c, getN hs c = some r) ↔ r < k
theorem Held.zero : Held n T 0 [] := by
  refine ⟨⟨by simp, fun c r e => ?_⟩, fun c c' r e e' => ?_, fun r => ⟨fun h => ?_, fun h => by omega⟩⟩
  · cases e
  · cases e
  · obtain ⟨c, e⟩ := h; cases e
theorem Held.next {k : Nat} {hs' : List (Nat × Nat)} (h : Held n T k hs) (g : Gave n T k hs [] hs') : Held n T (k + 1) hs' := by
  obtain ⟨ok, _, c2, _, g2, _, injx, ownx, rows⟩ := g
  refine ⟨ok, fun c c' r e1 e2 => ?_, fun r => ?_⟩
  · by_cases z1 : c = c2
    · rw [z1, g2] at e1; cases e1
      rcases ownx c' e2 with z | z
      · rw [z1, z]
      · simp at z
    · by_cases z2 : c' = c2
      · rw [z2, g2] at e2; cases e2
        rcases ownx c e1 with z | z
        · rw [z2, z]
        · simp at z
      · exact injx c c' r z1 z2 e1 e2
  · rw [rows r, h.rows r]; omega
end
end Ev

namespace Ev
/-! ### sums over the first n -/
def sumN (f : Nat → Int) : Nat → Int
  | 0 => 0
  | n + 1 => sumN f n + f n
theorem sumN_congr {f g : Nat → Int} : ∀ {n : Nat}, (∀ i, i < n → f i = g i) → sumN f n = sumN g n
  | 0, _ => rfl
  | n + 1, h => by
    show sumN f n + f n = sumN g n + g n
    rw [sumN_congr fun i hi => h i (by omega), h n (by omega)]
theorem sumN_le {f g : Nat → Int} : ∀ {n : Nat}, (∀ i, i < n → f i ≤ g i) → sumN f n ≤ sumN g n
  | 0, _ => Int.le_refl _
  | n + 1, h => by
    have h1 := sumN_le fun i (hi : i < n) => h i (by omega)
    have h2 := h n (by omega)
    show sumN f n + f n ≤ sumN g n + g n
    omega
theorem sumN_lt {f g : Nat → Int} : ∀ {n k : Nat}, k < n → (∀ i, i < n → f i ≤ g i) → f k + 1 ≤ g k → sumN f n + 1 ≤ sumN g n
  | 0, k, hk, _, _ => by omega
  | n + 1, k, hk, h, h' => by
    show sumN f n + f n + 1 ≤ sumN g n + g n
    by_cases e : k = n
    · subst e
      have h1 := sumN_le fun i (hi : i < k) => h i (by omega)
      omega
    · have h1 := sumN_lt (n := n) (k := k) (by omega) (fun i hi => h i (by omega)) h'
      have h2 := h n (by omega)
      omega
theorem sumN_zero : ∀ n : Nat, sumN (fun _ => 0) n = 0
  | 0 => rfl
  | n + 1 => by show sumN (fun _ => 0) n + 0 = 0; rw [sumN_zero n]; rfl
theorem sumN_add (f g : Nat → Int) : ∀ n : Nat, sumN (fun i => f i + g i) n = sumN f n + sumN g n
  | 0 => rfl
  | n + 1 => by
    show sumN (fun i => f i + g i) n + (f n + g n) = sumN f n + f n + (sumN g n + g n)
    rw [sumN_add f g n]; omega
theorem sumN_nonneg {f : Nat → Int} {n : Nat} (h : ∀ i, i < n → 0 ≤ f i) : 0 ≤ sumN f n := by
  have := sumN_le (f := fun _ => 0) (g := f) h
  rw [sumN_zero] at this; exact this
theorem sumN_swap (f : Nat → Nat → Int) (m : Nat) : ∀ n : Nat, sumN (fun i => sumN (fun j => f i j) m) n = sumN (fun j => sumN (fun i => f i j) n) m
  | 0 => by show (0 : Int) = sumN (fun j => 0) m; rw [sumN_zero]
  | n + 1 => by
    show sumN (fun i => sumN (fun j => f i j) m) n + sumN (fun j => f n j) m = sumN (fun j => sumN (fun i => f i j) n + f n j) m
    rw [sumN_swap f m n, sumN_add]
theorem sumN_one (k : Nat) (v : Int) : ∀ n : Nat, sumN (fun j => if j = k then v else 0) n = if k < n then v else 0
  | 0 => rfl
  | n + 1 => by
    show sumN (fun j => if j = k then v else 0) n + (if n = k then v else 0) = _
    rw [sumN_one k v n]
    by_cases e : n = k
    · subst e; simp
    · by_cases h : k < n
      · rw [if_pos h, if_neg e, if_pos (by omega)]; omega
      · rw [if_neg h, if_neg e, if_neg (by omega)]; rfl
theorem sumN_ge {f : Nat → Int} {n k : Nat} (h : ∀ i, i < n → 0 ≤ f i) (hk : k < n) : f k ≤ sumN f n := by
  have h1 := sumN_le (f := fun j => if j = k then f k else 0) (g := f) (n := n) fun i hi => by
    by_cases e : i = k
    · simp [e]
    · simp only [e, if_false]; exact h i hi
  rw [sumN_one, if_pos hk] at h1; exact h1
theorem sumN_mul (f : Nat → Int) (s : Int) : ∀ n : Nat, sumN (fun i => f i * s) n = sumN f n * s
  | 0 => by show (0 : Int) = 0 * s; rw [Int.zero_mul]
  | n + 1 => by
    show sumN (fun i => f i * s) n + f n * s = (sumN f n + f n) * s
    rw [sumN_mul f s n, Int.add_mul]
theorem sumN_split (f : Nat → Int) (n : Nat) : ∀ m : Nat, sumN f (n + m) = sumN f n + sumN (fun i => f (n + i)) m
  | 0 => by show sumN f n = sumN f n + 0; omega
  | m + 1 => by
    show sumN f (n + m) + f (n + m) = sumN f n + (sumN (fun i => f (n + i)) m + f (n + m))
    rw [sumN_split f n m]; omega
theorem sumN_count (s : Int) (n : Nat) : ∀ {l : List Nat}, l.Nodup → (∀ c ∈ l, c < n) → sumN (fun r => if r ∈ l then s else 0) n = l.length * s
  | [], _, _ => by
    rw [sumN_congr (g := fun _ => 0) (fun i _ => by simp), sumN_zero]; simp
  | a :: l, nd, h => by
    obtain ⟨n1, n2⟩ := List.nodup_cons.mp nd
    have ih := sumN_count s n n2 fun c hc => h c (List.mem_cons_of_mem _ hc)
    rw [sumN_congr (g := fun r => (if r = a then s else 0) + (if r ∈ l then s else 0)) (fun i _ => ?_), sumN_add, sumN_one, if_pos (h a List.mem_cons_self), ih]
    · rw [List.length_cons, Int.natCast_add, Int.add_mul]; simp; omega
    · by_cases e : i = a
      · subst e; simp [n1]
      · by_cases q : i ∈ l
        · simp [e, q]
        · simp [e, q]
theorem sum_snoc (l : List Int) (x : Int) : (l ++ [x]).sum = l.sum + x := by simp
theorem sum_take : ∀ (l : List Int) (k : Nat), k ≤ l.length → (l.take k).sum = sumN (fun i => l.getD i 0) k
  | l, 0, _ => by simp [sumN]
  | l, k + 1, h => by
    have hk : k < l.length := by omega
    rw [List.take_succ_eq_append_getElem hk, sum_snoc, sum_take l k (by omega)]
    show _ = sumN (fun i => l.getD i 0) k + l.getD k 0
    rw [List.getD_eq_getElem?_getD, List.getElem?_eq_getElem hk]; rfl
theorem sum_list (l : List Int) : l.sum = sumN (fun i => l.getD i 0) l.length := by
  have := sum_take l l.length (Nat.le_refl _)
  rwa [List.take_length] at this
/-! ### level tables -/
structure Lev (n : Nat) (T : List (List Int)) (s : Int) : Prop where
  sh : Sh n T
  nn : ∀ r c, r < n → c < n → 0 ≤ cellT T r c
  row : ∀ r, r < n → sumN (fun c => cellT T r c) n = s
  col : ∀ c, c < n → sumN (fun r => cellT T r c) n = s
structure Seats (n : Nat) (T : List (List Int)) (pls : List Nat) : Prop where
  len : pls.length = n
  nd : pls.Nodup
  at' : ∀ r c, pls[r]? = some c → c < n ∧ 1 ≤ cellT T r c
structure Short (n : Nat) (T : List (List Int)) (rows cols : List Nat) : Prop where
  rp : rows.Pairwise (· < ·)
  cp : cols.Pairwise (· < ·)
  rlt : ∀ r ∈ rows, r < n
  iff' : ∀ c, c ∈ cols ↔ c < n ∧ ∃ r ∈ rows, 1 ≤ cellT T r c
  len : cols.length < rows.length
theorem pw_nodup {l : List Nat} (h : l.Pairwise (· < ·)) : l.Nodup := h.imp fun {a b} (q : a < b) => Nat.ne_of_lt q
theorem Lev.full {n : Nat} {T : List (List Int)} {s : Int} (L : Lev n T s) (hs : 0 < s) {rows cols : List Nat} (S : Short n T rows cols) : False := by
  have h1 := sumN_count s n (pw_nodup S.rp) S.rlt
  have h2 := sumN_count s n (pw_nodup S.cp) fun c hc => ((S.iff' c).mp hc).1
  have e1 : sumN (fun r => if r ∈ rows then s else 0) n = sumN (fun r => sumN (fun c => if r ∈ rows then cellT T r c else 0) n) n := sumN_congr fun r hr => by
    by_cases q : r ∈ rows
    · simp only [q, if_true]; exact (L.row r hr).symm
    · simp only [q, if_false]; exact (sumN_zero n).symm
  have e2 : sumN (fun c => if c ∈ cols then s else 0) n = sumN (fun c => sumN (fun r => if c ∈ cols then cellT T r c else 0) n) n := sumN_congr fun c hc => by
    by_cases q : c ∈ cols
    · simp only [q, if_true]; exact (L.col c hc).symm
    · simp only [q, if_false]; exact (sumN_zero n).symm
  have e3 := sumN_swap (fun r c => if c ∈ cols then cellT T r c else 0) n n
  have le : sumN (fun r => sumN (fun c => if r ∈ rows then cellT T r c else 0) n) n ≤ sumN (fun r => sumN (fun c => if c ∈ cols then cellT T r c else 0) n) n := sumN_le fun r hr => sumN_le fun c hc => by
    have nn := L.nn r c hr hc
    by_cases q : r ∈ rows
    · by_cases q2 : c ∈ cols
      · simp [q, q2]
      · simp only [q, q2, if_true, if_false]
        have : ¬ 1 ≤ cellT T r c := fun z => q2 ((S.iff' c).mpr ⟨hc, r, q, z⟩)
        omega
    · by_cases q2 : c ∈ cols
      · simp only [q, q2, if_true, if_false]; exact nn
      · simp [q, q2]
  rw [← e1, e3, ← e2, h1, h2] at le
  have hl := S.len
  have : (rows.length : Int) * s ≤ (cols.length : Int) * s := le
  have h4 : (cols.length : Int) + 1 ≤ rows.length := by omega
  have h5 := Int.mul_le_mul_of_nonneg_right h4 (Int.le_of_lt hs)
  rw [Int.add_mul] at h5
  omega
/-- the search found nothing: too few columns -/
theorem Part.short {n k : Nat} {T : List (List Int)} {hs : List (Nat × Nat)} {t' rows cols : List Nat} (h : Held n T k hs) (hk : k < n) (p : Part n T k hs [] n t') (hr : rows.Perm (k :: t'.map fun c => (getN hs c).getD 0)) (rs : rows.Pairwise (· ≤ ·)) (hc : cols.Perm t') (cs : cols.Pairwise (· ≤ ·)) : Short n T rows cols := by
  have held : ∀ c ∈ t', ∃ r, getN hs c = some r := fun c hc => let ⟨r, a, _⟩ := p.shut c hc (by simp); ⟨r, a⟩
  have nd2 : (k :: t'.map fun c => (getN hs c).getD 0).Nodup := by
    refine List.nodup_cons.mpr ⟨fun hm => ?_, ?_⟩
    · obtain ⟨c, hc, e⟩ := List.mem_map.mp hm
      obtain ⟨r, er⟩ := held c hc
      rw [er] at e
      have e : r = k := e
      have := (h.rows r).mp ⟨c, er⟩
      omega
    · have : ∀ {l : List Nat}, l.Nodup → (∀ c ∈ l, c ∈ t') → (l.map fun c => (getN hs c).getD 0).Nodup := fun {l} => by
        induction l with
        | nil => intro _ _; simp
        | cons a l ih =>
          intro nd hl
          obtain ⟨n1, n2⟩ := List.nodup_cons.mp nd
          rw [List.map_cons]
          refine List.nodup_cons.mpr ⟨fun hm => ?_, ih n2 fun c hc => hl c (List.mem_cons_of_mem _ hc)⟩
          obtain ⟨c, hc, e⟩ := List.mem_map.mp hm
          obtain ⟨r, er⟩ := held c (hl c (List.mem_cons_of_mem _ hc))
          obtain ⟨r', er'⟩ := held a (hl a List.mem_cons_self)
          rw [er, er'] at e
          have e : r = r' := e
          rw [e] at er
          exact n1 (h.inj c a r' er er' ▸ hc)
      exact this p.nd fun _ h => h
  have str : ∀ {l : List Nat}, l.Nodup → l.Pairwise (· ≤ ·) → l.Pairwise (· < ·) := fun {l} nd le => by
    refine List.Pairwise.imp₂ (R := fun a b => a ≠ b) (S := fun a b => a ≤ b) (fun {a b} h1 h2 => ?_) nd le
    omega
  have mem : ∀ r, r ∈ rows ↔ r = k ∨ ∃ c ∈ t', getN hs c = some r := fun r => by
    rw [hr.mem_iff, List.mem_cons]
    refine or_congr Iff.rfl ⟨fun hm => ?_, fun ⟨c, hc, e⟩ => List.mem_map.mpr ⟨c, hc, by rw [e]; rfl⟩⟩
    obtain ⟨c, hc, e⟩ := List.mem_map.mp hm
    obtain ⟨r', er⟩ := held c hc
    rw [er] at e
    have e : r' = r := e
    exact ⟨c, hc, by rw [er, e]⟩
  refine ⟨str (hr.symm.nodup nd2) rs, str (hc.symm.nodup p.nd) cs, fun r hm => ?_, fun c => ?_, ?_⟩
  · rcases (mem r).mp hm with z | ⟨c, _, e⟩
    · omega
    · exact (h.ok.at' c r e).2.1
  · rw [hc.mem_iff]
    constructor
    · intro hm
      obtain ⟨r, a1, a2, r', a3, a4⟩ := p.shut c hm (by simp)
      refine ⟨p.lt c hm, r', (mem r').mpr ?_, a4⟩
      rcases a3 with z | ⟨c'', z1, _, z3⟩
      · exact .inl z
      · exact .inr ⟨c'', z1, z3⟩
    · rintro ⟨hc, r, hm, h1⟩
      rcases (mem r).mp hm with z | ⟨c0, z1, z2⟩
      · rw [z] at h1; exact p.mine c hc h1
      · obtain ⟨r2, a1, a2, _⟩ := p.shut c0 z1 (by simp)
        rw [z2] at a1; cases a1
        exact a2 c hc h1
  · rw [hc.length_eq, hr.length_eq]; simp
/-- all rows hold a column: the places -/
theorem Held.seats {n : Nat} {T : List (List Int)} {hs : List (Nat × Nat)} {pls : List Nat} (h : Held n T n hs) (hl : pls.length = n) (hp : ∀ r c, pls[r]? = some c → getN hs c = some r) : Seats n T pls := by
  refine ⟨hl, ?_, fun r c e => ?_⟩
  · refine List.pairwise_iff_getElem.mpr fun i j hi hj hij e => ?_
    have e1 := hp i _ (List.getElem?_eq_getElem hi)
    have e2 := hp j _ (List.getElem?_eq_getElem hj)
    rw [← e, e1] at e2
    have := Option.some.inj e2
    omega
  · have := h.ok.at' c r (hp r c e)
    exact ⟨this.1, this.2.2⟩
theorem vals_nodup {hs : List (Nat × Nat)} (nd : (hs.map (·.1)).Nodup) (inj : InjH hs) : (hs.map (·.2)).Nodup := by
  have : ∀ {l : List (Nat × Nat)}, (l.map (·.1)).Nodup → (∀ p ∈ l, p ∈ hs) → (l.map (·.2)).Nodup := fun {l} => by
    induction l with
    | nil => intro _ _; simp
    | cons a l ih =>
      intro nd' hl
      rw [List.map_cons] at nd' ⊢
      obtain ⟨n1, n2⟩ := List.nodup_cons.mp nd'
      refine List.nodup_cons.mpr ⟨fun hm => ?_, ih n2 fun p hp => hl p (List.mem_cons_of_mem _ hp)⟩
      obtain ⟨p, hp, e⟩ := List.mem_map.mp hm
      have g1 : getN hs p.1 = some p.2 := getN_of_mem nd (hl p (List.mem_cons_of_mem _ hp))
      have g2 : getN hs a.1 = some a.2 := getN_of_mem nd (hl a List.mem_cons_self)
      have e : p.2 = a.2 := e
      rw [e] at g1
      exact n1 (by rw [← inj p.1 a.1 a.2 g1 g2]; exact List.mem_map.mpr ⟨p, hp, rfl⟩)
  exact this nd fun _ h => h
theorem Held.len {n k : Nat} {T : List (List Int)} {hs : List (Nat × Nat)} (h : Held n T k hs) : hs.length = k := by
  have nd := vals_nodup h.ok.nd h.inj
  have h1 : (hs.map (·.2)).length ≤ k := nodup_le nd fun r hr => by
    obtain ⟨p, hp, e⟩ := List.mem_map.mp hr
    have e : p.2 = r := e
    have g1 : getN hs p.1 = some p.2 := getN_of_mem h.ok.nd hp
    rw [e] at g1
    exact (h.rows r).mp ⟨_, g1⟩
  have h2 : (List.range k).length ≤ (hs.map (·.2)).length := sub_len List.nodup_range fun r hr => by
    obtain ⟨c, e⟩ := (h.rows r).mpr (List.mem_range.mp hr)
    exact List.mem_map.mpr ⟨_, getN_mem e, rfl⟩
  rw [List.length_map] at h1 h2
  rw [List.length_range] at h2
  omega
end Ev

namespace Ev
open L2
/-! ### laying, cell by cell -/
theorem cellT_set {T : List (List Int)} {k r c : Nat} {q : List Int} (hk : k < T.length) : cellT (T.set k q) r c = if r = k then q.getD c 0 else cellT T r c := by
  unfold cellT
  rw [List.getD_eq_getElem?_getD, List.getD_eq_getElem?_getD]
  by_cases e : r = k
  · subst e; rw [List.getElem?_set_self hk, if_pos rfl]; rfl
  · rw [List.getElem?_set_ne (Ne.symm e), if_neg e, List.getD_eq_getElem?_getD, List.getD_eq_getElem?_getD]
theorem getD_set {q : List Int} {j c : Nat} {v : Int} (hj : j < q.length) : (q.set j v).getD c 0 = if c = j then v else q.getD c 0 := by
  rw [List.getD_eq_getElem?_getD]
  by_cases e : c = j
  · subst e; rw [List.getElem?_set_self hj, if_pos rfl]; rfl
  · rw [List.getElem?_set_ne (Ne.symm e), if_neg e, List.getD_eq_getElem?_getD]
theorem cell_add {n : Nat} {tm : Int} {o : List (Option Int)} {T : List (List Int)} (hT : Sh n T) (ho : PartOk n o) {r c : Nat} (hr : r < n) (hc : c < n) : ∀ k, k ≤ n → cellT (addTo tm o k T) r c = cellT T r c + if r < k ∧ o[r]? = some (some (c : Int)) then tm else 0
  | 0, _ => by simp [addTo]
  | k + 1, hk => by
    have ih := cell_add (tm := tm) hT ho hr hc k (by omega)
    have hS := hT.add (tm := tm) (pls := o) k (by omega)
    have hlen : k < (addTo tm o k T).length := by rw [hS.1]; omega
    show cellT ((addTo tm o k T).set k (addAt tm ((addTo tm o k T).getD k []) (o.getD k none))) r c = _
    rw [cellT_set hlen]
    by_cases e : r = k
    · subst e
      rw [if_pos rfl]
      have ih0 : cellT (addTo tm o r T) r c = cellT T r c := by rw [ih, if_neg (by omega)]; omega
      have hol : r < o.length := by rw [ho.1]; exact hr
      have er : o[r]? = some o[r] := List.getElem?_eq_getElem hol
      have eD : o.getD r none = o[r] := by rw [List.getD_eq_getElem?_getD, er]; rfl
      rw [eD, er]
      cases q : o[r] with
      | none =>
        show ((addTo tm o r T).getD r []).getD c 0 = _
        rw [if_neg (by simp)]
        have : cellT (addTo tm o r T) r c = ((addTo tm o r T).getD r []).getD c 0 := rfl
        rw [← this, ih0]; omega
      | some d =>
        obtain ⟨d0, d1⟩ := ho.2.1 d (by rw [← q]; exact List.getElem_mem hol)
        obtain ⟨rr, e1, e2⟩ := hS.at hr
        have hrow : ((addTo tm o r T).getD r []).length = n := by rw [getD_at e1]; exact e2
        show ((((addTo tm o r T).getD r []).set d.toNat (((addTo tm o r T).getD r []).getD d.toNat 0 + tm))).getD c 0 = _
        rw [getD_set (by rw [hrow]; omega)]
        by_cases z : c = d.toNat
        · have ed : d = (c : Int) := by omega
          rw [if_pos z, ← z, if_pos ⟨by omega, by rw [ed]⟩]
          have : cellT (addTo tm o r T) r c = ((addTo tm o r T).getD r []).getD c 0 := rfl
          rw [← this, ih0]
        · rw [if_neg z, if_neg (fun y => z (by have := y.2; simp at this; omega))]
          have : cellT (addTo tm o r T) r c = ((addTo tm o r T).getD r []).getD c 0 := rfl
          rw [← this, ih0]; omega
    · rw [if_neg e, ih]
      by_cases z : r < k
      · have : r < k + 1 := by omega
        simp [z, this]
      · have : ¬ r < k + 1 := by omega
        simp [z, this]
theorem cell_zeros (n r c : Nat) : cellT (zeros n) r c = 0 := by
  unfold cellT zeros
  rw [List.getD_eq_getElem?_getD, List.getD_eq_getElem?_getD, List.getElem?_replicate]
  by_cases h : r < n
  · rw [if_pos h]
    show ((List.replicate n (0 : Int))[c]?).getD 0 = 0
    rw [List.getElem?_replicate]
    by_cases h2 : c < n
    · rw [if_pos h2]; rfl
    · rw [if_neg h2]; rfl
  · rw [if_neg h]; simp
theorem sh_lay (n : Nat) (prs : List Pr) : Sh n (layT n prs) := Sh.fold prs (Sh.zeros n)
def gives (r c : Nat) (pr : Pr) : Int := if pr.2[r]? = some (some (c : Int)) then pr.1 else 0
theorem lay_snoc (n : Nat) (prs : List Pr) (pr : Pr) : layT n (prs ++ [pr]) = addTo pr.1 pr.2 n (layT n prs) := by unfold layT; rw [List.foldl_append]; rfl
theorem cell_fold {n r c : Nat} (hr : r < n) (hc : c < n) : ∀ (prs : List Pr) (T : List (List Int)), Sh n T → (∀ pr ∈ prs, PartOk n pr.2) → cellT (prs.foldl (fun T pr => addTo pr.1 pr.2 n T) T) r c = cellT T r c + (prs.map (gives r c)).sum
  | [], T, _, _ => by simp
  | pr :: q, T, hT, hp => by
    rw [List.foldl_cons, cell_fold hr hc q _ (hT.add n (Nat.le_refl n)) fun p h => hp p (List.mem_cons_of_mem _ h), cell_add hT (hp pr List.mem_cons_self) hr hc n (Nat.le_refl n), List.map_cons, List.sum_cons]
    unfold gives
    simp only [hr, true_and]
    omega
theorem cell_lay {n r c : Nat} {prs : List Pr} (hp : ∀ pr ∈ prs, PartOk n pr.2) (hr : r < n) (hc : c < n) : cellT (layT n prs) r c = (prs.map (gives r c)).sum := by
  have := cell_fold hr hc prs (zeros n) (Sh.zeros n) hp
  rw [cell_zeros, Int.zero_add] at this; exact this
theorem sh_ext {n : Nat} {A B : List (List Int)} (hA : Sh n A) (hB : Sh n B) (h : ∀ r c, r < n → c < n → cellT A r c = cellT B r c) : A = B := by
  apply List.ext_getElem (by rw [hA.1, hB.1])
  intro i h1 h2
  have hi : i < n := by rw [← hA.1]; exact h1
  have lA := hA.2 _ (List.getElem_mem h1)
  have lB := hB.2 _ (List.getElem_mem h2)
  apply List.ext_getElem (by rw [lA, lB])
  intro j h3 h4
  have q := h i j hi (by rw [← lA]; exact h3)
  unfold cellT at q
  rw [List.getD_eq_getElem?_getD, List.getD_eq_getElem?_getD, List.getD_eq_getElem?_getD, List.getD_eq_getElem?_getD, List.getElem?_eq_getElem h1, List.getElem?_eq_getElem h2] at q
  simp only [Option.getD_some] at q
  rw [List.getElem?_eq_getElem h3, List.getElem?_eq_getElem h4] at q
  simpa using q
/-! ### seatings as lists of columns -/
abbrev Rd3 := Int × List Nat
def plO (pls : List Nat) : List (Option Int) := pls.map fun (c : Nat) => some (c : Int)
def toPr (p : Rd3) : Pr := (p.1, plO p.2)
structure Seat0 (n : Nat) (pls : List Nat) : Prop where
  len : pls.length = n
  nd : pls.Nodup
  lt : ∀ c ∈ pls, c < n
theorem Seats.s0 {n : Nat} {T : List (List Int)} {pls : List Nat} (h : Seats n T pls) : Seat0 n pls := ⟨h.len, h.nd, fun c hc => by
  obtain ⟨r, hr, e⟩ := List.getElem_of_mem hc
  exact (h.at' r c (by rw [List.getElem?_eq_getElem hr, e])).1⟩
theorem fm_plO (pls : List Nat) : (plO pls).filterMap id = pls.map Int.ofNat := by
  unfold plO
  induction pls with
  | nil => rfl
  | cons a r ih => rw [List.map_cons, List.filterMap_cons]; simp only [id]; rw [ih]; rfl
theorem nodup_cast {pls : List Nat} (h : pls.Nodup) : (pls.map Int.ofNat).Nodup := by
  induction pls with
  | nil => simp
  | cons a r ih =>
    obtain ⟨h1, h2⟩ := List.nodup_cons.mp h
    rw [List.map_cons]
    refine List.nodup_cons.mpr ⟨fun hm => ?_, ih h2⟩
    obtain ⟨z, hz, e⟩ := List.mem_map.mp hm
    have : z = a := Int.ofNat.inj e
    exact h1 (this ▸ hz)
theorem Seat0.part {n : Nat} {pls : List Nat} (h : Seat0 n pls) : PartOk n (plO pls) := by
  refine ⟨by unfold plO; rw [List.length_map]; exact h.len, fun c hc => ?_, by rw [fm_plO]; exact nodup_cast h.nd⟩
  obtain ⟨z, hz, e⟩ := List.mem_map.mp hc
  have := h.lt z hz
  have e : (z : Int) = c := by simpa using e
  omega
theorem plO_at {pls : List Nat} {r c : Nat} : (plO pls)[r]? = some (some (c : Int)) ↔ pls[r]? = some c := by
  unfold plO
  rw [List.getElem?_map]
  cases e : pls[r]? with
  | none => simp
  | some d => simp; omega
theorem Seat0.all {n : Nat} {pls : List Nat} (h : Seat0 n pls) {c : Nat} (hc : c < n) : ∃ r : Nat, r < n ∧ pls[r]? = some c := by
  have hm : c ∈ pls := by
    refine Decidable.byContradiction fun hn => ?_
    have := nodup_le (t := c :: pls) (n := n) (List.nodup_cons.mpr ⟨hn, h.nd⟩) fun d hd => by
      rcases List.mem_cons.mp hd with z | z
      · rw [z]; exact hc
      · exact h.lt d z
    rw [List.length_cons, h.len] at this; omega
  obtain ⟨r, hr, e⟩ := List.getElem_of_mem hm
  exact ⟨r, by rw [← h.len]; exact hr, by rw [List.getElem?_eq_getElem hr, e]⟩
theorem Seat0.row {n : Nat} {pls : List Nat} (h : Seat0 n pls) {r : Nat} (hr : r < n) : ∃ c, c < n ∧ pls[r]? = some c := by
  have hl : r < pls.length := by rw [h.len]; exact hr
  exact ⟨pls[r], h.lt _ (List.getElem_mem hl), List.getElem?_eq_getElem hl⟩
theorem nd_ix {pls : List Nat} (hN : pls.Nodup) {i j x : Nat} (a : pls[i]? = some x) (b : pls[j]? = some x) : i = j := by
  obtain ⟨h1, e1⟩ := List.getElem?_eq_some_iff.mp a
  obtain ⟨h2, e2⟩ := List.getElem?_eq_some_iff.mp b
  exact (List.getElem_inj hN).mp (e1.trans e2.symm)
def posT (n : Nat) (T : List (List Int)) : Int := sumN (fun r => sumN (fun c => if 1 ≤ cellT T r c then 1 else 0) n) n
/-- in the midst of the rounds -/
structure Ev3 (n : Nat) (T : List (List Int)) (s : Int) (R : List (List Int)) (left : Int) (prs : List Rd3) : Prop where
  lev : Lev n R left
  nn : 0 ≤ left
  sum : left + (prs.map (·.1)).sum = s
  cell : ∀ r c, r < n → c < n → cellT (layT n (prs.map toPr)) r c + cellT R r c = cellT T r c
  le : ∀ r c, r < n → c < n → cellT R r c ≤ cellT T r c
  pr : ∀ p ∈ prs, 1 ≤ p.1 ∧ Seat0 n p.2
  sup : ∀ p ∈ prs, ∀ (r c : Nat), p.2[r]? = some c → 1 ≤ cellT T r c
  dif : (prs.map (·.2)).Nodup
  gone : ∀ p ∈ prs, ∃ r c : Nat, p.2[r]? = some c ∧ cellT R r c ≤ 0
  cnt : (prs.length : Int) + posT n R ≤ posT n T
  cnt2 : prs = [] ∨ (prs.length : Int) + n ≤ posT n T + 1
theorem Ev3.zero {n : Nat} {T : List (List Int)} {s : Int} (L : Lev n T s) (h0 : 0 ≤ s) : Ev3 n T s T s [] := by
  refine ⟨L, h0, by simp, fun r c hr hc => ?_, fun _ _ _ _ => Int.le_refl _, fun p h => by simp at h, fun p h => by simp at h, by simp, fun p h => by simp at h, by simp, .inl rfl⟩
  show cellT (zeros n) r c + _ = _
  rw [cell_zeros, Int.zero_add]
theorem Ev3.parts {n : Nat} {T : List (List Int)} {s : Int} {R : List (List Int)} {left : Int} {prs : List Rd3} (h : Ev3 n T s R left prs) : ∀ pr ∈ prs.map toPr, PartOk n pr.2 := fun pr hp => by
  obtain ⟨p, hp, e⟩ := List.mem_map.mp hp
  rw [← e]; exact (h.pr p hp).2.part
theorem Ev3.next {n : Nat} {T : List (List Int)} {s : Int} {R : List (List Int)} {left : Int} {prs : List Rd3} {pls : List Nat} {m : Int} (h : Ev3 n T s R left prs) (hn : 1 ≤ n) (S : Seats n R pls) (hm : ∀ (r c : Nat), pls[r]? = some c → m ≤ cellT R r c) (he : ∃ r c : Nat, pls[r]? = some c ∧ m = cellT R r c) :
    1 ≤ m ∧ m ≤ left ∧ Ev3 n T s (addTo (-m) (plO pls) n R) (left - m) (prs ++ [(m, pls)]) := by
  have S0 := S.s0
  obtain ⟨r0, c0, e0, em⟩ := he
  have hr0 : r0 < n := by rw [← S0.len]; exact (List.getElem?_eq_some_iff.mp e0).1
  have hc0 : c0 < n := (S.at' r0 c0 e0).1
  have m1 : 1 ≤ m := by rw [em]; exact (S.at' r0 c0 e0).2
  have mle : m ≤ left := by
    rw [em, ← h.lev.row r0 hr0]
    exact sumN_ge (f := fun c => cellT R r0 c) (fun c hc => h.lev.nn r0 c hr0 hc) hc0
  have hcell : ∀ r c, r < n → c < n → cellT (addTo (-m) (plO pls) n R) r c = cellT R r c + if pls[r]? = some c then -m else 0 := fun r c hr hc => by
    rw [cell_add h.lev.sh S0.part hr hc n (Nat.le_refl n)]
    simp only [hr, true_and, plO_at]
  have nn' : ∀ r c, r < n → c < n → 0 ≤ cellT (addTo (-m) (plO pls) n R) r c := fun r c hr hc => by
    rw [hcell r c hr hc]
    have := h.lev.nn r c hr hc
    by_cases z : pls[r]? = some c
    · rw [if_pos z]; have := hm r c z; omega
    · rw [if_neg z]; omega
  have le' : ∀ r c, r < n → c < n → cellT (addTo (-m) (plO pls) n R) r c ≤ cellT R r c := fun r c hr hc => by
    rw [hcell r c hr hc]
    by_cases z : pls[r]? = some c
    · rw [if_pos z]; omega
    · rw [if_neg z]; omega
  have hpos : posT n (addTo (-m) (plO pls) n R) + 1 ≤ posT n R := by
    refine sumN_lt (k := r0) hr0 (fun r hr => sumN_le fun c hc => ?_) (sumN_lt (k := c0) hc0 (fun c hc => ?_) ?_)
    · have := le' r c hr hc
      by_cases z : 1 ≤ cellT (addTo (-m) (plO pls) n R) r c
      · rw [if_pos z, if_pos (by omega)]; exact Int.le_refl _
      · rw [if_neg z]; by_cases z2 : 1 ≤ cellT R r c
        · rw [if_pos z2]; decide
        · rw [if_neg z2]; exact Int.le_refl _
    · have := le' r0 c hr0 hc
      by_cases z : 1 ≤ cellT (addTo (-m) (plO pls) n R) r0 c
      · rw [if_pos z, if_pos (by omega)]; exact Int.le_refl _
      · rw [if_neg z]; by_cases z2 : 1 ≤ cellT R r0 c
        · rw [if_pos z2]; decide
        · rw [if_neg z2]; exact Int.le_refl _
    · rw [hcell r0 c0 hr0 hc0, if_pos e0, if_neg (by omega), if_pos (by omega)]; decide
  have hge : (n : Int) ≤ posT n R := by
    have : sumN (fun _ => 1) n ≤ posT n R := sumN_le fun r hr => by
      obtain ⟨c, hc, e⟩ := S0.row hr
      have h2 := sumN_ge (f := fun c => if 1 ≤ cellT R r c then 1 else 0) (n := n) (k := c) (fun i _ => by by_cases z : 1 ≤ cellT R r i <;> simp [z]) hc
      simp only [(S.at' r c e).2, if_true] at h2
      exact h2
    have e : ∀ k : Nat, sumN (fun _ => 1) k = (k : Int) := fun k => by
      induction k with
      | zero => rfl
      | succ k ih => show sumN (fun _ => 1) k + 1 = _; rw [ih]; omega
    rw [e n] at this; exact this
  refine ⟨m1, mle, ⟨h.lev.sh.add n (Nat.le_refl n), nn', fun r hr => ?_, fun c hc => ?_⟩, by omega, ?_, fun r c hr hc => ?_, fun r c hr hc => Int.le_trans (le' r c hr hc) (h.le r c hr hc), fun p hp => ?_, fun p hp r c e => ?_, ?_, fun p hp => ?_, ?_, .inr ?_⟩
  · obtain ⟨d, hd, ed⟩ := S0.row hr
    rw [sumN_congr (g := fun c => cellT R r c + if c = d then -m else 0) (fun c hc => ?_), sumN_add, h.lev.row r hr, sumN_one, if_pos hd]; rfl
    rw [hcell r c hr hc, ed]
    by_cases z : c = d
    · subst z; simp
    · simp [z, Ne.symm z]
  · obtain ⟨d, hd, ed⟩ := S0.all hc
    rw [sumN_congr (g := fun r => cellT R r c + if r = d then -m else 0) (fun r hr => ?_), sumN_add, h.lev.col c hc, sumN_one, if_pos hd]; rfl
    rw [hcell r c hr hc]
    by_cases z : r = d
    · subst z; simp [ed]
    · rw [if_neg z, if_neg (fun y => z (nd_ix S0.nd y ed))]
  · rw [List.map_append, List.sum_append]
    have := h.sum
    simp; omega
  · rw [List.map_append]
    show cellT (layT n (prs.map toPr ++ [toPr (m, pls)])) r c + _ = _
    rw [lay_snoc]
    show cellT (addTo m (plO pls) n (layT n (prs.map toPr))) r c + _ = _
    rw [cell_add (sh_lay n _) S0.part hr hc n (Nat.le_refl n), hcell r c hr hc]
    have := h.cell r c hr hc
    show cellT (layT n (prs.map toPr)) r c + (if r < n ∧ (plO pls)[r]? = some (some (c : Int)) then m else 0) + (cellT R r c + if pls[r]? = some c then -m else 0) = _
    rw [← this]
    simp only [hr, true_and, plO_at]
    by_cases z : pls[r]? = some c
    · rw [if_pos z, if_pos z]; omega
    · rw [if_neg z, if_neg z]; omega
  · rcases List.mem_append.mp hp with z | z
    · exact h.pr p z
    · have e : p = (m, pls) := by simpa using z
      rw [e]; exact ⟨m1, S0⟩
  · rcases List.mem_append.mp hp with z | z
    · exact h.sup p z r c e
    · have ep : p = (m, pls) := by simpa using z
      rw [ep] at e
      have hr : r < n := by rw [← S0.len]; exact (List.getElem?_eq_some_iff.mp e).1
      have q := S.at' r c e
      have := h.le r c hr q.1
      omega
  · rw [List.map_append, List.nodup_append]
    refine ⟨h.dif, by simp, fun a ha b hb e => ?_⟩
    have eb : b = pls := by simpa using hb
    obtain ⟨p, hp, ep⟩ := List.mem_map.mp ha
    obtain ⟨r, c, e1, e2⟩ := h.gone p hp
    have ep : p.2 = pls := by rw [← eb, ← e]; exact ep
    rw [ep] at e1
    have := (S.at' r c e1).2
    omega
  · rcases List.mem_append.mp hp with z | z
    · obtain ⟨r, c, e1, e2⟩ := h.gone p z
      have q := (h.pr p z).2
      have hr : r < n := by rw [← q.len]; exact (List.getElem?_eq_some_iff.mp e1).1
      have hc : c < n := q.lt c (List.mem_of_getElem? e1)
      exact ⟨r, c, e1, Int.le_trans (le' r c hr hc) e2⟩
    · have ep : p = (m, pls) := by simpa using z
      refine ⟨r0, c0, by rw [ep]; exact e0, ?_⟩
      rw [hcell r0 c0 hr0 hc0, if_pos e0]; omega
  · have := h.cnt
    rw [List.length_append]; simp; omega
  · have := h.cnt
    rw [List.length_append]; simp; omega
theorem Ev3.done {n : Nat} {T : List (List Int)} {s : Int} {R : List (List Int)} {left : Int} {prs : List Rd3} (h : Ev3 n T s R left prs) (hT : Sh n T) (h0 : ¬ 0 < left) : layT n (prs.map toPr) = T := by
  have e : left = 0 := by have := h.nn; omega
  refine sh_ext (sh_lay n _) hT fun r c hr hc => ?_
  have h1 := h.cell r c hr hc
  have h2 := h.lev.nn r c hr hc
  have h3 := sumN_ge (f := fun c => cellT R r c) (fun c hc => h.lev.nn r c hr hc) hc
  rw [h.lev.row r hr] at h3
  have : cellT R r c ≤ left := h3
  omega
theorem posT_le (n : Nat) (T : List (List Int)) : posT n T ≤ (n : Int) * n := by
  have one : ∀ (k : Nat) (v : Int), sumN (fun _ => v) k = (k : Int) * v := fun k v => by
    induction k with
    | zero => show (0 : Int) = _; simp
    | succ k ih => show sumN (fun _ => v) k + v = _; rw [ih, Int.natCast_add, Int.add_mul]; simp
  have : posT n T ≤ sumN (fun _ => (n : Int)) n := sumN_le fun r _ => by
    have : sumN (fun c => if 1 ≤ cellT T r c then (1 : Int) else 0) n ≤ sumN (fun _ => 1) n := sumN_le fun c _ => by by_cases z : 1 ≤ cellT T r c <;> simp [z]
    rw [one] at this; simpa using this
  rw [one] at this; exact this
end Ev

namespace Ev
open L2
/-! ### the wide table -/
def lone (n k : Nat) (v : Int) : List Int := (List.range n).map fun j => if j = k then v else 0
def upperR (n : Nat) (T : List (List Int)) (g : Int) (k : Nat) : List Int := T.getD k [] ++ lone n k (g - (T.getD k []).sum)
def lowerR (n : Nat) (T : List (List Int)) (g : Int) (k : Nat) : List Int := lone n k (g - (T.map fun r => r.getD k 0).sum) ++ T.map fun r => r.getD k 0
def wide (n : Nat) (T : List (List Int)) (g : Int) : List (List Int) := (List.range n).map (upperR n T g) ++ (List.range n).map (lowerR n T g)
def rsT (n : Nat) (T : List (List Int)) (r : Nat) : Int := sumN (fun c => cellT T r c) n
def csT (n : Nat) (T : List (List Int)) (c : Nat) : Int := sumN (fun r => cellT T r c) n
theorem lone_len (n k : Nat) (v : Int) : (lone n k v).length = n := by unfold lone; simp
theorem lone_at {n k j : Nat} (v : Int) (h : j < n) : (lone n k v).getD j 0 = if j = k then v else 0 := by
  unfold lone
  rw [List.getD_eq_getElem?_getD, List.getElem?_map, List.getElem?_range h]; rfl
section
variable {n : Nat} {T : List (List Int)} {g : Int}
theorem Sh.row (h : Sh n T) {k : Nat} (hk : k < n) : (T.getD k []).length = n := by
  obtain ⟨r, e, l⟩ := h.at hk
  rw [getD_at e]; exact l
theorem sum_row (h : Sh n T) {k : Nat} (hk : k < n) : (T.getD k []).sum = rsT n T k := by
  rw [sum_list, h.row hk]; rfl
theorem col_at (h : Sh n T) {k j : Nat} (hj : j < n) : (T.map fun r => r.getD k 0).getD j 0 = cellT T j k := by
  obtain ⟨r, e, l⟩ := h.at hj
  rw [List.getD_eq_getElem?_getD, List.getElem?_map, e]
  unfold cellT
  rw [getD_at e]; rfl
theorem sum_col (h : Sh n T) (k : Nat) : (T.map fun r => r.getD k 0).sum = csT n T k := by
  rw [sum_list, List.length_map, h.1]
  exact sumN_congr fun j hj => col_at h hj
theorem gD_left {a b : List Int} {c : Nat} (h : c < a.length) : (a ++ b).getD c 0 = a.getD c 0 := by
  rw [List.getD_eq_getElem?_getD, List.getElem?_append_left h, List.getD_eq_getElem?_getD]
theorem gD_right {a b : List Int} {m j : Nat} (h : a.length = m) : (a ++ b).getD (m + j) 0 = b.getD j 0 := by
  rw [List.getD_eq_getElem?_getD, List.getElem?_append_right (by omega), List.getD_eq_getElem?_getD, h, Nat.add_sub_cancel_left]
theorem wide_up {k c : Nat} (hk : k < n) : cellT (wide n T g) k c = (upperR n T g k).getD c 0 := by
  unfold cellT wide
  rw [List.getD_eq_getElem?_getD (l := _ ++ _), List.getElem?_append_left (by simpa using hk), List.getElem?_map, List.getElem?_range hk]; rfl
theorem wide_low {k c : Nat} (hk : k < n) : cellT (wide n T g) (n + k) c = (lowerR n T g k).getD c 0 := by
  unfold cellT wide
  rw [List.getD_eq_getElem?_getD (l := _ ++ _), List.getElem?_append_right (by simp), List.length_map, List.length_range, Nat.add_sub_cancel_left, List.getElem?_map, List.getElem?_range hk]; rfl
theorem w00 (h : Sh n T) {r c : Nat} (hr : r < n) (hc : c < n) : cellT (wide n T g) r c = cellT T r c := by
  rw [wide_up hr]; unfold upperR
  rw [gD_left (by rw [h.row hr]; exact hc)]; rfl
theorem w01 (h : Sh n T) {r j : Nat} (hr : r < n) (hj : j < n) : cellT (wide n T g) r (n + j) = if j = r then g - rsT n T r else 0 := by
  rw [wide_up hr]; unfold upperR
  rw [gD_right (h.row hr), lone_at _ hj, sum_row h hr]
theorem w10 (h : Sh n T) {k c : Nat} (hk : k < n) (hc : c < n) : cellT (wide n T g) (n + k) c = if c = k then g - csT n T k else 0 := by
  rw [wide_low hk]; unfold lowerR
  rw [gD_left (by rw [lone_len]; exact hc), lone_at _ hc, sum_col h]
theorem w11 (h : Sh n T) {k j : Nat} (hk : k < n) (hj : j < n) : cellT (wide n T g) (n + k) (n + j) = cellT T j k := by
  rw [wide_low hk]; unfold lowerR
  rw [gD_right (lone_len _ _ _), col_at h hj]
theorem wide_sh (h : Sh n T) : Sh (n + n) (wide n T g) := by
  refine ⟨by unfold wide; simp, fun r hr => ?_⟩
  unfold wide at hr
  rcases List.mem_append.mp hr with z | z
  · obtain ⟨k, hk, e⟩ := List.mem_map.mp z
    rw [← e]; unfold upperR
    rw [List.length_append, lone_len, h.row (List.mem_range.mp hk)]
  · obtain ⟨k, hk, e⟩ := List.mem_map.mp z
    rw [← e]; unfold lowerR
    rw [List.length_append, lone_len, List.length_map, h.1]
theorem half {n c : Nat} (h : c < n + n) : c < n ∨ ∃ j, j < n ∧ c = n + j := by
  by_cases q : c < n
  · exact .inl q
  · exact .inr ⟨c - n, by omega, by omega⟩
theorem wide_lev (h : Sh n T) (nn : ∀ r c, r < n → c < n → 0 ≤ cellT T r c) (hr : ∀ r, r < n → rsT n T r ≤ g) (hc : ∀ c, c < n → csT n T c ≤ g) : Lev (n + n) (wide n T g) g := by
  refine ⟨wide_sh h, fun r c h1 h2 => ?_, fun r h1 => ?_, fun c h1 => ?_⟩
  · rcases half h1 with a | ⟨k, a, rfl⟩ <;> rcases half h2 with b | ⟨j, b, rfl⟩
    · rw [w00 h a b]; exact nn r c a b
    · rw [w01 h a b]
      by_cases e : j = r
      · rw [if_pos e]; have := hr r a; omega
      · rw [if_neg e]; exact Int.le_refl _
    · rw [w10 h a b]
      by_cases e : c = k
      · rw [if_pos e]; have := hc k a; omega
      · rw [if_neg e]; exact Int.le_refl _
    · rw [w11 h a b]; exact nn j k b a
  · rw [sumN_split]
    rcases half h1 with a | ⟨k, a, rfl⟩
    · rw [sumN_congr (g := fun c => cellT T r c) fun c hc => w00 h a hc, sumN_congr (f := fun i => cellT (wide n T g) r (n + i)) (g := fun j => if j = r then g - rsT n T r else 0) fun j hj => w01 h a hj, sumN_one, if_pos a]
      show rsT n T r + _ = g
      omega
    · rw [sumN_congr (g := fun c => if c = k then g - csT n T k else 0) fun c hc => w10 h a hc, sumN_congr (f := fun i => cellT (wide n T g) (n + k) (n + i)) (g := fun j => cellT T j k) fun j hj => w11 h a hj, sumN_one, if_pos a]
      show _ + csT n T k = g
      omega
  · rw [sumN_split]
    rcases half h1 with a | ⟨k, a, rfl⟩
    · rw [sumN_congr (g := fun r => cellT T r c) fun r hr => w00 h hr a, sumN_congr (f := fun i => cellT (wide n T g) (n + i) c) (g := fun k => if k = c then g - csT n T c else 0) fun k hk => ?_, sumN_one, if_pos a]
      · show csT n T c + _ = g
        omega
      · rw [w10 h hk a]
        by_cases e : c = k
        · subst e; simp
        · rw [if_neg e, if_neg (Ne.symm e)]
    · rw [sumN_congr (g := fun r => if r = k then g - rsT n T k else 0) fun r hr => ?_, sumN_congr (f := fun i => cellT (wide n T g) (n + i) (n + k)) (g := fun j => cellT T k j) fun j hj => w11 h hj a, sumN_one, if_pos a]
      · show _ + rsT n T k = g
        omega
      · rw [w01 h hr a]
        by_cases e : k = r
        · subst e; simp
        · rw [if_neg e, if_neg (Ne.symm e)]
theorem sumN_const (k : Nat) (v : Int) : sumN (fun _ => v) k = (k : Int) * v := by
  induction k with
  | zero => show (0 : Int) = _; simp
  | succ k ih => show sumN (fun _ => v) k + v = _; rw [ih, Int.natCast_add, Int.add_mul]; simp
theorem wide_pos (h : Sh n T) : posT (n + n) (wide n T g) ≤ ((n + n : Nat) : Int) * (n + 1) := by
  rw [← sumN_const]
  refine sumN_le fun r hr => ?_
  rw [sumN_split]
  have le1 : ∀ (f : Nat → Int), sumN (fun c => if 1 ≤ f c then (1 : Int) else 0) n ≤ n := fun f => by
    have : sumN (fun c => if 1 ≤ f c then (1 : Int) else 0) n ≤ sumN (fun _ => 1) n := sumN_le fun c _ => by by_cases z : 1 ≤ f c <;> simp [z]
    rw [sumN_const] at this; simpa using this
  have le2 : ∀ (f : Nat → Int) (k : Nat), k < n → (∀ j, j < n → j ≠ k → f j = 0) → sumN (fun c => if 1 ≤ f c then (1 : Int) else 0) n ≤ 1 := fun f k hk hz => by
    have : sumN (fun c => if 1 ≤ f c then (1 : Int) else 0) n ≤ sumN (fun j => if j = k then 1 else 0) n := sumN_le fun c hc => by
      by_cases e : c = k
      · rw [if_pos e]; by_cases z : 1 ≤ f c <;> simp [z]
      · rw [if_neg e, hz c hc e]; simp
    rw [sumN_one, if_pos hk] at this; exact this
  rcases half hr with a | ⟨k, a, rfl⟩
  · have h1 := le1 fun c => cellT (wide n T g) r c
    have h2 := le2 (fun j => cellT (wide n T g) r (n + j)) r a fun j hj e => by rw [w01 h a hj, if_neg e]
    omega
  · have h1 := le1 fun j => cellT (wide n T g) (n + k) (n + j)
    have h2 := le2 (fun c => cellT (wide n T g) (n + k) c) k a fun c hc e => by rw [w10 h a hc, if_neg e]
    omega
/-! ### the places cut back -/
def partN (n : Nat) (pls : List Nat) : List (Option Int) := (pls.take n).map fun (c : Nat) => if c < n then some (c : Int) else none
def toPart (n : Nat) (p : Rd3) : Pr := (p.1, partN n p.2)
theorem part_at {pls : List Nat} {r c : Nat} (hr : r < n) (hc : c < n) : (partN n pls)[r]? = some (some (c : Int)) ↔ pls[r]? = some c := by
  unfold partN
  rw [List.getElem?_map, List.getElem?_take, if_pos hr]
  cases e : pls[r]? with
  | none => simp
  | some d =>
    by_cases q : d < n
    · simp [q]; omega
    · simp [q]; omega
theorem part_ok {pls : List Nat} (h : Seat0 (n + n) pls) : PartOk n (partN n pls) := by
  have key : ∀ {l : List Nat}, l.Nodup → ((l.map fun (c : Nat) => if c < n then some (c : Int) else none).filterMap id).Nodup ∧ ∀ x ∈ (l.map fun (c : Nat) => if c < n then some (c : Int) else none).filterMap id, ∃ c ∈ l, x = (c : Int) := fun {l} => by
    induction l with
    | nil => intro _; simp
    | cons a l ih =>
      intro nd
      obtain ⟨n1, n2⟩ := List.nodup_cons.mp nd
      obtain ⟨i1, i2⟩ := ih n2
      rw [List.map_cons]
      by_cases q : a < n
      · rw [if_pos q, List.filterMap_cons]
        simp only [id]
        refine ⟨List.nodup_cons.mpr ⟨fun hm => ?_, i1⟩, fun x hx => ?_⟩
        · obtain ⟨c, hc, e⟩ := i2 _ hm
          have : a = c := by omega
          exact n1 (this ▸ hc)
        · rcases List.mem_cons.mp hx with z | z
          · exact ⟨a, List.mem_cons_self, z⟩
          · obtain ⟨c, hc, e⟩ := i2 x z
            exact ⟨c, List.mem_cons_of_mem _ hc, e⟩
      · rw [if_neg q, List.filterMap_cons]
        simp only [id]
        refine ⟨i1, fun x hx => ?_⟩
        obtain ⟨c, hc, e⟩ := i2 x hx
        exact ⟨c, List.mem_cons_of_mem _ hc, e⟩
  refine ⟨by unfold partN; rw [List.length_map, List.length_take, h.len]; omega, fun c hc => ?_, (key (h.nd.sublist (List.take_sublist n pls))).1⟩
  obtain ⟨d, _, e⟩ := List.mem_map.mp hc
  by_cases q : d < n
  · rw [if_pos q] at e
    have e : (d : Int) = c := by simpa using e
    omega
  · rw [if_neg q] at e; cases e
theorem part_gives {p : Rd3} {r c : Nat} (hr : r < n) (hc : c < n) : gives r c (toPart n p) = gives r c (toPr p) := by
  unfold gives
  show (if (partN n p.2)[r]? = some (some (c : Int)) then p.1 else 0) = if (plO p.2)[r]? = some (some (c : Int)) then p.1 else 0
  simp only [part_at hr hc, plO_at]
theorem part_lay {prs : List Rd3} (h : Sh n T) (hp : ∀ p ∈ prs, Seat0 (n + n) p.2) (e : layT (n + n) (prs.map toPr) = wide n T g) : layT n (prs.map (toPart n)) = T := by
  refine sh_ext (sh_lay n _) h fun r c hr hc => ?_
  rw [cell_lay (fun pr hpr => ?_) hr hc, ← w00 (g := g) h hr hc, ← e, cell_lay (fun pr hpr => ?_) (by omega) (by omega), List.map_map, List.map_map]
  · congr 1
    exact List.map_congr_left fun p _ => part_gives hr hc
  · obtain ⟨p, h1, h2⟩ := List.mem_map.mp hpr
    rw [← h2]; exact (hp p h1).part
  · obtain ⟨p, h1, h2⟩ := List.mem_map.mp hpr
    rw [← h2]; exact part_ok (hp p h1)
/-- a row with the greatest sum has a column -/
theorem part_row {pls : List Nat} (h : Sh n T) (S : Seat0 (n + n) pls) (sup : ∀ (r c : Nat), pls[r]? = some c → 1 ≤ cellT (wide n T g) r c) {r : Nat} (hr : r < n) (e : rsT n T r = g) : ∃ c : Nat, c < n ∧ (partN n pls)[r]? = some (some (c : Int)) := by
  obtain ⟨c, hc, ec⟩ := S.row (r := r) (by omega)
  have h1 := sup r c ec
  rcases half hc with a | ⟨j, a, rfl⟩
  · exact ⟨c, a, (part_at hr a).mpr ec⟩
  · rw [w01 h hr a] at h1
    by_cases q : j = r
    · rw [if_pos q] at h1; omega
    · rw [if_neg q] at h1; omega
theorem part_col {pls : List Nat} (h : Sh n T) (S : Seat0 (n + n) pls) (sup : ∀ (r c : Nat), pls[r]? = some c → 1 ≤ cellT (wide n T g) r c) {c : Nat} (hc : c < n) (e : csT n T c = g) : ∃ r : Nat, r < n ∧ (partN n pls)[r]? = some (some (c : Int)) := by
  obtain ⟨r, hr, er⟩ := S.all (c := c) (by omega)
  have h1 := sup r c er
  rcases half hr with a | ⟨k, a, rfl⟩
  · exact ⟨r, a, (part_at a hc).mpr er⟩
  · rw [w10 h a hc] at h1
    by_cases q : c = k
    · rw [if_pos q, ← q] at h1; omega
    · rw [if_neg q] at h1; omega
end
end Ev

namespace Ev
open L2
/-! ### level tables made of seatings -/
theorem Lev.zero (n : Nat) : Lev n (zeros n) 0 := by
  refine ⟨Sh.zeros n, fun r c _ _ => by rw [cell_zeros]; exact Int.le_refl _, fun r _ => ?_, fun c _ => ?_⟩
  · rw [sumN_congr (g := fun _ => 0) fun c _ => cell_zeros n r c, sumN_zero]
  · rw [sumN_congr (g := fun _ => 0) fun r _ => cell_zeros n r c, sumN_zero]
theorem Lev.add {n : Nat} {T : List (List Int)} {s tm : Int} {pls : List Nat} (L : Lev n T s) (S : Seat0 n pls) (h0 : 0 ≤ tm) : Lev n (addTo tm (plO pls) n T) (s + tm) := by
  have hcell : ∀ r c, r < n → c < n → cellT (addTo tm (plO pls) n T) r c = cellT T r c + if pls[r]? = some c then tm else 0 := fun r c hr hc => by
    rw [cell_add L.sh S.part hr hc n (Nat.le_refl n)]
    simp only [hr, true_and, plO_at]
  refine ⟨L.sh.add n (Nat.le_refl n), fun r c hr hc => ?_, fun r hr => ?_, fun c hc => ?_⟩
  · rw [hcell r c hr hc]
    have := L.nn r c hr hc
    split <;> omega
  · obtain ⟨d, hd, ed⟩ := S.row hr
    rw [sumN_congr (g := fun c => cellT T r c + if c = d then tm else 0) (fun c hc => ?_), sumN_add, L.row r hr, sumN_one, if_pos hd]
    rw [hcell r c hr hc, ed]
    by_cases z : c = d
    · subst z; simp
    · simp [z, Ne.symm z]
  · obtain ⟨d, hd, ed⟩ := S.all hc
    rw [sumN_congr (g := fun r => cellT T r c + if r = d then tm else 0) (fun r hr => ?_), sumN_add, L.col c hc, sumN_one, if_pos hd]
    rw [hcell r c hr hc]
    by_cases z : r = d
    · subst z; simp [ed]
    · rw [if_neg z, if_neg (fun y => z (nd_ix S.nd y ed))]
theorem Lev.le {n : Nat} {T : List (List Int)} {s : Int} (L : Lev n T s) {r c : Nat} (hr : r < n) (hc : c < n) : cellT T r c ≤ s := by
  rw [← L.row r hr]
  exact sumN_ge (f := fun c => cellT T r c) (fun c hc => L.nn r c hr hc) hc
theorem Lev.nonneg {n : Nat} {T : List (List Int)} {s : Int} (L : Lev n T s) (h : 1 ≤ n) : 0 ≤ s := by
  rw [← L.row 0 (by omega)]
  exact sumN_nonneg fun c hc => L.nn 0 c (by omega) hc
theorem Lev.mem {n : Nat} {T : List (List Int)} {s : Int} (L : Lev n T s) {r : List Int} (hr : r ∈ T) : r.length = n ∧ ∀ x ∈ r, 0 ≤ x ∧ x ≤ s := by
  obtain ⟨i, hi, e⟩ := List.getElem_of_mem hr
  have hin : i < n := by rw [← L.sh.1]; exact hi
  have ei : T[i]? = some r := by rw [List.getElem?_eq_getElem hi, e]
  have lr := L.sh.2 r hr
  refine ⟨lr, fun x hx => ?_⟩
  obtain ⟨j, hj, ej⟩ := List.getElem_of_mem hx
  have ec : cellT T i j = x := by
    unfold cellT
    rw [getD_at ei, List.getD_eq_getElem?_getD, List.getElem?_eq_getElem hj, ej]; rfl
  rw [← ec]
  exact ⟨L.nn i j hin (by omega), L.le hin (by omega)⟩
end Ev

namespace L2
open PySem PySem.Spec PyProof.Rows
/-- [.. for k in d] whose items are known ahead -/
theorem cmp_mapK {D d : Addr} {ob : Obj} {kvs : List (Key × V)} {ys : List V} {te : TE} {fr : List (Option Nat)} {σ0 : St} {H : Hp} {Q : Hp → Prop} (hd0 : H d = some (.frz ob (.dK kvs))) (hD : H D = none) (hz : kvs.length ≤ 1000) (hy : ys.length = kvs.length)
    (hs : ∀ i p y Hc (R : VK), kvs[i]? = some p → ys[i]? = some y → Same H Hc → Hc D = some (.lst (ys.take i)) → (∀ H4, Same H H4 → H4 D = some (.lst (ys.take i)) → R y H4) → te (some (kV p.1) :: frSt fr σ0) Hc R)
    (hd : ∀ H', Same H H' → H' D = some (.lst ys) → Q H') :
    ∃ W : Nat → Nat → St → List V → Hp → Prop, (∃ m, W 0 m (frSt (none :: fr) σ0) [] (upd H D (.lst []))) ∧
      ∀ i m σ' ys Hc, W i m σ' ys Hc → ((Itk d ob kvs).stop i Hc ∧ Q Hc) ∨ ((Itk d ob kvs).go i Hc ∧ ys.length < sizeLine ∧ ∀ x H', (Itk d ob kvs).yld i Hc x H' → gName 0 x σ' H' fun σ2 H2 => tYes σ2 H2 fun b H3 =>
        if b = true then te σ2 H3 fun y H4 => H4 D = some (.lst ys) ∧ ∃ m', m' < m ∧ W (i + 1) m' σ2 (ys ++ [y]) (upd H4 D (.lst (ys ++ [y]))) else ∃ m', m' < m ∧ W (i + 1) m' σ2 ys H3) := by
  refine ⟨fun i m σ zs H' => m = kvs.length - i ∧ i ≤ kvs.length ∧ (∃ o, σ = o :: frSt fr σ0) ∧ zs = ys.take i ∧ Same H H' ∧ H' D = some (.lst zs), ⟨kvs.length, by simp, Nat.zero_le _, ⟨none, rfl⟩, by simp, same_new hD _, upd_same⟩, ?_⟩
  rintro i m σ zs Hc ⟨rfl, hi, ⟨o', rfl⟩, rfl, s, dd⟩
  by_cases hlt : i < kvs.length
  · refine .inr ⟨⟨s _ _ hd0, hlt⟩, by rw [List.length_take]; exact small1000 (by omega), fun x H' y => ?_⟩
    obtain ⟨e, p, ep, ex⟩ := y
    subst e ex
    unfold gName tYes
    simp only [if_true]
    have hi : i < ys.length := by omega
    have ey : ys[i]? = some ys[i] := by simp [hi]
    exact hs i p ys[i] _ _ ep ey s dd fun H4 s4 d4 => ⟨d4, kvs.length - (i + 1), by omega, rfl, hlt, ⟨_, rfl⟩, (take_snoc ey).symm, same_upd s4 hD _, upd_same⟩
  · have e : i = kvs.length := by omega
    subst e
    rw [← hy, List.take_length] at dd
    exact .inl ⟨⟨s _ _ hd0, Nat.le_refl _⟩, hd Hc s dd⟩
/-- for k, v in d.items() -/
theorem for_items {d : Addr} {ob : Obj} {kvs : List (Key × V)} {g : TG} {tb : TS} {D : Ends} {σ : St} {H : Hp} (Pv : Nat → St → Hp → Prop) (h0 : Pv 0 σ H) (hl : ∀ i σ H, i ≤ kvs.length → Pv i σ H → H d = some (.frz ob (.dK kvs)))
    (hs : ∀ i x σ H p, kvs[i]? = some x → Pv i σ H → H p = none → g (.ref p) σ (upd H p (.tup [kV x.1, x.2])) fun σ2 H2 => tb { D with nx := Pv (i + 1), ct := Pv (i + 1), bk := D.nx } σ2 H2) (hd : ∀ σ H, Pv kvs.length σ H → D.nx σ H) :
    ∃ W : Nat → Nat → St → Hp → Prop, (∃ m, W 0 m σ H) ∧ ∀ i m σ H, W i m σ H →
      ((Iti d ob kvs).stop i H ∧ D.nx σ H) ∨ ((Iti d ob kvs).go i H ∧ ∃ N : St → Hp → Prop, (∀ σ' H', N σ' H' → ∃ m', m' < m ∧ W (i + 1) m' σ' H') ∧ ∀ x H', (Iti d ob kvs).yld i H x H' → g x σ H' fun σ2 H2 => tb { D with nx := N, ct := N, bk := D.nx } σ2 H2) := by
  refine ⟨fun i m σ H => m = kvs.length - i ∧ i ≤ kvs.length ∧ Pv i σ H, ⟨kvs.length, by simp, Nat.zero_le _, h0⟩, ?_⟩
  rintro i m σ H ⟨rfl, hi, p⟩
  have q := hl i σ H hi p
  by_cases hlt : i < kvs.length
  · refine .inr ⟨⟨q, hlt⟩, Pv (i + 1), fun σ' H' p' => ⟨kvs.length - (i + 1), by omega, rfl, hlt, p'⟩, fun x H' y => ?_⟩
    obtain ⟨t, z, n, e1, e2, e3⟩ := y
    subst e1 e3
    exact hs i z σ H t e2 p n
  · have e : i = kvs.length := by omega
    subst e
    exact .inl ⟨⟨q, Nat.le_refl _⟩, hd σ H p⟩
end L2
namespace Ev
open PySem L2
/-! ### the search: what lies in the heap -/
def hV (hs : List (Nat × Nat)) : List (Key × V) := hs.map fun p => ((Sum.inl (p.1 : Int) : Key), V.int (p.2 : Int))
def tV (t : List Nat) : List (Key × V) := t.map fun (c : Nat) => ((Sum.inl (c : Int) : Key), V.bl true)
def nV (l : List Nat) : List V := l.map fun (c : Nat) => V.int (c : Int)
theorem inl_iff {a b : Nat} : (Sum.inl (a : Int) : Key) = Sum.inl (b : Int) ↔ a = b := ⟨fun h => by have := Sum.inl.inj h; omega, fun h => by rw [h]⟩
theorem hV_get (c : Nat) : ∀ hs : List (Nat × Nat), valV (hV hs) (Sum.inl (c : Int)) = (getN hs c).map fun (r : Nat) => V.int (r : Int)
  | [] => rfl
  | p :: r => by
    show valV (((Sum.inl (p.1 : Int) : Key), V.int (p.2 : Int)) :: hV r) _ = _
    by_cases e : p.1 = c
    · rw [valV_pos (inl_iff.mpr e), getN_pos e]; rfl
    · rw [valV_neg (fun z => e (inl_iff.mp z)), getN_neg e]; exact hV_get c r
theorem hV_put (hs : List (Nat × Nat)) (c r : Nat) : putK (hV hs) (Sum.inl (c : Int)) (V.int (r : Int)) = hV (putN hs c r) := by
  unfold putK putN
  rw [valV_any, hV_get, getN_any]
  cases e : getN hs c with
  | none =>
    simp only [Option.map_none, Option.isSome_none, Bool.false_eq_true, if_false]
    unfold hV; simp
  | some x =>
    simp only [Option.map_some, Option.isSome_some, if_true]
    unfold hV
    rw [List.map_map, List.map_map]
    apply List.map_congr_left
    intro p _
    show (if (Sum.inl (p.1 : Int) : Key) = Sum.inl (c : Int) then ((Sum.inl (p.1 : Int) : Key), V.int (r : Int)) else ((Sum.inl (p.1 : Int) : Key), V.int (p.2 : Int))) = (fun p : Nat × Nat => ((Sum.inl (p.1 : Int) : Key), V.int (p.2 : Int))) (if p.1 = c then (p.1, r) else p)
    by_cases q : p.1 = c
    · rw [if_pos (inl_iff.mpr q), if_pos q]
    · rw [if_neg (fun z => q (inl_iff.mp z)), if_neg q]
theorem tV_get (c : Nat) : ∀ t : List Nat, valV (tV t) (Sum.inl (c : Int)) = if c ∈ t then some (V.bl true) else none
  | [] => rfl
  | a :: r => by
    show valV (((Sum.inl (a : Int) : Key), V.bl true) :: tV r) _ = _
    by_cases e : a = c
    · rw [valV_pos (inl_iff.mpr e), if_pos (by rw [e]; exact List.mem_cons_self)]
    · rw [valV_neg (fun z => e (inl_iff.mp z)), tV_get c r]
      by_cases q : c ∈ r
      · rw [if_pos q, if_pos (List.mem_cons_of_mem _ q)]
      · rw [if_neg q, if_neg (fun z => (List.mem_cons.mp z).elim (fun y => e y.symm) q)]
theorem tV_put {t : List Nat} {c : Nat} (h : c ∉ t) : putK (tV t) (Sum.inl (c : Int)) (V.bl true) = tV (t ++ [c]) := by
  rw [putK_new _ (by rw [tV_get, if_neg h])]
  unfold tV; simp
theorem tab_kept {H H' : Hp} {a : Addr} {ps : List Addr} {T : List (List Int)} {hd td : Addr} {x y : List (Key × V)} (h : Tab H a ps T) (e1 : H hd = some (.dK x)) (e2 : H td = some (.dK y)) (k : ∀ b o, H b = some o → b ≠ hd → b ≠ td → H' b = some o) : Tab H' a ps T :=
  ⟨k _ _ h.top (ne_of h.top e1 (by intro z; cases z)) (ne_of h.top e2 (by intro z; cases z)), pr_imp (fun p r q => k _ _ q (ne_of q e1 (by intro z; cases z)) (ne_of q e2 (by intro z; cases z))) h.rows, h.nd⟩
def spFind : Nat → Sp
  | 0 => fun _ _ _ _ => False
  | d + 1 => fun vs H Q _ => ∃ (n : Nat) (a hd td : Addr) (ps : List Addr) (T : List (List Int)) (row : Nat) (hs : List (Nat × Nat)) (t : List Nat), vs = [.ref a, .int (row : Int), .ref hd, .ref td] ∧ Tab H a ps T ∧ Sh n T ∧ n ≤ 16 ∧ row < n ∧
      H hd = some (.dK (hV hs)) ∧ H td = some (.dK (tV t)) ∧ hd ≠ td ∧ HoldOk n T hs ∧ InjH hs ∧ t.Nodup ∧ (∀ c ∈ t, c < n) ∧ (∀ c, getN hs c = some row → c ∈ t) ∧ n ≤ t.length + d ∧
      (∀ hs' t' H', Gave n T row hs t hs' → H' hd = some (.dK (hV hs')) → H' td = some (.dK (tV t')) → (∀ b o, H b = some o → b ≠ hd → b ≠ td → H' b = some o) → Q (.bl true) H') ∧
      (∀ t' H', Part n T row hs t n t' → H' hd = some (.dK (hV hs)) → H' td = some (.dK (tV t')) → (∀ b o, H b = some o → b ≠ hd → b ≠ td → H' b = some o) → Q (.bl false) H')
def spShort : Sp := fun vs H Q _ => ∃ (k : Nat) (hd td : Addr) (hs : List (Nat × Nat)) (t : List Nat), vs = [.int (k : Int), .ref hd, .ref td] ∧ H hd = some (.dK (hV hs)) ∧ H td = some (.dK (tV t)) ∧ hd ≠ td ∧ (∀ c ∈ t, ∃ r, getN hs c = some r) ∧ t.length ≤ 16 ∧
  ∀ (v l m : Addr) (rows cols : List Nat) (H' : Hp), (∀ b o, H b = some o → b ≠ td → H' b = some o) → H v = none → H l = none → H m = none → H' v = some (.tup [.str "short", .ref l, .ref m]) → H' l = some (.lst (nV rows)) → H' m = some (.lst (nV cols)) →
    rows.Perm (k :: t.map fun c => (getN hs c).getD 0) → rows.Pairwise (· ≤ ·) → cols.Perm t → cols.Pairwise (· ≤ ·) → Q (.ref v) H'
def spPlacesOf : Sp := fun vs H Q _ => ∃ (n : Nat) (hd : Addr) (T : List (List Int)) (hs : List (Nat × Nat)), vs = [.ref hd] ∧ H hd = some (.dK (hV hs)) ∧ Held n T n hs ∧ n ≤ 16 ∧
  ∀ (l : Addr) (pls : List Nat) (H' : Hp), (∀ b o, H b = some o → b ≠ hd → H' b = some o) → H l = none → H' l = some (.lst (nV pls)) → Seats n T pls → Q (.ref l) H'
def spMatched : Sp := fun vs H Q _ => ∃ (n : Nat) (a : Addr) (ps : List Addr) (T : List (List Int)), vs = [.ref a] ∧ Tab H a ps T ∧ Sh n T ∧ n ≤ 16 ∧
  (∀ (v l : Addr) (pls : List Nat) (H' : Hp), Same H H' → H v = none → H l = none → H' v = some (.tup [.str "seating", .ref l]) → H' l = some (.lst (nV pls)) → Seats n T pls → Q (.ref v) H') ∧
  (∀ (v l m : Addr) (rows cols : List Nat) (H' : Hp), Same H H' → H v = none → H l = none → H m = none → H' v = some (.tup [.str "short", .ref l, .ref m]) → H' l = some (.lst (nV rows)) → H' m = some (.lst (nV cols)) → Short n T rows cols → Q (.ref v) H')
theorem nV_int (l : List Nat) : nV l = (l.map Int.ofNat).map V.int := by unfold nV; rw [List.map_map]; rfl
/-- a list of whole numbers from nought on is one of counts -/
theorem nat_list {ms : List Int} {ns : List Nat} (h : ms.Perm (ns.map Int.ofNat)) : ∃ rs : List Nat, ms = rs.map Int.ofNat ∧ rs.Perm ns := by
  have e : ms = (ms.map Int.toNat).map Int.ofNat := by
    rw [List.map_map]
    have : ∀ x ∈ ms, (Int.ofNat ∘ Int.toNat) x = x := fun x hx => by
      obtain ⟨z, _, e⟩ := List.mem_map.mp (h.mem_iff.mp hx)
      rw [← e]; rfl
    exact (List.map_id ms).symm.trans (List.map_congr_left fun x hx => (this x hx).symm)
  refine ⟨ms.map Int.toNat, e, ?_⟩
  have q := h.map Int.toNat
  rw [List.map_map] at q
  have : ns.map (Int.toNat ∘ Int.ofNat) = ns := (List.map_congr_left fun x _ => rfl).trans (List.map_id ns)
  rw [this] at q; exact q
theorem nat_sorted {rs : List Nat} (h : (rs.map Int.ofNat).Pairwise (· ≤ ·)) : rs.Pairwise (· ≤ ·) := by
  rw [List.pairwise_map] at h
  exact List.Pairwise.imp (R := fun (a b : Nat) => Int.ofNat a ≤ Int.ofNat b) (fun {a b} q => by
    have q : (a : Int) ≤ (b : Int) := q
    omega) h
def oV : Option Nat → V
  | none => .non
  | some c => .int (c : Int)
theorem rep_flatN (n : Nat) : (List.replicate n ([.non] : List V)).flatten = (List.replicate n (none : Option Nat)).map oV := by
  induction n with
  | zero => rfl
  | succ k ih => rw [List.replicate_succ, List.flatten_cons, ih, List.replicate_succ]; rfl
theorem Valid.sh {T : List (List Int)} (h : Valid T) : Sh T.length T := ⟨rfl, fun r hr => (h.2.2 r hr).1⟩
def spSeating : Sp := fun vs H Q _ => ∃ (a : Addr) (ps : List Addr) (T : List (List Int)), vs = [.ref a] ∧ Tab H a ps T ∧ Valid T ∧
  (∀ (v l : Addr) (pls : List Nat) (H' : Hp), Same H H' → H v = none → H l = none → H' v = some (.tup [.str "seating", .ref l]) → H' l = some (.lst (nV pls)) → Seats T.length T pls → Q (.ref v) H') ∧
  (∀ (v l m : Addr) (rows cols : List Nat) (H' : Hp), Same H H' → H v = none → H l = none → H m = none → H' v = some (.tup [.str "short", .ref l, .ref m]) → H' l = some (.lst (nV rows)) → H' m = some (.lst (nV cols)) → Short T.length T rows cols → Q (.ref v) H')
end Ev

namespace L2
open PySem PySem.Spec PyProof.Rows
/-- [x for x in xs if ..] -/
theorem cmp_filtL {K : PySem.W.Frag} {a D : Addr} {xs : List V} {p : V → Bool} {tt : TT} {fr : List (Option Nat)} {σ0 : St} {H : Hp} {Q : Hp → Prop} (hD : H D = none) (hl : SqL K H a xs) (hz : xs.length ≤ 1000)
    (ht : ∀ (i : Nat) x Hc (R : Bool → Hp → Prop), xs[i]? = some x → Same H Hc → (∀ H4, Same Hc H4 → R (p x) H4) → tt (some x :: frSt fr σ0) Hc R)
    (hd : ∀ H', Same H H' → H' D = some (.lst (xs.filter p)) → Q H') :
    ∃ W : Nat → Nat → St → List V → Hp → Prop, (∃ m, W 0 m (frSt (none :: fr) σ0) [] (upd H D (.lst []))) ∧
      ∀ i m σ' ys Hc, W i m σ' ys Hc → ((Itl K a).stop i Hc ∧ Q Hc) ∨ ((Itl K a).go i Hc ∧ ys.length < sizeLine ∧ ∀ x H', (Itl K a).yld i Hc x H' → gName 0 x σ' H' fun σ2 H2 => tt σ2 H2 fun b H3 =>
        if b = true then tVar 0 σ2 H3 fun y H4 => H4 D = some (.lst ys) ∧ ∃ m', m' < m ∧ W (i + 1) m' σ2 (ys ++ [y]) (upd H4 D (.lst (ys ++ [y]))) else ∃ m', m' < m ∧ W (i + 1) m' σ2 ys H3) := by
  refine ⟨fun i m σ ys H' => m = xs.length - i ∧ i ≤ xs.length ∧ (∃ o, σ = o :: frSt fr σ0) ∧ ys = (xs.take i).filter p ∧ Same H H' ∧ H' D = some (.lst ys), ⟨xs.length, by simp, Nat.zero_le _, ⟨none, rfl⟩, by simp, same_new hD _, upd_same⟩, ?_⟩
  rintro i m σ ys Hc ⟨rfl, hi, ⟨o', rfl⟩, rfl, s, dd⟩
  have q := s.seq hl
  by_cases hlt : i < xs.length
  · have hx : xs[i]? = some xs[i] := by simp [hlt]
    refine .inr ⟨⟨xs, xs[i], q, hx⟩, ?_, fun x H' y => ?_⟩
    · have := List.length_filter_le p (xs.take i)
      rw [List.length_take] at this
      exact small1000 (by omega)
    obtain ⟨e, y⟩ := y
    subst e
    have ex := y xs q
    unfold gName
    refine ht i x _ _ ex s fun H4 s4 => ?_
    have e2 : (xs.take (i + 1)).filter p = (xs.take i).filter p ++ if p x = true then [x] else [] := by
      rw [take_snoc ex, List.filter_append]
      congr 1
      by_cases hp : p x = true
      · simp [hp]
      · simp [hp]
    by_cases hp : p x = true
    · rw [if_pos hp]
      rw [if_pos hp] at e2
      exact ⟨_, rfl, s4 _ _ dd, xs.length - (i + 1), by omega, rfl, hlt, ⟨_, rfl⟩, e2.symm, same_upd (s.trans s4) hD _, upd_same⟩
    · rw [if_neg hp]
      rw [if_neg hp, List.append_nil] at e2
      exact ⟨xs.length - (i + 1), by omega, rfl, hlt, ⟨_, rfl⟩, e2.symm, s.trans s4, s4 _ _ dd⟩
  · have e : i = xs.length := by omega
    subst e
    rw [List.take_length] at dd
    exact .inl ⟨⟨xs, q, Nat.le_refl _⟩, hd Hc s dd⟩
theorem cmp_filtR {D : Addr} {n : Nat} {p : Nat → Bool} {tt : TT} {fr : List (Option Nat)} {σ0 : St} {H : Hp} {Q : Hp → Prop} (hD : H D = none) (hz : n ≤ 1000)
    (ht : ∀ i Hc (R : Bool → Hp → Prop), i < n → Same H Hc → (∀ H4, Same Hc H4 → R (p i) H4) → tt (some (.int (0 + (i : Int))) :: frSt fr σ0) Hc R)
    (hd : ∀ H', Same H H' → H' D = some (.lst (((List.range n).filter p).map fun (i : Nat) => V.int (i : Int))) → Q H') :
    ∃ W : Nat → Nat → St → List V → Hp → Prop, (∃ m, W 0 m (frSt (none :: fr) σ0) [] (upd H D (.lst []))) ∧
      ∀ i m σ' ys Hc, W i m σ' ys Hc → ((Itr 0 n).stop i Hc ∧ Q Hc) ∨ ((Itr 0 n).go i Hc ∧ ys.length < sizeLine ∧ ∀ x H', (Itr 0 n).yld i Hc x H' → gName 0 x σ' H' fun σ2 H2 => tt σ2 H2 fun b H3 =>
        if b = true then tVar 0 σ2 H3 fun y H4 => H4 D = some (.lst ys) ∧ ∃ m', m' < m ∧ W (i + 1) m' σ2 (ys ++ [y]) (upd H4 D (.lst (ys ++ [y]))) else ∃ m', m' < m ∧ W (i + 1) m' σ2 ys H3) := by
  refine ⟨fun i m σ ys H' => m = n - i ∧ i ≤ n ∧ (∃ o, σ = o :: frSt fr σ0) ∧ ys = ((List.range i).filter p).map (fun (i : Nat) => V.int (i : Int)) ∧ Same H H' ∧ H' D = some (.lst ys), ⟨n, by simp, Nat.zero_le _, ⟨none, rfl⟩, by simp, same_new hD _, upd_same⟩, ?_⟩
  rintro i m σ ys Hc ⟨rfl, hi, ⟨o', rfl⟩, rfl, s, dd⟩
  by_cases hlt : i < n
  · refine .inr ⟨hlt, ?_, fun x H' y => ?_⟩
    · have := List.length_filter_le p (List.range i)
      rw [List.length_range] at this
      rw [List.length_map]
      exact small1000 (by omega)
    obtain ⟨e, y⟩ := y
    subst e y
    unfold gName
    refine ht i _ _ hlt s fun H4 s4 => ?_
    have e2 : (List.range (i + 1)).filter p = (List.range i).filter p ++ if p i = true then [i] else [] := by
      rw [List.range_succ, List.filter_append]
      congr 1
      by_cases hp : p i = true
      · simp [hp]
      · simp [hp]
    by_cases hp : p i = true
    · rw [if_pos hp]
      rw [if_pos hp] at e2
      refine ⟨_, rfl, s4 _ _ dd, n - (i + 1), by omega, rfl, hlt, ⟨_, rfl⟩, ?_, same_upd (s.trans s4) hD _, upd_same⟩
      rw [e2, List.map_append, Int.zero_add]; rfl
    · rw [if_neg hp]
      rw [if_neg hp, List.append_nil] at e2
      exact ⟨n - (i + 1), by omega, rfl, hlt, ⟨_, rfl⟩, by rw [e2], s.trans s4, s4 _ _ dd⟩
  · have e : i = n := by omega
    subst e
    exact .inl ⟨Nat.le_refl _, hd Hc s dd⟩
end L2
namespace Ev
open PySem L2
/-- [.. for row in table], a new list for each row -/
theorem cmp_rows {K : PySem.W.Frag} {a D : Addr} {ps : List Addr} {T : List (List Int)} {te : TE} {fr : List (Option Nat)} {σ0 : St} {H : Hp} {Q : Hp → Prop} (G : List Int → List Int) (hT : Tab H a ps T) (hD : H D = none) (hz : T.length ≤ 1000)
    (hs : ∀ (i : Nat) p r Hc (R : VK), ps[i]? = some p → T[i]? = some r → Same H Hc → (∀ q H4, Same Hc H4 → Hc q = none → H4 q = some (.lst ((G r).map V.int)) → R (.ref q) H4) → te (some (.ref p) :: frSt fr σ0) Hc R)
    (hd : ∀ qs H', NewTab H H' D qs (T.map G) → Q H') :
    ∃ W : Nat → Nat → St → List V → Hp → Prop, (∃ m, W 0 m (frSt (none :: fr) σ0) [] (upd H D (.lst []))) ∧
      ∀ i m σ' ys Hc, W i m σ' ys Hc → ((Itl K a).stop i Hc ∧ Q Hc) ∨ ((Itl K a).go i Hc ∧ ys.length < sizeLine ∧ ∀ x H', (Itl K a).yld i Hc x H' → gName 0 x σ' H' fun σ2 H2 => tYes σ2 H2 fun b H3 =>
        if b = true then te σ2 H3 fun y H4 => H4 D = some (.lst ys) ∧ ∃ m', m' < m ∧ W (i + 1) m' σ2 (ys ++ [y]) (upd H4 D (.lst (ys ++ [y]))) else ∃ m', m' < m ∧ W (i + 1) m' σ2 ys H3) := by
  have hl := hT.len
  refine cmp_list (K := K) (a := a) (xs := ps.map V.ref) (fun i ys Hc => ∃ qs : List Addr, ys = qs.map V.ref ∧ NewTab H Hc D qs ((T.take i).map G)) ⟨[], rfl, same_new hD _, ⟨upd_same, by simpa using Paired.nil, by simp⟩, fun b hb => by
        have e : b = D := by simpa using hb
        rw [e]; exact hD⟩ (fun i ys Hc _ p => ?_) (fun i ys Hc hi p => ?_) (fun i x ys Hc R hx p k => ?_) (fun ys Hc p => ?_)
  · obtain ⟨qs, _, hN⟩ := p
    exact hN.1.seq (SqL.of hT.top)
  · obtain ⟨qs, rfl, hN⟩ := p
    have := hN.2.1.len
    rw [List.length_map, List.length_take] at this
    exact small1000 (by rw [List.length_map]; omega)
  · obtain ⟨qs, rfl, hN⟩ := p
    obtain ⟨p, hp, rfl⟩ := at_map hx
    obtain ⟨r, hr2, er⟩ := pr_get hT.rows hp
    refine hs i p r Hc R hp hr2 hN.1 fun q H4 s4 nq eq => ?_
    have nqt : q ≠ D := Ne.symm (ne_of_none hN.2.1.top nq)
    have nqs : q ∉ qs := fun hm => by
      obtain ⟨j, hj, e⟩ := List.getElem_of_mem hm
      obtain ⟨r, _, er⟩ := pr_get hN.2.1.rows (i := j) (x := q) (by simp [hj, e])
      rw [nq] at er; cases er
    have N2 := hN.grow s4
    refine k _ _ N2.2.1.top ⟨qs ++ [q], by simp, ?_⟩
    rw [take_snoc hr2, List.map_append]
    exact N2.push eq nqt nqs (hN.1.free nq)
  · obtain ⟨qs, rfl, hN⟩ := p
    rw [List.length_map, hl, List.take_length] at hN
    exact hd qs Hc hN
/-- [.. for k in range(n)], a new list for each -/
theorem cmp_rowsR {D : Addr} {n : Nat} {te : TE} {fr : List (Option Nat)} {σ0 : St} {H : Hp} {Q : Hp → Prop} (G : Nat → List Int) (hD : H D = none) (hz : n ≤ 1000)
    (hs : ∀ i Hc (R : VK), i < n → Same H Hc → (∀ q H4, Same Hc H4 → Hc q = none → H4 q = some (.lst ((G i).map V.int)) → R (.ref q) H4) → te (some (.int (0 + (i : Int))) :: frSt fr σ0) Hc R)
    (hd : ∀ qs H', NewTab H H' D qs ((List.range n).map G) → Q H') :
    ∃ W : Nat → Nat → St → List V → Hp → Prop, (∃ m, W 0 m (frSt (none :: fr) σ0) [] (upd H D (.lst []))) ∧
      ∀ i m σ' ys Hc, W i m σ' ys Hc → ((Itr 0 n).stop i Hc ∧ Q Hc) ∨ ((Itr 0 n).go i Hc ∧ ys.length < sizeLine ∧ ∀ x H', (Itr 0 n).yld i Hc x H' → gName 0 x σ' H' fun σ2 H2 => tYes σ2 H2 fun b H3 =>
        if b = true then te σ2 H3 fun y H4 => H4 D = some (.lst ys) ∧ ∃ m', m' < m ∧ W (i + 1) m' σ2 (ys ++ [y]) (upd H4 D (.lst (ys ++ [y]))) else ∃ m', m' < m ∧ W (i + 1) m' σ2 ys H3) := by
  refine cmp_range (fun i ys Hc => ∃ qs : List Addr, ys = qs.map V.ref ∧ NewTab H Hc D qs ((List.range i).map G)) ⟨[], rfl, same_new hD _, ⟨upd_same, .nil, by simp⟩, fun b hb => by
        have e : b = D := by simpa using hb
        rw [e]; exact hD⟩ (fun i ys Hc hi p => ?_) (fun i ys Hc R hi p k => ?_) (fun ys Hc p => ?_)
  · obtain ⟨qs, rfl, hN⟩ := p
    have := hN.2.1.len
    rw [List.length_map, List.length_range] at this
    exact small1000 (by rw [List.length_map]; omega)
  · obtain ⟨qs, rfl, hN⟩ := p
    refine hs i Hc R hi hN.1 fun q H4 s4 nq eq => ?_
    have nqt : q ≠ D := Ne.symm (ne_of_none hN.2.1.top nq)
    have nqs : q ∉ qs := fun hm => by
      obtain ⟨j, hj, e⟩ := List.getElem_of_mem hm
      obtain ⟨r, _, er⟩ := pr_get hN.2.1.rows (i := j) (x := q) (by simp [hj, e])
      rw [nq] at er; cases er
    have N2 := hN.grow s4
    refine k _ _ N2.2.1.top ⟨qs ++ [q], by simp, ?_⟩
    rw [List.range_succ, List.map_append]
    exact N2.push eq nqt nqs (hN.1.free nq)
  · obtain ⟨qs, rfl, hN⟩ := p
    exact hd qs Hc hN
/-! what the law asks of lists of counts -/
def spRising : Sp := fun vs H Q _ => ∃ (n : Nat) (l : Addr) (xs : List Nat), vs = [.ref l, .int (n : Int)] ∧ H l = some (.lst (nV xs)) ∧ xs.Pairwise (· < ·) ∧ (∀ x ∈ xs, x < n) ∧ Q (.bl true) H
theorem rise_eq : ∀ {a b : List Nat}, a.Pairwise (· < ·) → b.Pairwise (· < ·) → (∀ x, x ∈ a ↔ x ∈ b) → a = b
  | [], [], _, _, _ => rfl
  | [], y :: b, _, _, h => absurd ((h y).mpr List.mem_cons_self) (by simp)
  | x :: a, [], _, _, h => absurd ((h x).mp List.mem_cons_self) (by simp)
  | x :: a, y :: b, ha, hb, h => by
    obtain ⟨a1, a2⟩ := List.pairwise_cons.mp ha
    obtain ⟨b1, b2⟩ := List.pairwise_cons.mp hb
    have e : x = y := by
      rcases List.mem_cons.mp ((h x).mp List.mem_cons_self) with z | z
      · exact z
      · rcases List.mem_cons.mp ((h y).mpr List.mem_cons_self) with z2 | z2
        · exact z2.symm
        · have := b1 x z; have := a1 y z2; omega
    subst e
    refine congrArg (x :: ·) (rise_eq a2 b2 fun z => ?_)
    constructor
    · intro hz
      rcases List.mem_cons.mp ((h z).mp (List.mem_cons_of_mem _ hz)) with y | y
      · have := a1 z hz; omega
      · exact y
    · intro hz
      rcases List.mem_cons.mp ((h z).mpr (List.mem_cons_of_mem _ hz)) with y | y
      · have := b1 z hz; omega
      · exact y
theorem range_rise (n : Nat) : (List.range n).Pairwise (· < ·) := List.pairwise_lt_range
theorem Short.due {n : Nat} {T : List (List Int)} {rows cols : List Nat} (h : Short n T rows cols) : (List.range n).filter (fun k => decide (0 < (rows.filter fun r => decide (0 < cellT T r k)).length)) = cols := by
  refine rise_eq ((range_rise n).filter _) h.cp fun c => ?_
  rw [List.mem_filter, h.iff' c, List.mem_range]
  refine and_congr Iff.rfl ?_
  rw [decide_eq_true_iff, List.length_pos_iff_exists_mem]
  constructor
  · rintro ⟨r, hr⟩
    obtain ⟨h1, h2⟩ := List.mem_filter.mp hr
    exact ⟨r, h1, by have := of_decide_eq_true h2; omega⟩
  · rintro ⟨r, h1, h2⟩
    exact ⟨r, List.mem_filter.mpr ⟨h1, decide_eq_true (by omega)⟩⟩
/-- met by none before: as many as there are -/
theorem met_nodup {ns : List Int} (h : ns.Nodup) : (PyProof.Rows.firstMet (fun i => ns.getD i 0) ns.length).length = ns.length := by
  have key : ∀ k, k ≤ ns.length → (PyProof.Rows.firstMet (fun i => ns.getD i 0) k).length = k ∧ ∀ x, (PyProof.Rows.firstMet (fun i => ns.getD i 0) k).any (· == x) = ((List.range k).map fun i => ns.getD i 0).any (· == x) := fun k => by
    induction k with
    | zero => intro _; exact ⟨rfl, fun x => rfl⟩
    | succ k ih =>
      intro hk
      obtain ⟨h1, h2⟩ := ih (by omega)
      refine ⟨?_, fun x => PyProof.Rows.firstMet_any _ _ x⟩
      rw [PyProof.Rows.firstMet_succ]
      have hn : ¬ (PyProof.Rows.firstMet (fun i => ns.getD i 0) k).any (· == ns.getD k 0) = true := by
        rw [h2]
        intro z
        obtain ⟨y, hy, e⟩ := List.any_eq_true.mp z
        obtain ⟨j, hj, ej⟩ := List.mem_map.mp hy
        have hj := List.mem_range.mp hj
        have e : y = ns.getD k 0 := by simpa using e
        rw [← ej, List.getD_eq_getElem?_getD, List.getD_eq_getElem?_getD, List.getElem?_eq_getElem (show j < ns.length by omega), List.getElem?_eq_getElem (show k < ns.length by omega)] at e
        have := (List.getElem_inj h).mp (show ns[j] = ns[k] from e)
        omega
      unfold PyProof.Rows.step_dedup
      simp only [hn, if_false, Bool.false_eq_true]
      rw [List.length_append, h1]; rfl
  exact (key ns.length (Nat.le_refl _)).1
theorem cellT_at {T : List (List Int)} {r : Nat} {q : List Int} {c : Nat} (h : T[r]? = some q) (hc : c < q.length) : (q.map V.int)[c]? = some (.int (cellT T r c)) := by
  unfold cellT
  rw [getD_at h, List.getD_eq_getElem?_getD, List.getElem?_eq_getElem hc]
  exact map_at (List.getElem?_eq_getElem hc)
end Ev
namespace Ev
open PySem L2
theorem Bd.setc {n i j : Nat} {b : Nat → Int} {T : List (List Int)} {r : List Int} {v : Int} (h : Bd n b T) (hr : T[i]? = some r) (h0 : 0 ≤ v) (h1 : v ≤ b i) : Bd n b (T.set i (r.set j v)) := by
  refine ⟨by rw [List.length_set]; exact h.1, fun k q hq => ?_⟩
  have hi : i < T.length := (List.getElem?_eq_some_iff.mp hr).1
  by_cases e : k = i
  · subst e
    rw [List.getElem?_set_self hi] at hq
    cases hq
    obtain ⟨a1, a2⟩ := h.2 k r hr
    refine ⟨by rw [List.length_set]; exact a1, fun x hx => ?_⟩
    rcases mem_set hx with z | z
    · exact a2 x z
    · rw [z]; exact ⟨h0, h1⟩
  · rw [List.getElem?_set_ne (Ne.symm e)] at hq
    exact h.2 k q hq
/-- what an entry's change asks and leaves -/
theorem NewTab.cell {H0 H : Hp} {a : Addr} {ps : List Addr} {T : List (List Int)} {n i j : Nat} {b : Nat → Int} (N : NewTab H0 H a ps T) (B : Bd n b T) (hi : i < n) (hj : j < n) : ∃ (p : Addr) (r : List Int), T[i]? = some r ∧ r.length = n ∧ H p = some (.lst (r.map V.int)) ∧ H0 p = none ∧
    atI (ps.map V.ref) (i : Int) = some (.ref p) ∧ atI (r.map V.int) (j : Int) = some (.int (cellT T i j)) ∧ ixN (r.map V.int).length (j : Int) = some j ∧ 0 ≤ cellT T i j ∧ cellT T i j ≤ b i ∧
    ∀ v : Int, 0 ≤ v → v ≤ b i → NewTab H0 (upd H p (.lst ((r.map V.int).set j (.int v)))) a ps (T.set i (r.set j v)) ∧ Bd n b (T.set i (r.set j v)) := by
  have hl : i < T.length := by rw [B.1]; exact hi
  have er : T[i]? = some T[i] := List.getElem?_eq_getElem hl
  obtain ⟨p, hp, ep⟩ := pr_getR N.2.1.rows er
  obtain ⟨lr, br⟩ := B.2 i _ er
  have hjl : j < T[i].length := by omega
  have ec : cellT T i j = T[i][j] := by
    unfold cellT
    rw [getD_at er, List.getD_eq_getElem?_getD, List.getElem?_eq_getElem hjl]; rfl
  have bc := br _ (List.getElem_mem hjl)
  refine ⟨p, T[i], er, lr, ep, N.2.2 p (List.mem_cons_of_mem _ (List.mem_of_getElem? hp)), atI_nat (map_at hp), atI_nat (cellT_at er hjl), ?_, by rw [ec]; exact bc.1, by rw [ec]; exact bc.2, fun v h0 h1 => ⟨?_, B.setc er h0 h1⟩⟩
  · unfold ixN; rw [if_pos (by omega), if_pos (by rw [List.length_map]; omega)]; simp
  · have := N.set (r' := T[i].set j v) hp
    rw [setV_map] at this; exact this
theorem Bd.rows {n : Nat} {b c : Nat → Int} {T : List (List Int)} {g : Int → Int} (h : Bd n b T) (hg : ∀ j x, 0 ≤ x → x ≤ b j → 0 ≤ g x ∧ g x ≤ c j) : Bd n c (T.map fun r => r.map g) := by
  refine ⟨by rw [List.length_map]; exact h.1, fun j q hq => ?_⟩
  obtain ⟨r, hr, e⟩ := at_map hq
  subst e
  obtain ⟨a1, a2⟩ := h.2 j r hr
  refine ⟨by rw [List.length_map]; exact a1, fun x hx => ?_⟩
  obtain ⟨y, hy, e⟩ := List.mem_map.mp hx
  rw [← e]; exact hg j y (a2 y hy).1 (a2 y hy).2
def spThinned (K : PySem.W.Frag) : Sp := fun vs H Q _ => ∃ (H0 : Hp) (n : Nat) (a sc : Addr) (ps : List Addr) (T : List (List Int)) (ns : List Int) (b : Nat → Int), vs = [.ref a, .ref sc] ∧ NewTab H0 H a ps T ∧ SqL K H0 sc (ns.map V.int) ∧ n ≤ 8 ∧ Bd n b T ∧ (∀ i, 0 ≤ b i) ∧
  ∀ (T' : List (List Int)) (H' : Hp), NewTab H0 H' a ps T' → Bd n b T' → Q (.ref a) H'
end Ev

namespace L2
open PySem PySem.Spec PyProof.Rows
/-- [.. for k, x in enumerate(xs)] whose items are known ahead -/
theorem cmp_mapE {K : PySem.W.Frag} {a D : Addr} {xs ys : List V} {te : TE} {fr : List (Option Nat)} {σ0 : St} {H : Hp} {Q : Hp → Prop} (hD : H D = none) (hl : SqL K H a xs) (hz : xs.length ≤ 1000) (hy : ys.length = xs.length)
    (hs : ∀ (i : Nat) x y Hc (R : VK), xs[i]? = some x → ys[i]? = some y → Same H Hc → (∀ H4, Same Hc H4 → R y H4) → te (some (.int (i : Int)) :: some x :: frSt fr σ0) Hc R)
    (hd : ∀ H', Same H H' → H' D = some (.lst ys) → Q H') :
    ∃ W : Nat → Nat → St → List V → Hp → Prop, (∃ m, W 0 m (frSt (none :: none :: fr) σ0) [] (upd H D (.lst []))) ∧
      ∀ i m σ' ys Hc, W i m σ' ys Hc → ((Ite K a).stop i Hc ∧ Q Hc) ∨ ((Ite K a).go i Hc ∧ ys.length < sizeLine ∧ ∀ x H', (Ite K a).yld i Hc x H' → gTup K 2 (gCons (gName 0) (gCons (gName 1) gNil)) x σ' H' fun σ2 H2 => tYes σ2 H2 fun b H3 =>
        if b = true then te σ2 H3 fun y H4 => H4 D = some (.lst ys) ∧ ∃ m', m' < m ∧ W (i + 1) m' σ2 (ys ++ [y]) (upd H4 D (.lst (ys ++ [y]))) else ∃ m', m' < m ∧ W (i + 1) m' σ2 ys H3) := by
  refine ⟨fun i m σ zs H' => m = xs.length - i ∧ i ≤ xs.length ∧ (∃ o1 o2, σ = o1 :: o2 :: frSt fr σ0) ∧ zs = ys.take i ∧ Same H H' ∧ H' D = some (.lst zs), ⟨xs.length, by simp, Nat.zero_le _, ⟨none, none, rfl⟩, by simp, same_new hD _, upd_same⟩, ?_⟩
  rintro i m σ zs Hc ⟨rfl, hi, ⟨o1, o2, rfl⟩, rfl, s, dd⟩
  have q := s.seq hl
  by_cases hlt : i < xs.length
  · have hx : xs[i]? = some xs[i] := by simp [hlt]
    refine .inr ⟨⟨xs, xs[i], q, hx⟩, by rw [List.length_take]; exact small1000 (by omega), fun x H' y => ?_⟩
    obtain ⟨t, z, n, e1, e2, e3⟩ := y
    subst e1 e3
    have ez := e2 xs q
    have s2 := same_new n (.tup [.int (i : Int), z])
    refine ⟨t, _, rfl, SqT.of upd_same, rfl, _, _, rfl, _, _, rfl, rfl, ?_⟩
    unfold tYes
    simp only [if_true]
    have hiy : i < ys.length := by omega
    have ey : ys[i]? = some ys[i] := by simp [hiy]
    exact hs i z ys[i] _ _ ez ey (s.trans s2) fun H4 s4 => ⟨s4 _ _ (s2 _ _ dd), xs.length - (i + 1), by omega, rfl, hlt, ⟨_, _, rfl⟩, (take_snoc ey).symm, same_upd (s.trans (s2.trans s4)) hD _, upd_same⟩
  · have e : i = xs.length := by omega
    subst e
    rw [← hy, List.take_length] at dd
    exact .inl ⟨⟨xs, q, Nat.le_refl _⟩, hd Hc s dd⟩
end L2
namespace Ev
open PySem L2
/-! ### pairs made anew, no two lists of them one -/
structure NewPrs (H H' : Hp) (a : Addr) (tls : List (Addr × Addr)) (prs : List Pr) : Prop where
  same : Same H H'
  top : H' a = some (.lst (tls.map fun x => V.ref x.1))
  newA : H a = none
  rows : Paired (fun (tl : Addr × Addr) (pr : Pr) => H tl.1 = none ∧ H tl.2 = none ∧ H' tl.1 = some (.tup [.int pr.1, .ref tl.2]) ∧ H' tl.2 = some (.lst (pr.2.map plV))) tls prs
  nd : (a :: tls.map (·.2)).Nodup
theorem NewPrs.len {H H' : Hp} {a : Addr} {tls : List (Addr × Addr)} {prs : List Pr} (h : NewPrs H H' a tls prs) : tls.length = prs.length := pr_len h.rows
theorem NewPrs.grow {H H1 H2 : Hp} {a : Addr} {tls : List (Addr × Addr)} {prs : List Pr} (h : NewPrs H H1 a tls prs) (s : Same H1 H2) : NewPrs H H2 a tls prs :=
  ⟨h.same.trans s, s _ _ h.top, h.newA, pr_imp (fun _ _ ⟨n1, n2, b, c⟩ => ⟨n1, n2, s _ _ b, s _ _ c⟩) h.rows, h.nd⟩
theorem NewPrs.at {H H' : Hp} {a : Addr} {tls : List (Addr × Addr)} {prs : List Pr} (h : NewPrs H H' a tls prs) : PairsAt H' a (tls.map (·.1)) prs := by
  refine ⟨by rw [h.top, List.map_map]; rfl, ?_⟩
  have : ∀ {tls : List (Addr × Addr)} {prs : List Pr}, Paired (fun (tl : Addr × Addr) (pr : Pr) => H tl.1 = none ∧ H tl.2 = none ∧ H' tl.1 = some (.tup [.int pr.1, .ref tl.2]) ∧ H' tl.2 = some (.lst (pr.2.map plV))) tls prs → Paired (PairAt H') (tls.map (·.1)) prs := fun {tls prs} q => by
    induction q with
    | nil => exact .nil
    | cons a r ih => obtain ⟨_, _, b, c⟩ := a; exact .cons ⟨_, b, c⟩ ih
  exact this h.rows
/-- some objects other than these changed -/
theorem NewPrs.kept {H H1 H2 : Hp} {a : Addr} {tls : List (Addr × Addr)} {prs : List Pr} (h : NewPrs H H1 a tls prs) (s : Same H H2) (ka : H2 a = H1 a) (k : ∀ tl ∈ tls, H2 tl.1 = H1 tl.1 ∧ H2 tl.2 = H1 tl.2) : NewPrs H H2 a tls prs := by
  refine ⟨s, by rw [ka]; exact h.top, h.newA, ?_, h.nd⟩
  have : ∀ {xs : List (Addr × Addr)} {prs : List Pr}, (∀ tl ∈ xs, tl ∈ tls) → Paired (fun (tl : Addr × Addr) (pr : Pr) => H tl.1 = none ∧ H tl.2 = none ∧ H1 tl.1 = some (.tup [.int pr.1, .ref tl.2]) ∧ H1 tl.2 = some (.lst (pr.2.map plV))) xs prs → Paired (fun (tl : Addr × Addr) (pr : Pr) => H tl.1 = none ∧ H tl.2 = none ∧ H2 tl.1 = some (.tup [.int pr.1, .ref tl.2]) ∧ H2 tl.2 = some (.lst (pr.2.map plV))) xs prs := fun {xs prs} hx q => by
    induction q with
    | nil => exact .nil
    | cons a r ih =>
      obtain ⟨a1, a2, b, c⟩ := a
      have := k _ (hx _ List.mem_cons_self)
      exact .cons ⟨a1, a2, by rw [this.1]; exact b, by rw [this.2]; exact c⟩ (ih fun tl ht => hx tl (List.mem_cons_of_mem _ ht))
  exact this (fun _ h => h) h.rows
theorem NewPrs.push {H H1 : Hp} {a t l : Addr} {tls : List (Addr × Addr)} {prs : List Pr} {pr : Pr} (h : NewPrs H H1 a tls prs) (n1 : H t = none) (n2 : H l = none) (e1 : H1 t = some (.tup [.int pr.1, .ref l])) (e2 : H1 l = some (.lst (pr.2.map plV))) (n3 : l ≠ a) (n4 : l ∉ tls.map (·.2)) :
    NewPrs H (upd H1 a (.lst (tls.map (fun x => V.ref x.1) ++ [.ref t]))) a (tls ++ [(t, l)]) (prs ++ [pr]) := by
  have nt : ∀ {u : Addr} {xs : List V}, H1 u = some (.tup xs) → u ≠ a := fun e => ne_of e h.top (by intro z; cases z)
  obtain ⟨d1, d2⟩ := List.nodup_cons.mp h.nd
  have nl : ∀ tl ∈ tls, tl.2 ≠ a := fun tl ht e => d1 (by rw [← e]; exact List.mem_map.mpr ⟨tl, ht, rfl⟩)
  refine ⟨same_upd h.same h.newA _, by rw [upd_same]; simp, h.newA, Paired.snoc ?_ ⟨n1, n2, by rw [upd_ne (nt e1)]; exact e1, by rw [upd_ne n3]; exact e2⟩, ?_⟩
  · have : ∀ {xs : List (Addr × Addr)} {prs : List Pr}, (∀ tl ∈ xs, tl ∈ tls) → Paired (fun (tl : Addr × Addr) (pr : Pr) => H tl.1 = none ∧ H tl.2 = none ∧ H1 tl.1 = some (.tup [.int pr.1, .ref tl.2]) ∧ H1 tl.2 = some (.lst (pr.2.map plV))) xs prs → Paired (fun (tl : Addr × Addr) (pr : Pr) => H tl.1 = none ∧ H tl.2 = none ∧ (upd H1 a (.lst (tls.map (fun x => V.ref x.1) ++ [.ref t]))) tl.1 = some (.tup [.int pr.1, .ref tl.2]) ∧ (upd H1 a (.lst (tls.map (fun x => V.ref x.1) ++ [.ref t]))) tl.2 = some (.lst (pr.2.map plV))) xs prs := fun {xs prs} hx q => by
      induction q with
      | nil => exact .nil
      | cons a r ih =>
        obtain ⟨a1, a2, b, c⟩ := a
        exact .cons ⟨a1, a2, by rw [upd_ne (nt b)]; exact b, by rw [upd_ne (nl _ (hx _ List.mem_cons_self))]; exact c⟩ (ih fun tl ht => hx tl (List.mem_cons_of_mem _ ht))
    exact this (fun _ h => h) h.rows
  · rw [List.map_append]
    refine List.nodup_cons.mpr ⟨fun hm => ?_, ?_⟩
    · rcases List.mem_append.mp hm with z | z
      · exact d1 z
      · exact n3 (Eq.symm (by simpa using z))
    · rw [List.nodup_append]
      refine ⟨d2, by simp, fun x hx y hy e => n4 ?_⟩
      have : y = l := by simpa using hy
      rw [← this, ← e]; exact hx
theorem plO_V (pls : List Nat) : (plO pls).map plV = nV pls := by unfold plO nV; rw [List.map_map]; rfl
def spEven : Sp := fun vs H Q _ => ∃ (n : Nat) (a : Addr) (ps : List Addr) (T : List (List Int)) (s : Int), vs = [.ref a, .int s] ∧ Tab H a ps T ∧ Lev n T s ∧ 0 ≤ s ∧ 1 ≤ n ∧ n ≤ 16 ∧
  ∀ (t : Addr) (tls : List (Addr × Addr)) (prs : List Rd3) (R : List (List Int)) (left : Int) (H' : Hp), NewPrs H H' t tls (prs.map toPr) → Ev3 n T s R left prs → ¬ 0 < left → Q (.ref t) H'
/-- the law's level tables -/
def spLevelL (K : PySem.W.Frag) : Sp := fun vs H Q _ => ∃ (a : Addr) (ns : List Int) (fi : Int) (n m : Nat), vs = [.ref a, .int fi, .int n, .int m] ∧ SqL K H a (ns.map V.int) ∧ 0 ≤ fi ∧ 1 ≤ n ∧ n ≤ 8 ∧ m ≤ 29 ∧
  ∀ (t : Addr) (ps : List Addr) (T : List (List Int)) (s : Int) (H' : Hp), NewTab H H' t ps T → Lev n T s → 0 ≤ s → s ≤ 30000 * m → Q (.ref t) H'
theorem Lev.valid {n : Nat} {T : List (List Int)} {s : Int} (L : Lev n T s) (h1 : 1 ≤ n) (h8 : n ≤ 8) (hs : s ≤ 1000000) : Valid T := by
  refine ⟨by rw [L.sh.1]; exact h1, by rw [L.sh.1]; exact h8, fun r hr => ?_⟩
  obtain ⟨a, b⟩ := L.mem hr
  exact ⟨by rw [a, L.sh.1], fun x hx => by have := b x hx; omega⟩
/-- an order of the columns is a seating -/
theorem order_seat {n : Nat} {os : List Int} (h : os.Perm ((List.range n).map Int.ofNat)) : ∃ pls : List Nat, os = pls.map Int.ofNat ∧ Seat0 n pls := by
  obtain ⟨pls, e, p⟩ := nat_list h
  refine ⟨pls, e, by rw [p.length_eq, List.length_range], p.symm.nodup List.nodup_range, fun c hc => List.mem_range.mp (p.mem_iff.mp hc)⟩
theorem tab_kp {H : Hp} {a l : Addr} {ps : List Addr} {T : List (List Int)} {o : HO} (h : Tab H a ps T) (n : l ∉ a :: ps) : Tab (upd H l o) a ps T := by
  rw [List.mem_cons, not_or] at n
  refine ⟨by rw [upd_ne (Ne.symm n.1)]; exact h.top, ?_, h.nd⟩
  have : ∀ {ps : List Addr} {T : List (List Int)}, Paired (fun p (r : List Int) => H p = some (.lst (r.map V.int))) ps T → l ∉ ps → Paired (fun p (r : List Int) => upd H l o p = some (.lst (r.map V.int))) ps T := fun {ps T} q => by
    induction q with
    | nil => intro _; exact .nil
    | cons a r ih =>
      intro nn
      rw [List.mem_cons, not_or] at nn
      exact .cons (by rw [upd_ne (Ne.symm nn.1)]; exact a) (ih nn.2)
  exact this h.rows n.2
theorem tab_new_keep {H H1 : Hp} {t a : Addr} {ps : List Addr} {T : List (List Int)} {o : HO} (h : NewTab H H1 t ps T) (na : H a = none) (n : a ∉ t :: ps) : NewTab H (upd H1 a o) t ps T := ⟨same_upd h.1 na _, tab_kp h.2.1 n, h.2.2⟩
/-! level tables have no odd line -/
theorem fo_all {w : Int} : ∀ {l : List Int} {k : Nat}, (∀ x ∈ l, x = w) → fo w l k = none
  | [], _, _ => rfl
  | x :: r, k, h => by
    unfold fo
    rw [if_pos (h x List.mem_cons_self)]
    exact fo_all fun y hy => h y (List.mem_cons_of_mem _ hy)
theorem Lev.rowsS {n : Nat} {T : List (List Int)} {s : Int} (L : Lev n T s) : ∀ x ∈ rowsS T, x = s := fun x hx => by
  obtain ⟨r, hr, e⟩ := List.mem_map.mp hx
  obtain ⟨i, hi, ei⟩ := List.getElem_of_mem hr
  have hin : i < n := by rw [← L.sh.1]; exact hi
  have := sum_row L.sh hin
  rw [getD_at (show T[i]? = some r by rw [List.getElem?_eq_getElem hi, ei])] at this
  rw [← e, this]; exact L.row i hin
theorem Lev.colsS {n : Nat} {T : List (List Int)} {s : Int} (L : Lev n T s) : ∀ x ∈ colsS T, x = s := fun x hx => by
  obtain ⟨c, hc, e⟩ := List.mem_map.mp hx
  have hc := List.mem_range.mp hc
  rw [L.sh.1] at hc
  rw [← e]
  show (T.map fun r => r.getD c 0).sum = s
  rw [sum_col L.sh c]; exact L.col c hc
theorem Lev.odd {n : Nat} {T : List (List Int)} {s : Int} (L : Lev n T s) (h : 1 ≤ n) : oddOf T = none := by
  have hne : 0 < (Ev.rowsS T).length := by rw [rowsS_len, L.sh.1]; exact h
  have e : (Ev.rowsS T).headD 0 = s := L.rowsS _ (List.mem_of_getElem? (headD_at hne))
  unfold oddOf
  rw [e, fo_all L.rowsS, fo_all L.colsS]
theorem Lev.row0 {n : Nat} {T : List (List Int)} {s : Int} (L : Lev n T s) (h : 1 ≤ n) : ∃ r, T[0]? = some r ∧ r.sum = s := by
  obtain ⟨r, e, _⟩ := L.sh.at (k := 0) (by omega)
  refine ⟨r, e, ?_⟩
  have := sum_row L.sh (k := 0) (by omega)
  rw [getD_at e] at this
  rw [this]; exact L.row 0 (by omega)
def spRounds : Sp := fun vs H Q _ => ∃ (n : Nat) (a : Addr) (ps : List Addr) (T : List (List Int)) (s : Int), vs = [.ref a] ∧ Tab H a ps T ∧ Valid T ∧ Lev n T s ∧
  ∀ (t : Addr) (tls : List (Addr × Addr)) (prs : List Rd3) (R : List (List Int)) (left : Int) (H' : Hp), NewPrs H H' t tls (prs.map toPr) → Ev3 n T s R left prs → ¬ 0 < left → Q (.ref t) H'
def spIsPart : Sp := fun vs H Q _ => ∃ (n : Nat) (l : Addr) (pls : List (Option Int)), vs = [.ref l, .int (n : Int)] ∧ H l = some (.lst (pls.map plV)) ∧ PartOk n pls ∧ n ≤ 8 ∧ ∀ H', Same H H' → Q (.bl true) H'
def spIsPairs : Sp := fun vs H Q _ => ∃ (n : Nat) (a : Addr) (ts : List Addr) (prs : List Pr), vs = [.ref a, .int (n : Int)] ∧ PairsAt H a ts prs ∧ (∀ pr ∈ prs, PairOk n pr) ∧ n ≤ 8 ∧ ∀ H', Same H H' → Q (.bl true) H'
theorem plV_filter (pls : List (Option Int)) : (pls.map plV).filter (fun x => !decide (x = V.non)) = (pls.filterMap id).map V.int := by
  induction pls with
  | nil => rfl
  | cons o r ih =>
    cases o with
    | none => rw [List.map_cons, List.filter_cons]; simp only [plV, decide_true, Bool.not_true, Bool.false_eq_true, if_false]; rw [ih]; rfl
    | some c =>
      rw [List.map_cons, List.filter_cons]
      have : (!decide (plV (some c) = V.non)) = true := by rw [decide_eq_false (by intro z; cases z)]; rfl
      rw [if_pos this, ih]; rfl
/-- one row's place of an order, laid -/
theorem lay_step {H H5 : Hp} {t : Addr} {ps : List Addr} {T : List (List Int)} {n j : Nat} {tm : Int} {pls : List Nat} (N5 : NewTab H H5 t ps (addTo tm (plO pls) j T)) (hT : Sh n T) (hP : Seat0 n pls) (hj : j < n) :
    ∃ (p : Addr) (r : List Int) (k : Nat), (addTo tm (plO pls) j T)[j]? = some r ∧ r.length = n ∧ H5 p = some (.lst (r.map V.int)) ∧ atI ((pls.map Int.ofNat).map V.int) (j : Int) = some (.int (k : Int)) ∧ atI (ps.map V.ref) (j : Int) = some (.ref p) ∧
      atI (r.map V.int) (k : Int) = some (.int (r.getD k 0)) ∧ ixN (r.map V.int).length (k : Int) = some k ∧
      NewTab H (upd H5 p (.lst ((r.map V.int).set k (.int (r.getD k 0 + tm))))) t ps (addTo tm (plO pls) (j + 1) T) ∧ p ∈ ps := by
  have hS := hT.add (tm := tm) (pls := plO pls) j (by omega)
  obtain ⟨r, er, lr⟩ := hS.at hj
  obtain ⟨p, hp, ep⟩ := pr_getR N5.2.1.rows er
  obtain ⟨k, hk, ek⟩ := hP.row hj
  have hkr : k < r.length := by omega
  refine ⟨p, r, k, er, lr, ep, atI_nat ?_, atI_nat (map_at hp), atI_nat ?_, ?_, ?_, List.mem_of_getElem? hp⟩
  · exact map_at (map_at (f := Int.ofNat) ek)
  · refine map_at ?_
    rw [List.getD_eq_getElem?_getD, List.getElem?_eq_getElem hkr]; rfl
  · unfold ixN; rw [if_pos (by omega), if_pos (by rw [List.length_map]; omega)]; simp
  · have := N5.set (r' := r.set k (r.getD k 0 + tm)) hp
    rw [setV_map] at this
    have e : addTo tm (plO pls) (j + 1) T = (addTo tm (plO pls) j T).set j (r.set k (r.getD k 0 + tm)) := by
      show (addTo tm (plO pls) j T).set j (addAt tm ((addTo tm (plO pls) j T).getD j []) ((plO pls).getD j none)) = _
      have eD : (plO pls).getD j none = some (k : Int) := by rw [List.getD_eq_getElem?_getD, plO_at.mpr ek]; rfl
      rw [eD, getD_at er]; rfl
    rw [e]; exact this
end Ev

namespace Ev
open PySem L2
/-! ### the fewest times -/
def spLone : Sp := fun vs H Q _ => ∃ (n k : Nat) (v : Int), vs = [.int (n : Int), .int (k : Int), .int v] ∧ n ≤ 8 ∧ ∀ (l : Addr) (H' : Hp), Same H H' → H l = none → H' l = some (.lst ((lone n k v).map V.int)) → Q (.ref l) H'
def spLeveled : Sp := fun vs H Q _ => ∃ (n : Nat) (a p q : Addr) (ps : List Addr) (T : List (List Int)) (g : Int), vs = [.ref a, .ref p, .ref q, .int g] ∧ Tab H a ps T ∧ Sh n T ∧ n ≤ 8 ∧ H p = some (.lst ((rowsS T).map V.int)) ∧ H q = some (.lst ((colsS T).map V.int)) ∧
  ∀ (t : Addr) (qs : List Addr) (H' : Hp), NewTab H H' t qs (wide n T g) → Q (.ref t) H'
def spPartOf : Sp := fun vs H Q _ => ∃ (n : Nat) (l : Addr) (pls : List Nat), vs = [.int (n : Int), .ref l] ∧ H l = some (.lst (nV pls)) ∧ pls.length ≤ 100 ∧ ∀ (m : Addr) (H' : Hp), Same H H' → H m = none → H' m = some (.lst ((partN n pls).map plV)) → Q (.ref m) H'
structure Fewest (T : List (List Int)) (g : Int) (prs : List Rd3) : Prop where
  mem : g ∈ rowsS T ++ colsS T
  max : ∀ x ∈ rowsS T ++ colsS T, x ≤ g
  ev : ∃ R left, Ev3 (T.length + T.length) (wide T.length T g) g R left prs ∧ ¬ 0 < left
def spFewest : Sp := fun vs H Q _ => ∃ (a : Addr) (ps : List Addr) (T : List (List Int)), vs = [.ref a] ∧ Tab H a ps T ∧ Valid T ∧
  ∀ (t : Addr) (tls : List (Addr × Addr)) (prs : List Rd3) (g : Int) (H' : Hp), NewPrs H H' t tls (prs.map (toPart T.length)) → Fewest T g prs → Q (.ref t) H'
theorem Valid.nn {T : List (List Int)} (h : Valid T) : ∀ r c, r < T.length → c < T.length → 0 ≤ cellT T r c := fun r c hr hc => by
  obtain ⟨q, e, l⟩ := h.sh.at hr
  have hcq : c < q.length := by omega
  have : cellT T r c = q[c] := by
    unfold cellT
    rw [getD_at e, List.getD_eq_getElem?_getD, List.getElem?_eq_getElem hcq]; rfl
  rw [this]
  exact ((h.2.2 q (List.mem_of_getElem? e)).2 _ (List.getElem_mem hcq)).1
theorem rowsS_rs {n : Nat} {T : List (List Int)} (h : Sh n T) {r : Nat} (hr : r < n) : (rowsS T)[r]? = some (rsT n T r) := by
  obtain ⟨q, e, _⟩ := h.at hr
  have := sum_row h hr
  rw [getD_at e] at this
  unfold rowsS
  rw [List.getElem?_map, e, ← this]; rfl
theorem colsS_cs {n : Nat} {T : List (List Int)} (h : Sh n T) {c : Nat} (hc : c < n) : (colsS T)[c]? = some (csT n T c) := by
  unfold colsS
  rw [List.getElem?_map, List.getElem?_range (by rw [h.1]; exact hc)]
  show some ((T.map fun r => r.getD c 0).sum) = _
  rw [sum_col h c]
theorem mem_both {n : Nat} {T : List (List Int)} {g : Int} (h : Sh n T) (hg : g ∈ rowsS T ++ colsS T) : (∃ r, r < n ∧ rsT n T r = g) ∨ ∃ c, c < n ∧ csT n T c = g := by
  rcases List.mem_append.mp hg with z | z
  · obtain ⟨i, hi, e⟩ := List.getElem_of_mem z
    rw [rowsS_len, h.1] at hi
    have := rowsS_rs h hi
    rw [List.getElem?_eq_getElem (by rw [rowsS_len, h.1]; exact hi), e] at this
    exact .inl ⟨i, hi, (Option.some.inj this).symm⟩
  · obtain ⟨i, hi, e⟩ := List.getElem_of_mem z
    rw [colsS_len, h.1] at hi
    have := colsS_cs h hi
    rw [List.getElem?_eq_getElem (by rw [colsS_len, h.1]; exact hi), e] at this
    exact .inr ⟨i, hi, (Option.some.inj this).symm⟩
theorem rs_mem {n : Nat} {T : List (List Int)} (h : Sh n T) {r : Nat} (hr : r < n) : rsT n T r ∈ rowsS T ++ colsS T := List.mem_append_left _ (List.mem_of_getElem? (rowsS_rs h hr))
theorem cs_mem {n : Nat} {T : List (List Int)} (h : Sh n T) {c : Nat} (hc : c < n) : csT n T c ∈ rowsS T ++ colsS T := List.mem_append_right _ (List.mem_of_getElem? (colsS_cs h hc))
theorem big_nn {n : Nat} {T : List (List Int)} {g : Int} (h : Sh n T) (nn : ∀ r c, r < n → c < n → 0 ≤ cellT T r c) (hg : g ∈ rowsS T ++ colsS T) : 0 ≤ g := by
  rcases mem_both h hg with ⟨r, hr, e⟩ | ⟨c, hc, e⟩
  · rw [← e]; exact sumN_nonneg fun c hc => nn r c hr hc
  · rw [← e]; exact sumN_nonneg fun r hr => nn r c hr hc
section
variable {T : List (List Int)} {g : Int} {prs : List Rd3}
theorem Fewest.seat (F : Fewest T g prs) : ∀ p ∈ prs, Seat0 (T.length + T.length) p.2 := fun p hp => let ⟨_, _, E, _⟩ := F.ev; (E.pr p hp).2
theorem Fewest.ok (F : Fewest T g prs) : ∀ pr ∈ prs.map (toPart T.length), PairOk T.length pr := fun pr hpr => by
  obtain ⟨p, hp, e⟩ := List.mem_map.mp hpr
  obtain ⟨R, left, E, _⟩ := F.ev
  rw [← e]
  exact ⟨(E.pr p hp).1, part_ok (E.pr p hp).2⟩
theorem Fewest.lay (V : Valid T) (F : Fewest T g prs) : layT T.length (prs.map (toPart T.length)) = T := by
  obtain ⟨R, left, E, hz⟩ := F.ev
  exact part_lay V.sh F.seat (E.done (wide_sh V.sh) hz)
theorem Fewest.sum (F : Fewest T g prs) : ((prs.map (toPart T.length)).map (·.1)).sum = g := by
  obtain ⟨R, left, E, hz⟩ := F.ev
  have h1 := E.sum
  have h2 := E.nn
  rw [List.map_map]
  show (prs.map (·.1)).sum = g
  omega
theorem Fewest.cnt (V : Valid T) (F : Fewest T g prs) : prs.length ≤ 144 := by
  obtain ⟨R, left, E, hz⟩ := F.ev
  have h1 := E.cnt
  have h2 := wide_pos (g := g) V.sh
  have h3 : 0 ≤ posT (T.length + T.length) R := sumN_nonneg fun r _ => sumN_nonneg fun c _ => by split <;> decide
  have h8 := V.2.1
  have h4 : ((T.length + T.length : Nat) : Int) * ((T.length : Int) + 1) ≤ 16 * 9 := Int.mul_le_mul (by omega) (by omega) (by omega) (by omega)
  omega
theorem Fewest.some (V : Valid T) (F : Fewest T g prs) : ∀ p ∈ prs, ∃ c : Int, Option.some c ∈ partN T.length p.2 := fun p hp => by
  obtain ⟨R, left, E, hz⟩ := F.ev
  have S := (E.pr p hp).2
  rcases mem_both V.sh F.mem with ⟨r, hr, e⟩ | ⟨c, hc, e⟩
  · obtain ⟨c, _, q⟩ := part_row V.sh S (E.sup p hp) hr e
    exact ⟨c, List.mem_of_getElem? q⟩
  · obtain ⟨r, _, q⟩ := part_col V.sh S (E.sup p hp) hc e
    exact ⟨c, List.mem_of_getElem? q⟩
theorem Fewest.full {s : Int} (V : Valid T) (L : Lev T.length T s) (F : Fewest T g prs) : g = s ∧ ∀ p ∈ prs, Option.none ∉ partN T.length p.2 := by
  have hg : g = s := by
    rcases mem_both V.sh F.mem with ⟨r, hr, e⟩ | ⟨c, hc, e⟩
    · rw [← e]; exact L.row r hr
    · rw [← e]; exact L.col c hc
  refine ⟨hg, fun p hp hm => ?_⟩
  obtain ⟨R, left, E, hz⟩ := F.ev
  obtain ⟨r, hr, e⟩ := List.getElem_of_mem hm
  have S := (E.pr p hp).2
  have hl := (part_ok S).1
  obtain ⟨c, _, q⟩ := part_row V.sh S (E.sup p hp) (r := r) (by omega) ((L.row r (by omega)).trans hg.symm)
  rw [List.getElem?_eq_getElem hr, e] at q
  cases q
end
theorem NewTab.cat {H H1 H2 : Hp} {t1 t2 t : Addr} {q1 q2 : List Addr} {A B : List (List Int)} (N1 : NewTab H H1 t1 q1 A) (N2 : NewTab H1 H2 t2 q2 B) (ht : H2 t = none) : NewTab H (upd H2 t (.lst (q1.map V.ref ++ q2.map V.ref))) t (q1 ++ q2) (A ++ B) := by
  have s3 := same_new ht (.lst (q1.map V.ref ++ q2.map V.ref))
  have T1 := (N1.2.1.same N2.1).same s3
  have T2 := N2.2.1.same s3
  have old : ∀ b ∈ q1, H1 b ≠ none := fun b hb z => by
    obtain ⟨j, hj, e⟩ := List.getElem_of_mem hb
    obtain ⟨r, _, er⟩ := pr_get N1.2.1.rows (i := j) (x := b) (by simp [hj, e])
    rw [er] at z; cases z
  have old2 : ∀ b ∈ q1 ++ q2, H2 b ≠ none := fun b hb z => by
    rcases List.mem_append.mp hb with hb | hb
    · exact old b hb (N2.1.free z)
    · obtain ⟨j, hj, e⟩ := List.getElem_of_mem hb
      obtain ⟨r, _, er⟩ := pr_get N2.2.1.rows (i := j) (x := b) (by simp [hj, e])
      rw [er] at z; cases z
  refine ⟨(N1.1.trans N2.1).trans s3, ⟨by rw [upd_same, List.map_append], pr_app T1.rows T2.rows, ?_⟩, fun b hb => ?_⟩
  · refine List.nodup_cons.mpr ⟨fun hm => old2 t hm ht, ?_⟩
    rw [List.nodup_append]
    refine ⟨(List.nodup_cons.mp N1.2.1.nd).2, (List.nodup_cons.mp N2.2.1.nd).2, fun x hx y hy e => ?_⟩
    rw [e] at hx
    exact old y hx (N2.2.2 y (List.mem_cons_of_mem _ hy))
  · rcases List.mem_cons.mp hb with e | hb
    · rw [e]; exact N1.1.free (N2.1.free ht)
    · rcases List.mem_append.mp hb with hb | hb
      · exact N1.2.2 b (List.mem_cons_of_mem _ hb)
      · exact N1.1.free (N2.2.2 b (List.mem_cons_of_mem _ hb))
theorem cut_take (xs : List V) (n : Nat) : cutV xs none (some (n : Int)) = xs.take n := by
  unfold cutV
  rw [HT.sIx_none, HT.sIx_nat]
  simp only [List.drop_zero, Nat.sub_zero]
  by_cases h : n ≤ xs.length
  · rw [Nat.min_eq_left h]
  · rw [Nat.min_eq_right (by omega), List.take_length, List.take_of_length_le (by omega)]
end Ev
namespace Ev
open PySem L2
/-- a row put in another's place -/
theorem NewTab.row {H0 H : Hp} {t u : Addr} {ps : List Addr} {T : List (List Int)} {i : Nat} {r : List Int} (N : NewTab H0 H t ps T) (hi : i < ps.length) (eu : H u = some (.lst (r.map V.int))) (n1 : u ≠ t) (n2 : u ∉ ps) (n3 : H0 u = none) :
    NewTab H0 (upd H t (.lst ((ps.map V.ref).set i (.ref u)))) t (ps.set i u) (T.set i r) := by
  obtain ⟨d1, d2⟩ := List.nodup_cons.mp N.2.1.nd
  have kp : ∀ {o : HO}, ∀ {ps : List Addr} {T : List (List Int)}, t ∉ ps → Paired (fun p (r : List Int) => H p = some (.lst (r.map V.int))) ps T → Paired (fun p (r : List Int) => upd H t o p = some (.lst (r.map V.int))) ps T := fun {o ps T} nt q => by
    induction q with
    | nil => exact .nil
    | cons a r ih =>
      rw [List.mem_cons, not_or] at nt
      exact .cons (by rw [upd_ne (Ne.symm nt.1)]; exact a) (ih nt.2)
  have st : ∀ {o : HO} {ps : List Addr} {T : List (List Int)} {i : Nat}, Paired (fun p (r : List Int) => upd H t o p = some (.lst (r.map V.int))) ps T → Paired (fun p (r : List Int) => upd H t o p = some (.lst (r.map V.int))) (ps.set i u) (T.set i r) := fun {o ps T i} q => by
    induction q generalizing i with
    | nil => simpa using Paired.nil
    | cons a r' ih =>
      cases i with
      | zero => exact .cons (by rw [upd_ne n1]; exact eu) r'
      | succ i => exact .cons a ih
  refine ⟨same_upd N.1 (N.2.2 t List.mem_cons_self) _, ⟨by rw [upd_same, List.map_set], st (kp d1 N.2.1.rows), ?_⟩, fun b hb => ?_⟩
  · refine List.nodup_cons.mpr ⟨fun hm => ?_, ?_⟩
    · rcases mem_set hm with z | z
      · exact d1 z
      · exact n1 z.symm
    · have : ∀ {ps : List Addr} {i : Nat}, ps.Nodup → u ∉ ps → (ps.set i u).Nodup := fun {ps i} nd nu => by
        induction ps generalizing i with
        | nil => simp
        | cons a ps ih =>
          obtain ⟨e1, e2⟩ := List.nodup_cons.mp nd
          rw [List.mem_cons, not_or] at nu
          cases i with
          | zero => exact List.nodup_cons.mpr ⟨nu.2, e2⟩
          | succ i =>
            refine List.nodup_cons.mpr ⟨fun hm => ?_, ih e2 nu.2⟩
            rcases mem_set hm with z | z
            · exact e1 z
            · exact nu.1 z.symm
      exact this d2 n2
  · rcases List.mem_cons.mp hb with e | hb
    · rw [e]; exact N.2.2 t List.mem_cons_self
    · rcases mem_set hb with z | z
      · exact N.2.2 b (List.mem_cons_of_mem _ z)
      · rw [z]; exact n3
theorem Bd.row {n i : Nat} {b : Nat → Int} {T : List (List Int)} {r : List Int} (h : Bd n b T) (hr : r.length = n ∧ ∀ x ∈ r, 0 ≤ x ∧ x ≤ b i) : Bd n b (T.set i r) := by
  refine ⟨by rw [List.length_set]; exact h.1, fun k q hq => ?_⟩
  by_cases e : k = i
  · subst e
    have hk : k < T.length := by have := (List.getElem?_eq_some_iff.mp hq).1; rw [List.length_set] at this; exact this
    rw [List.getElem?_set_self hk] at hq
    cases hq; exact hr
  · rw [List.getElem?_set_ne (Ne.symm e)] at hq
    exact h.2 k q hq
theorem Lev.bd {n : Nat} {T : List (List Int)} {s b : Int} (L : Lev n T s) (h : s ≤ b) : Bd n (fun _ => b) T := ⟨L.sh.1, fun j r hr => by
  obtain ⟨a, c⟩ := L.mem (List.mem_of_getElem? hr)
  exact ⟨a, fun x hx => by have := c x hx; show 0 ≤ x ∧ x ≤ b; omega⟩⟩
theorem pl_flat (pls : List (Option Int)) : (pls.map plV).all flatV = true := by
  rw [List.all_eq_true]
  intro x hx
  obtain ⟨o, _, e⟩ := List.mem_map.mp hx
  rw [← e]; cases o <;> rfl
theorem pl_none {pls : List (Option Int)} (h : none ∉ pls) : inV .non (pls.map plV) = false := by
  unfold inV
  rw [List.any_eq_false]
  intro x hx
  obtain ⟨o, ho, e⟩ := List.mem_map.mp hx
  cases o with
  | none => exact absurd ho h
  | some c => rw [← e]; simp [plV, eqV]
end Ev
namespace L2
theorem sl_lK {X : Cx} (K : PySem.W.Frag) (h : X.K = K := by rfl) : SlR X (rSlL K) := by subst h; exact sl_list
end L2

namespace Zs
open PySem
/-! ### the table of a set: where a search ends -/
theorem sub_len : ∀ {l m : List Nat}, l.Nodup → (∀ x ∈ l, x ∈ m) → l.length ≤ m.length
  | [], _, _, _ => Nat.zero_le _
  | a :: r, m, hn, h => by
    obtain ⟨h1, h2⟩ := List.nodup_cons.mp hn
    have := sub_len (m := m.erase a) h2 fun x hx => (List.mem_erase_of_ne (fun e : x = a => h1 (e ▸ hx))).mpr (h x (List.mem_cons_of_mem _ hx))
    have ha := h a List.mem_cons_self
    rw [List.length_erase_of_mem ha] at this
    have := List.length_pos_of_mem ha
    rw [List.length_cons]; omega
def lf (M i : Nat) : Nat := (i * 5 + 1) % M
def vis (M : Nat) : Nat → Nat → Nat
  | 0, _ => 0
  | k + 1, i => 2 ^ i ||| vis M k (lf M i)
def itr (M : Nat) : Nat → Nat → Nat
  | 0, i => i
  | k + 1, i => itr M k (lf M i)
theorem vis_test {M : Nat} : ∀ {k i j : Nat}, (vis M k i).testBit j = true → ∃ m, m < k ∧ itr M m i = j
  | 0, i, j, h => by simp [vis] at h
  | k + 1, i, j, h => by
    unfold vis at h
    rw [Nat.testBit_or, Bool.or_eq_true] at h
    rcases h with h | h
    · rw [Nat.testBit_two_pow] at h
      exact ⟨0, by omega, by simpa [itr] using h⟩
    · obtain ⟨m, hm, e⟩ := vis_test h
      exact ⟨m + 1, by omega, e⟩
theorem full7 : ∀ i, i < 8 → vis 8 8 i = 2 ^ 8 - 1 := by decide +kernel
theorem full31 : ∀ i, i < 32 → vis 32 32 i = 2 ^ 32 - 1 := by decide +kernel
theorem full127 : ∀ i, i < 128 → vis 128 128 i = 2 ^ 128 - 1 := by decide +kernel
def Gd (mask : Nat) : Prop := mask = 7 ∨ mask = 31 ∨ mask = 127
theorem cyc {mask i j : Nat} (g : Gd mask) (hi : i ≤ mask) (hj : j ≤ mask) : ∃ m, m ≤ mask ∧ itr (mask + 1) m i = j := by
  have key : vis (mask + 1) (mask + 1) i = 2 ^ (mask + 1) - 1 := by
    rcases g with rfl | rfl | rfl
    · exact full7 i (by omega)
    · exact full31 i (by omega)
    · exact full127 i (by omega)
  have t : (vis (mask + 1) (mask + 1) i).testBit j = true := by
    rw [key, Nat.testBit_two_pow_sub_one]; exact decide_eq_true (by omega)
  obtain ⟨m, hm, e⟩ := vis_test t
  exact ⟨m, by omega, e⟩
def lp (mask : Nat) : Nat → Nat → Nat → Nat × Nat
  | 0, i, pb => (i, pb)
  | k + 1, i, pb => lp mask k (SetTable.leap mask i pb).1 (SetTable.leap mask i pb).2
theorem lp_zero {mask : Nat} : ∀ (k i : Nat), (lp mask k i 0).1 = itr (mask + 1) k i
  | 0, _ => rfl
  | k + 1, i => by
    show (lp mask k ((i * 5 + 1 + 0 / 32) % (mask + 1)) (0 / 32)).1 = itr (mask + 1) k ((i * 5 + 1) % (mask + 1))
    rw [Nat.zero_div, Nat.add_zero]
    exact lp_zero k _
theorem lp_hit {mask j : Nat} (g : Gd mask) (hj : j ≤ mask) : ∀ (n i pb : Nat), i ≤ mask → pb < 32 ^ n → ∃ k, k ≤ mask + n ∧ (lp mask k i pb).1 = j
  | 0, i, pb, hi, hp => by
    have : pb = 0 := by simpa using hp
    subst this
    obtain ⟨m, hm, e⟩ := cyc g hi hj
    exact ⟨m, hm, by rw [lp_zero]; exact e⟩
  | n + 1, i, pb, hi, hp => by
    obtain ⟨k, hk, e⟩ := lp_hit g hj n (SetTable.leap mask i pb).1 (SetTable.leap mask i pb).2 (by
      show (i * 5 + 1 + pb / 32) % (mask + 1) ≤ mask
      have := Nat.mod_lt (i * 5 + 1 + pb / 32) (show mask + 1 > 0 by omega)
      omega) (by
      show pb / 32 < 32 ^ n
      rw [Nat.pow_succ] at hp
      exact Nat.div_lt_of_lt_mul (by rw [Nat.mul_comm]; exact hp))
    exact ⟨k + 1, by omega, e⟩
theorem bits_lt (h : Int) : SetTable.bits h < 32 ^ 13 := by
  unfold SetTable.bits
  have h1 := Int.emod_nonneg h (show (2 ^ 64 : Int) ≠ 0 by decide)
  have h2 := Int.emod_lt_of_pos h (show (0 : Int) < 2 ^ 64 by decide)
  have h3 : (2 ^ 64 : Int) < ((32 ^ 13 : Nat) : Int) := by decide
  omega
theorem start_hit {mask j : Nat} (g : Gd mask) (hj : j ≤ mask) (h : Int) : ∃ k, k ≤ mask + 13 ∧ (lp mask k (SetTable.bits h % (mask + 1)) (SetTable.bits h)).1 = j :=
  lp_hit g hj 13 _ _ (by have := Nat.mod_lt (SetTable.bits h) (show mask + 1 > 0 by omega); omega) (bits_lt h)
/-! ### the search -/
def Reach (t : SetTable) : Nat → SetTable.Probe → Prop
  | 0, p => t.slot p.j = .empty ∧ p.dummy = none
  | m + 1, p => p.dummy = none ∧ (t.slot p.j = .empty ∨ ((∃ i, t.slot p.j = .live i) ∧ Reach t m (t.advance p)))
theorem Reach.up {t : SetTable} : ∀ {m : Nat} {p : SetTable.Probe}, Reach t m p → Reach t (m + 1) p
  | 0, _, h => ⟨h.2, .inl h.1⟩
  | m + 1, _, h => ⟨h.1, h.2.imp id fun ⟨a, b⟩ => ⟨a, Reach.up b⟩⟩
theorem Reach.le {t : SetTable} {m n : Nat} {p : SetTable.Probe} (h : Reach t m p) (hn : m ≤ n) : Reach t n p := by
  induction hn with
  | refl => exact h
  | step _ ih => exact ih.up
theorem slot_two {t : SetTable} (hd : t.dummies = #[]) (j : Nat) : t.slot j = .empty ∨ ∃ i, t.slot j = .live i := by
  unfold SetTable.slot
  dsimp only
  split
  · exact .inr ⟨_, rfl⟩
  · have : SetTable.has t.dummies j = false := by rw [hd]; unfold SetTable.has; simp
    rw [this]; exact .inl rfl
theorem slot_free {t : SetTable} (hd : t.dummies = #[]) {j : Nat} (h : j ∉ t.place.toList) : t.slot j = .empty := by
  rcases slot_two hd j with e | ⟨i, e⟩
  · exact e
  · unfold SetTable.slot at e
    dsimp only at e
    split at e
    · rename_i z
      have z := eq_of_beq z
      rw [← Array.getElem?_toList] at z
      exact absurd (List.mem_of_getElem? z) h
    · split at e <;> cases e
theorem slot_live {t : SetTable} {j i : Nat} (e : t.slot j = .live i) : i < t.place.size := by
  unfold SetTable.slot at e
  dsimp only at e
  split at e
  · rename_i z
    have z := eq_of_beq z
    injection e with e
    rw [← e]
    exact (Array.getElem?_eq_some_iff.mp z).1
  · split at e <;> cases e
def st (t : SetTable) (i pb : Nat) : SetTable.Probe := { j := i, more := SetTable.runEnd t.mask i - i, i := i, perturb := pb, dummy := none }
theorem run {t : SetTable} (hd : t.dummies = #[]) {m : Nat} : ∀ (r : Nat) (p : SetTable.Probe), p.more = r → p.dummy = none → Reach t m (st t (SetTable.leap t.mask p.i p.perturb).1 (SetTable.leap t.mask p.i p.perturb).2) → Reach t (m + r + 1) p
  | 0, p, hr, hn, h => by
    refine ⟨hn, (slot_two hd p.j).imp id fun l => ⟨l, ?_⟩⟩
    have e : t.advance p = st t (SetTable.leap t.mask p.i p.perturb).1 (SetTable.leap t.mask p.i p.perturb).2 := by
      unfold SetTable.advance st
      rw [if_neg (by omega)]
      rw [← hn]
    rw [e]; exact h
  | r + 1, p, hr, hn, h => by
    refine ⟨hn, (slot_two hd p.j).imp id fun l => ⟨l, ?_⟩⟩
    have e : t.advance p = { p with j := p.j + 1, more := p.more - 1 } := by
      unfold SetTable.advance
      rw [if_pos (by omega)]
    rw [e]
    exact run hd r _ (by show p.more - 1 = r; omega) hn h
theorem st_reach {t : SetTable} (hd : t.dummies = #[]) {j : Nat} (he : t.slot j = .empty) : ∀ (k i pb : Nat), (lp t.mask k i pb).1 = j → Reach t (10 * k) (st t i pb)
  | 0, i, pb, e => ⟨by show t.slot i = _; rw [show i = j from e]; exact he, rfl⟩
  | k + 1, i, pb, e => by
    have h := st_reach hd he k _ _ e
    have := run hd (m := 10 * k) _ (st t i pb) rfl rfl h
    refine this.le ?_
    show 10 * k + (SetTable.runEnd t.mask i - i) + 1 ≤ 10 * (k + 1)
    unfold SetTable.runEnd
    split <;> omega
theorem free_slot {t : SetTable} (hd : t.dummies = #[]) (hs : t.place.size ≤ t.mask) : ∃ j, j ≤ t.mask ∧ t.slot j = .empty := by
  refine Decidable.byContradiction fun hn => ?_
  have := sub_len (l := List.range (t.mask + 1)) (m := t.place.toList) List.nodup_range fun x hx => Decidable.byContradiction fun hx2 => hn ⟨x, by rw [List.mem_range] at hx; omega, slot_free hd hx2⟩
  rw [List.length_range, Array.length_toList] at this
  omega
theorem reach_start {t : SetTable} (g : Gd t.mask) (hd : t.dummies = #[]) (hs : t.place.size ≤ t.mask) (h : Int) : Reach t (10 * (t.mask + 13)) (t.probeStart h) := by
  obtain ⟨j, hj, he⟩ := free_slot hd hs
  obtain ⟨k, hk, e⟩ := start_hit g hj h
  exact (st_reach hd he k _ _ e).le (by omega)
theorem go_reach {t : SetTable} {hashAt : Nat → Int} {h : Int} : ∀ {m fuel : Nat} {p : SetTable.Probe}, Reach t m p → m < fuel →
    (∃ j, SetTable.probe.go t hashAt h fuel p = some (.empty j none)) ∨ (∃ j i next m', SetTable.probe.go t hashAt h fuel p = some (.candidate j i next) ∧ t.slot j = .live i ∧ m' < m ∧ Reach t m' next)
  | m, 0, p, _, hf => absurd hf (by omega)
  | 0, f + 1, p, R, _ => by
    refine .inl ⟨p.j, ?_⟩
    unfold SetTable.probe.go
    rw [R.1, R.2]
  | m + 1, f + 1, p, R, hf => by
    obtain ⟨hn, e | ⟨⟨i, e⟩, R2⟩⟩ := R
    · refine .inl ⟨p.j, ?_⟩
      unfold SetTable.probe.go
      rw [e, hn]
    · unfold SetTable.probe.go
      rw [e]
      dsimp only
      by_cases z : (hashAt i == h) = true
      · rw [if_pos z]
        exact .inr ⟨p.j, i, t.advance p, m, rfl, e, by omega, R2⟩
      · rw [if_neg z]
        rcases go_reach (hashAt := hashAt) (h := h) R2 (show m < f by omega) with ⟨j, e1⟩ | ⟨j, i', nx, m', e1, e2, e3, e4⟩
        · exact .inl ⟨j, e1⟩
        · exact .inr ⟨j, i', nx, m', e1, e2, by omega, e4⟩
theorem probe_reach {t : SetTable} {hashAt : Nat → Int} {h : Int} {m : Nat} {p : SetTable.Probe} {r : Option SetTable.Met} (R : Reach t m p) (hm : m ≤ 10 * (t.mask + 13)) (e : t.probe hashAt h p = r) :
    (∃ j, r = some (.empty j none)) ∨ (∃ j i next m', r = some (.candidate j i next) ∧ t.slot j = .live i ∧ m' < m ∧ Reach t m' next) := by
  subst e
  exact go_reach R (by unfold SetTable.turns; omega)
end Zs

namespace Zs
open PySem
/-! ### the table laid anew -/
theorem free_some {mask : Nat} {owner : Array (Option Nat)} {j : Nat} (ho : (owner.getD j (some 0)).isNone = true) : ∀ (k fuel i pb : Nat), (lp mask k i pb).1 = j → k < fuel →
    ∃ j', SetTable.layClean.free mask owner fuel i pb = some j' ∧ (owner.getD j' (some 0)).isNone = true
  | k, 0, _, _, _, hf => absurd hf (by omega)
  | k, f + 1, i, pb, e, hf => by
    unfold SetTable.layClean.free
    cases z : (List.range (SetTable.runEnd mask i + 1 - i)).find? fun k => (owner.getD (i + k) (some 0)).isNone with
    | some x =>
      have zz := List.find?_some z
      exact ⟨i + x, rfl, zz⟩
    | none =>
      cases k with
      | zero =>
        have := List.find?_eq_none.mp z 0 (List.mem_range.mpr (by unfold SetTable.runEnd; split <;> omega))
        have e : i = j := e
        rw [Nat.add_zero, e] at this
        exact absurd ho this
      | succ k => exact free_some ho k f _ _ e (by omega)
def OwnOk (mask : Nat) (owner : Array (Option Nat)) (k : Nat) : Prop := owner.size = mask + 1 ∧ owner.toList.countP Option.isSome = k ∧ ∀ x ∈ owner.toList, ∀ v, x = some v → v < k
theorem count_set : ∀ {l : List (Option Nat)} {j k : Nat}, l[j]? = some none → (l.set j (some k)).countP Option.isSome = l.countP Option.isSome + 1
  | [], _, _, h => by simp at h
  | x :: r, 0, k, h => by
    have : x = none := by simpa using h
    subst this
    simp [List.countP_cons]
  | x :: r, j + 1, k, h => by
    have h : r[j]? = some none := by simpa using h
    rw [List.set_cons_succ, List.countP_cons, List.countP_cons, count_set h]
    omega
theorem count_less : ∀ {l : List (Option Nat)}, l.countP Option.isSome < l.length → ∃ j : Nat, l[j]? = some none
  | [], h => by simp at h
  | none :: r, _ => ⟨0, rfl⟩
  | some x :: r, h => by
    obtain ⟨j, e⟩ := count_less (l := r) (by rw [List.countP_cons, List.length_cons] at h; simp at h; omega)
    exact ⟨j + 1, e⟩
theorem lay_step {mask : Nat} {owner : Array (Option Nat)} {k : Nat} (g : Gd mask) (O : OwnOk mask owner k) (hk : k ≤ mask) (h : Int) :
    ∃ j, SetTable.layClean.free mask owner (SetTable.turns mask) (SetTable.bits h % (mask + 1)) (SetTable.bits h) = some j ∧ OwnOk mask (owner.setIfInBounds j (some k)) (k + 1) := by
  obtain ⟨o1, o2, o3⟩ := O
  obtain ⟨j, ej⟩ := count_less (l := owner.toList) (by rw [o2, Array.length_toList]; omega)
  have hj : j < owner.toList.length := (List.getElem?_eq_some_iff.mp ej).1
  rw [Array.length_toList] at hj
  obtain ⟨n, hn, e⟩ := start_hit g (show j ≤ mask by omega) h
  obtain ⟨j', e1, e2⟩ := free_some (owner := owner) (j := j) (by
    rw [Array.getElem?_toList] at ej
    rw [Array.getD_eq_getD_getElem?, ej]; rfl) n (SetTable.turns mask) _ _ e (by unfold SetTable.turns; omega)
  have hj' : owner.toList[j']? = some none := by
    rw [Array.getD_eq_getD_getElem?] at e2
    rw [Array.getElem?_toList]
    cases z : owner[j']? with
    | none => rw [z] at e2; simp at e2
    | some x => rw [z] at e2; cases x with
      | none => rfl
      | some _ => simp at e2
  refine ⟨j', e1, by rw [Array.size_setIfInBounds]; exact o1, ?_, ?_⟩
  · rw [Array.toList_setIfInBounds, count_set hj', o2]
  · rw [Array.toList_setIfInBounds]
    intro x hx v e
    rcases List.mem_or_eq_of_mem_set hx with z | z
    · have := o3 x z v e; omega
    · rw [z] at e; injection e with e; omega
theorem fold_lay {mask : Nat} (g : Gd mask) : ∀ (l : List Int) (owner : Array (Option Nat)) (k : Nat), OwnOk mask owner k → k + l.length ≤ mask + 1 →
    ∃ owner', l.foldl (fun (acc : Option (Array (Option Nat) × Nat)) h => do
      let (owner, k) ← acc
      let j ← SetTable.layClean.free mask owner (SetTable.turns mask) (SetTable.bits h % (mask + 1)) (SetTable.bits h)
      pure (owner.setIfInBounds j (some k), k + 1)) (some (owner, k)) = some (owner', k + l.length) ∧ OwnOk mask owner' (k + l.length)
  | [], owner, k, O, _ => ⟨owner, rfl, O⟩
  | h :: r, owner, k, O, hl => by
    rw [List.length_cons] at hl
    obtain ⟨j, e, O2⟩ := lay_step g O (by omega) h
    obtain ⟨ow, e2, O3⟩ := fold_lay g r _ (k + 1) O2 (by omega)
    refine ⟨ow, ?_, by rw [List.length_cons, show k + (r.length + 1) = k + 1 + r.length by omega]; exact O3⟩
    rw [List.foldl_cons, List.length_cons, show k + (r.length + 1) = k + 1 + r.length by omega, ← e2]
    show List.foldl _ (Option.bind (SetTable.layClean.free mask owner (SetTable.turns mask) (SetTable.bits h % (mask + 1)) (SetTable.bits h)) _) r = _
    rw [e]; rfl
theorem clean_some {mask : Nat} (g : Gd mask) {hashes : Array Int} (hs : hashes.size ≤ mask + 1) : ∃ owner, SetTable.layClean mask hashes = some owner ∧ OwnOk mask owner hashes.size := by
  obtain ⟨ow, e, O⟩ := fold_lay g hashes.toList (Array.replicate (mask + 1) none) 0 ⟨by simp, by simp [List.countP_replicate], fun x hx v e => by
    simp at hx; rw [hx] at e; cases e⟩ (by rw [Array.length_toList]; omega)
  rw [Array.length_toList, Nat.zero_add] at e O
  refine ⟨ow, ?_, O⟩
  unfold SetTable.layClean
  rw [← Array.foldl_toList]
  rw [e]; rfl
theorem live_len (l : List (Option Nat)) : ((List.range l.length).filterMap fun j => (l.getD j none).map (Prod.mk j)).length = l.countP Option.isSome := by
  rw [List.length_filterMap_eq_countP]
  have e : l = (List.range l.length).map fun j => l.getD j none := by
    apply List.ext_getElem?
    intro j
    rw [List.getElem?_map]
    by_cases h : j < l.length
    · rw [List.getElem?_range h, List.getElem?_eq_getElem h]; simp [h]
    · rw [List.getElem?_eq_none (by omega), List.getElem?_eq_none (by rw [List.length_range]; omega)]; rfl
  conv => rhs; rw [e, List.countP_map]
  congr 1
  funext j
  simp
theorem laid_some {mask : Nat} (g : Gd mask) {hashes : Array Int} (hs : hashes.size ≤ mask + 1) (finger moves : Nat) (led plain : Bool) :
    ∃ t' order, SetTable.laid mask finger moves led plain hashes = some (t', order) ∧ t'.mask = mask ∧ t'.dummies = #[] ∧ t'.place.size = hashes.size ∧ order.size = hashes.size ∧ ∀ k ∈ order.toList, k < hashes.size := by
  obtain ⟨ow, e, o1, o2, o3⟩ := clean_some g hs
  have eL : ((List.range (mask + 1)).filterMap fun j => (ow.getD j none).map (Prod.mk j)).length = hashes.size := by
    have L := live_len ow.toList
    have e9 : ow.toList.length = mask + 1 := by rw [Array.length_toList, o1]
    rw [e9, o2] at L
    rw [← L]
    simp [Array.getD_eq_getD_getElem?, List.getD_eq_getElem?_getD]
  unfold SetTable.laid
  rw [e]
  refine ⟨_, _, rfl, rfl, rfl, ?_, ?_, fun k hk => ?_⟩
  · simpa using eL
  · simpa using eL
  · simp only [List.mem_map, List.mem_filterMap] at hk
    obtain ⟨p, ⟨j, _, e1⟩, rfl⟩ := hk
    cases z : ow.getD j none with
    | none => rw [z] at e1; cases e1
    | some v =>
      rw [z] at e1
      have : p = (j, v) := by simpa using e1.symm
      subst this
      rw [Array.getD_eq_getD_getElem?] at z
      cases y : ow[j]? with
      | none => rw [y] at z; cases z
      | some x =>
        rw [y] at z
        rw [← Array.getElem?_toList] at y
        exact o3 x (List.mem_of_getElem? y) v z
end Zs

namespace Zs
open PySem PySem.Spec PyProof.Rows
section
variable {prog : Program} {w : World} {K : Type} [DecidableEq K] {knd : PySem.KeyKind prog w K} {A : Around} {E : Value → Shared → Prop} {s : Shared}
theorem cls_val (n : Nat) {v : Value} (h : carriedByValue v = true) : ofAClassStatement n v = pure false := by
  cases v with
  | ref a => simp [carriedByValue] at h
  | _ => first | rfl | simp [ofAClassStatement] | (unfold ofAClassStatement; rfl)
theorem hbv (n : Nat) {v : Value} (h : carriedByValue v = true) : ∃ b, hashByValue n v = pure b := by
  cases v with
  | ref a => simp [carriedByValue] at h
  | _ => first | exact ⟨_, rfl⟩ | (cases n <;> exact ⟨_, rfl⟩) | (unfold hashByValue; exact ⟨_, rfl⟩)
theorem cls_false {ks : List K} {a : Addr} {Q : Bool → Shared → Prop} (hk : IsTupleKey knd s.heap ks a) (h : Q false s) : wpAny (model prog w) A (ofAClassStatement 8 (.ref a)) Q E s := by
  have hT := hk.typeIs
  obtain ⟨o, items, n, ho, hc, hd, hi⟩ := hk
  unfold ofAClassStatement
  refine wpAny_bind (wpAny_typeOf hT ?_)
  show wpAny _ _ (if (("tuple" : String) == "tuple") = true then _ else _) _ _ s
  rw [if_pos (by decide)]
  refine wpAny_bind (wpAny_pure ?_)
  simp only [Bool.not_true, Bool.false_eq_true, if_false]
  refine wpAny_bind (wpAny_seqItems ho hd ?_)
  refine wpAny_bind ?_
  rw [← Array.forIn_toList]
  refine wpAny_forIn_list _ (fun rest r s' => r.1 = none ∧ s' = s ∧ ∀ v ∈ rest, carriedByValue v = true) _ ?_ ?_ _ _ ⟨rfl, rfl, hi.byValue⟩
  · rintro v rest r s' ⟨hr, rfl, hall⟩
    rw [cls_val _ (hall v List.mem_cons_self)]
    refine wpAny_bind (wpAny_pure ?_)
    simp only [Bool.false_eq_true, if_false]
    exact wpAny_pure ⟨rfl, rfl, fun u hu' => hall u (List.mem_cons_of_mem _ hu')⟩
  · rintro ⟨r1, r2⟩ s' ⟨hr, rfl, _⟩
    simp only at hr
    subst hr
    exact wpAny_pure h
theorem seen_false {ks : List K} {a : Addr} (hk : IsTupleKey knd s.heap ks a) {l : List Value} (hl : ∀ y ∈ l, ∃ b ks', y = .ref b ∧ IsTupleKey knd s.heap ks' b) {Q : Bool → Shared → Prop} (h : Q false s) :
    wpAny (model prog w) A (searchCouldBeSeen (.ref a) l) Q E s := by
  unfold searchCouldBeSeen
  refine wpAny_bind ?_
  refine wpAny_forIn_list _ (fun rest r s' => r.1 = none ∧ s' = s ∧ ∀ y ∈ rest, ∃ b ks', y = .ref b ∧ IsTupleKey knd s.heap ks' b) _ ?_ ?_ _ _ ⟨rfl, rfl, hl⟩
  · rintro v rest r s' ⟨hr, rfl, hall⟩
    obtain ⟨b, ks', rfl, hb⟩ := hall v List.mem_cons_self
    have hall2 := fun u hu' => hall u (List.mem_cons_of_mem _ hu')
    dsimp only
    split
    · exact wpAny_pure ⟨rfl, rfl, hall2⟩
    · refine wpAny_bind (wpAny_eqIsQuiet_tuple hk ?_)
      simp only [Bool.not_true, Bool.false_eq_true, if_false]
      refine wpAny_bind (wpAny_eqIsQuiet_tuple hb ?_)
      simp only [Bool.not_true, Bool.false_eq_true, if_false]
      refine wpAny_bind (cls_false hk ?_)
      simp only [Bool.false_eq_true, if_false]
      refine wpAny_bind (cls_false hb ?_)
      simp only [Bool.false_eq_true, if_false]
      exact wpAny_pure ⟨rfl, rfl, hall2⟩
  · rintro ⟨r1, r2⟩ s' ⟨hr, rfl, _⟩
    simp only at hr
    subst hr
    exact wpAny_pure h
theorem byval_any {ks : List K} {a : Addr} {Q : Bool → Shared → Prop} (hk : IsTupleKey knd s.heap ks a) (h : ∀ b, Q b s) : wpAny (model prog w) A (hashByValue 8 (.ref a)) Q E s := by
  have hT := hk.typeIs
  obtain ⟨o, items, n, ho, hc, hd, hi⟩ := hk
  unfold hashByValue
  refine wpAny_bind (wpAny_specialOf hT F.slot_tuple_hash.lookup ?_)
  show wpAny _ _ (seqItems? (.ref a) >>= _) _ _ s
  refine wpAny_bind (wpAny_seqItems ho hd ?_)
  refine wpAny_bind ?_
  show wpAny _ _ (forIn items _ _) _ _ s
  rw [← Array.forIn_toList]
  refine wpAny_forIn_list _ (fun rest r s' => r.1 = none ∧ s' = s ∧ ∀ v ∈ rest, carriedByValue v = true) _ ?_ ?_ _ _ ⟨rfl, rfl, hi.byValue⟩
  · rintro v rest r s' ⟨hr, rfl, hall⟩
    obtain ⟨b, e⟩ := hbv 7 (hall v List.mem_cons_self)
    rw [e]
    refine wpAny_bind (wpAny_pure ?_)
    cases b with
    | true =>
      simp only [Bool.not_true, Bool.false_eq_true, if_false]
      exact wpAny_pure ⟨rfl, rfl, fun u hu' => hall u (List.mem_cons_of_mem _ hu')⟩
    | false =>
      simp only [Bool.not_false, if_true]
      exact wpAny_pure (wpAny_pure (h _))
  · rintro ⟨r1, r2⟩ s' ⟨hr, rfl, _⟩
    simp only at hr
    subst hr
    exact wpAny_pure (h _)
end
end Zs

namespace Zs
open PySem PySem.Spec PyProof.Rows
section
variable {prog : Program} {w : World} {K : Type} [DecidableEq K] {knd : PySem.KeyKind prog w K} {A : Around} {E : Value → Shared → Prop} {s : Shared}
/-- a table of tuples that can be searched -/
structure TabOk (knd : PySem.KeyKind prog w K) (h : Heap) (es : Array (Int × Value)) (t : SetTable) (ks : List K) : Prop where
  size : t.place.size = es.size
  dum : t.dummies = #[]
  good : Gd t.mask
  room : es.size * 5 < t.mask * 3
  els : ∀ e ∈ es.toList, ∃ b ks', e.2 = .ref b ∧ IsTupleKey knd h ks' b ∧ ks' ≠ ks
theorem TabOk.fits {h : Heap} {es : Array (Int × Value)} {t : SetTable} {ks : List K} (T : TabOk knd h es t ks) : t.fits es.size = true := by
  have := T.room
  unfold SetTable.fits SetTable.fill
  rw [T.size, T.dum]
  simp
  omega
theorem search_free {a b : Addr} {o : Obj} {es : Array (Int × Value)} {ep : Nat} {t : SetTable} {ks : List K} (hu : A.units < cLine) (ho : s.heap.get? a = some o) (hd : o.data = .set es ep t)
    (T : TabOk knd s.heap es t ks) (hk : IsTupleKey knd s.heap ks b) {h : Int} {Q : SetFound → Shared → Prop} (q : ∀ j, Q (.free j false) s) :
    ∀ (m fuel : Nat) (stand : Option SetTable.Probe), Reach t m (stand.getD (t.probeStart h)) → m ≤ 10 * (t.mask + 13) → m < fuel → wpAny (model prog w) A (setSearchFrom a (.ref b) h true fuel stand) Q E s := by
  intro m
  induction m using Nat.strongRecOn with
  | _ m ih =>
  intro fuel stand R hm hf
  obtain ⟨f, rfl⟩ : ∃ f, fuel = f + 1 := ⟨fuel - 1, by omega⟩
  unfold setSearchFrom
  refine wpAny_bind (wpAny_setState_of ho hd T.fits ?_)
  dsimp only
  have hg : t.gaveWay = false := by unfold SetTable.gaveWay; rcases T.good with e | e | e <;> rw [e] <;> rfl
  rw [hg]
  simp only [Bool.false_eq_true, if_false]
  generalize hp : t.probe _ h (stand.getD (t.probeStart h)) = r
  rcases probe_reach R hm hp with ⟨j, rfl⟩ | ⟨j, i, nx, m', rfl, hl, hm', R'⟩
  · exact wpAny_pure (q j)
  · have hi := slot_live hl
    rw [T.size] at hi
    obtain ⟨e, ei⟩ : ∃ e, es[i]? = some e := ⟨es[i], Array.getElem?_eq_getElem hi⟩
    obtain ⟨b', ks', ey, hy, hne⟩ := T.els e (by rw [← Array.getElem?_toList] at ei; exact List.mem_of_getElem? ei)
    obtain ⟨hh, y⟩ := e
    dsimp only at ey
    subst ey
    have hsm : t.sameMemory t.moves t.mask = some true := by unfold SetTable.sameMemory; simp
    have fin := ih m' hm' f (some nx) R' (by omega) (by omega)
    have hall : ∀ y ∈ List.map (fun x => x.snd) (Array.filter (fun x => x.fst == h) es).toList, ∃ b ks', y = .ref b ∧ IsTupleKey knd s.heap ks' b := fun y hy => by
      obtain ⟨e, he, rfl⟩ := List.mem_map.mp hy
      rw [Array.toList_filter, List.mem_filter] at he
      obtain ⟨b, ks', z1, z2, _⟩ := T.els e he.1
      exact ⟨b, ks', z1, z2⟩
    cases hled : t.led with
    | true =>
      simp only [Bool.not_true, Bool.false_eq_true, if_false]
      rw [ei]
      refine wpAny_bind (wpAny_holding (wpAny_eqBool_tuple hu hy hk ?_))
      rw [decide_eq_false hne]
      refine wpAny_bind (wpAny_setState_of ho hd T.fits ?_)
      simp only [Bool.and_false, Bool.false_eq_true, if_false]
      rw [hsm]
      simp only [if_true]
      rw [hl]
      dsimp only
      rw [ei]
      refine wpAny_bind (wpAny_isSame_ref_self ?_)
      refine wpAny_bind (wpAny_pure ?_)
      simp only [if_true]
      exact fin
    | false =>
      simp only [Bool.not_false, if_true]
      refine wpAny_bind (seen_false hk hall ?_)
      simp only [Bool.false_eq_true, if_false]
      rw [ei]
      refine wpAny_bind (wpAny_holding (wpAny_eqBool_tuple hu hy hk ?_))
      rw [decide_eq_false hne]
      refine wpAny_bind (wpAny_setState_of ho hd T.fits ?_)
      simp only [Bool.and_false, Bool.false_eq_true, if_false]
      rw [hsm]
      simp only [if_true]
      rw [hl]
      dsimp only
      rw [ei]
      refine wpAny_bind (wpAny_isSame_ref_self ?_)
      refine wpAny_bind (wpAny_pure ?_)
      simp only [if_true]
      exact fin
end
end Zs

namespace Zs
open PySem PySem.Spec PyProof.Rows
section
variable {prog : Program} {w : World} {K : Type} [DecidableEq K] {knd : PySem.KeyKind prog w K} {A : Around} {E : Value → Shared → Prop} {s : Shared}
theorem grow_case {mask n : Nat} (g : Gd mask) (h1 : n * 5 < mask * 3) (h2 : (n + 1) * 5 ≥ mask * 3) (hn : n ≤ 60) :
    Gd (SetTable.sizeAbove (SetTable.grown (n + 1)) - 1) ∧ (n + 1) * 5 < (SetTable.sizeAbove (SetTable.grown (n + 1)) - 1) * 3 ∧ SetTable.sizeAbove (SetTable.grown (n + 1)) ≤ 128 := by
  rcases g with rfl | rfl | rfl
  · have : n = 4 := by omega
    subst this
    exact ⟨by right; left; decide, by decide, by decide⟩
  · have : n = 18 := by omega
    subst this
    exact ⟨by right; right; decide, by decide, by decide⟩
  · omega
theorem relay_ok {a : Addr} {o : Obj} {es : Array (Int × Value)} {ep : Nat} {t : SetTable} {wanted : Nat} (ho : s.heap.get? a = some o) (hd : o.data = .set es ep t) (hf : t.fits es.size = true)
    (g : Gd (SetTable.sizeAbove wanted - 1)) (h1 : SetTable.sizeAbove wanted ≤ 128) (h2 : es.size ≤ SetTable.sizeAbove wanted - 1) {Q : Unit → Shared → Prop}
    (q : ∀ (es' : Array (Int × Value)) (t' : SetTable), es'.size = es.size → t'.place.size = es.size → t'.dummies = #[] → t'.mask = SetTable.sizeAbove wanted - 1 → (∀ e ∈ es'.toList, e ∈ es.toList) → Q () { s with heap := s.heap.update a (Obj.putSet es' t') }) :
    wpAny (model prog w) A (setRelay a wanted) Q E s := by
  unfold setRelay
  refine wpAny_bind (wpAny_setState_of ho hd hf ?_)
  dsimp only
  rw [if_neg (by have := L2.small (n := 128) (by decide); omega)]
  obtain ⟨t', order, e, e1, e2, e3, e4, e5⟩ := laid_some g (hashes := es.map (·.1)) (by rw [Array.size_map]; omega) t.finger (t.movedTo (SetTable.sizeAbove wanted - 1)) t.led t.plain
  rw [Array.size_map] at e3 e4 e5
  have er : t.relaid (es.map (·.1)) wanted = some (t', order) := e
  rw [er]
  have hl : (order.filterMap (es[·]?)).size = es.size := by
    rw [← e4, ← Array.length_toList, Array.toList_filterMap, ← Array.length_toList]
    have : ∀ l : List Nat, (∀ k ∈ l, k < es.size) → (l.filterMap (es[·]?)).length = l.length := fun l => by
      induction l with
      | nil => intro _; rfl
      | cons x r ih =>
        intro h
        have hx := h x List.mem_cons_self
        rw [List.filterMap_cons_some (b := es[x]) (by rw [Array.getElem?_eq_getElem hx]), List.length_cons, List.length_cons, ih fun k hk => h k (List.mem_cons_of_mem _ hk)]
    exact this _ e5
  have hm : ∀ e ∈ (order.filterMap (es[·]?)).toList, e ∈ es.toList := fun e he => by
    rw [Array.toList_filterMap, List.mem_filterMap] at he
    obtain ⟨k, _, ek⟩ := he
    rw [← Array.getElem?_toList] at ek
    exact List.mem_of_getElem? ek
  refine wpAny_bind ?_
  show wpAny _ _ (if ((order.filterMap (es[·]?)).size != es.size) = true then (unsupported "internal:set-table-lost-an-element" >>= fun _ => pure (order.filterMap (es[·]?), t')) else pure (order.filterMap (es[·]?), t')) _ _ _
  rw [if_neg (by rw [hl]; simp)]
  exact wpAny_pure (wpAny_storeSet_of ho hd (q _ _ hl e3 e2 e1 hm) (by rw [hl]; have := L2.small (n := 128) (by decide); omega))
theorem put_get {h : Heap} {a : Addr} {o : Obj} {es : Array (Int × Value)} {ep : Nat} {t : SetTable} (ho : h.get? a = some o) (hd : o.data = .set es ep t) (es' : Array (Int × Value)) (t' : SetTable) :
    (h.update a (Obj.putSet es' t')).get? a = some { o with data := .set es' (ep + 1) t' } := by
  have := Heap.get?_update_self (Obj.putSet es' t') ho (by rw [putSet_of es' t' hd]; rfl)
  rw [putSet_of es' t' hd] at this; exact this
theorem add_new {a b : Addr} {o : Obj} {es : Array (Int × Value)} {ep : Nat} {t : SetTable} {ks : List K} {h : Int} (hu : A.units < cLine) (ho : s.heap.get? a = some o) (hex : o.ExactSet) (hd : o.data = .set es ep t)
    (T : TabOk knd s.heap es t ks) (hk : IsTupleKey knd s.heap ks b) (hn : es.size ≤ 60) {Q : Bool → Shared → Prop}
    (q : ∀ (h' : Heap) (o' : Obj) (es' : Array (Int × Value)) (ep' : Nat) (t' : SetTable), Heap.SameBut a s.heap h' → h'.get? a = some o' → o'.ExactSet → o'.data = .set es' ep' t' → es'.size = es.size + 1 → t'.place.size = es'.size → t'.dummies = #[] → Gd t'.mask →
      es'.size * 5 < t'.mask * 3 → (∀ e ∈ es'.toList, e ∈ es.toList ∨ e.2 = .ref b) → Q true { s with heap := h' }) :
    wpAny (model prog w) A (setAddHashed a (.ref b) h) Q E s := by
  have hmk : es.size ≤ t.mask := by have := T.room; omega
  have hm7 : t.mask ≤ 127 := by rcases T.good with e | e | e <;> omega
  unfold setAddHashed setAddHashedIn
  refine wpAny_holding (wpAny_bind (wpAny_setState_of ho hd T.fits ?_))
  dsimp only
  rw [show byScan (.ref b) es = false by simp [byScan, Value.scannable]]
  simp only [Bool.false_eq_true, if_false]
  unfold setSearch
  refine wpAny_bind (search_free hu ho hd T hk (fun j => ?_) (10 * (t.mask + 13)) 100000 none (reach_start T.good T.dum (by rw [T.size]; exact hmk) h) (Nat.le_refl _) (by omega))
  dsimp only
  refine wpAny_bind (wpAny_setState_of ho hd T.fits ?_)
  dsimp only
  have iz : ∀ {α : Type} (xs : Array α) (p : Nat) (x : α), (SetTable.insertAt xs p x).size = xs.size + 1 := fun xs p x => by
    have := (SetTable.insertAt_perm xs p x).length_eq
    rw [Array.length_toList, Array.length_toList, Array.size_push] at this; exact this
  have p1 : (t.put j).1.place.size = es.size + 1 := by
    show (SetTable.insertAt t.place _ j).size = _
    rw [iz, T.size]
  have p2 : (t.put j).1.dummies = #[] := by
    show (if SetTable.has t.dummies j = true then _ else t.dummies) = #[]
    rw [T.dum, if_neg (by unfold SetTable.has; simp)]
  have p3 : (t.put j).1.mask = t.mask := rfl
  have el : ∀ e ∈ (SetTable.insertAt es (t.put j).2 (h, Value.ref b)).toList, e ∈ es.toList ∨ e.2 = .ref b := fun e he => by
    have := (SetTable.insertAt_perm es (t.put j).2 (h, Value.ref b)).mem_iff.mp he
    rw [Array.toList_push] at this
    rcases List.mem_append.mp this with z | z
    · exact .inl z
    · rw [List.mem_singleton.mp z]; exact .inr rfl
  have tail : ∀ t2 : SetTable, t2.place.size = es.size + 1 → t2.dummies = #[] → t2.mask = t.mask → wpAny (model prog w) A (do
      storeSet a (SetTable.insertAt es (t.put j).2 (h, Value.ref b)) t2
      if (!false && t2.tooFull) = true then do
          setRelay a (SetTable.grown (es.size + 1))
          pure true
        else pure true) Q E s := fun t2 z1 z2 z3 => by
    refine wpAny_bind (wpAny_storeSet_of ho hd ?_ (by rw [iz]; have := L2.small (n := 128) (by decide); omega))
    have g1 := put_get ho hd (SetTable.insertAt es (t.put j).2 (h, Value.ref b)) t2
    have sb := Heap.SameBut.update s.heap a (Obj.putSet (SetTable.insertAt es (t.put j).2 (h, Value.ref b)) t2)
    have tf : t2.tooFull = decide ((es.size + 1) * 5 ≥ t.mask * 3) := by unfold SetTable.tooFull SetTable.fill; rw [z1, z2, z3]; rfl
    rw [tf]
    by_cases hfull : (es.size + 1) * 5 ≥ t.mask * 3
    · rw [decide_eq_true hfull]
      simp only [Bool.not_false, Bool.and_self, if_true]
      obtain ⟨k1, k2, k3⟩ := grow_case T.good T.room hfull hn
      refine wpAny_bind (relay_ok (s := { s with heap := s.heap.update a (Obj.putSet (SetTable.insertAt es (t.put j).2 (h, Value.ref b)) t2) }) g1 rfl (by
        unfold SetTable.fits SetTable.fill
        rw [z1, z2, z3, iz]
        have := T.room
        rcases T.good with e | e | e <;> simp <;> omega) k1 k3 (by rw [iz]; omega) fun es' t' y1 y2 y3 y4 y5 => ?_)
      rw [iz] at y1 y2
      have g2 := put_get g1 rfl es' t'
      refine wpAny_pure (q _ _ es' _ t' (sb.trans (Heap.SameBut.update _ a _)) g2 hex rfl y1 (by rw [y2, y1]) y3 (by rw [y4]; exact k1) (by rw [y1, y4]; exact k2) fun e he => el e (y5 e he))
    · rw [decide_eq_false hfull]
      simp only [Bool.and_false, Bool.false_eq_true, if_false]
      exact wpAny_pure (q _ _ _ _ t2 sb g1 hex rfl (iz _ _ _) (by rw [z1, iz]) z2 (by rw [z3]; exact T.good) (by rw [iz, z3]; omega) el)
  split
  · refine wpAny_bind (byval_any hk fun bv => ?_)
    cases bv with
    | true => exact tail _ p1 p2 p3
    | false => exact tail _ p1 p2 p3
  · exact wpAny_bind (wpAny_pure (tail _ p1 p2 p3))
end
end Zs

namespace Zs
open PySem PySem.Spec PyProof.Rows
section
variable {prog : Program} {w : World} {K : Type} [DecidableEq K] {knd : PySem.KeyKind prog w K} {A : Around} {E : Value → Shared → Prop} {s : Shared}
/-- a set that holds the first i of some tuples -/
def SetT (h : Heap) (S : Addr) (i : Nat) (ad : Nat → Addr) : Prop := ∃ o es ep t, h.get? S = some o ∧ o.ExactSet ∧ o.data = .set es ep t ∧ es.size = i ∧ t.place.size = es.size ∧ t.dummies = #[] ∧ Gd t.mask ∧ es.size * 5 < t.mask * 3 ∧ ∀ e ∈ es.toList, ∃ j, j < i ∧ e.2 = .ref (ad j)
theorem SetT.kept {h h' : Heap} {S : Addr} {i : Nat} {ad : Nat → Addr} (x : SetT h S i ad) (k : ∀ o, h.get? S = some o → h'.get? S = some o) : SetT h' S i ad := by
  obtain ⟨o, es, ep, t, ho, r⟩ := x
  exact ⟨o, es, ep, t, k o ho, r⟩
theorem key_kept {h h' : Heap} {ks : List K} {a : Addr} (x : IsTupleKey knd h ks a) (k : ∀ o, h.get? a = some o → h'.get? a = some o) : IsTupleKey knd h' ks a := by
  obtain ⟨o, items, n, ho, r⟩ := x
  exact ⟨o, items, n, k o ho, r⟩
variable {R : Result → Shared → Prop} {I : Addr} {fp wr : List Addr} {G : Array GenState → Array GenState → Prop} {n : Nat} {P : Nat → Value → Prop} {St : Nat → Shared → Prop}
theorem loop_tuples (W : WalksS prog w A.in1 I fp wr G n P St) (hu : A.in1.units < cLine) (S : Addr) (hSf : S ∉ fp) (ad : Nat → Addr) (kf : Nat → List K) (hval : ∀ i v, P i v → v = .ref (ad i)) (hn : n ≤ 60)
    (hdis : ∀ i j, i < n → j < n → kf i = kf j → i = j) (hnw : ∀ i, i < n → ad i ∉ wr ∧ ad i ≠ S) :
    ∀ (k i : Nat) (s : Shared), n - i = k → i ≤ n → St i s → SetT s.heap S i ad → (∀ j, j < n → IsTupleKey knd s.heap (kf j) (ad j)) →
      (∀ s', Moved (S :: wr) G s s' → SetT s'.heap S n ad → R (.ok (.ret .none)) s') →
      codeAny (model prog w) A (.builtin "set.update.loop" ⟨[.ref S, .ref I], []⟩) R s := by
  have hSw : S ∉ wr := fun h => hSf (W.sub _ h)
  have hsub : ∀ b ∈ wr, b ∈ S :: wr := fun b hb => List.mem_cons_of_mem _ hb
  intro k
  induction k with
  | zero =>
    intro i s hk hi hst hS _ hR
    have hin : i = n := by omega
    subst hin
    refine codeAny_builtin F.entry_set_update_loop ?_
    rw [Around.under_plainId F.plain_set_update_loop _]
    show wpAny _ A.in1 (pyNext (.ref I) >>= _) _ _ s
    refine wpAny_bind (W.done s _ _ hst fun s' hm => ?_)
    exact wpAny_pure (hR s' (hm.mono hsub) (hS.kept fun o e => hm.heap S o hSw e))
  | succ k ih =>
    intro i s hk hi hst hS hK hR
    have hlt : i < n := by omega
    refine codeAny_builtin F.entry_set_update_loop ?_
    rw [Around.under_plainId F.plain_set_update_loop _]
    show wpAny _ A.in1 (pyNext (.ref I) >>= _) _ _ s
    refine wpAny_bind (W.item i s _ _ hlt hst fun v s' hP hst' hm => ?_)
    obtain rfl := hval i v hP
    have hS' := hS.kept fun o e => hm.heap S o hSw e
    have hK' : ∀ j, j < n → IsTupleKey knd s'.heap (kf j) (ad j) := fun j hj => key_kept (hK j hj) fun o e => hm.heap _ o (hnw j hj).1 e
    show wpAny _ A.in1 (holding [Value.ref (ad i)] (setAdd S (.ref (ad i))) >>= _) _ _ s'
    refine wpAny_bind (wpAny_holding ?_)
    unfold setAdd
    refine wpAny_holding ?_
    refine wpAny_bind (wpAny_pyHash_tuple hu (hK' i hlt) ?_)
    obtain ⟨o, es, ep, t, ho, hex, hd, hes, hpl, hdm, hgd, hrm, hel⟩ := hS'
    have T : TabOk knd s'.heap es t (kf i) := ⟨hpl, hdm, hgd, hrm, fun e he => by
      obtain ⟨j, hj, ej⟩ := hel e he
      exact ⟨ad j, kf j, ej, hK' j (by omega), fun z => by have := hdis j i (by omega) hlt z; omega⟩⟩
    refine add_new (s := { s' with toks := s'.toks + ((kf i).length + 1) }) hu ho hex hd T (hK' i hlt) (by omega) fun h' o' es' ep' t' hsb g1 g2 g3 g4 g5 g6 g7 g8 g9 => ?_
    have hS2 : SetT h' S (i + 1) ad := ⟨o', es', ep', t', g1, g2, g3, by omega, g5, g6, g7, g8, fun e he => by
      rcases g9 e he with z | z
      · obtain ⟨j, hj, ej⟩ := hel e z
        exact ⟨j, by omega, ej⟩
      · exact ⟨i, by omega, z⟩⟩
    refine wpAny_pure ⟨plainId_quiet F.plain_set_update_loop _, ih (i + 1) _ (by omega) hlt (W.frame _ s' _ _ hst' (Nat.le_add_right _ _) fun b hb o e => ?_) hS2 (fun j hj => key_kept (hK' j hj) fun o e => ?_) fun s'' hm'' hS'' => ?_⟩
    · rw [hsb.2 b (fun h : b = S => hSf (by rw [← h]; exact hb))]; exact e
    · rw [hsb.2 _ (hnw j hj).2]; exact e
    · refine hR s'' (Moved.trans W.gtrans ((hm.mono hsub).then_heap (Nat.le_add_right _ _) fun b o hb e => ?_) hm'') hS''
      rw [hsb.2 b (fun h : b = S => hb (by rw [h]; exact List.mem_cons_self))]; exact e
end
end Zs

namespace Zs
open PySem PySem.Spec PyProof.Rows
section
variable {prog : Program} {w : World} {K : Type} [DecidableEq K] {knd : PySem.KeyKind prog w K} {A : Around} {E : Value → Shared → Prop} {s : Shared}
/-- the object of a set that is just made -/
def newS (led : Bool) : Obj := { cls := .type "set", dict := none, data := .set #[] 0 (.fresh 0 0 led) }
theorem init_tuples {l S : Addr} {items : Array Value} {ad : Nat → Addr} {kf : Nat → List K} {R : Result → Shared → Prop} {led : Bool} (hh : A.handled = none) (hu : A.units + 8 < cLine) (hS : s.heap.get? S = some (newS led)) (hl : s.heap.IsList l items)
    (hv : ∀ (i : Nat) (v : Value), items[i]? = some v → v = .ref (ad i)) (hn : items.size ≤ 60) (hdis : ∀ i j, i < items.size → j < items.size → kf i = kf j → i = j) (hne : ∀ j, j < items.size → ad j ≠ S) (hlS : l ≠ S)
    (hK : ∀ j, j < items.size → IsTupleKey knd s.heap (kf j) (ad j))
    (h : ∀ (h' : Heap) (tk : Nat), SetT h' S items.size ad → (∀ b o, b ≠ S → s.heap.get? b = some o → h'.get? b = some o) → R (.ok (.ret .none)) { s with heap := h', toks := tk }) :
    codeAny (model prog w) A (.call (.builtin "set.__init__") ⟨[.ref S, .ref l], []⟩) R s := by
  have hT : s.TypeIs (.ref S) "set" := ⟨_, hS, rfl⟩
  refine codeAny_call_builtin F.called_set.init.plain F.entry_set_init (check_set_init_1 hT ?_)
  have hl1 := hl
  obtain ⟨⟨oc, od, odt, osl⟩, hol, hcl, nl, hdl⟩ := hl
  simp only at hcl hdl
  subst hcl; subst hdl
  unfold newS at hS
  have h1 := F.sub_list_set
  have h2 := F.sub_list_frozenset
  have h3 : (Value.type "list" == Value.type "dict") = false := by decide
  unfold Builtin.«set.__init__» noKeywords Builtin.Frozenset.updateFrom
  generalize hPI : pyIter = PI
  wp_walk
  subst hPI
  refine wpAny_pyIter_list hl1 ?_
  refine wpAny_bind (wpAny_runValue ?_)
  have hIz : l ≠ s.heap.objs.size := Nat.ne_of_lt (Heap.lt_size hol)
  have hSz : S ≠ s.heap.objs.size := Nat.ne_of_lt (Heap.lt_size hS)
  have hh3 : A.in1.in1.handled = none := by simp [hh]
  refine loop_tuples (knd := knd) ((Walks.list hh3 s.heap.objs.size l hIz items).toS) (by show A.units + 1 + 1 < cLine; omega) S (by
      simp only [List.mem_cons, List.not_mem_nil, or_false, not_or]
      exact ⟨hSz, fun e => hlS e.symm⟩) ad kf hv hn hdis (fun j hj => ⟨?_, hne j hj⟩) (items.size - 0) 0 _ (by omega) (Nat.zero_le _) ⟨⟨_, Heap.get?_push_size _ rfl, rfl, rfl⟩, hl1.push _⟩ ?_ (fun j hj => key_kept (hK j hj) fun o e => Heap.get?_push_of_some _ e) ?_
  · simp only [List.mem_cons, List.not_mem_nil, or_false]
    obtain ⟨o, _, _, ho, _⟩ := hK j hj
    exact Nat.ne_of_lt (Heap.lt_size ho)
  · exact ⟨_, #[], 0, _, Heap.get?_push_of_some _ hS, ⟨rfl, rfl, rfl⟩, rfl, rfl, rfl, rfl, .inl rfl, (by show 0 * 5 < 7 * 3; decide), fun e he => by simp at he⟩
  · intro s' hm hS'
    obtain ⟨h', g', d', tk', os'⟩ := s'
    have eg : g' = s.gens := hm.gens
    have ed : d' = s.drawn := hm.drawn
    have eo : os' = s.os := hm.os
    subst eg; subst ed; subst eo
    show wpAny _ _ _ _ _ _
    refine wpAny_pure (wpAny_pure (h h' tk' hS' fun b o hb e => ?_))
    refine hm.heap b o ?_ (Heap.get?_push_of_some _ e)
    simp only [List.mem_cons, List.not_mem_nil, or_false, not_or]
    exact ⟨hb, Nat.ne_of_lt (Heap.lt_size e)⟩
set_option maxRecDepth 100000 in
theorem call_tuples {l : Addr} {items : Array Value} {ad : Nat → Addr} {kf : Nat → List K} {Q : Value → Shared → Prop} (hh : A.handled = none) (hu : A.units + 20 < cLine) (hl : s.heap.IsList l items)
    (hv : ∀ (i : Nat) (v : Value), items[i]? = some v → v = .ref (ad i)) (hn : items.size ≤ 60) (hdis : ∀ i j, i < items.size → j < items.size → kf i = kf j → i = j)
    (hK : ∀ j, j < items.size → IsTupleKey knd s.heap (kf j) (ad j))
    (h : ∀ (h' : Heap) (tk : Nat), SetT h' s.heap.objs.size items.size ad → (∀ b o, s.heap.get? b = some o → h'.get? b = some o) → Q (.ref s.heap.objs.size) { s with heap := h', toks := tk }) :
    wpAny (model prog w) A (call (.type "set") [.ref l]) Q E s := by
  obtain ⟨c, tl, hmro⟩ := F.called_set.mro
  have hmade := F.called_set.made
  have hsub := F.called_set.sub
  refine wpAny_call (codeAny_of_tree ?_)
  show wpAny _ _ (callAny (.type "set") _) _ _ _
  refine wpAny_pure ⟨Code.quiet_builtin _ (by decide +kernel), codeAny_builtin F.entry_type_call ?_⟩
  rw [Around.under_plain (weight_type_call_type "set" [.ref l] []) rfl]
  have h1 := F.called_set.notType
  have h2 := F.called_set.canCreate
  have hct := F.typeCall_set_1 (.ref l)
  repeat (any_goals (first | assumption | wp_step))
  refine codeAny_mono (code_set_new_1 (.ref l) (E := E) (Q₁ := fun ob s₁ => ∃ led : Bool, ob = .ref s.heap.objs.size ∧ s₁ = { s with heap := s.heap.push (newS led) }) fun led => ⟨led, rfl, rfl⟩) fun r s₁ hr => ?_
  cases r with
  | error e => exact hr
  | ok fl =>
    cases fl with
    | ret ob =>
      obtain ⟨led, rfl, rfl⟩ := hr
      have hS : (s.heap.push (newS led)).get? s.heap.objs.size = some (newS led) := Heap.get?_push_size _ rfl
      have hT : Shared.TypeIs { s with heap := s.heap.push (newS led) } (.ref s.heap.objs.size) "set" := ⟨_, hS, rfl⟩
      have hli := F.called_set.init.lookup
      have hbi := F.called_set.init.bind (.ref s.heap.objs.size)
      repeat (any_goals (first | assumption | wp_step))
      refine codeAny_mono (init_tuples (knd := knd) (kf := kf) (ad := ad) (R := wants (fun r s₂ => r = .none ∧ ∃ h' tk, s₂ = { s with heap := h', toks := tk } ∧ SetT h' s.heap.objs.size items.size ad ∧ ∀ b o, s.heap.get? b = some o → h'.get? b = some o) E)
        (s := { s with heap := s.heap.push (newS led) }) ?_ ?_ hS (hl.push _) hv hn hdis (fun j hj => ?_) ?_ (fun j hj => key_kept (hK j hj) fun o e => Heap.get?_push_of_some _ e) fun h' tk hS' hk' => ⟨rfl, h', tk, rfl, hS', fun b o e => hk' b o (Nat.ne_of_lt (Heap.lt_size e)) (Heap.get?_push_of_some _ e)⟩) fun r₂ s₂ hr₂ => ?_
      · simp [hh]
      · show A.units + 1 + 8 < cLine
        omega
      · obtain ⟨o, _, _, ho, _⟩ := hK j hj
        exact Nat.ne_of_lt (Heap.lt_size ho)
      · obtain ⟨o, ho, _⟩ := hl
        exact Nat.ne_of_lt (Heap.lt_size ho)
      · cases r₂ with
        | error e => exact hr₂
        | ok fl₂ =>
          cases fl₂ with
          | ret r =>
            obtain ⟨rfl, h', tk, rfl, hS', hk'⟩ := hr₂
            repeat (any_goals (first | assumption | wp_step))
            exact h _ _ hS' hk'
          | _ => exact hr₂.elim
    | _ => exact hr.elim
end
end Zs

namespace L2
open PySem PySem.Spec PyProof.Rows Zs
/-! ### len(set(a list of tuples of whole numbers that differ)) -/
section
variable {X : Cx} {pins : List (Addr × Obj)} {σ : St} {H : Hp} {s : Shared}
theorem items_of {P : Program} {w : World} {ns : List Int} : ∀ {us : List Value}, Vals (ns.map V.int) us → ItemsAre (intKind P w) ns us := by
  induction ns with
  | nil => intro us r; rw [List.map_nil] at r; cases r; exact .nil
  | cons n ns ih =>
    intro us r
    rw [List.map_cons] at r
    cases r with
    | cons r1 r2 =>
      obtain ⟨t, rfl⟩ := r1
      exact .cons (intKind_is _ _ _ _) (ih r2)
def rTups (K : PySem.W.Frag) (x : V) (H : Hp) (n : Nat) : Prop := ∃ (p : Addr) (ps : List Addr) (kss : List (List Int)), x = .ref p ∧ SqL K H p (ps.map V.ref) ∧ Paired (fun q (ks : List Int) => SqT K H q (ks.map V.int)) ps kss ∧ kss.Nodup ∧ kss.length ≤ 60 ∧ n = kss.length
theorem call_tups {R : Value → Shared → Prop} {E : Value → Shared → Prop} {x : V} {us : List Value} {n : Nat} (I : Inv X pins σ H s) (hc : X.calm = true) (hu : X.A.units + 64 < cLine) (r : Vals [x] us) (h : rTups X.K x H n)
    (q : ∀ (S : Addr) (ad : Nat → Addr) (s' : Shared), Inv X pins σ H s' → SetT s'.heap S n ad → R (.ref S) s') : wpAny (model X.prog X.w) X.A (call (.type "set") us) R E s := by
  obtain ⟨p, ps, kss, rfl, hq, hp, nd, h60, rfl⟩ := h
  obtain ⟨u, rfl, ru⟩ := vals1 r
  cases ru
  obtain ⟨its, rv, pl, hz⟩ := I.list hq
  have hl : ps.length = kss.length := pr_len hp
  have hlen := rv.length
  rw [List.length_map] at hlen
  have hsz : its.toArray.size = kss.length := by rw [List.size_toArray]; omega
  refine call_tuples (knd := intKind X.prog X.w) (ad := fun i => ps.getD i 0) (kf := fun i => kss.getD i []) (I.ok.hd hc) (by omega) pl.isList (fun i v hv => ?_) (by omega) (fun i j hi hj e => ?_) (fun j hj => ?_) fun h' tk hS kp => ?_
  · have hi : i < ps.length := by
      have := (Array.getElem?_eq_some_iff.mp hv).1
      omega
    obtain ⟨u, eu, ru⟩ := rv.get (i := i) (x := V.ref ps[i]) (by rw [List.getElem?_map, List.getElem?_eq_getElem hi]; rfl)
    rw [← Array.getElem?_toList] at hv
    have hv : its[i]? = some v := hv
    rw [eu] at hv
    cases hv
    cases ru
    simp [hi]
  · rw [hsz] at hi hj
    have e : kss.getD i [] = kss.getD j [] := e
    rw [List.getD_eq_getElem?_getD, List.getD_eq_getElem?_getD, List.getElem?_eq_getElem hi, List.getElem?_eq_getElem hj] at e
    have e : kss[i] = kss[j] := e
    have P := List.pairwise_iff_getElem.mp nd
    rcases Nat.lt_trichotomy i j with z | z | z
    · exact absurd e (P i j hi hj z)
    · exact z
    · exact absurd e.symm (P j i hj hi z)
  · rw [hsz] at hj
    obtain ⟨ks, e1, e2⟩ : ∃ ks, kss[j]? = some ks ∧ SqT X.K H (ps.getD j 0) (ks.map V.int) := by
      obtain ⟨q, hq1, hq2⟩ := pr_getR hp (List.getElem?_eq_getElem hj)
      exact ⟨kss[j], List.getElem?_eq_getElem hj, by rw [List.getD_eq_getElem?_getD, hq1]; exact hq2⟩
    obtain ⟨vs, rv2, ⟨o, ho, hcl, m, hd⟩, _⟩ := I.tuple e2
    exact ⟨o, vs.toArray, m, ho, hcl, hd, by rw [List.getD_eq_getElem?_getD, e1]; exact items_of rv2⟩
  · rw [hsz] at hS
    exact q _ _ _ (I.kept (t' := tk) kp) hS
theorem call_tupleK (K : PySem.W.Frag) (h : X.K = K := by rfl) : CallR X (.type "tuple") (fun xs H Q => ∃ p ys, xs = [.ref p] ∧ ((SqL K H p ys ∧ ∀ l, H l = none → Q (.ref l) (upd H l (.tup ys))) ∨ (SqT K H p ys ∧ Q (.ref p) H))) := by subst h; exact call_tuple_of
def tLenSet (K : PySem.W.Frag) (te : TE) : TE := fun σ H Q => te σ H fun x H1 => ∃ n : Nat, rTups K x H1 n ∧ Q (.int n) H1
theorem pe_lenset (K : PySem.W.Frag) {e : Expr} {te : TE} {p1 p2 pos1 pos2 : Pos} (hu : X.A.units + 64 < cLine) (hg1 : Gl X "len") (hm1 : X.mg "len" = none) (hg2 : Gl X "set") (hm2 : X.mg "set" = none) (ha : PE X e te) (hc : X.calm = true := by rfl) (hK : X.K = K := by rfl)
    (hs : starEach [e] X.env = (false, eval e X.env) :: starEach [] X.env := by rfl) (hs2 : starEach [Expr.Call (.Name "set" p2) [e] [] pos2] X.env = (false, eval (.Call (.Name "set" p2) [e] [] pos2) X.env) :: starEach [] X.env := by rfl) :
    PE X (.Call (.Name "len" p1) [.Call (.Name "set" p2) [e] [] pos2] [] pos1) (tLenSet K te) := by
  subst hK
  intro pins s σ H Q I h
  refine wpAny_Call_Name_kw (ld_blt I hg1 hm1 PySem.boot_len ?_)
  refine PyProof.Rows.callWith_builtin1 ?_ hs2 rfl
  rw [hs2]
  refine Calls.spliced_cons ?_
  refine wpAny_Call_Name_kw (ld_blt I hg2 hm2 PyProof.Rows.boot_set ?_)
  refine PyProof.Rows.callWith_type1 (thn (pa_cons ha pa_nil hs _ pins s σ H (fun xs H1 => match xs with | [x] => ∃ n : Nat, rTups X.K x H1 n ∧ Q (.int n) H1 | _ => False) I h) fun us s1 ⟨vs, H1, I1, r1, q1⟩ => ?_) hs rfl
  match vs, r1, q1 with
  | [x], r1, ⟨n, hr, q⟩ =>
    refine call_tups I1 hc hu r1 hr fun S ad s' I' hS => ?_
    refine Calls.spliced_nil ?_
    obtain ⟨o, es, ep, t, ho, hex, hd, he, hpl, hdm, hgd, hrm, _⟩ := hS
    subst he
    have hm : t.mask ≤ 127 := by rcases hgd with e | e | e <;> omega
    refine call_len_set ho hex hd ?_ (by omega) ⟨.int _, H1, I'.tok _, ⟨_, rfl⟩, q⟩
    unfold SetTable.fits SetTable.fill
    rw [hpl, hdm]
    simp
    omega
end
end L2
namespace Ev
open PySem L2
def spRightL : Sp := fun vs H Q _ => ∃ (a : Addr) (ps : List Addr) (T : List (List Int)) (s : Int), vs = [.ref a] ∧ Tab H a ps T ∧ Valid T ∧ Lev T.length T s ∧ ∀ H', Same H H' → Q (.bl true) H'
theorem nodup_ints {l : List (List Nat)} (h : l.Nodup) : (l.map fun x => x.map Int.ofNat).Nodup := by
  unfold List.Nodup
  rw [List.pairwise_map]
  refine List.Pairwise.imp (fun {a b} hab e => hab ?_) h
  exact (List.map_inj_right (fun x y z => Int.ofNat.inj z)).mp e
end Ev

namespace My
open PySem L2
def top (i : Nat) : Stmt := PySem.Challenge.pw_evenrounds_k07_whole_rounds.main.body.getD i (.Pass ⟨0, 0, 0, 0⟩)
abbrev s_check_many : Stmt := top 7
abbrev s_check_row : Stmt := top 8
abbrev s_check_table : Stmt := top 9
abbrev s_column_sum : Stmt := top 10
abbrev s_sums : Stmt := top 11
abbrev s_first_other : Stmt := top 12
abbrev s_odd_line : Stmt := top 13
abbrev s_lay : Stmt := top 14
abbrev s_find_column : Stmt := top 16
abbrev s_short_of : Stmt := top 17
abbrev s_places_of : Stmt := top 18
abbrev s_matched : Stmt := top 19
abbrev s_even_pairs : Stmt := top 21
abbrev s_rounds : Stmt := top 22
abbrev s_law_cell_at : Stmt := top 24
abbrev s_law_whole : Stmt := top 25
abbrev s_law_order : Stmt := top 26
abbrev s_law_level_by : Stmt := top 27
abbrev s_law_copied : Stmt := top 28
abbrev s_law_is_part : Stmt := top 29
abbrev s_law_is_pairs : Stmt := top 30
abbrev s_law_laid : Stmt := top 31
abbrev s_law_right : Stmt := top 32
abbrev s_law : Stmt := top 33
theorem sc_check_many : FnScope ["many"] ["many"] (defScope s_check_many) := ⟨rfl, rfl, rfl, by decide +kernel, rfl, by decide +kernel, by decide +kernel⟩
theorem sc_check_row : FnScope ["row", "many", "number"] ["row", "many"] (defScope s_check_row) := ⟨rfl, rfl, rfl, by decide +kernel, rfl, by decide +kernel, by decide +kernel⟩
theorem sc_check_table : FnScope ["table", "row"] ["table"] (defScope s_check_table) := ⟨rfl, rfl, rfl, by decide +kernel, rfl, by decide +kernel, by decide +kernel⟩
theorem sc_column_sum : FnScope ["table", "column"] ["table", "column"] (defScope s_column_sum) := ⟨rfl, rfl, rfl, by decide +kernel, rfl, by decide +kernel, by decide +kernel⟩
theorem sc_sums : FnScope ["table", "of_rows", "of_columns"] ["table"] (defScope s_sums) := ⟨rfl, rfl, rfl, by decide +kernel, rfl, by decide +kernel, by decide +kernel⟩
theorem sc_first_other : FnScope ["totals", "wanted", "k", "total"] ["totals", "wanted"] (defScope s_first_other) := ⟨rfl, rfl, rfl, by decide +kernel, rfl, by decide +kernel, by decide +kernel⟩
theorem sc_odd_line : FnScope ["table", "both", "wanted", "row", "column"] ["table"] (defScope s_odd_line) := ⟨rfl, rfl, rfl, by decide +kernel, rfl, by decide +kernel, by decide +kernel⟩
theorem sc_lay : FnScope ["table", "pair", "row", "column"] ["table", "pair"] (defScope s_lay) := ⟨rfl, rfl, rfl, by decide +kernel, rfl, by decide +kernel, by decide +kernel⟩
theorem sc_find_column : FnScope ["table", "row", "holders", "tried", "column", "number"] ["table", "row", "holders", "tried"] (defScope s_find_column) := ⟨rfl, rfl, rfl, by decide +kernel, rfl, by decide +kernel, by decide +kernel⟩
theorem sc_short_of : FnScope ["row", "holders", "tried", "rows"] ["row", "holders", "tried"] (defScope s_short_of) := ⟨rfl, rfl, rfl, by decide +kernel, rfl, by decide +kernel, by decide +kernel⟩
theorem sc_places_of : FnScope ["holders", "places", "column", "row"] ["holders"] (defScope s_places_of) := ⟨rfl, rfl, rfl, by decide +kernel, rfl, by decide +kernel, by decide +kernel⟩
theorem sc_matched : FnScope ["table", "holders", "row", "tried"] ["table"] (defScope s_matched) := ⟨rfl, rfl, rfl, by decide +kernel, rfl, by decide +kernel, by decide +kernel⟩
theorem sc_even_pairs : FnScope ["table", "total", "rest", "left", "pairs", "places", "times"] ["table", "total"] (defScope s_even_pairs) := ⟨rfl, rfl, rfl, by decide +kernel, rfl, by decide +kernel, by decide +kernel⟩
theorem sc_rounds : FnScope ["table"] ["table"] (defScope s_rounds) := ⟨rfl, rfl, rfl, by decide +kernel, rfl, by decide +kernel, by decide +kernel⟩
theorem sc_law_cell_at : FnScope ["script", "k"] ["script", "k"] (defScope s_law_cell_at) := ⟨rfl, rfl, rfl, by decide +kernel, rfl, by decide +kernel, by decide +kernel⟩
theorem sc_law_whole : FnScope ["found"] ["found"] (defScope s_law_whole) := ⟨rfl, rfl, rfl, by decide +kernel, rfl, by decide +kernel, by decide +kernel⟩
theorem sc_law_order : FnScope ["cell", "many", "rest", "order", "stir"] ["cell", "many"] (defScope s_law_order) := ⟨rfl, rfl, rfl, by decide +kernel, rfl, by decide +kernel, by decide +kernel⟩
theorem sc_law_level_by : FnScope ["script", "first", "many", "count", "table", "turn", "order", "cell", "times", "row", "place"] ["script", "first", "many", "count"] (defScope s_law_level_by) := ⟨rfl, rfl, rfl, by decide +kernel, rfl, by decide +kernel, by decide +kernel⟩
theorem sc_law_copied : FnScope ["table"] ["table"] (defScope s_law_copied) := ⟨rfl, rfl, rfl, by decide +kernel, rfl, by decide +kernel, by decide +kernel⟩
theorem sc_law_is_part : FnScope ["found", "many", "columns", "place"] ["found", "many"] (defScope s_law_is_part) := ⟨rfl, rfl, rfl, by decide +kernel, rfl, by decide +kernel, by decide +kernel⟩
theorem sc_law_is_pairs : FnScope ["found", "many", "pair"] ["found", "many"] (defScope s_law_is_pairs) := ⟨rfl, rfl, rfl, by decide +kernel, rfl, by decide +kernel, by decide +kernel⟩
theorem sc_law_laid : FnScope ["many", "pairs", "table", "times", "places", "row"] ["many", "pairs"] (defScope s_law_laid) := ⟨rfl, rfl, rfl, by decide +kernel, rfl, by decide +kernel, by decide +kernel⟩
theorem sc_law_right : FnScope ["table", "many", "handed", "found", "times", "places", "pair"] ["table"] (defScope s_law_right) := ⟨rfl, rfl, rfl, by decide +kernel, rfl, by decide +kernel, by decide +kernel⟩
theorem sc_law : FnScope ["script", "many", "count", "table"] ["script"] (defScope s_law) := ⟨rfl, rfl, rfl, by decide +kernel, rfl, by decide +kernel, by decide +kernel⟩
/-- what the top has made: each def with its name, how it binds, the built-in names that stay free -/
structure Txt (K : PySem.W.Frag) (mg : Str → Option Value) (f : Nat → Addr) (fd : Nat → FuncData) : Prop where
  F_check_many : Fun K "check_many" "check_many" s_check_many (f 0) (fd 0)
  b_check_many : Binds K (fd 0) ["many"] []
  m_check_many : mg "check_many" = some (.ref (f 0))
  F_check_row : Fun K "check_row" "check_row" s_check_row (f 1) (fd 1)
  b_check_row : Binds K (fd 1) ["row", "many"] []
  m_check_row : mg "check_row" = some (.ref (f 1))
  F_check_table : Fun K "check_table" "check_table" s_check_table (f 2) (fd 2)
  b_check_table : Binds K (fd 2) ["table"] []
  m_check_table : mg "check_table" = some (.ref (f 2))
  F_column_sum : Fun K "column_sum" "column_sum" s_column_sum (f 3) (fd 3)
  b_column_sum : Binds K (fd 3) ["table", "column"] []
  m_column_sum : mg "column_sum" = some (.ref (f 3))
  F_sums : Fun K "sums" "sums" s_sums (f 4) (fd 4)
  b_sums : Binds K (fd 4) ["table"] []
  m_sums : mg "sums" = some (.ref (f 4))
  F_first_other : Fun K "first_other" "first_other" s_first_other (f 5) (fd 5)
  b_first_other : Binds K (fd 5) ["totals", "wanted"] []
  m_first_other : mg "first_other" = some (.ref (f 5))
  F_odd_line : Fun K "odd_line" "odd_line" s_odd_line (f 6) (fd 6)
  b_odd_line : Binds K (fd 6) ["table"] []
  m_odd_line : mg "odd_line" = some (.ref (f 6))
  F_lay : Fun K "lay" "lay" s_lay (f 7) (fd 7)
  b_lay : Binds K (fd 7) ["table", "pair"] []
  m_lay : mg "lay" = some (.ref (f 7))
  F_find_column : Fun K "find_column" "find_column" s_find_column (f 8) (fd 8)
  b_find_column : Binds K (fd 8) ["table", "row", "holders", "tried"] []
  m_find_column : mg "find_column" = some (.ref (f 8))
  F_short_of : Fun K "short_of" "short_of" s_short_of (f 9) (fd 9)
  b_short_of : Binds K (fd 9) ["row", "holders", "tried"] []
  m_short_of : mg "short_of" = some (.ref (f 9))
  F_places_of : Fun K "places_of" "places_of" s_places_of (f 10) (fd 10)
  b_places_of : Binds K (fd 10) ["holders"] []
  m_places_of : mg "places_of" = some (.ref (f 10))
  F_matched : Fun K "matched" "matched" s_matched (f 11) (fd 11)
  b_matched : Binds K (fd 11) ["table"] []
  m_matched : mg "matched" = some (.ref (f 11))
  F_even_pairs : Fun K "even_pairs" "even_pairs" s_even_pairs (f 12) (fd 12)
  b_even_pairs : Binds K (fd 12) ["table", "total"] []
  m_even_pairs : mg "even_pairs" = some (.ref (f 12))
  F_rounds : Fun K "rounds" "rounds" s_rounds (f 13) (fd 13)
  b_rounds : Binds K (fd 13) ["table"] []
  m_rounds : mg "rounds" = some (.ref (f 13))
  F_law_cell_at : Fun K "_law_cell_at" "_law_cell_at" s_law_cell_at (f 14) (fd 14)
  b_law_cell_at : Binds K (fd 14) ["script", "k"] []
  m_law_cell_at : mg "_law_cell_at" = some (.ref (f 14))
  F_law_whole : Fun K "_law_whole" "_law_whole" s_law_whole (f 15) (fd 15)
  b_law_whole : Binds K (fd 15) ["found"] []
  m_law_whole : mg "_law_whole" = some (.ref (f 15))
  F_law_order : Fun K "_law_order" "_law_order" s_law_order (f 16) (fd 16)
  b_law_order : Binds K (fd 16) ["cell", "many"] []
  m_law_order : mg "_law_order" = some (.ref (f 16))
  F_law_level_by : Fun K "_law_level_by" "_law_level_by" s_law_level_by (f 17) (fd 17)
  b_law_level_by : Binds K (fd 17) ["script", "first", "many", "count"] []
  m_law_level_by : mg "_law_level_by" = some (.ref (f 17))
  F_law_copied : Fun K "_law_copied" "_law_copied" s_law_copied (f 18) (fd 18)
  b_law_copied : Binds K (fd 18) ["table"] []
  m_law_copied : mg "_law_copied" = some (.ref (f 18))
  F_law_is_part : Fun K "_law_is_part" "_law_is_part" s_law_is_part (f 19) (fd 19)
  b_law_is_part : Binds K (fd 19) ["found", "many"] []
  m_law_is_part : mg "_law_is_part" = some (.ref (f 19))
  F_law_is_pairs : Fun K "_law_is_pairs" "_law_is_pairs" s_law_is_pairs (f 20) (fd 20)
  b_law_is_pairs : Binds K (fd 20) ["found", "many"] []
  m_law_is_pairs : mg "_law_is_pairs" = some (.ref (f 20))
  F_law_laid : Fun K "_law_laid" "_law_laid" s_law_laid (f 21) (fd 21)
  b_law_laid : Binds K (fd 21) ["many", "pairs"] []
  m_law_laid : mg "_law_laid" = some (.ref (f 21))
  F_law_right : Fun K "_law_right" "_law_right" s_law_right (f 22) (fd 22)
  b_law_right : Binds K (fd 22) ["table"] []
  m_law_right : mg "_law_right" = some (.ref (f 22))
  F_law : Fun K "law" "law" s_law (f 23) (fd 23)
  b_law : Binds K (fd 23) ["script"] []
  m_law : mg "law" = some (.ref (f 23))
  c_MOST_ROWS : ∃ t, mg "MOST_ROWS" = some (.int 8 t)
  c_MOST_NUMBER : ∃ t, mg "MOST_NUMBER" = some (.int 1000000 t)
  z_len : mg "len" = none
  z_sum : mg "sum" = none
  z_isinstance : mg "isinstance" = none
  z_list : mg "list" = none
  z_tuple : mg "tuple" = none
  z_range : mg "range" = none
  z_enumerate : mg "enumerate" = none
  z_int : mg "int" = none
  z_bool : mg "bool" = none
  z_set : mg "set" = none
  z_min : mg "min" = none
  z_sorted : mg "sorted" = none
end My

namespace My
open PySem L2
section
open Ev
variable {P : Program} {w : World} {K : PySem.W.Frag} {mg : Str → Option Value} {base : Heap} {f : Nat → Addr} {fd : Nat → FuncData}
theorem ok_find_col (T : Txt K mg f fd) : ∀ d : Nat, FnOk P w K mg base CX0 d (f 8) (fd 8) ["table", "row", "holders", "tried"] (spFind d)
  | 0 => ⟨fun _ _ _ _ h => h.elim, fun _ _ _ _ _ _ _ _ _ _ _ _ _ h => h.elim⟩
  | d + 1 => by
    have IH := ok_find_col T d
    refine T.F_find_column.ok sc_find_column (fun vs H Q E h => ?_) (fun cdv A outer s H vs Q E hr h => ?_)
    · obtain ⟨n, a, hd, td, ps, Tb, row, hs, t, rfl, _⟩ := h; rfl
    obtain ⟨n, a, hd, td, ps, Tb, row, hs, t, rfl, hT, hSh, h16, hrow, eh, et, hne, ok, inj, tnd, tlt, own, room, qT, qF⟩ := h
    obtain ⟨r, er, lr⟩ := hSh.at hrow
    obtain ⟨p, hp, ep⟩ := pr_getR hT.rows er
    have a1 : atI (ps.map V.ref) (row : Int) = some (.ref p) := atI_nat (map_at hp)
    have hcell : ∀ (i : Nat) (z : Int), r[i]? = some z → cellT Tb row i = z := fun i z hz => by
      unfold cellT
      rw [getD_at er, List.getD_eq_getElem?_getD, hz]; rfl
    have nph : p ≠ hd := ne_of ep eh (by intro z; cases z)
    have npt : p ≠ td := ne_of ep et (by intro z; cases z)
    have hsl := hold_len ok
    refine ⟨_, 
    (pss_cons
      (ps_for PassesOwn.never rfl (pi_enumK K (by rfl) T.z_enumerate (pa_cons (pe_ix (ix_listK K) (pv 0) (pv 1) (fun _ _ => rfl)) pa_nil)) (pg_tupK K (n := 2) rfl (pgs_cons (pg_name (i := 4) sc_find_column.nd rfl (Or.inl rfl)) (pgs_cons (pg_name (i := 5) sc_find_column.nd rfl (Or.inl rfl)) pgs_nil)))
        (pss_cons
          (ps_if (pw_or (pt_cmpR op_lt (pv 5) pe_int (nomark _)) (pw_or1 (pt_cmp (pc_din (hu_of hr) (pv 4) (pv 3))))).pt
            (pss_one
              ps_continue)
            pss_nil)
        (pss_cons
          (ps_dput (hu_of hr) (pv 3) (pv 4) pe_bl rfl)
        (pss_one
          (ps_if (pw_or (pt_cmp (pc_dnotin (hu_of hr) (pv 4) (pv 2))) (pw_or1 (pt_val (pe_call IH (hr.mono (Nat.le_refl _)) (by rfl) T.m_find_column T.F_find_column.kp T.b_find_column .nil pass0 (pa_cons (pv 0) (pa_cons (pe_dget (hu_of hr) (pv 2) (pv 4) (fun _ _ => rfl)) (pa_cons (pv 2) (pa_cons (pv 3) pa_nil)))))))).pt
            (pss_cons
              (ps_dput (hu_of hr) (pv 2) (pv 4) (pv 1) rfl)
            (pss_one
              (ps_ret pe_bl)))
            pss_nil)))))
    (pss_one
      (ps_ret pe_bl))), ?_⟩
    refine ⟨_, rfl, _, rfl, a, _, _, _, rfl, rfl, SqL.of hT.top, a1, p, rfl, ⟨_, SqL.of ep⟩, for_enum (K := K) (a := p) (xs := r.map V.int) (fun i σ H2 => ∃ (t' : List Nat) (u v : Option V), σ = [some (.ref a), some (.int (row : Int)), some (.ref hd), some (.ref td), u, v] ∧ Part n Tb row hs t i t' ∧ H2 hd = some (.dK (hV hs)) ∧ H2 td = some (.dK (tV t')) ∧ ∀ b o, H b = some o → b ≠ hd → b ≠ td → H2 b = some o)
      ⟨t, _, _, rfl, Part.zero tnd tlt, eh, et, fun b o e _ _ => e⟩ (fun i σ H2 _ ⟨_, _, _, _, _, _, _, k⟩ => SqL.of (k _ _ ep nph npt)) ?_ ?_⟩
    · rintro i x σ H2 c hx ⟨t', u, v, rfl, hPt, eh2, et2, kp⟩ hc
      obtain ⟨z, hz, rfl⟩ := at_map hx
      have hi : i < n := by have := (List.getElem?_eq_some_iff.mp hz).1; omega
      have ez := hcell i z hz
      generalize eH3 : upd H2 c (.tup [.int (i : Int), .int z]) = H3
      have s3 : Same H2 H3 := by rw [← eH3]; exact same_new hc _
      have ec3 : H3 c = some (.tup [.int (i : Int), .int z]) := by rw [← eH3]; exact upd_same
      have eh3 := s3 _ _ eh2
      have et3 := s3 _ _ et2
      have kp3 : ∀ b o, H b = some o → b ≠ hd → b ≠ td → H3 b = some o := fun b o e h1 h2 => s3 _ _ (kp b o e h1 h2)
      have tl16 : t'.length ≤ 16 := Nat.le_trans (nodup_le hPt.nd hPt.lt) h16
      refine ⟨c, _, rfl, SqT.of ec3, rfl, _, _, rfl, _, _, rfl, rfl, ?_⟩
      refine ⟨_, rfl, _, _, rfl, rfl, _, rfl, iteD (fun k1 => ?_) (fun k1 => ?_)⟩
      · exact ⟨t', _, _, rfl, hPt.skip (.inl (by rw [ez]; omega)), eh3, et3, kp3⟩
      refine ⟨_, rfl, _, rfl, td, _, rfl, DGet.k (k := Sum.inl (i : Int)) et3, _, rfl, ?_⟩
      rw [tV_get]
      by_cases hit : i ∈ t'
      · rw [if_pos hit]
        exact iteT ⟨t', _, _, rfl, hPt.skip (.inr hit), eh3, et3, kp3⟩
      rw [if_neg hit]
      refine iteF ?_
      refine ⟨_, rfl, _, rfl, td, _, rfl, DPut.k (k := Sum.inl (i : Int)) et3 (by unfold tV; rw [List.length_map]; exact small1000 (by omega)), ?_⟩
      rw [tV_put hit]
      generalize eH4 : upd H3 td (.dK (tV (t' ++ [i]))) = H4
      have et4 : H4 td = some (.dK (tV (t' ++ [i]))) := by rw [← eH4]; exact upd_same
      have eh4 : H4 hd = some (.dK (hV hs)) := by rw [← eH4, upd_ne hne]; exact eh3
      have kp4 : ∀ b o, H b = some o → b ≠ hd → b ≠ td → H4 b = some o := fun b o e h1 h2 => by rw [← eH4, upd_ne h2]; exact kp3 b o e h1 h2
      have hp1 : 1 ≤ cellT Tb row i := by rw [ez]; omega
      refine ⟨_, rfl, _, rfl, hd, _, rfl, DGet.k (k := Sum.inl (i : Int)) eh4, _, rfl, ?_⟩
      have hvg := hV_get i hs
      rw [hvg]
      cases eg : getN hs i with
      | none =>
        refine iteT ?_
        refine ⟨_, rfl, _, rfl, _, rfl, hd, _, rfl, DPut.k (k := Sum.inl (i : Int)) eh4 (by unfold hV; rw [List.length_map]; exact small1000 (by omega)), ?_⟩
        rw [hV_put]
        exact qT (putN hs i row) (t' ++ [i]) _ (Gave.free ok inj own hrow hi (fun z => hit (hPt.sub i z)) hp1 eg) upd_same (by rw [upd_ne (Ne.symm hne)]; exact et4) (fun b o e h1 h2 => by rw [upd_ne h1]; exact kp4 b o e h1 h2)
      | some r1 =>
        have hr1 := ok.at' i r1 eg
        refine iteF ?_
        have nd4 : (t' ++ [i]).Nodup := by
          rw [List.nodup_append]
          refine ⟨hPt.nd, by simp, fun x hx y hy e => hit ?_⟩
          have : y = i := by simpa using hy
          rw [← this, ← e]; exact hx
        have lt4 : ∀ c ∈ t' ++ [i], c < n := fun c hc => by
          rcases List.mem_append.mp hc with z | z
          · exact hPt.lt c z
          · have : c = i := by simpa using z
            rw [this]; exact hi
        have own4 : ∀ c, getN hs c = some r1 → c ∈ t' ++ [i] := fun c e => by
          rw [inj c i r1 e eg]; exact List.mem_append_right _ (by simp)
        have room4 : ∃ d', d = d' + 1 ∧ n ≤ (t' ++ [i]).length + d' := by
          have y1 := nodup_le nd4 lt4
          have y2 := hPt.len
          rw [List.length_append, List.length_singleton] at y1 ⊢
          exact ⟨d - 1, by omega, by omega⟩
        obtain ⟨d', ed, room5⟩ := room4
        subst ed
        refine ⟨_, rfl, _, rfl, _, rfl, hd, .int (r1 : Int), rfl, ?_, _, rfl, _, rfl, n, a, hd, td, ps, Tb, r1, hs, t' ++ [i], rfl, tab_kept hT eh et kp4, hSh, h16, hr1.2.1, eh4, et4, hne, ok, inj, nd4, lt4, own4, room5, fun hs' t'' H5 G5 eh5 et5 kp5 => ?_, fun t'' H5 P5 eh5 et5 kp5 => ?_⟩
        · have := DGet.k (k := Sum.inl (i : Int)) eh4
          rw [hvg, eg] at this
          exact this
        · refine ⟨_, rfl, iteT ?_⟩
          refine ⟨_, rfl, _, rfl, _, rfl, hd, _, rfl, DPut.k (k := Sum.inl (i : Int)) eh5 (by unfold hV; rw [List.length_map]; exact small1000 (by have := G5.len; omega)), ?_⟩
          rw [hV_put]
          exact qT (putN hs' i row) t'' _ (Gave.inner ok inj own hrow hi hPt.sub hit hp1 eg G5) upd_same (by rw [upd_ne (Ne.symm hne)]; exact et5) (fun b o e h1 h2 => by rw [upd_ne h1]; exact kp5 b o (kp4 b o e h1 h2) h1 h2)
        · refine ⟨_, rfl, iteF ?_⟩
          exact ⟨t'', _, _, rfl, hPt.inner hit hp1 eg P5, eh5, et5, fun b o e h1 h2 => kp5 b o (kp4 b o e h1 h2) h1 h2⟩
    · rintro σ H2 ⟨t', u, v, rfl, hPt, eh2, et2, kp⟩
      rw [List.length_map, lr] at hPt
      exact qF t' H2 hPt eh2 et2 kp
theorem ok_find_column (T : Txt K mg f fd) : FnOk P w K mg base CX0 17 (f 8) (fd 8) ["table", "row", "holders", "tried"] (spFind 17) := ok_find_col T 17
theorem ok_short_of (T : Txt K mg f fd) : FnOk P w K mg base CX0 1 (f 9) (fd 9) ["row", "holders", "tried"] spShort := by
  refine T.F_short_of.ok sc_short_of (fun vs H Q E h => ?_) (fun cdv A outer s H vs Q E hr h => ?_)
  · obtain ⟨k, hd, td, hs, t, rfl, _⟩ := h; rfl
  obtain ⟨k, hd, td, hs, t, rfl, eh, et, hne, hheld, h16, q⟩ := h
  refine ⟨_, 
    (pss_cons
      (ps_set (i := 3) sc_short_of.nd rfl (Or.inl rfl) (pe_op op_cat (pe_lst (pa_cons (pv 0) pa_nil)) (pe_comp rfl (NY := ["column", "holders"]) (fr := [none, some 1]) ⟨rfl, by decide +kernel, by decide +kernel, rfl, rfl, rfl⟩ (pi_keys (pv 2)) (fun _ _ _ _ _ => ⟨(pg_name (i := 0) (show List.Nodup (["column", "holders"] : List Str) from by decide +kernel) rfl (Or.inl rfl)), pif_nil, (pe_dget (hu_of hr) (pv 1) (pv 0) (fun _ _ => rfl))⟩))))
    (pss_one
      (ps_ret (pe_tup (pa_cons pe_str (pa_cons (pe_callB (call_sortL K) (by rfl) T.z_sorted (by decide +kernel) (pa_cons (pv 3) pa_nil)) (pa_cons (pe_callB call_sortD (by rfl) T.z_sorted (by decide +kernel) (pa_cons (pv 2) pa_nil)) pa_nil))))))), ?_⟩
  have lt : (tV t).length = t.length := by unfold tV; rw [List.length_map]
  refine ⟨_, rfl, (by show 1 ≤ sizeLine; decide), fun l0 hl0 => ?_⟩
  have s0 := same_new hl0 (.lst [.int (k : Int)])
  refine ⟨_, rfl, td, tV t, rfl, s0 _ _ et, fun ob D hD => cmp_mapK (ys := nV (t.map fun c => (getN hs c).getD 0)) upd_same hD (by rw [lt]; omega) (by unfold nV tV; simp) (fun i x y Hc R hx hy s2 d2 kk => ?_) (fun H1 s1 d1 => ?_)⟩
  · obtain ⟨c, hc, rfl⟩ := at_map hx
    obtain ⟨r, eg⟩ := hheld c (List.mem_of_getElem? hc)
    have ey : (nV (t.map fun c => (getN hs c).getD 0))[i]? = some (V.int (r : Int)) := by
      unfold nV
      rw [List.getElem?_map, List.getElem?_map, hc, Option.map_some, eg]; rfl
    rw [ey] at hy; cases hy
    have ehc : Hc hd = some (.dK (hV hs)) := s2 _ _ (by rw [upd_ne hne]; exact s0 _ _ eh)
    refine ⟨_, rfl, _, rfl, hd, .int (r : Int), rfl, ?_, kk _ s2 d2⟩
    have := DGet.k (k := Sum.inl (c : Int)) ehc
    rw [hV_get, eg] at this
    exact this
  · have n0t : l0 ≠ td := Ne.symm (ne_of_none et hl0)
    have el0 : H1 l0 = some (.lst [.int (k : Int)]) := s1 _ _ (by rw [upd_ne n0t]; exact upd_same)
    refine ⟨l0, D, _, _, rfl, rfl, el0, d1, small (by unfold nV; simp; omega), fun lr hlr => ?_⟩
    have kp1 : ∀ b o, H b = some o → b ≠ td → H1 b = some o := fun b o e hb => s1 _ _ (by rw [upd_ne hb]; exact s0 _ _ e)
    have fr1 : ∀ b, H1 b = none → H b = none := fun b e => by
      cases eb : H b with
      | none => rfl
      | some o =>
        by_cases hb : b = td
        · have := s1 td _ (upd_same (H := upd H l0 (.lst [.int (k : Int)])) (o := .frz ob (.dK (tV t))))
          rw [hb] at e; rw [e] at this; cases this
        · rw [kp1 b o eb hb] at e; cases e
    generalize eH2 : upd H1 lr (.lst ([.int (k : Int)] ++ nV (t.map fun c => (getN hs c).getD 0))) = H2
    have s2 : Same H1 H2 := by rw [← eH2]; exact same_new hlr _
    have elr : H2 lr = some (.lst ((k :: t.map fun c => (getN hs c).getD 0).map (V.int ∘ Int.ofNat))) := by rw [← eH2, upd_same]; rfl
    refine ⟨_, rfl, lr, (k :: t.map fun c => (getN hs c).getD 0).map Int.ofNat, rfl, SqL.of (by rw [List.map_map]; exact elr), by simp; omega, fun l ms hl pm sm => ?_⟩
    obtain ⟨rows, rfl, pr⟩ := nat_list pm
    have s3 := same_new hl (.lst ((rows.map Int.ofNat).map V.int))
    have etd : H2 td = some (.frz ob (.dK (tV t))) := s2 _ _ (s1 _ _ upd_same)
    refine ⟨_, rfl, td, tV t, t.map Int.ofNat, rfl, .inr ⟨ob, s3 _ _ etd⟩, by unfold tV; rw [List.map_map, List.map_map]; rfl, by rw [List.length_map]; omega, fun m ms2 hm pm2 sm2 => ?_⟩
    obtain ⟨cols, rfl, pc⟩ := nat_list pm2
    have s4 := same_new hm (.lst ((cols.map Int.ofNat).map V.int))
    refine ⟨(by show 3 ≤ sizeLine; decide), fun v hv => ?_⟩
    have s5 := same_new hv (.tup [.str "short", .ref l, .ref m])
    have s14 := s2.trans (s3.trans s4)
    refine q v l m rows cols _ (fun b o e hb => s5 _ _ (s14 _ _ (kp1 b o e hb))) (fr1 v (s14.free hv)) (fr1 l (s2.free hl)) (fr1 m ((s2.trans s3).free hm)) upd_same (s5 _ _ (s4 _ _ ?_)) (s5 _ _ ?_) pr (nat_sorted sm) pc (nat_sorted sm2)
    · rw [upd_same, nV_int]
    · rw [upd_same, nV_int]
theorem ok_places_of (T : Txt K mg f fd) : FnOk P w K mg base CX0 1 (f 10) (fd 10) ["holders"] spPlacesOf := by
  refine T.F_places_of.ok sc_places_of (fun vs H Q E h => ?_) (fun cdv A outer s H vs Q E hr h => ?_)
  · obtain ⟨n, hd, Tb, hs, rfl, _⟩ := h; rfl
  obtain ⟨n, hd, Tb, hs, rfl, eh, hH, h16, q⟩ := h
  have hl := hH.len
  have lh : (hV hs).length = n := by unfold hV; rw [List.length_map]; exact hl
  refine ⟨_, 
    (pss_cons
      (ps_set (i := 1) sc_places_of.nd rfl (Or.inl rfl) (pe_op op_rep (pe_lst (pa_cons pe_non pa_nil)) (pe_callB call_lenD (by rfl) T.z_len (by decide +kernel) (pa_cons (pv 0) pa_nil))))
    (pss_cons
      (ps_for PassesOwn.never rfl (pi_items (pv 0)) (pg_tupK K (n := 2) rfl (pgs_cons (pg_name (i := 2) sc_places_of.nd rfl (Or.inl rfl)) (pgs_cons (pg_name (i := 3) sc_places_of.nd rfl (Or.inl rfl)) pgs_nil)))
        (pss_one
          (ps_asg (pv 2) (pg_sub (pv 1) (pv 3) set_list))))
    (pss_one
      (ps_ret (pv 1))))), ?_⟩
  refine ⟨(by show 1 ≤ sizeLine; decide), fun l0 hl0 => ⟨_, rfl, hd, hV hs, rfl, .inl (same_new hl0 _ _ _ eh), ?_⟩⟩
  rw [lh]
  refine ⟨l0, _, _, rfl, rfl, upd_same, by omega, by omega, small (by simp; omega), fun l hl1 => ?_⟩
  have eR : (n : Int).toNat = n := by omega
  rw [eR, rep_flatN]
  have s1 := (same_new hl0 (.lst [.non])).trans (same_new hl1 (.lst ((List.replicate n (none : Option Nat)).map oV)))
  have nlh : l ≠ hd := Ne.symm (ne_of_none (same_new hl0 _ _ _ eh) hl1)
  refine ⟨_, rfl, hd, hV hs, rfl, s1 _ _ eh, fun ob => for_items (d := hd) (ob := ob) (kvs := hV hs) (fun i σ H2 => ∃ (xs : List (Option Nat)) (u v : Option V), σ = [some (.ref hd), some (.ref l), u, v] ∧ H2 hd = some (.frz ob (.dK (hV hs))) ∧ H2 l = some (.lst (xs.map oV)) ∧ xs.length = n ∧
      (∀ b o, H b = some o → b ≠ hd → H2 b = some o) ∧ ∀ (j c r : Nat), j < i → hs[j]? = some (c, r) → xs[r]? = some (some c))
    ⟨List.replicate n none, _, _, rfl, upd_same, by rw [upd_ne nlh]; exact upd_same, by simp, fun b o e hb => by rw [upd_ne hb]; exact s1 _ _ e, fun j c r hj => by omega⟩ (fun i σ H2 _ ⟨_, _, _, _, e, _⟩ => e) ?_ ?_⟩
  · rintro i x σ H2 c hx ⟨xs, u, v, rfl, e1, e2, lx, kp, hj⟩ hc
    obtain ⟨⟨co, ro⟩, hco, rfl⟩ := at_map hx
    have g := getN_of_mem hH.ok.nd (List.mem_of_getElem? hco)
    have rn : ro < n := (hH.ok.at' co ro g).2.1
    have ix : ixN (xs.map oV).length (ro : Int) = some ro := by
      unfold ixN; rw [if_pos (by omega), if_pos (by rw [List.length_map]; omega)]; simp
    generalize eH3 : upd H2 c (.tup [.int (co : Int), .int (ro : Int)]) = H3
    have s3 : Same H2 H3 := by rw [← eH3]; exact same_new hc _
    have ec3 : H3 c = some (.tup [.int (co : Int), .int (ro : Int)]) := by rw [← eH3]; exact upd_same
    show gTup K 2 (gCons (gName 2) (gCons (gName 3) gNil)) (.ref c) _ (upd H2 c (.tup [.int (co : Int), .int (ro : Int)])) _
    rw [eH3]
    refine ⟨c, _, rfl, SqT.of ec3, rfl, _, _, rfl, _, _, rfl, rfl, ?_⟩
    refine ⟨_, rfl, _, rfl, _, rfl, l, _, _, _, rfl, rfl, s3 _ _ e2, ix, ?_⟩
    refine ⟨xs.set ro (some co), _, _, rfl, by rw [upd_ne (Ne.symm nlh)]; exact s3 _ _ e1, by rw [upd_same, List.map_set]; rfl, by rw [List.length_set]; exact lx, fun b o e hb => ?_, fun j c' r' hjj hj' => ?_⟩
    · have : b ≠ l := fun z => by
        have := (same_new hl0 (.lst [.non])).free hl1
        rw [z, this] at e; cases e
      rw [upd_ne this]; exact s3 _ _ (kp b o e hb)
    · by_cases ej : j = i
      · subst ej
        rw [hco] at hj'; cases hj'
        exact List.getElem?_set_self (by omega)
      · have ne : ro ≠ r' := fun z => by
          have nd := vals_nodup hH.ok.nd hH.inj
          have e1 : (hs.map (·.2))[i]? = some ro := by rw [List.getElem?_map, hco]; rfl
          have e2 : (hs.map (·.2))[j]? = some r' := by rw [List.getElem?_map, hj']; rfl
          rw [z] at e1
          exact ej (nd_ix nd e2 e1)
        rw [List.getElem?_set_ne ne]
        exact hj j c' r' (by omega) hj'
  · rintro σ H2 ⟨xs, u, v, rfl, e1, e2, lx, kp, hj⟩
    have all : ∀ r, r < n → ∃ c, getN hs c = some r ∧ xs[r]? = some (some c) := fun r hr => by
      obtain ⟨c, e⟩ := (hH.rows r).mpr hr
      obtain ⟨j, hjl, ej⟩ := List.getElem_of_mem (getN_mem e)
      exact ⟨c, e, hj j c r (by rw [lh]; omega) (by rw [List.getElem?_eq_getElem hjl, ej])⟩
    have ev : xs.map oV = nV (xs.map fun o => o.getD 0) := by
      unfold nV
      rw [List.map_map]
      apply List.map_congr_left
      intro o ho
      obtain ⟨r, hr2, er⟩ := List.getElem_of_mem ho
      obtain ⟨c, _, ec⟩ := all r (by omega)
      rw [List.getElem?_eq_getElem hr2, er] at ec
      cases ec; rfl
    rw [ev] at e2
    refine ⟨_, rfl, q l (xs.map fun o => o.getD 0) H2 kp ((same_new hl0 (.lst [.non])).free hl1) e2 (hH.seats (by rw [List.length_map]; exact lx) fun r c e => ?_)⟩
    have hr2 : r < n := by have := (List.getElem?_eq_some_iff.mp e).1; rw [List.length_map] at this; omega
    obtain ⟨c', g, ec⟩ := all r hr2
    rw [List.getElem?_map, ec] at e
    cases e; exact g
theorem ok_matched (T : Txt K mg f fd) : FnOk P w K mg base CX0 18 (f 11) (fd 11) ["table"] spMatched := by
  refine T.F_matched.ok sc_matched (fun vs H Q E h => ?_) (fun cdv A outer s H vs Q E hr h => ?_)
  · obtain ⟨n, a, ps, Tb, rfl, _⟩ := h; rfl
  obtain ⟨n, a, ps, Tb, rfl, hT, hSh, h16, qS, qN⟩ := h
  have hl := hT.len
  refine ⟨_, 
    (pss_cons
      (ps_set (i := 1) sc_matched.nd rfl (Or.inl rfl) pe_dnewK)
    (pss_cons
      (ps_for PassesOwn.never rfl (pi_range1 (by rfl) T.z_range (pa_cons (pe_callB (call_lenK K) (by rfl) T.z_len PySem.boot_len (pa_cons (pv 0) pa_nil)) pa_nil)) (pg_name (i := 2) sc_matched.nd rfl (Or.inl rfl))
        (pss_cons
          (ps_set (i := 3) sc_matched.nd rfl (Or.inl rfl) pe_dnewK)
        (pss_one
          (ps_if (pt_not (pt_val (pe_call (ok_find_column T) (hr.mono (by decide)) (by rfl) T.m_find_column T.F_find_column.kp T.b_find_column .nil pass0 (pa_cons (pv 0) (pa_cons (pv 2) (pa_cons (pv 1) (pa_cons (pv 3) pa_nil)))))))
            (pss_one
              (ps_ret (pe_call (ok_short_of T) (hr.mono (by decide)) (by rfl) T.m_short_of T.F_short_of.kp T.b_short_of .nil pass0 (pa_cons (pv 2) (pa_cons (pv 1) (pa_cons (pv 3) pa_nil))))))
            pss_nil))))
    (pss_one
      (ps_ret (pe_tup (pa_cons pe_str (pa_cons (pe_call (ok_places_of T) (hr.mono (by decide)) (by rfl) T.m_places_of T.F_places_of.kp T.b_places_of .nil pass0 (pa_cons (pv 1) pa_nil)) pa_nil))))))), ?_⟩
  intro hd hhd
  have s0 := same_new hhd (.dK [])
  have eL : ((ps.map V.ref).length : Int).toNat = n := by rw [List.length_map, hl, hSh.1]; omega
  refine ⟨_, rfl, a, _, rfl, .inl (SqL.of (s0 _ _ hT.top)), _, rfl, by rw [List.length_map]; omega, by rw [List.length_map, hl, hSh.1]; omega, ?_⟩
  rw [eL]
  refine for_range (lo := 0) (n := n) (fun k σ H2 => ∃ (hs : List (Nat × Nat)) (u v : Option V), σ = [some (.ref a), some (.ref hd), u, v] ∧ H2 hd = some (.dK (hV hs)) ∧ Held n Tb k hs ∧ Same H H2) ⟨[], _, _, rfl, upd_same, Held.zero, s0⟩ ?_ ?_
  · rintro k σ H2 hk ⟨hs, u, v, rfl, eh, hH, s2⟩
    intro td htd
    have s3 := same_new htd (.dK [])
    have hne : hd ≠ td := ne_of_none eh htd
    refine ⟨_, rfl, _, rfl, _, rfl, _, rfl, n, a, hd, td, ps, Tb, k, hs, [], ?_, (hT.same s2).same s3, hSh, h16, hk, s3 _ _ eh, upd_same, hne, hH.ok, hH.inj, by simp, by simp, fun c e => ?_, by simp; omega, fun hs' t' H4 G4 eh4 et4 kp4 => ?_, fun t' H4 P4 eh4 et4 kp4 => ?_⟩
    · show [V.ref a, V.int (0 + (k : Int)), V.ref hd, V.ref td] = _
      rw [Int.zero_add]
    · have := (hH.rows k).mp ⟨c, e⟩
      omega
    · refine ⟨_, rfl, iteF ?_⟩
      exact ⟨hs', _, _, rfl, eh4, hH.next G4, fun b o e => kp4 b o (s3 _ _ (s2 _ _ e)) (ne_of_none e hhd) (ne_of_none e (s2.free htd))⟩
    · refine ⟨_, rfl, iteT ?_⟩
      refine ⟨_, rfl, _, rfl, _, rfl, k, hd, td, hs, t', ?_, eh4, et4, hne, fun c hc => let ⟨r, a1, _⟩ := P4.shut c hc (by simp); ⟨r, a1⟩, Nat.le_trans (nodup_le P4.nd P4.lt) h16, fun v l m rows cols H5 kp5 nv nl nm ev el em pr sr pc sc => ?_⟩
      · show [V.int (0 + (k : Int)), V.ref hd, V.ref td] = _
        rw [Int.zero_add]
      · have s5 : Same H H5 := fun b o e => kp5 b o (kp4 b o (s3 _ _ (s2 _ _ e)) (ne_of_none e hhd) (ne_of_none e (s2.free htd))) (ne_of_none e (s2.free htd))
        have fr : ∀ b, H4 b = none → H b = none := fun b e => by
          cases eb : H b with
          | none => rfl
          | some o => rw [kp4 b o (s3 _ _ (s2 _ _ eb)) (ne_of_none eb hhd) (ne_of_none eb (s2.free htd))] at e; cases e
        exact qN v l m rows cols H5 s5 (fr v nv) (fr l nl) (fr m nm) ev el em (P4.short hH hk pr sr pc sc)
  · rintro σ H2 ⟨hs, u, v, rfl, eh, hH, s2⟩
    refine ⟨_, rfl, n, hd, Tb, hs, rfl, eh, hH, h16, fun l pls H3 kp3 nl el hS => ⟨(by show 2 ≤ sizeLine; decide), fun t ht => ?_⟩⟩
    have s3 : Same H H3 := fun b o e => kp3 b o (s2 _ _ e) (ne_of_none e hhd)
    exact qS t l pls _ (s3.trans (same_new ht _)) (s3.free ht) (s2.free nl) upd_same (same_new ht _ _ _ el) hS
end

end My

namespace My
open PySem L2
section
open Ev
variable {P : Program} {w : World} {K : PySem.W.Frag} {mg : Str → Option Value} {base : Heap} {f : Nat → Addr} {fd : Nat → FuncData}
theorem ok_check_many (T : Txt K mg f fd) : FnOk P w K mg base CX0 1 (f 0) (fd 0) ["many"] spMany := by
  refine T.F_check_many.ok sc_check_many (fun vs H Q E h => ?_) (fun cdv A outer s H vs Q E hr h => ?_)
  · obtain ⟨n, rfl, _⟩ := h; rfl
  obtain ⟨n, rfl, h1, h8, q⟩ := h
  obtain ⟨_, hc_MOST_ROWS⟩ := T.c_MOST_ROWS
  refine ⟨_, 
    (pss_one
      (ps_if (pw_or (pt_cmpR op_lt (pv 0) pe_int (nomark _)) (pw_or1 (pt_cmpR op_gt (pv 0) (pe_glob (v := .int 8) (by rfl) hc_MOST_ROWS ⟨_, rfl⟩) (nomark _)))).pt
        (pss_one
          ps_never)
        pss_nil)), ?_⟩
  refine ⟨_, rfl, _, _, rfl, rfl, _, rfl, iteD (fun c => absurd c (by omega)) (fun _ => ?_)⟩
  exact ⟨_, rfl, _, _, rfl, rfl, _, rfl, iteD (fun c => absurd c (by omega)) (fun _ => q)⟩
theorem ok_check_row (T : Txt K mg f fd) : FnOk P w K mg base CX0 1 (f 1) (fd 1) ["row", "many"] (spRow K) := by
  refine T.F_check_row.ok sc_check_row (fun vs H Q E h => ?_) (fun cdv A outer s H vs Q E hr h => ?_)
  · obtain ⟨p, r, rfl, _⟩ := h; rfl
  obtain ⟨p, r, rfl, hS, hb, q⟩ := h
  obtain ⟨_, hc_MOST_NUMBER⟩ := T.c_MOST_NUMBER
  refine ⟨_, 
    (pss_cons
      (ps_if (pt_cmpR op_ne (pe_callB (call_lenK K) (by rfl) T.z_len PySem.boot_len (pa_cons (pv 0) pa_nil)) (pv 1) (nomark _))
        (pss_one
          ps_never)
        pss_nil)
    (pss_one
      (ps_for PassesOwn.never rfl (pi_listK K (pv 0)) (pg_name (i := 2) sc_check_row.nd rfl (Or.inl rfl))
        (pss_one
          (ps_if (pw_or (pt_cmpR op_lt (pv 2) pe_int (nomark _)) (pw_or1 (pt_cmpR op_gt (pv 2) (pe_glob (v := .int 1000000) (by rfl) hc_MOST_NUMBER ⟨_, rfl⟩) (nomark _)))).pt
            (pss_one
              ps_never)
            pss_nil))))), ?_⟩
  refine ⟨_, rfl, p, _, rfl, .inl hS, _, rfl, rfl, _, rfl, iteNe (fun c => absurd (by simp) c) (fun _ => ?_)⟩
  refine ⟨_, rfl, p, rfl, ⟨_, hS⟩, for_list (K := K) (a := p) (xs := r.map V.int) (fun i σ H2 => ∃ v, σ = [some (.ref p), some (.int r.length), v] ∧ H2 = H) ⟨_, rfl, rfl⟩ (fun i σ H2 _ ⟨_, _, e⟩ => e ▸ hS) ?_ ?_⟩
  · rintro i x σ H2 hx ⟨v, rfl, rfl⟩
    obtain ⟨z, hz, rfl⟩ := at_map hx
    have hm := hb z (List.mem_of_getElem? hz)
    refine ⟨_, rfl, _, _, rfl, rfl, _, rfl, iteD (fun c => absurd c (by omega)) (fun _ => ?_)⟩
    exact ⟨_, rfl, _, _, rfl, rfl, _, rfl, iteD (fun c => absurd c (by omega)) (fun _ => ⟨_, rfl, rfl⟩)⟩
  · rintro σ H2 ⟨v, rfl, rfl⟩
    exact q
theorem ok_check_table (T : Txt K mg f fd) : FnOk P w K mg base CX0 2 (f 2) (fd 2) ["table"] spTable := by
  refine T.F_check_table.ok sc_check_table (fun vs H Q E h => ?_) (fun cdv A outer s H vs Q E hr h => ?_)
  · obtain ⟨a, ps, Tb, rfl, _⟩ := h; rfl
  obtain ⟨a, ps, Tb, rfl, hT, hV, q⟩ := h
  have hl := hT.len
  refine ⟨_, 
    (pss_cons
      (ps_expr (pe_call (ok_check_many T) (hr.mono (by decide)) (by rfl) T.m_check_many T.F_check_many.kp T.b_check_many .nil pass0 (pa_cons (pe_callB (call_lenK K) (by rfl) T.z_len PySem.boot_len (pa_cons (pv 0) pa_nil)) pa_nil)))
    (pss_one
      (ps_for PassesOwn.never rfl (pi_listK K (pv 0)) (pg_name (i := 1) sc_check_table.nd rfl (Or.inl rfl))
        (pss_one
          (ps_expr (pe_call (ok_check_row T) (hr.mono (by decide)) (by rfl) T.m_check_row T.F_check_row.kp T.b_check_row .nil pass0 (pa_cons (pv 1) (pa_cons (pe_callB (call_lenK K) (by rfl) T.z_len PySem.boot_len (pa_cons (pv 0) pa_nil)) pa_nil)))))))), ?_⟩
  refine ⟨_, rfl, a, _, rfl, .inl (SqL.of hT.top), ((ps.map V.ref).length : Int), rfl, ?_, ?_, ?_⟩
  · have := hV.1; rw [List.length_map]; omega
  · have := hV.2.1; rw [List.length_map]; omega
  refine ⟨_, rfl, a, rfl, ⟨_, SqL.of hT.top⟩, for_list (K := K) (a := a) (xs := ps.map V.ref) (fun i σ H2 => ∃ v, σ = [some (.ref a), v] ∧ H2 = H) ⟨_, rfl, rfl⟩ (fun i σ H2 _ ⟨_, _, e⟩ => e ▸ SqL.of hT.top) ?_ ?_⟩
  · rintro i x σ H2 hx ⟨v, rfl, rfl⟩
    obtain ⟨p, hp, rfl⟩ := at_map hx
    obtain ⟨r, hr2, er⟩ := pr_get hT.rows hp
    have hm := hV.2.2 r (List.mem_of_getElem? hr2)
    have e : ((ps.map V.ref).length : Int) = (r.length : Int) := by rw [List.length_map, hl, hm.1]
    refine ⟨_, rfl, _, rfl, a, _, rfl, .inl (SqL.of hT.top), p, r, ?_, SqL.of er, hm.2, ⟨_, rfl, rfl⟩⟩
    show [V.ref p, V.int ((ps.map V.ref).length : Int)] = _
    rw [e]
  · rintro σ H2 ⟨v, rfl, rfl⟩
    exact q
theorem ok_column_sum (T : Txt K mg f fd) : FnOk P w K mg base CX0 1 (f 3) (fd 3) ["table", "column"] spCol := by
  refine T.F_column_sum.ok sc_column_sum (fun vs H Q E h => ?_) (fun cdv A outer s H vs Q E hr h => ?_)
  · obtain ⟨a, ps, Tb, c, rfl, _⟩ := h; rfl
  obtain ⟨a, ps, Tb, c, rfl, hT, hn, hc, q⟩ := h
  have hl := hT.len
  refine ⟨_, 
    (pss_one
      (ps_ret (pe_callB (call_sumK K) (by rfl) T.z_sum PyProof.Rows.boot_sum (pa_cons (pe_comp rfl (NY := ["row", "column"]) (fr := [none, some 1]) ⟨rfl, by decide +kernel, by decide +kernel, rfl, rfl, rfl⟩ (pi_listK K (pv 0)) (fun _ _ _ _ _ => ⟨(pg_name (i := 0) (show List.Nodup (["row", "column"] : List Str) from by decide +kernel) rfl (Or.inl rfl)), pif_nil, (pe_ix (ix_listK K) (pv 0) (pv 1) (fun _ _ => rfl))⟩)) pa_nil)))), ?_⟩
  refine ⟨_, rfl, a, rfl, ⟨_, SqL.of hT.top⟩, fun D hD => cmp_mapL (K := K) (xs := ps.map V.ref) (ys := (Tb.map fun r => r.getD c 0).map V.int) hD (SqL.of hT.top) (by rw [List.length_map]; omega) (by simp [hl]) (fun i x y Hc R hx hy s2 d2 k => ?_) (fun H' s2 d2 => ?_)⟩
  · obtain ⟨p, hp, rfl⟩ := at_map hx
    obtain ⟨r, hr2, er⟩ := pr_get hT.rows hp
    have e1 : ((Tb.map fun r => r.getD c 0).map V.int)[i]? = some (.int (r.getD c 0)) := map_at (map_at (f := fun r : List Int => r.getD c 0) hr2)
    rw [e1] at hy; cases hy
    have hcr := hc r (List.mem_of_getElem? hr2)
    have e2 : (r.map V.int)[c]? = some (.int (r.getD c 0)) := map_at (by rw [List.getElem?_eq_getElem hcr, List.getD_eq_getElem?_getD, List.getElem?_eq_getElem hcr]; rfl)
    exact ⟨_, rfl, _, rfl, p, _, _, _, rfl, rfl, SqL.of (s2 _ _ er), atI_nat e2, k _ s2 d2⟩
  · exact ⟨D, _, rfl, SqL.of d2, q H' s2⟩
theorem ok_sums (T : Txt K mg f fd) : FnOk P w K mg base CX0 3 (f 4) (fd 4) ["table"] spSums := by
  refine T.F_sums.ok sc_sums (fun vs H Q E h => ?_) (fun cdv A outer s H vs Q E hr h => ?_)
  · obtain ⟨a, ps, Tb, rfl, _⟩ := h; rfl
  obtain ⟨a, ps, Tb, rfl, hT, hV, q⟩ := h
  have hl := hT.len
  have h8 := hV.2.1
  refine ⟨_, 
    (pss_cons
      (ps_expr (pe_call (ok_check_table T) (hr.mono (by decide)) (by rfl) T.m_check_table T.F_check_table.kp T.b_check_table .nil pass0 (pa_cons (pv 0) pa_nil)))
    (pss_cons
      (ps_setC (i := 1) sc_sums.nd rfl rfl rfl (NY := ["row"]) (fr := [none]) ⟨rfl, by decide +kernel, by decide +kernel, rfl, rfl, rfl⟩ (pi_listK K (pv 0)) (fun _ _ _ _ _ => ⟨(pg_name (i := 0) (show List.Nodup (["row"] : List Str) from by decide +kernel) rfl (Or.inl rfl)), pif_nil, (pe_callB (call_sumK K) (by rfl) T.z_sum PyProof.Rows.boot_sum (pa_cons (pv 0) pa_nil))⟩))
    (pss_cons
      (ps_setC (i := 2) sc_sums.nd rfl rfl rfl (NY := ["column", "table"]) (fr := [none, some 0]) ⟨rfl, by decide +kernel, by decide +kernel, rfl, rfl, rfl⟩ (pi_range1 (by rfl) T.z_range (pa_cons (pe_callB (call_lenK K) (by rfl) T.z_len PySem.boot_len (pa_cons (pv 0) pa_nil)) pa_nil)) (fun _ _ _ _ _ => ⟨(pg_name (i := 0) (show List.Nodup (["column", "table"] : List Str) from by decide +kernel) rfl (Or.inl rfl)), pif_nil, (pe_call (ok_column_sum T) (hr.mono (by decide)) (by rfl) T.m_column_sum T.F_column_sum.kp T.b_column_sum .nil pass0 (pa_cons (pv 1) (pa_cons (pv 0) pa_nil)))⟩))
    (pss_one
      (ps_ret (pe_tup (pa_cons (pv 1) (pa_cons (pv 2) pa_nil)))))))), ?_⟩
  refine ⟨_, rfl, a, ps, Tb, rfl, hT, hV, ?_⟩
  refine ⟨_, rfl, a, rfl, ⟨_, SqL.of hT.top⟩, fun D1 hD1 => cmp_mapL (K := K) (xs := ps.map V.ref) (ys := (rowsS Tb).map V.int) hD1 (SqL.of hT.top) (by rw [List.length_map]; omega) (by simp [rowsS, hl]) (fun i x y Hc R hx hy s2 d2 k => ?_) (fun H1 s1 d1 => ?_)⟩
  · obtain ⟨p, hp, rfl⟩ := at_map hx
    obtain ⟨r, hr2, er⟩ := pr_get hT.rows hp
    rw [rowsS_at hr2] at hy; cases hy
    exact ⟨_, rfl, p, _, rfl, SqL.of (s2 _ _ er), k _ s2 d2⟩
  have t1 := hT.same s1
  have eL : ((ps.map V.ref).length : Int).toNat = Tb.length := by rw [List.length_map]; omega
  refine ⟨_, rfl, a, _, rfl, .inl (SqL.of t1.top), _, rfl, ?_, ?_, fun D2 hD2 => ?_⟩
  · rw [List.length_map]; omega
  · rw [List.length_map]; omega
  rw [eL]
  refine cmp_mapR (ys := (colsS Tb).map V.int) hD2 (by omega) (by simp [colsS]) (fun i y Hc R hi hy s2 d2 k => ?_) (fun H2 s2 d2 => ?_)
  · rw [colsS_at hi] at hy; cases hy
    refine ⟨_, rfl, _, rfl, a, ps, Tb, i, ?_, t1.same s2, by omega, hV.cols hi, fun H4 s4 => k H4 (s2.trans s4) (s4 _ _ d2)⟩
    show [V.ref a, V.int (0 + (i : Int))] = _
    rw [Int.zero_add]
  have n21 : D1 ≠ D2 := ne_of_none d1 hD2
  refine ⟨_, rfl, _, rfl, (by show 2 ≤ sizeLine; decide), fun t ht => ?_⟩
  have sA : Same H H2 := s1.trans s2
  exact q t D1 D2 _ (same_upd sA (sA.free ht) _) (sA.free ht) hD1 (s1.free hD2) n21 (Ne.symm (ne_of_none (s2 _ _ d1) ht)) (Ne.symm (ne_of_none d2 ht)) upd_same
    (by rw [upd_ne (ne_of_none (s2 _ _ d1) ht)]; exact s2 _ _ d1) (by rw [upd_ne (ne_of_none d2 ht)]; exact d2)
theorem ok_first_other (T : Txt K mg f fd) : FnOk P w K mg base CX0 1 (f 5) (fd 5) ["totals", "wanted"] (spFirst K) := by
  refine T.F_first_other.ok sc_first_other (fun vs H Q E h => ?_) (fun cdv A outer s H vs Q E hr h => ?_)
  · obtain ⟨p, ns, w', rfl, _⟩ := h; rfl
  obtain ⟨p, ns, w', rfl, hS, q⟩ := h
  refine ⟨_, 
    (pss_cons
      (ps_for PassesOwn.never rfl (pi_enumK K (by rfl) T.z_enumerate (pa_cons (pv 0) pa_nil)) (pg_tupK K (n := 2) rfl (pgs_cons (pg_name (i := 2) sc_first_other.nd rfl (Or.inl rfl)) (pgs_cons (pg_name (i := 3) sc_first_other.nd rfl (Or.inl rfl)) pgs_nil)))
        (pss_one
          (ps_if (pt_cmpR op_ne (pv 3) (pv 1) (nomark _))
            (pss_one
              (ps_ret (pv 2)))
            pss_nil)))
    (pss_one
      (ps_ret pe_non))), ?_⟩
  refine ⟨_, rfl, p, rfl, ⟨_, hS⟩, for_enum (K := K) (a := p) (xs := ns.map V.int) (fun i σ H2 => ∃ u v, σ = [some (.ref p), some (.int w'), u, v] ∧ Same H H2 ∧ fo w' (ns.drop i) i = fo w' ns 0) ⟨_, _, rfl, Same.refl H, rfl⟩ (fun i σ H2 _ ⟨_, _, _, s2, _⟩ => s2.seq hS) ?_ ?_⟩
  · rintro i x σ H2 t hx ⟨u, v, rfl, s2, e⟩ ht
    obtain ⟨z, hz, rfl⟩ := at_map hx
    have s3 : Same H (upd H2 t (.tup [.int i, .int z])) := same_upd s2 (s2.free ht) _
    refine ⟨t, _, rfl, SqT.of upd_same, rfl, _, _, rfl, _, _, rfl, rfl, ?_⟩
    refine ⟨_, rfl, _, rfl, rfl, _, rfl, iteNe (fun c => ?_) (fun c => ?_)⟩
    · refine ⟨_, rfl, ?_⟩
      have e2 := e
      rw [fo_drop hz, if_neg c] at e2
      have := q _ s3
      rw [← e2] at this
      exact this
    · rw [fo_drop hz, if_pos c] at e
      exact ⟨_, _, rfl, s3, e⟩
  · rintro σ H2 ⟨u, v, rfl, s2, e⟩
    rw [List.length_map, List.drop_length] at e
    have := q H2 s2
    rw [← e] at this
    exact this
theorem ok_odd_line (T : Txt K mg f fd) : FnOk P w K mg base CX0 4 (f 6) (fd 6) ["table"] spOdd := by
  refine T.F_odd_line.ok sc_odd_line (fun vs H Q E h => ?_) (fun cdv A outer s H vs Q E hr h => ?_)
  · obtain ⟨a, ps, Tb, rfl, _⟩ := h; rfl
  obtain ⟨a, ps, Tb, rfl, hT, hV, q⟩ := h
  refine ⟨_, 
    (pss_cons
      (ps_set (i := 1) sc_odd_line.nd rfl (Or.inl rfl) (pe_call (ok_sums T) (hr.mono (by decide)) (by rfl) T.m_sums T.F_sums.kp T.b_sums .nil pass0 (pa_cons (pv 0) pa_nil)))
    (pss_cons
      (ps_set (i := 2) sc_odd_line.nd rfl (Or.inl rfl) (pe_ix (ix_listK K) (pe_ix (ix_tupK K) (pv 1) pe_int (fun _ _ => rfl)) pe_int (fun _ _ => rfl)))
    (pss_cons
      (ps_set (i := 3) sc_odd_line.nd rfl (Or.inl rfl) (pe_call (ok_first_other T) (hr.mono (by decide)) (by rfl) T.m_first_other T.F_first_other.kp T.b_first_other .nil pass0 (pa_cons (pe_ix (ix_tupK K) (pv 1) pe_int (fun _ _ => rfl)) (pa_cons (pv 2) pa_nil))))
    (pss_cons
      (ps_if (pt_cmpR op_notN (pv 3) pe_non (nomark _))
        (pss_one
          (ps_ret (pe_tup (pa_cons pe_str (pa_cons (pv 3) pa_nil)))))
        pss_nil)
    (pss_cons
      (ps_set (i := 4) sc_odd_line.nd rfl (Or.inl rfl) (pe_call (ok_first_other T) (hr.mono (by decide)) (by rfl) T.m_first_other T.F_first_other.kp T.b_first_other .nil pass0 (pa_cons (pe_ix (ix_tupK K) (pv 1) pe_int (fun _ _ => rfl)) (pa_cons (pv 2) pa_nil))))
    (pss_cons
      (ps_if (pt_cmpR op_notN (pv 4) pe_non (nomark _))
        (pss_one
          (ps_ret (pe_tup (pa_cons pe_str (pa_cons (pv 4) pa_nil)))))
        pss_nil)
    (pss_one
      (ps_ret pe_non)))))))), ?_⟩
  refine ⟨_, rfl, a, ps, Tb, rfl, hT, hV, fun t p r H1 s1 nt np nr npr _ _ et ep er => ?_⟩
  have h0 : 0 < (rowsS Tb).length := by rw [rowsS_len]; exact hV.1
  have i0 : ∀ {xs : List V} {v : V}, xs[0]? = some v → atI xs 0 = some v := fun h => atI_nat (j := 0) h
  have i1 : ∀ {xs : List V} {v : V}, xs[1]? = some v → atI xs 1 = some v := fun h => atI_nat (j := 1) h
  refine ⟨_, rfl, t, _, _, _, rfl, rfl, SqT.of et, i0 rfl, p, _, _, _, rfl, rfl, SqL.of ep, i0 (map_at (headD_at h0)), ?_⟩
  refine ⟨_, rfl, t, _, _, _, rfl, rfl, SqT.of et, i0 rfl, _, rfl, p, rowsS Tb, _, rfl, SqL.of ep, fun H2 s2 => ?_⟩
  have q2 := fun v H' => q v H'
  unfold oddOf at q2
  cases e1 : fo ((rowsS Tb).headD 0) (rowsS Tb) 0 with
  | some k =>
    rw [e1] at q2
    refine ⟨_, rfl, rfl, _, rfl, iteDn (fun _ => ?_) (fun z => by cases z)⟩
    exact ⟨_, rfl, (by show 2 ≤ sizeLine; decide), fun u hu => q2 _ _ (same_upd (s1.trans s2) ((s1.trans s2).free hu) _) ⟨u, rfl, upd_same⟩⟩
  | none =>
    rw [e1] at q2
    refine ⟨_, rfl, rfl, _, rfl, iteDn (fun z => absurd rfl z) (fun _ => ?_)⟩
    refine ⟨_, rfl, t, _, _, _, rfl, rfl, SqT.of (s2 _ _ et), i1 rfl, _, rfl, r, colsS Tb, _, rfl, SqL.of (s2 _ _ er), fun H3 s3 => ?_⟩
    cases e2 : fo ((rowsS Tb).headD 0) (colsS Tb) 0 with
    | some k =>
      rw [e2] at q2
      refine ⟨_, rfl, rfl, _, rfl, iteDn (fun _ => ?_) (fun z => by cases z)⟩
      exact ⟨_, rfl, (by show 2 ≤ sizeLine; decide), fun u hu => q2 _ _ (same_upd ((s1.trans s2).trans s3) (((s1.trans s2).trans s3).free hu) _) ⟨u, rfl, upd_same⟩⟩
    | none =>
      rw [e2] at q2
      refine ⟨_, rfl, rfl, _, rfl, iteDn (fun z => absurd rfl z) (fun _ => ?_)⟩
      exact q2 _ _ ((s1.trans s2).trans s3) rfl
theorem ok_lay (T : Txt K mg f fd) : FnOk P w K mg base CX0 1 (f 7) (fd 7) ["table", "pair"] spLay := by
  refine T.F_lay.ok sc_lay (fun vs H Q E h => ?_) (fun cdv A outer s H vs Q E hr h => ?_)
  · obtain ⟨n, a, t, l, ps, Tb, tm, pls, rfl, _⟩ := h; rfl
  obtain ⟨n, a, t, l, ps, Tb, tm, pls, rfl, hT, hSh, et, el, ⟨p1, p2, p3⟩, nl, q⟩ := h
  have i0 : ∀ {xs : List V} {v : V}, xs[0]? = some v → atI xs 0 = some v := fun h => atI_nat (j := 0) h
  have i1 : ∀ {xs : List V} {v : V}, xs[1]? = some v → atI xs 1 = some v := fun h => atI_nat (j := 1) h
  have nps : ∀ {u : Addr} {xs : List V}, H u = some (.tup xs) → u ∉ ps := fun e hm => by
    obtain ⟨j, hj, ej⟩ := List.getElem_of_mem hm
    obtain ⟨r, _, er⟩ := pr_get hT.rows (i := j) (x := _) (by simp [hj]; exact ej)
    rw [e] at er; cases er
  refine ⟨_, 
    (pss_one
      (ps_for PassesOwn.never rfl (pi_enumK K (by rfl) T.z_enumerate (pa_cons (pe_ix (ix_tupK K) (pv 1) pe_int (fun _ _ => rfl)) pa_nil)) (pg_tupK K (n := 2) rfl (pgs_cons (pg_name (i := 2) sc_lay.nd rfl (Or.inl rfl)) (pgs_cons (pg_name (i := 3) sc_lay.nd rfl (Or.inl rfl)) pgs_nil)))
        (pss_one
          (ps_if (pt_cmpR op_notN (pv 3) pe_non (nomark _))
            (pss_one
              (ps_augS (pe_ix (ix_listK K) (pv 0) (pv 2) (fun _ _ => rfl)) (pv 3) (get_listK K) (pe_ix (ix_tupK K) (pv 1) pe_int (fun _ _ => rfl)) ip_add set_list))
            pss_nil)))), ?_⟩
  refine ⟨_, rfl, t, _, _, _, rfl, rfl, SqT.of et, i1 rfl, l, rfl, ⟨_, SqL.of el⟩, for_enum (K := K) (a := l) (xs := pls.map plV) (fun i σ H2 => ∃ (u v : Option V), σ = [some (.ref a), some (.ref t), u, v] ∧ Tab H2 a ps (addTo tm pls i Tb) ∧ ∀ b o, H b = some o → b ∉ ps → H2 b = some o)
    ⟨_, _, rfl, hT, fun b o e _ => e⟩ (fun i σ H2 _ ⟨_, _, _, _, k⟩ => SqL.of (k _ _ el nl)) ?_ ?_⟩
  · rintro i x σ H2 c hx ⟨u, v, rfl, hT2, kp⟩ hc
    obtain ⟨o, ho, rfl⟩ := at_map hx
    have hi : i < n := by have := (List.getElem?_eq_some_iff.mp ho).1; omega
    have hSi := hSh.add (tm := tm) (pls := pls) i (by omega)
    have hT3 := hT2.same (same_new hc (.tup [.int i, plV o]))
    have kp3 : ∀ b o', H b = some o' → b ∉ ps → upd H2 c (.tup [.int i, plV o]) b = some o' := fun b o' e n' => same_new hc _ _ _ (kp b o' e n')
    have eD : pls.getD i none = o := by rw [List.getD_eq_getElem?_getD, ho]; rfl
    refine ⟨c, _, rfl, SqT.of upd_same, rfl, _, _, rfl, _, _, rfl, rfl, ?_⟩
    obtain ⟨r, er, lr⟩ := hSi.at hi
    cases o with
    | none =>
      refine ⟨_, rfl, rfl, _, rfl, iteDn (fun z => absurd rfl z) (fun _ => ?_)⟩
      refine ⟨_, _, rfl, ?_, kp3⟩
      have e1 : addTo tm pls (i + 1) Tb = addTo tm pls i Tb := by
        show (addTo tm pls i Tb).set i (addAt tm ((addTo tm pls i Tb).getD i []) (pls.getD i none)) = _
        rw [eD, getD_at er]
        exact set_self er
      rw [e1]
      exact hT3
    | some k =>
      obtain ⟨k0, k1⟩ := p2 k (List.mem_of_getElem? ho)
      refine ⟨_, rfl, rfl, _, rfl, iteDn (fun _ => ?_) (fun z => by cases z)⟩
      obtain ⟨p, hp, ep⟩ := pr_getR hT3.rows er
      have a1 : atI (ps.map V.ref) (i : Int) = some (.ref p) := atI_nat (map_at hp)
      have hk : k.toNat < r.length := by omega
      have ek : k = ((k.toNat : Nat) : Int) := by omega
      have a2 : atI (r.map V.int) k = some (.int r[k.toNat]) := by
        have q2 := atI_nat (xs := r.map V.int) (j := k.toNat) (v := .int r[k.toNat]) (map_at (by simp [hk]))
        rw [← ek] at q2
        exact q2
      have ix : ixN (r.map V.int).length k = some k.toNat := by
        unfold ixN; rw [if_pos k0, if_pos (by rw [List.length_map]; omega)]
      refine ⟨_, rfl, _, rfl, a, _, _, _, rfl, rfl, SqL.of hT3.top, a1, _, rfl, p, _, _, _, rfl, rfl, k0, SqL.of ep, a2, _, rfl, t, _, _, _, rfl, rfl, SqT.of (kp3 _ _ et (nps et)), i0 rfl, _, _, rfl, rfl, p, _, _, _, rfl, rfl, ep, ix, ?_⟩
      have hT4 := hT3.set (r' := r.set k.toNat (r[k.toNat] + tm)) hp
      rw [setV_map] at hT4
      refine ⟨_, _, rfl, ?_, fun b o' e nb => ?_⟩
      · have e1 : addTo tm pls (i + 1) Tb = (addTo tm pls i Tb).set i (r.set k.toNat (r[k.toNat] + tm)) := by
          show (addTo tm pls i Tb).set i (addAt tm ((addTo tm pls i Tb).getD i []) (pls.getD i none)) = _
          rw [eD, getD_at er]
          show (addTo tm pls i Tb).set i (r.set k.toNat (r.getD k.toNat 0 + tm)) = _
          rw [List.getD_eq_getElem?_getD, List.getElem?_eq_getElem hk]
          rfl
        rw [e1]
        exact hT4
      · rw [upd_ne (show b ≠ p from fun z => nb (by rw [z]; exact List.mem_of_getElem? hp))]
        exact kp3 b o' e nb
  · rintro σ H2 ⟨u, v, rfl, hT2, kp⟩
    rw [List.length_map, p1] at hT2
    exact q H2 hT2 kp
end

end My

namespace My
open PySem L2
section
open Ev
variable {P : Program} {w : World} {K : PySem.W.Frag} {mg : Str → Option Value} {base : Heap} {f : Nat → Addr} {fd : Nat → FuncData}
theorem ok_even_pairs (T : Txt K mg f fd) : FnOk P w K mg base CX0 19 (f 12) (fd 12) ["table", "total"] spEven := by
  refine T.F_even_pairs.ok sc_even_pairs (fun vs H Q E h => ?_) (fun cdv A outer s H vs Q E hr h => ?_)
  · obtain ⟨n, a, ps, Tb, s, rfl, _⟩ := h; rfl
  obtain ⟨n, a, ps, Tb, sm, rfl, hT, hL, h0, h1, h16, q⟩ := h
  have i1 : ∀ {xs : List V} {v : V}, xs[1]? = some v → atI xs 1 = some v := fun h => atI_nat (j := 1) h
  refine ⟨_, 
    (pss_cons
      (ps_set (i := 2) sc_even_pairs.nd rfl (Or.inr rfl) (pe_comp rfl (NY := ["row"]) (fr := [none]) ⟨rfl, by decide +kernel, by decide +kernel, rfl, rfl, rfl⟩ (pi_listK K (pv 0)) (fun _ _ _ _ _ => ⟨(pg_name (i := 0) (show List.Nodup (["row"] : List Str) from by decide +kernel) rfl (Or.inl rfl)), pif_nil, (pe_callTy (call_listK K) (by rfl) T.z_list PyProof.Rows.boot_list (pa_cons (pv 0) pa_nil))⟩)))
    (pss_cons
      (ps_set (i := 3) sc_even_pairs.nd rfl (Or.inl rfl) (pv 1))
    (pss_cons
      (ps_set (i := 4) sc_even_pairs.nd rfl (Or.inl rfl) (pe_lst pa_nil))
    (pss_cons
      (ps_while PassesOwn.never (pt_cmpR op_gt (pv 3) pe_int (nomark _))
        (pss_cons
          (ps_set (i := 5) sc_even_pairs.nd rfl (Or.inl rfl) (pe_ix (ix_tupK K) (pe_call (ok_matched T) (hr.mono (by decide)) (by rfl) T.m_matched T.F_matched.kp T.b_matched .nil pass0 (pa_cons (pv 2) pa_nil)) pe_int (fun _ _ => rfl)))
        (pss_cons
          (ps_set (i := 6) sc_even_pairs.nd rfl (Or.inl rfl) (pe_callB (call_minL K) (by rfl) T.z_min (by decide +kernel) (pa_cons (pe_comp rfl (NY := ["row", "column", "rest"]) (fr := [none, none, some 2]) ⟨rfl, by decide +kernel, by decide +kernel, rfl, rfl, rfl⟩ (pi_enumK K (by rfl) T.z_enumerate (pa_cons (pv 5) pa_nil)) (fun _ _ _ _ _ => ⟨(pg_tupK K (n := 2) rfl (pgs_cons (pg_name (i := 0) (show List.Nodup (["row", "column", "rest"] : List Str) from by decide +kernel) rfl (Or.inl rfl)) (pgs_cons (pg_name (i := 1) (show List.Nodup (["row", "column", "rest"] : List Str) from by decide +kernel) rfl (Or.inl rfl)) pgs_nil))), pif_nil, (pe_ix (ix_listK K) (pe_ix (ix_listK K) (pv 2) (pv 0) (fun _ _ => rfl)) (pv 1) (fun _ _ => rfl))⟩)) pa_nil)))
        (pss_cons
          (ps_expr (pe_call (ok_lay T) (hr.mono (by decide)) (by rfl) T.m_lay T.F_lay.kp T.b_lay .nil pass0 (pa_cons (pv 2) (pa_cons (pe_tup (pa_cons (pe_un un_neg (pv 6)) (pa_cons (pv 5) pa_nil))) pa_nil))))
        (pss_cons
          (ps_aug (i := 3) sc_even_pairs.nd rfl (Or.inl rfl) (pv 6) ip_sub)
        (pss_one
          (ps_expr (pe_bm PySem.F.plainAttrs_list PySem.F.slot_list_append PySem.F.type_list_append mt_append (pv 4) (pa_cons (pe_tup (pa_cons (pv 6) (pa_cons (pv 5) pa_nil))) pa_nil)))))))))
    (pss_one
      (ps_ret (pv 4))))))), ?_⟩
  refine ⟨_, rfl, a, rfl, ⟨_, SqL.of hT.top⟩, fun rr hrr => cmp_rows (K := K) (fun r => r) hT hrr (by rw [hL.sh.1]; omega) (fun i p r Hc R hp hr2 s2 k => ?_) (fun qs H1 N1 => ?_)⟩
  · obtain ⟨r', e', ep⟩ := pr_get hT.rows hp
    rw [hr2] at e'; cases e'
    exact ⟨_, rfl, p, _, rfl, .inl (SqL.of (s2 _ _ ep)), fun u hu => k u _ (same_new hu _) hu upd_same⟩
  rw [List.map_id'] at N1
  refine ⟨_, rfl, (by show 0 ≤ sizeLine; decide), fun pp hpp => ?_⟩
  have s1 := same_new hpp (.lst [])
  refine ⟨fun m σ Hc => ∃ (R : List (List Int)) (left : Int) (prs : List Rd3) (tls : List (Addr × Addr)) (x5 x6 : Option V), σ = [some (.ref a), some (.int sm), some (.ref rr), some (.int left), some (.ref pp), x5, x6] ∧ m = left.toNat ∧ NewTab H Hc rr qs R ∧ NewPrs H Hc pp tls (prs.map toPr) ∧ Ev3 n Tb sm R left prs ∧ pp ∉ rr :: qs ∧ ∀ tl ∈ tls, tl.2 ∉ rr :: qs,
    ⟨sm.toNat, Tb, sm, [], [], _, _, rfl, rfl, N1.grow s1, ⟨N1.1.trans s1, upd_same, N1.1.free hpp, .nil, by simp⟩, Ev3.zero hL h0, ?_, fun _ h => by simp at h⟩, ?_⟩
  · intro hm
    have : ∀ b ∈ rr :: qs, H1 b ≠ none := fun b hb z => by
      rcases List.mem_cons.mp hb with e | hb
      · rw [e, N1.2.1.top] at z; cases z
      · obtain ⟨j, hj, e⟩ := List.getElem_of_mem hb
        obtain ⟨r, _, er⟩ := pr_get N1.2.1.rows (i := j) (x := b) (by simp [hj, e])
        rw [er] at z; cases z
    exact this pp hm hpp
  · rintro m σ Hc ⟨R, left, prs, tls, x5, x6, rfl, rfl, N, NP, EV, npp, ntl⟩
    refine ⟨_, rfl, _, _, rfl, rfl, _, rfl, iteD (fun hpos => ?_) (fun hz => ?_)⟩
    · refine ⟨fun σ' H' => ∃ (R : List (List Int)) (left' : Int) (prs : List Rd3) (tls : List (Addr × Addr)) (x5 x6 : Option V), σ' = [some (.ref a), some (.int sm), some (.ref rr), some (.int left'), some (.ref pp), x5, x6] ∧ left'.toNat < left.toNat ∧ NewTab H H' rr qs R ∧ NewPrs H H' pp tls (prs.map toPr) ∧ Ev3 n Tb sm R left' prs ∧ pp ∉ rr :: qs ∧ ∀ tl ∈ tls, tl.2 ∉ rr :: qs,
        fun σ' H' ⟨R, left', prs, tls, x5, x6, e, hlt, r⟩ => ⟨left'.toNat, hlt, R, left', prs, tls, x5, x6, e, rfl, r⟩, ?_⟩
      have old : ∀ b ∈ rr :: qs, Hc b ≠ none := fun b hb z => by
        rcases List.mem_cons.mp hb with e | hb
        · rw [e, N.2.1.top] at z; cases z
        · obtain ⟨j, hj, e⟩ := List.getElem_of_mem hb
          obtain ⟨r, _, er⟩ := pr_get N.2.1.rows (i := j) (x := b) (by simp [hj, e])
          rw [er] at z; cases z
      refine ⟨_, rfl, n, rr, qs, R, rfl, N.2.1, EV.lev.sh, h16, fun v l pls H2 s2 nv nl ev el hS => ?_, fun v l mm rows cols H2 s2 nv nl nm ev el em hSh => (EV.lev.full hpos hSh).elim⟩
      have lpl : (nV pls).length = n := by unfold nV; rw [List.length_map]; exact hS.len
      have nlq : l ∉ rr :: qs := fun hm => old l hm nl
      refine ⟨v, _, _, _, rfl, rfl, SqT.of ev, i1 rfl, ?_⟩
      have N2 := N.grow s2
      have NP2 := NP.grow s2
      -- the numbers at the places
      refine ⟨_, rfl, l, rfl, ⟨_, SqL.of el⟩, fun D hD => cmp_mapE (K := K) (xs := nV pls) (ys := ((List.range n).map fun r => cellT R r (pls.getD r 0)).map V.int) hD (SqL.of el) (by rw [lpl]; omega) (by rw [lpl]; simp) (fun i x y Hd R2 hx hy s3 k => ?_) (fun H3 s3 d3 => ?_)⟩
      · obtain ⟨c, hc, rfl⟩ := at_map hx
        have hi : i < n := by rw [← hS.len]; exact (List.getElem?_eq_some_iff.mp hc).1
        obtain ⟨hcn, _⟩ := hS.at' i c hc
        obtain ⟨r, er, lr⟩ := EV.lev.sh.at hi
        obtain ⟨p, hp, ep⟩ := pr_getR N2.2.1.rows er
        have ey : (((List.range n).map fun r => cellT R r (pls.getD r 0)).map V.int)[i]? = some (.int (cellT R i c)) := by
          refine map_at ?_
          rw [List.getElem?_map, List.getElem?_range hi]
          show some (cellT R i (pls.getD i 0)) = _
          rw [List.getD_eq_getElem?_getD, hc]; rfl
        rw [ey] at hy; cases hy
        exact ⟨_, rfl, _, rfl, rr, _, _, _, rfl, rfl, SqL.of (s3 _ _ N2.2.1.top), atI_nat (map_at hp), _, rfl, p, _, _, _, rfl, rfl, SqL.of (s3 _ _ ep), atI_nat (cellT_at er (by omega)), k _ (Same.refl _)⟩
      refine ⟨D, _, rfl, SqL.of d3, by simp; omega, fun M hM hmin => ?_⟩
      have N3 := N2.grow s3
      have NP3 := NP2.grow s3
      have cM : ∀ (r c : Nat), pls[r]? = some c → M ≤ cellT R r c := fun r c e => by
        have hr2 : r < n := by rw [← hS.len]; exact (List.getElem?_eq_some_iff.mp e).1
        refine hmin _ (List.mem_map.mpr ⟨r, List.mem_range.mpr hr2, ?_⟩)
        show cellT R r (pls.getD r 0) = _
        rw [List.getD_eq_getElem?_getD, e]; rfl
      have eM : ∃ r c : Nat, pls[r]? = some c ∧ M = cellT R r c := by
        obtain ⟨r, hr2, e⟩ := List.mem_map.mp hM
        have hr2 := List.mem_range.mp hr2
        have hl2 : r < pls.length := by rw [hS.len]; exact hr2
        refine ⟨r, pls[r], List.getElem?_eq_getElem hl2, ?_⟩
        rw [← e, List.getD_eq_getElem?_getD, List.getElem?_eq_getElem hl2]; rfl
      obtain ⟨M1, Ml, EV2⟩ := EV.next h1 hS cM eM
      refine ⟨_, rfl, _, rfl, _, rfl, _, rfl, (by show 2 ≤ sizeLine; decide), fun tt htt => ?_⟩
      have s4 := same_new htt (.tup [.int (-M), .ref l])
      have el4 := s4 _ _ (s3 _ _ el)
      have N4 := N3.grow s4
      have NP4 := NP3.grow s4
      refine ⟨n, rr, tt, l, qs, R, -M, plO pls, rfl, N4.2.1, EV.lev.sh, upd_same, by rw [plO_V]; exact el4, hS.s0.part, fun hm => nlq (List.mem_cons_of_mem _ hm), fun H5 T5 kp5 => ?_⟩
      have newq : ∀ b ∈ qs, H b = none := fun b hb => N.2.2 b (List.mem_cons_of_mem _ hb)
      have s5 : Same H H5 := fun b o e => kp5 b o (N4.1 _ _ e) fun hm => by rw [newq b hm] at e; cases e
      have N5 : NewTab H H5 rr qs (addTo (-M) (plO pls) n R) := ⟨s5, T5, N.2.2⟩
      have keepA : ∀ {b : Addr} {o : HO}, upd H3 tt (.tup [.int (-M), .ref l]) b = some o → b ∉ qs → H5 b = upd H3 tt (.tup [.int (-M), .ref l]) b := fun {b o} e nb => by rw [e]; exact kp5 b o e nb
      have tupq : ∀ {u : Addr} {xs : List V}, upd H3 tt (.tup [.int (-M), .ref l]) u = some (.tup xs) → u ∉ qs := fun e hm => by
        obtain ⟨j, hj, ej⟩ := List.getElem_of_mem hm
        obtain ⟨r, _, er⟩ := pr_get N4.2.1.rows (i := j) (x := _) (by simp [hj]; exact ej)
        rw [e] at er; cases er
      have NP5 : NewPrs H H5 pp tls (prs.map toPr) := NP4.kept s5 (keepA NP4.top fun hm => npp (List.mem_cons_of_mem _ hm)) fun tl ht => by
        obtain ⟨j, hj, ej⟩ := List.getElem_of_mem ht
        obtain ⟨pr, _, _, _, b1, b2⟩ := pr_get NP4.rows (i := j) (x := tl) (by rw [List.getElem?_eq_getElem hj, ej])
        exact ⟨keepA b1 (tupq b1), keepA b2 fun hm => ntl tl ht (List.mem_cons_of_mem _ hm)⟩
      have el5 : H5 l = some (.lst (nV pls)) := kp5 _ _ el4 fun hm => nlq (List.mem_cons_of_mem _ hm)
      have ltls := NP.len
      have cnt := EV.cnt
      have pl2 := posT_le n Tb
      have pos0 : 0 ≤ posT n R := sumN_nonneg fun r _ => sumN_nonneg fun c _ => by split <;> decide
      have n2 : (n : Int) * n ≤ 256 := by
        have : (n : Int) * n ≤ 16 * 16 := Int.mul_le_mul (by omega) (by omega) (by omega) (by omega)
        omega
      rw [List.length_map] at ltls
      refine ⟨_, rfl, _, rfl, _, _, rfl, rfl, ?_⟩
      refine ⟨_, rfl, .inl ⟨rfl, _, SqL.of NP5.top⟩, _, rfl, _, rfl, (by show 2 ≤ sizeLine; decide), fun t2 ht2 => ?_⟩
      have s6 := same_new ht2 (.tup [.int M, .ref l])
      have NP6 := NP5.grow s6
      refine ⟨pp, _, _, rfl, rfl, NP6.top, small1000 (by rw [List.length_map]; omega), ?_⟩
      have nlp : l ≠ pp := fun z => by rw [z, NP.top] at nl; cases nl
      have nltl : l ∉ tls.map (·.2) := fun hm => by
        obtain ⟨tl, ht, e⟩ := List.mem_map.mp hm
        obtain ⟨j, hj, ej⟩ := List.getElem_of_mem ht
        obtain ⟨pr, _, _, _, _, b2⟩ := pr_get NP.rows (i := j) (x := tl) (by rw [List.getElem?_eq_getElem hj, ej])
        rw [e, nl] at b2; cases b2
      have NP7 := NP6.push (t := t2) (l := l) (pr := toPr (M, pls)) (s5.free ht2) (N.1.free nl) upd_same (s6 _ _ (by show H5 l = some (.lst ((plO pls).map plV)); rw [plO_V]; exact el5)) nlp nltl
      have N7 := tab_new_keep (N5.grow s6) (o := .lst (tls.map (fun x => V.ref x.1) ++ [.ref t2])) NP.newA npp
      refine ⟨_, left - M, prs ++ [(M, pls)], tls ++ [(t2, l)], _, _, rfl, by omega, N7, ?_, EV2, npp, fun tl ht => ?_⟩
      · rw [List.map_append]; exact NP7
      · rcases List.mem_append.mp ht with z | z
        · exact ntl tl z
        · have : tl = (t2, l) := by simpa using z
          rw [this]; exact nlq
    · exact ⟨_, rfl, q pp tls prs R left Hc NP EV hz⟩
end

end My

namespace My
open PySem L2
section
open Ev
variable {P : Program} {w : World} {K : PySem.W.Frag} {mg : Str → Option Value} {base : Heap} {f : Nat → Addr} {fd : Nat → FuncData}
theorem ok_rounds (T : Txt K mg f fd) : FnOk P w K mg base CX0 20 (f 13) (fd 13) ["table"] spRounds := by
  refine T.F_rounds.ok sc_rounds (fun vs H Q E h => ?_) (fun cdv A outer s H vs Q E hr h => ?_)
  · obtain ⟨n, a, ps, Tb, s, rfl, _⟩ := h; rfl
  obtain ⟨n, a, ps, Tb, sm, rfl, hT, hV, hL, q⟩ := h
  have i0 : ∀ {xs : List V} {v : V}, xs[0]? = some v → atI xs 0 = some v := fun h => atI_nat (j := 0) h
  have h1 : 1 ≤ n := by rw [← hL.sh.1]; exact hV.1
  have h8 : n ≤ 8 := by rw [← hL.sh.1]; exact hV.2.1
  refine ⟨_, 
    (pss_cons
      (ps_if (pt_cmpR op_notN (pe_call (ok_odd_line T) (hr.mono (by decide)) (by rfl) T.m_odd_line T.F_odd_line.kp T.b_odd_line .nil pass0 (pa_cons (pv 0) pa_nil)) pe_non (nomark _))
        (pss_one
          ps_never)
        pss_nil)
    (pss_one
      (ps_ret (pe_call (ok_even_pairs T) (hr.mono (by decide)) (by rfl) T.m_even_pairs T.F_even_pairs.kp T.b_even_pairs .nil pass0 (pa_cons (pv 0) (pa_cons (pe_callB (call_sumK K) (by rfl) T.z_sum PyProof.Rows.boot_sum (pa_cons (pe_ix (ix_listK K) (pv 0) pe_int (fun _ _ => rfl)) pa_nil)) pa_nil)))))), ?_⟩
  refine ⟨_, rfl, a, ps, Tb, rfl, hT, hV, fun v H1 s1 hO => ?_⟩
  rw [hL.odd h1] at hO
  have hO : v = .non := hO
  subst hO
  refine ⟨rfl, _, rfl, iteDn (fun z => absurd rfl z) (fun _ => ?_)⟩
  have T1 := hT.same s1
  obtain ⟨r, er, es⟩ := hL.row0 h1
  obtain ⟨p, hp, ep⟩ := pr_getR T1.rows er
  refine ⟨_, rfl, _, rfl, a, _, _, _, rfl, rfl, SqL.of T1.top, i0 (map_at hp), p, r, rfl, SqL.of ep, n, a, ps, Tb, sm, by rw [es]; rfl, T1, hL, hL.nonneg h1, h1, by omega, fun t tls prs R left H2 NP EV hz => ?_⟩
  exact q t tls prs R left H2 ⟨s1.trans NP.same, NP.top, s1.free NP.newA, pr_imp (fun _ _ ⟨x1, x2, x3, x4⟩ => ⟨s1.free x1, s1.free x2, x3, x4⟩) NP.rows, NP.nd⟩ EV hz
end

end My

namespace My
open PySem L2
section
open Ev
variable {P : Program} {w : World} {K : PySem.W.Frag} {mg : Str → Option Value} {base : Heap} {f : Nat → Addr} {fd : Nat → FuncData}
theorem ok_law_cell_at (T : Txt K mg f fd) : FnOk P w K mg base CX0 1 (f 14) (fd 14) ["script", "k"] (spCell K) := by
  refine T.F_law_cell_at.ok sc_law_cell_at (fun vs H Q E h => ?_) (fun cdv A outer s H vs Q E hr h => ?_)
  · obtain ⟨a, ns, k, rfl, _⟩ := h; rfl
  obtain ⟨a, ns, k, rfl, hS, h0, q⟩ := h
  refine ⟨_, 
    (pss_cons
      (ps_if (pt_cmpR op_lt (pv 1) (pe_callB (call_lenK K) (by rfl) T.z_len PySem.boot_len (pa_cons (pv 0) pa_nil)) (nomark _))
        (pss_one
          (ps_ret (pe_ix (ix_listK K) (pv 0) (pv 1) (fun _ _ => rfl))))
        pss_nil)
    (pss_one
      (ps_ret pe_int))), ?_⟩
  refine ⟨_, rfl, _, rfl, a, _, rfl, .inl hS, _, _, rfl, rfl, _, rfl, iteD (fun c => ?_) (fun c => ?_)⟩
  · rw [List.length_map] at c
    exact ⟨_, rfl, _, rfl, a, _, _, _, rfl, rfl, hS, cell_at h0 c, q⟩
  · rw [List.length_map] at c
    rw [cell_out c] at q
    exact q
theorem ok_law_whole (T : Txt K mg f fd) : FnOk P w K mg base CX0 1 (f 15) (fd 15) ["found"] spWhole := by
  refine T.F_law_whole.ok sc_law_whole (fun vs H Q E h => ?_) (fun cdv A outer s H vs Q E hr h => ?_)
  · obtain ⟨i, rfl, _⟩ := h; rfl
  obtain ⟨i, rfl, q⟩ := h
  refine ⟨_, 
    (pss_one
      (ps_ret (pe_and (pe_callB (call_isiK K) (by rfl) T.z_isinstance PyProof.Rows.boot_isinstance (pa_cons (pv 0) (pa_cons (pe_bltn (v := .ty "int") (by rfl) T.z_int PyProof.Rows.boot_int rfl) pa_nil))) (pe_one (pe_not (pe_callB (call_isiK K) (by rfl) T.z_isinstance PyProof.Rows.boot_isinstance (pa_cons (pv 0) (pa_cons (pe_bltn (v := .ty "bool") (by rfl) T.z_bool PyProof.Rows.boot_bool rfl) pa_nil)))))))), ?_⟩
  refine ⟨_, rfl, _, _, _, _, rfl, .int i, kit_int_int K, _, rfl, iteT ?_⟩
  exact ⟨_, rfl, _, _, _, _, rfl, .int i, kit_int_bool K, _, rfl, q⟩
theorem ok_law_order (T : Txt K mg f fd) : FnOk P w K mg base CX0 1 (f 16) (fd 16) ["cell", "many"] spOrder := by
  refine T.F_law_order.ok sc_law_order (fun vs H Q E h => ?_) (fun cdv A outer s H vs Q E hr h => ?_)
  · obtain ⟨c, n, rfl, _⟩ := h; rfl
  obtain ⟨c, n, rfl, h1, h8, q⟩ := h
  refine ⟨_, 
    (pss_cons
      (ps_setC (i := 2) sc_law_order.nd rfl rfl rfl (NY := ["k"]) (fr := [none]) ⟨rfl, by decide +kernel, by decide +kernel, rfl, rfl, rfl⟩ (pi_range1 (by rfl) T.z_range (pa_cons (pv 1) pa_nil)) (fun _ _ _ _ _ => ⟨(pg_name (i := 0) (show List.Nodup (["k"] : List Str) from by decide +kernel) rfl (Or.inl rfl)), pif_nil, (pv 0)⟩))
    (pss_cons
      (ps_set (i := 3) sc_law_order.nd rfl (Or.inl rfl) (pe_lst pa_nil))
    (pss_cons
      (ps_set (i := 4) sc_law_order.nd rfl (Or.inl rfl) (pe_op op_fdiv (pv 0) pe_int))
    (pss_cons
      (ps_if (pt_cmpR op_eq (pe_op op_mod (pv 0) pe_int) pe_int (nomark _))
        (pss_cons
          (ps_set (i := 4) sc_law_order.nd rfl (Or.inl rfl) (pe_op op_mod (pe_op op_mul (pe_op op_add (pe_op op_mod (pv 0) pe_int) pe_int) pe_int) pe_int))
        (pss_one
          (ps_set (i := 4) sc_law_order.nd rfl (Or.inl rfl) (pe_op op_mod (pe_op op_mul (pv 4) (pv 4)) pe_int))))
        pss_nil)
    (pss_cons
      (ps_while PassesOwn.never (pt_cmpR op_gt (pe_callB (call_lenK K) (by rfl) T.z_len PySem.boot_len (pa_cons (pv 2) pa_nil)) pe_int (nomark _))
        (pss_cons
          (ps_expr (pe_bm PySem.F.plainAttrs_list PySem.F.slot_list_append PySem.F.type_list_append mt_append (pv 3) (pa_cons (pe_bm PySem.F.plainAttrs_list PySem.F.slot_list_pop PySem.F.type_list_pop mt_popAt (pv 2) (pa_cons (pe_op op_mod (pv 4) (pe_callB (call_lenK K) (by rfl) T.z_len PySem.boot_len (pa_cons (pv 2) pa_nil))) pa_nil)) pa_nil)))
        (pss_one
          (ps_if (pt_cmpR op_eq (pe_op op_mod (pv 0) pe_int) pe_int (nomark _))
            (pss_one
              (ps_set (i := 4) sc_law_order.nd rfl (Or.inl rfl) (pe_op op_mod (pe_op op_mul (pv 4) pe_int) pe_int)))
            (pss_one
              (ps_set (i := 4) sc_law_order.nd rfl (Or.inl rfl) (pe_op op_fdiv (pv 4) pe_int)))))))
    (pss_one
      (ps_ret (pv 3)))))))), ?_⟩
  refine ⟨_, rfl, (n : Int), rfl, by omega, by omega, fun r hr1 => cmp_mapR (ys := ((List.range n).map Int.ofNat).map V.int) hr1 (by omega) (by simp) (fun i y Hc R hi hy s2 d2 k => ?_) (fun H1 s1 d1 => ?_)⟩
  · have hi' : i < n := by omega
    have e : (((List.range n).map Int.ofNat).map V.int)[i]? = some (.int (Int.ofNat i)) := map_at (map_at (List.getElem?_range hi'))
    rw [e] at hy; cases hy
    refine ⟨_, rfl, ?_⟩
    have := k Hc s2 d2
    have e2 : (0 : Int) + (i : Int) = Int.ofNat i := by simp
    rw [e2]; exact this
  refine ⟨(by show 0 ≤ sizeLine; decide), fun o ho => ?_⟩
  have nor : o ≠ r := Ne.symm (ne_of_none d1 ho)
  refine ⟨_, rfl, _, _, rfl, rfl, ⟨by decide, by decide⟩, ?_⟩
  have Hr : upd H1 o (.lst []) r = some (.lst (((List.range n).map Int.ofNat).map V.int)) := by rw [upd_ne (Ne.symm nor)]; exact d1
  have Ho : H o = none := s1.free ho
  have S1 : Same H (upd H1 o (.lst [])) := same_upd s1 Ho _
  refine ⟨_, rfl, _, _, rfl, rfl, (by show (0 : Int) < 2; decide), rfl, _, rfl, iteEq (fun e0 => ⟨_, rfl, _, _, rfl, rfl, (by show (0 : Int) < 2147483647; decide), _, _, rfl, rfl, _, _, rfl, rfl, .inr ⟨by decide, by decide⟩, _, _, rfl, rfl, (by show (0 : Int) < 2147483647; decide),
    _, rfl, _, rfl, _, _, rfl, rfl, .inl ⟨by omega, by omega⟩, _, _, rfl, rfl, (by show (0 : Int) < 2147483647; decide), ?_⟩) (fun e0 => ?_)⟩
  all_goals
    refine ⟨fun m σ Hc => ∃ (rs os : List Int) (st : Int), σ = [some (.int c), some (.int n), some (.ref r), some (.ref o), some (.int st)] ∧ Same H Hc ∧ Hc r = some (.lst (rs.map V.int)) ∧ Hc o = some (.lst (os.map V.int)) ∧ (os ++ rs).Perm ((List.range n).map Int.ofNat) ∧ rs.length = m,
      ⟨n, (List.range n).map Int.ofNat, [], _, rfl, S1, Hr, upd_same, List.Perm.refl _, by simp⟩, ?_⟩
    rintro m σ Hc ⟨rs, os, st, rfl, sc, er, eo, pm, hm⟩
    have hlen : os.length + rs.length = n := by
      have := pm.length_eq
      simpa using this
    refine ⟨_, rfl, r, _, rfl, .inl (SqL.of er), _, _, rfl, rfl, _, rfl, iteD (fun c1 => ?_) (fun c1 => ?_)⟩
    · rw [List.length_map] at c1
      have hpos : 0 < rs.length := by omega
      have hk0 : 0 ≤ st % (rs.length : Int) := Int.emod_nonneg _ (by omega)
      have hk1 : st % (rs.length : Int) < rs.length := Int.emod_lt_of_pos _ (by omega)
      have hkn : (st % (rs.length : Int)).toNat < rs.length := by omega
      refine ⟨fun σ' H' => ∃ (rs os : List Int) (st : Int), σ' = [some (.int c), some (.int n), some (.ref r), some (.ref o), some (.int st)] ∧ Same H H' ∧ H' r = some (.lst (rs.map V.int)) ∧ H' o = some (.lst (os.map V.int)) ∧ (os ++ rs).Perm ((List.range n).map Int.ofNat) ∧ rs.length = m - 1, fun σ' H' h' => ⟨m - 1, by omega, h'⟩, ?_⟩
      have ix : seqIndex? (st % ((rs.map V.int).length : Int)) (rs.map V.int).length = some (st % (rs.length : Int)).toNat := by
        rw [List.length_map]
        exact (ixN_seq (by unfold ixN; rw [if_pos hk0, if_pos hk1])).1
      have gx : (rs.map V.int)[(st % (rs.length : Int)).toNat]? = some (.int rs[(st % (rs.length : Int)).toNat]) := map_at (by simp [hkn])
      refine ⟨_, rfl, .inl ⟨rfl, _, SqL.of eo⟩, _, rfl, .inl ⟨rfl, _, SqL.of er⟩, _, rfl, _, rfl, r, _, rfl, .inl (SqL.of er), _, _, rfl, rfl, (by show (0 : Int) < ((rs.map V.int).length : Int); rw [List.length_map]; omega),
        r, _, _, _, _, rfl, rfl, er, (by rw [List.length_map]; omega), (by rw [List.length_map]; omega), ix, gx, o, _, _, rfl, rfl, (by rw [upd_ne nor]; exact eo), small1000 (by rw [List.length_map]; omega), ?_⟩
      have pm2 : ((os ++ [rs[(st % (rs.length : Int)).toNat]]) ++ rs.eraseIdx (st % (rs.length : Int)).toNat).Perm ((List.range n).map Int.ofNat) := by
        rw [List.append_assoc]
        exact (List.Perm.append_left os (erase_perm _ _ hkn)).trans pm
      have fin : ∀ st' : Int, ∃ (rs' os' : List Int) (st'' : Int), ([some (.int c), some (.int n), some (.ref r), some (.ref o), some (.int st')] : St) = [some (.int c), some (.int n), some (.ref r), some (.ref o), some (.int st'')] ∧ Same H (upd (upd Hc r (.lst ((rs.map V.int).eraseIdx (st % (rs.length : Int)).toNat))) o (.lst (os.map V.int ++ [.int rs[(st % (rs.length : Int)).toNat]]))) ∧
          upd (upd Hc r (.lst ((rs.map V.int).eraseIdx (st % (rs.length : Int)).toNat))) o (.lst (os.map V.int ++ [.int rs[(st % (rs.length : Int)).toNat]])) r = some (.lst (rs'.map V.int)) ∧ upd (upd Hc r (.lst ((rs.map V.int).eraseIdx (st % (rs.length : Int)).toNat))) o (.lst (os.map V.int ++ [.int rs[(st % (rs.length : Int)).toNat]])) o = some (.lst (os'.map V.int)) ∧
          (os' ++ rs').Perm ((List.range n).map Int.ofNat) ∧ rs'.length = m - 1 := fun st' =>
        ⟨rs.eraseIdx (st % (rs.length : Int)).toNat, os ++ [rs[(st % (rs.length : Int)).toNat]], st', rfl, same_upd (same_upd sc hr1 _) Ho _, by rw [upd_ne (Ne.symm nor), upd_same, erase_map], by rw [upd_same]; simp, pm2, by rw [List.length_eraseIdx_of_lt hkn]; omega⟩
      refine ⟨_, rfl, _, _, rfl, rfl, (by show (0 : Int) < 2; decide), rfl, _, rfl, iteEq (fun e1 => ?_) (fun e1 => ?_)⟩
      · exact ⟨_, rfl, _, _, rfl, rfl, .inr ⟨by decide, by decide⟩, _, _, rfl, rfl, (by show (0 : Int) < 2147483647; decide), fin _⟩
      · exact ⟨_, rfl, _, _, rfl, rfl, ⟨by decide, by decide⟩, fin _⟩
    · rw [List.length_map] at c1
      have e0 : rs = [] := List.eq_nil_of_length_eq_zero (by omega)
      subst e0
      rw [List.append_nil] at pm
      exact ⟨_, rfl, q o os Hc sc Ho eo pm⟩
theorem ok_law_level_by (T : Txt K mg f fd) : FnOk P w K mg base CX0 2 (f 17) (fd 17) ["script", "first", "many", "count"] (spLevelL K) := by
  refine T.F_law_level_by.ok sc_law_level_by (fun vs H Q E h => ?_) (fun cdv A outer s H vs Q E hr h => ?_)
  · obtain ⟨a, ns, fi, n, m, rfl, _⟩ := h; rfl
  obtain ⟨a, ns, fi, n, m, rfl, hS, hf, h1, h8, hm8, q⟩ := h
  refine ⟨_, 
    (pss_cons
      (ps_setC (i := 4) sc_law_level_by.nd rfl rfl rfl (NY := ["row", "many"]) (fr := [none, some 2]) ⟨rfl, by decide +kernel, by decide +kernel, rfl, rfl, rfl⟩ (pi_range1 (by rfl) T.z_range (pa_cons (pv 2) pa_nil)) (fun _ _ _ _ _ => ⟨(pg_name (i := 0) (show List.Nodup (["row", "many"] : List Str) from by decide +kernel) rfl (Or.inl rfl)), pif_nil, (pe_comp rfl (NY := ["k"]) (fr := [none]) ⟨rfl, by decide +kernel, by decide +kernel, rfl, rfl, rfl⟩ (pi_range1 (by rfl) T.z_range (pa_cons (pv 1) pa_nil)) (fun _ _ _ _ _ => ⟨(pg_name (i := 0) (show List.Nodup (["k"] : List Str) from by decide +kernel) rfl (Or.inl rfl)), pif_nil, pe_int⟩))⟩))
    (pss_cons
      (ps_for PassesOwn.never rfl (pi_range1 (by rfl) T.z_range (pa_cons (pv 3) pa_nil)) (pg_name (i := 5) sc_law_level_by.nd rfl (Or.inl rfl))
        (pss_cons
          (ps_set (i := 6) sc_law_level_by.nd rfl (Or.inl rfl) (pe_call (ok_law_order T) (hr.mono (by decide)) (by rfl) T.m_law_order T.F_law_order.kp T.b_law_order .nil pass0 (pa_cons (pe_call (ok_law_cell_at T) (hr.mono (by decide)) (by rfl) T.m_law_cell_at T.F_law_cell_at.kp T.b_law_cell_at .nil pass0 (pa_cons (pv 0) (pa_cons (pe_op op_add (pv 1) (pe_op op_mul pe_int (pv 5))) pa_nil))) (pa_cons (pv 2) pa_nil))))
        (pss_cons
          (ps_set (i := 7) sc_law_level_by.nd rfl (Or.inl rfl) (pe_call (ok_law_cell_at T) (hr.mono (by decide)) (by rfl) T.m_law_cell_at T.F_law_cell_at.kp T.b_law_cell_at .nil pass0 (pa_cons (pv 0) (pa_cons (pe_op op_add (pe_op op_add (pv 1) (pe_op op_mul pe_int (pv 5))) pe_int) pa_nil))))
        (pss_cons
          (ps_set (i := 8) sc_law_level_by.nd rfl (Or.inl rfl) (pe_ix (ix_listK K) (pe_lst (pa_cons (pe_op op_mod (pe_op op_fdiv (pv 7) pe_int) pe_int) (pa_cons (pe_op op_mod (pe_op op_fdiv (pv 7) pe_int) pe_int) (pa_cons pe_int (pa_cons (pe_op op_mod (pe_op op_fdiv (pv 7) pe_int) pe_int) pa_nil))))) (pe_op op_mod (pv 7) pe_int) (fun _ _ => rfl)))
        (pss_one
          (ps_for PassesOwn.never rfl (pi_range1 (by rfl) T.z_range (pa_cons (pv 2) pa_nil)) (pg_name (i := 9) sc_law_level_by.nd rfl (Or.inl rfl))
            (pss_cons
              (ps_set (i := 10) sc_law_level_by.nd rfl (Or.inl rfl) (pe_ix (ix_listK K) (pv 6) (pv 9) (fun _ _ => rfl)))
            (pss_one
              (ps_asg (pe_op op_add (pe_ix (ix_listK K) (pe_ix (ix_listK K) (pv 4) (pv 9) (fun _ _ => rfl)) (pv 10) (fun _ _ => rfl)) (pv 8)) (pg_sub (pe_ix (ix_listK K) (pv 4) (pv 9) (fun _ _ => rfl)) (pv 10) set_list))))))))))
    (pss_one
      (ps_ret (pv 4))))), ?_⟩
  refine ⟨_, rfl, (n : Int), rfl, by omega, by omega, fun t ht => cmp_range (fun i ys Hc => ∃ ps : List Addr, ys = ps.map V.ref ∧ NewTab H Hc t ps (List.replicate i (List.replicate n (0 : Int)))) ⟨[], rfl, same_new ht _, ⟨upd_same, .nil, by simp⟩, fun b hb => by
        have e : b = t := by simpa using hb
        rw [e]; exact ht⟩ (fun i ys Hc hi p => ?_) (fun i ys Hc R hi p k => ?_) (fun ys Hc p => ?_)⟩
  · obtain ⟨ps, rfl, hN⟩ := p
    have := hN.2.1.len
    rw [List.length_replicate] at this
    exact small1000 (by rw [List.length_map]; omega)
  · obtain ⟨ps, rfl, hN⟩ := p
    refine ⟨_, rfl, (n : Int), rfl, by omega, by omega, fun u hu => cmp_mapR (ys := (List.replicate n (0 : Int)).map V.int) hu (by omega) (by simp) (fun j y H2 R2 hj hy s2 d2 k2 => ?_) (fun H2 s2 d2 => ?_)⟩
    · have e : ((List.replicate n (0 : Int)).map V.int)[j]? = some (.int 0) := map_at (by rw [List.getElem?_replicate]; rw [if_pos (by omega)])
      rw [e] at hy; cases hy
      exact k2 H2 s2 d2
    · have nut : u ≠ t := Ne.symm (ne_of_none hN.2.1.top hu)
      have nups : u ∉ ps := fun hm => by
        obtain ⟨j, hj, e⟩ := List.getElem_of_mem hm
        obtain ⟨r, _, er⟩ := pr_get hN.2.1.rows (i := j) (x := u) (by simp [hj, e])
        rw [hu] at er; cases er
      have hN2 := (hN.grow s2).push d2 nut nups (hN.1.free hu)
      refine k _ _ (hN.grow s2).2.1.top ⟨ps ++ [u], by simp, ?_⟩
      rw [List.replicate_succ']
      exact hN2
  obtain ⟨ps0, rfl, hN0⟩ := p
  have eR : (n : Int).toNat = n := by omega
  rw [eR] at hN0
  refine ⟨_, rfl, (m : Int), rfl, by omega, by omega, for_range (lo := 0) (n := (m : Int).toNat) (fun i σ H2 => ∃ (Tb : List (List Int)) (sm : Int) (x5 x6 x7 x8 x9 x10 : Option V), σ = [some (.ref a), some (.int fi), some (.int n), some (.int m), some (.ref t), x5, x6, x7, x8, x9, x10] ∧ NewTab H H2 t ps0 Tb ∧ Lev n Tb sm ∧ 0 ≤ sm ∧ sm ≤ 30000 * (i : Int))
    ⟨_, 0, none, none, none, none, none, none, rfl, hN0, Lev.zero n, Int.le_refl 0, by omega⟩ ?_ ?_⟩
  · rintro i σ H2 hi ⟨Tb, sm, x5, x6, x7, x8, x9, x10, rfl, hN, hL, hs0, hs1⟩
    have hS2 : SqL K H2 a (ns.map V.int) := hN.1.seq hS
    refine ⟨_, rfl, _, rfl, _, rfl, _, _, rfl, rfl, .inl ⟨by decide, by decide⟩, _, _, rfl, rfl, a, ns, _, rfl, hS2, by omega, _, rfl, _, n, rfl, h1, h8, fun o os H3 s3 no eo po => ?_⟩
    obtain ⟨pls, rfl, hPl⟩ := order_seat po
    have hS3 := s3.seq hS2
    have N3 := hN.grow s3
    refine ⟨_, rfl, _, rfl, _, rfl, _, _, rfl, rfl, .inl ⟨by decide, by decide⟩, _, _, rfl, rfl, _, _, rfl, rfl, a, ns, _, rfl, hS3, by omega, ?_⟩
    generalize cellAt ns (fi + 2 * (0 + (i : Int)) + 1) = cl
    refine ⟨_, rfl, _, _, rfl, rfl, ⟨by decide, by decide⟩, _, _, rfl, rfl, (by show (0 : Int) < 4; decide), _, rfl, _, _, rfl, rfl, ⟨by decide, by decide⟩, _, _, rfl, rfl, (by show (0 : Int) < 12; decide),
      _, rfl, _, _, rfl, rfl, ⟨by decide, by decide⟩, _, _, rfl, rfl, (by show (0 : Int) < 30001; decide), (by show 4 ≤ sizeLine; decide), fun u hu => ?_⟩
    obtain ⟨tm, e1, e2, e3⟩ := at_bd (xs := [cl / 4 % 4, cl / 4 % 12, 1, cl / 4 % 30001]) (k := cl % 4) (lo := 0) (hi := 30000)
      (by
        intro x hx
        simp only [List.mem_cons, List.not_mem_nil, or_false] at hx
        omega) (by omega) (by simp; omega)
    refine ⟨_, rfl, _, _, rfl, rfl, (by show (0 : Int) < 4; decide), u, _, _, _, rfl, rfl, SqL.of upd_same, e1, ?_⟩
    have N4 := N3.grow (same_new hu (.lst ([cl / 4 % 4, cl / 4 % 12, 1, cl / 4 % 30001].map V.int)))
    have eo4 : upd H3 u (.lst ([cl / 4 % 4, cl / 4 % 12, 1, cl / 4 % 30001].map V.int)) o = some (.lst ((pls.map Int.ofNat).map V.int)) := same_new hu _ _ _ eo
    have nops : o ∉ ps0 := fun hm => by
      obtain ⟨j, hj, e⟩ := List.getElem_of_mem hm
      obtain ⟨r, _, er⟩ := pr_get hN.2.1.rows (i := j) (x := o) (by simp [hj, e])
      rw [no] at er; cases er
    refine ⟨_, rfl, (n : Int), rfl, by omega, by omega, for_range (lo := 0) (n := (n : Int).toNat) (fun j σ H5 => ∃ (x9 x10 : Option V), σ = [some (.ref a), some (.int fi), some (.int n), some (.int m), some (.ref t), some (.int (0 + i)), some (.ref o), some (.int cl), some (.int tm), x9, x10] ∧ NewTab H H5 t ps0 (addTo tm (plO pls) j Tb) ∧ H5 o = some (.lst ((pls.map Int.ofNat).map V.int))) ⟨x9, x10, rfl, N4, eo4⟩ ?_ ?_⟩
    · rintro j σ H5 hj ⟨y9, y10, rfl, N5, eo5⟩
      have hjn : j < n := by omega
      obtain ⟨p, r, k, er, lr, ep, a0, a1, a2, ix, kN⟩ := lay_step (tm := tm) N5 hL.sh hPl hjn
      refine ⟨_, rfl, _, rfl, o, _, _, _, rfl, rfl, SqL.of eo5, by rw [Int.zero_add]; exact a0, ?_⟩
      refine ⟨_, rfl, _, rfl, t, _, _, _, rfl, rfl, SqL.of N5.2.1.top, by rw [Int.zero_add]; exact a1, _, rfl, p, _, _, _, rfl, rfl, SqL.of ep, a2, _, rfl, _, _, rfl, rfl, ?_⟩
      refine ⟨_, rfl, _, rfl, t, _, _, _, rfl, rfl, SqL.of N5.2.1.top, by rw [Int.zero_add]; exact a1, _, rfl, p, _, _, _, rfl, rfl, ep, ix, ?_⟩
      exact ⟨_, _, rfl, kN.1, by rw [upd_ne (show o ≠ p from fun e => nops (by rw [e]; exact kN.2))]; exact eo5⟩
    · rintro σ H5 ⟨y9, y10, rfl, N5, eo5⟩
      rw [eR] at N5
      exact ⟨_, sm + tm, _, _, _, _, _, _, rfl, N5, hL.add hPl e2, by omega, by rw [Int.natCast_add]; omega⟩
  · rintro σ H2 ⟨Tb, sm, x5, x6, x7, x8, x9, x10, rfl, hN, hL, hs0, hs1⟩
    have e : ((m : Int).toNat : Int) = (m : Int) := by omega
    rw [e] at hs1
    exact ⟨_, rfl, q t ps0 Tb sm H2 hN hL hs0 hs1⟩
theorem ok_law_copied (T : Txt K mg f fd) : FnOk P w K mg base CX0 1 (f 18) (fd 18) ["table"] spCopied := by
  refine T.F_law_copied.ok sc_law_copied (fun vs H Q E h => ?_) (fun cdv A outer s H vs Q E hr h => ?_)
  · obtain ⟨a, ps, Tb, rfl, _⟩ := h; rfl
  obtain ⟨a, ps, Tb, rfl, hT, hn, q⟩ := h
  have hl := hT.len
  refine ⟨_, 
    (pss_one
      (ps_ret (pe_comp rfl (NY := ["row"]) (fr := [none]) ⟨rfl, by decide +kernel, by decide +kernel, rfl, rfl, rfl⟩ (pi_listK K (pv 0)) (fun _ _ _ _ _ => ⟨(pg_name (i := 0) (show List.Nodup (["row"] : List Str) from by decide +kernel) rfl (Or.inl rfl)), pif_nil, (pe_callTy (call_listK K) (by rfl) T.z_list PyProof.Rows.boot_list (pa_cons (pv 0) pa_nil))⟩)))), ?_⟩
  refine ⟨_, rfl, a, rfl, ⟨_, SqL.of hT.top⟩, fun D hD => cmp_list (K := K) (a := a) (xs := ps.map V.ref) (fun i ys Hc => ∃ qs : List Addr, ys = qs.map V.ref ∧ NewTab H Hc D qs (Tb.take i)) ⟨[], rfl, same_new hD _, ⟨upd_same, by simpa using Paired.nil, by simp⟩, fun b hb => by
        have e : b = D := by simpa using hb
        rw [e]; exact hD⟩ (fun i ys Hc _ p => ?_) (fun i ys Hc hi p => ?_) (fun i x ys Hc R hx p k => ?_) (fun ys Hc p => ?_)⟩
  · obtain ⟨qs, _, hN⟩ := p
    exact hN.1.seq (SqL.of hT.top)
  · obtain ⟨qs, rfl, hN⟩ := p
    have := hN.2.1.len
    rw [List.length_take] at this
    exact small1000 (by rw [List.length_map]; omega)
  · obtain ⟨qs, rfl, hN⟩ := p
    obtain ⟨p, hp, rfl⟩ := at_map hx
    obtain ⟨r, hr2, er⟩ := pr_get hT.rows hp
    refine ⟨_, rfl, p, _, rfl, .inl (SqL.of (hN.1 _ _ er)), fun u hu => ?_⟩
    have nut : u ≠ D := Ne.symm (ne_of_none hN.2.1.top hu)
    have nups : u ∉ qs := fun hm => by
      obtain ⟨j, hj, e⟩ := List.getElem_of_mem hm
      obtain ⟨r, _, er⟩ := pr_get hN.2.1.rows (i := j) (x := u) (by simp [hj, e])
      rw [hu] at er; cases er
    have N2 := hN.grow (same_new hu (.lst (r.map V.int)))
    refine k _ _ N2.2.1.top ⟨qs ++ [u], by simp, ?_⟩
    rw [take_snoc hr2]
    exact N2.push upd_same nut nups (hN.1.free hu)
  · obtain ⟨qs, rfl, hN⟩ := p
    rw [List.length_map, hl, List.take_length] at hN
    exact q D qs Hc hN
theorem dat_tab {X : Cx} {H : Hp} {n : Nat} {a : Addr} {ps : List Addr} {Tb : List (List Int)} (h : Tab H a ps Tb) : Dat X H (n + 2) (.ref a) (.list (Tb.map fun r => .list (r.map PyData.int))) := by
  refine dat_list (SqL.of h.top) ?_
  have : ∀ {ps : List Addr} {Tb : List (List Int)}, Paired (fun p (r : List Int) => H p = some (.lst (r.map V.int))) ps Tb → Paired (Dat X H (n + 1)) (ps.map V.ref) (Tb.map fun r => .list (r.map PyData.int)) := fun {ps Tb} q => by
    induction q with
    | nil => exact .nil
    | cons a r ih => exact .cons (dat_ints (SqL.of a)) ih
  exact this h.rows
theorem ok_law_is_part (T : Txt K mg f fd) : FnOk P w K mg base CX0 2 (f 19) (fd 19) ["found", "many"] spIsPart := by
  refine T.F_law_is_part.ok sc_law_is_part (fun vs H Q E h => ?_) (fun cdv A outer s H vs Q E hr h => ?_)
  · obtain ⟨n, l, pls, rfl, _⟩ := h; rfl
  obtain ⟨n, l, pls, rfl, hl, ⟨p1, p2, p3⟩, h8, q⟩ := h
  refine ⟨_, 
    (pss_cons
      (ps_if (pw_or (pt_not (pt_val (pe_callB (call_isiK K) (by rfl) T.z_isinstance PyProof.Rows.boot_isinstance (pa_cons (pv 0) (pa_cons (pe_bltn (v := .ty "list") (by rfl) T.z_list PyProof.Rows.boot_list rfl) pa_nil))))) (pw_or1 (pt_cmpR op_ne (pe_callB (call_lenK K) (by rfl) T.z_len PySem.boot_len (pa_cons (pv 0) pa_nil)) (pv 1) (nomark _)))).pt
        (pss_one
          (ps_ret pe_bl))
        pss_nil)
    (pss_cons
      (ps_setC (i := 2) sc_law_is_part.nd rfl rfl rfl (NY := ["place"]) (fr := [none]) ⟨rfl, by decide +kernel, by decide +kernel, rfl, rfl, rfl⟩ (pi_listK K (pv 0)) (fun _ _ _ _ _ => ⟨(pg_name (i := 0) (show List.Nodup (["place"] : List Str) from by decide +kernel) rfl (Or.inl rfl)), (pif_one (pt_cmpR op_notN (pv 0) pe_non (nomark _))), (pv 0)⟩))
    (pss_cons
      (ps_for PassesOwn.never rfl (pi_listK K (pv 2)) (pg_name (i := 3) sc_law_is_part.nd rfl (Or.inl rfl))
        (pss_one
          (ps_if (pw_or (pt_not (pt_val (pe_call (ok_law_whole T) (hr.mono (by decide)) (by rfl) T.m_law_whole T.F_law_whole.kp T.b_law_whole .nil pass0 (pa_cons (pv 3) pa_nil)))) (pw_or (pt_cmpR op_lt (pv 3) pe_int (nomark _)) (pw_or1 (pt_cmpR op_ge (pv 3) (pv 1) (nomark _))))).pt
            (pss_one
              (ps_ret pe_bl))
            pss_nil)))
    (pss_one
      (ps_ret (pe_cmpR op_eq (pe_callB call_lenS (by rfl) T.z_len (by decide +kernel) (pa_cons (pe_callTy (call_setL K) (by rfl) T.z_set (by decide +kernel) (pa_cons (pv 2) pa_nil)) pa_nil)) (pe_callB (call_lenK K) (by rfl) T.z_len PySem.boot_len (pa_cons (pv 2) pa_nil)) (nomark _))))))), ?_⟩
  refine ⟨_, rfl, _, _, _, _, rfl, .lst hl, kit_list K, _, rfl, iteF ?_⟩
  refine ⟨_, rfl, l, _, rfl, .inl (SqL.of hl), _, rfl, rfl, _, rfl, iteNe (fun z => absurd (by rw [List.length_map, p1]) z) (fun _ => ?_)⟩
  refine ⟨_, rfl, l, rfl, ⟨_, SqL.of hl⟩, fun D hD => cmp_filtL (K := K) (xs := pls.map plV) (p := fun x => !decide (x = V.non)) hD (SqL.of hl) (by rw [List.length_map]; omega) (fun i x Hc R hx s2 k => ?_) (fun H1 s1 d1 => ?_)⟩
  · exact ⟨_, rfl, rfl, _, rfl, k _ (Same.refl _)⟩
  rw [plV_filter] at d1
  have lc : (pls.filterMap id).length ≤ 8 := Nat.le_trans (List.length_filterMap_le _ _) (by omega)
  refine ⟨_, rfl, D, rfl, ⟨_, SqL.of d1⟩, for_list (K := K) (a := D) (xs := (pls.filterMap id).map V.int) (fun i σ H2 => ∃ v, σ = [some (.ref l), some (.int (n : Int)), some (.ref D), v] ∧ H2 = H1) ⟨_, rfl, rfl⟩ (fun i σ H2 _ ⟨_, _, e⟩ => e ▸ SqL.of d1) ?_ ?_⟩
  · rintro i x σ H2 hx ⟨v, rfl, rfl⟩
    obtain ⟨c, hc, rfl⟩ := at_map hx
    obtain ⟨o, ho, eo⟩ := List.mem_filterMap.mp (List.mem_of_getElem? hc)
    have eo : o = some c := eo
    rw [eo] at ho
    have hb := p2 c ho
    refine ⟨_, rfl, c, rfl, _, rfl, iteF ?_⟩
    refine ⟨_, rfl, _, _, rfl, rfl, _, rfl, iteD (fun k => absurd k (by omega)) (fun _ => ?_)⟩
    refine ⟨_, rfl, _, rfl, _, _, rfl, rfl, _, rfl, iteD (fun k => absurd k (by omega)) (fun _ => ?_)⟩
    exact ⟨_, rfl, rfl⟩
  · rintro σ H2 ⟨v, rfl, rfl⟩
    refine ⟨_, rfl, D, _, rfl, SqL.of d1, by omega, fun sa S nsa => ?_⟩
    refine ⟨sa, S, _, rfl, upd_same, _, rfl, D, _, rfl, .inl (SqL.of (same_new nsa _ _ _ d1)), rfl, ?_⟩
    rw [met_nodup p3, List.length_map]
    have : decide (V.int (((pls.filterMap id).length : Nat) : Int) = V.int ((pls.filterMap id).length : Int)) = true := decide_eq_true rfl
    rw [this]
    exact q _ (s1.trans (same_new nsa _))
theorem ok_law_is_pairs (T : Txt K mg f fd) : FnOk P w K mg base CX0 3 (f 20) (fd 20) ["found", "many"] spIsPairs := by
  refine T.F_law_is_pairs.ok sc_law_is_pairs (fun vs H Q E h => ?_) (fun cdv A outer s H vs Q E hr h => ?_)
  · obtain ⟨n, a, ts, prs, rfl, _⟩ := h; rfl
  obtain ⟨n, a, ts, prs, rfl, hP, hok, h8, q⟩ := h
  have i0 : ∀ {xs : List V} {v : V}, xs[0]? = some v → atI xs 0 = some v := fun h => atI_nat (j := 0) h
  have i1 : ∀ {xs : List V} {v : V}, xs[1]? = some v → atI xs 1 = some v := fun h => atI_nat (j := 1) h
  refine ⟨_, 
    (pss_cons
      (ps_if (pt_not (pt_val (pe_callB (call_isiK K) (by rfl) T.z_isinstance PyProof.Rows.boot_isinstance (pa_cons (pv 0) (pa_cons (pe_bltn (v := .ty "list") (by rfl) T.z_list PyProof.Rows.boot_list rfl) pa_nil)))))
        (pss_one
          (ps_ret pe_bl))
        pss_nil)
    (pss_cons
      (ps_for PassesOwn.never rfl (pi_listK K (pv 0)) (pg_name (i := 2) sc_law_is_pairs.nd rfl (Or.inl rfl))
        (pss_cons
          (ps_if (pw_or (pt_not (pt_val (pe_callB (call_isiK K) (by rfl) T.z_isinstance PyProof.Rows.boot_isinstance (pa_cons (pv 2) (pa_cons (pe_bltn (v := .ty "tuple") (by rfl) T.z_tuple PyProof.Rows.boot_tuple rfl) pa_nil))))) (pw_or (pt_cmpR op_ne (pe_callB (call_lenK K) (by rfl) T.z_len PySem.boot_len (pa_cons (pv 2) pa_nil)) pe_int (nomark _)) (pw_or (pt_not (pt_val (pe_call (ok_law_whole T) (hr.mono (by decide)) (by rfl) T.m_law_whole T.F_law_whole.kp T.b_law_whole .nil pass0 (pa_cons (pe_ix (ix_tupK K) (pv 2) pe_int (fun _ _ => rfl)) pa_nil)))) (pw_or1 (pt_cmpR op_lt (pe_ix (ix_tupK K) (pv 2) pe_int (fun _ _ => rfl)) pe_int (nomark _)))))).pt
            (pss_one
              (ps_ret pe_bl))
            pss_nil)
        (pss_one
          (ps_if (pt_not (pt_val (pe_call (ok_law_is_part T) (hr.mono (by decide)) (by rfl) T.m_law_is_part T.F_law_is_part.kp T.b_law_is_part .nil pass0 (pa_cons (pe_ix (ix_tupK K) (pv 2) pe_int (fun _ _ => rfl)) (pa_cons (pv 1) pa_nil)))))
            (pss_one
              (ps_ret pe_bl))
            pss_nil))))
    (pss_one
      (ps_ret pe_bl)))), ?_⟩
  refine ⟨_, rfl, _, _, _, _, rfl, .lst hP.top, kit_list K, _, rfl, iteF ?_⟩
  refine ⟨_, rfl, a, rfl, ⟨_, SqL.of hP.top⟩, for_list (K := K) (a := a) (xs := ts.map V.ref) (fun i σ H2 => ∃ v, σ = [some (.ref a), some (.int (n : Int)), v] ∧ Same H H2) ⟨_, rfl, Same.refl H⟩ (fun i σ H2 _ ⟨_, _, s2⟩ => SqL.of (s2 _ _ hP.top)) ?_ ?_⟩
  · rintro i x σ H2 hx ⟨v, rfl, s2⟩
    obtain ⟨t, ht, rfl⟩ := at_map hx
    obtain ⟨⟨tm, pls⟩, hpr, l, et, el⟩ := pr_get hP.rows ht
    obtain ⟨o1, o2⟩ := hok _ (List.mem_of_getElem? hpr)
    have o1 : 1 ≤ tm := o1
    have et2 := s2 _ _ et
    refine ⟨_, rfl, _, _, _, _, rfl, .tup et2, kit_tuple K, _, rfl, iteF ?_⟩
    refine ⟨_, rfl, t, _, rfl, .inr (SqT.of et2), rfl, _, rfl, iteNe (fun z => absurd rfl z) (fun _ => ?_)⟩
    refine ⟨_, rfl, t, _, _, _, rfl, rfl, SqT.of et2, i0 rfl, tm, rfl, _, rfl, iteF ?_⟩
    refine ⟨_, rfl, t, _, _, _, rfl, rfl, SqT.of et2, i0 rfl, _, _, rfl, rfl, _, rfl, iteD (fun k => absurd k (by omega)) (fun _ => ?_)⟩
    refine ⟨_, rfl, t, _, _, _, rfl, rfl, SqT.of et2, i1 rfl, _, rfl, n, l, pls, rfl, s2 _ _ el, o2, h8, fun H3 s3 => ⟨_, rfl, iteF ?_⟩⟩
    exact ⟨_, rfl, s2.trans s3⟩
  · rintro σ H2 ⟨v, rfl, s2⟩
    exact q H2 s2
theorem ok_law_laid (T : Txt K mg f fd) : FnOk P w K mg base CX0 1 (f 21) (fd 21) ["many", "pairs"] spLaid := by
  refine T.F_law_laid.ok sc_law_laid (fun vs H Q E h => ?_) (fun cdv A outer s H vs Q E hr h => ?_)
  · obtain ⟨n, a, ts, prs, rfl, _⟩ := h; rfl
  obtain ⟨n, a, ts, prs, rfl, h1, h8, hP, hok, q⟩ := h
  have hl := hP.len
  have eR : (n : Int).toNat = n := by omega
  refine ⟨_, 
    (pss_cons
      (ps_setC (i := 2) sc_law_laid.nd rfl rfl rfl (NY := ["row", "many"]) (fr := [none, some 0]) ⟨rfl, by decide +kernel, by decide +kernel, rfl, rfl, rfl⟩ (pi_range1 (by rfl) T.z_range (pa_cons (pv 0) pa_nil)) (fun _ _ _ _ _ => ⟨(pg_name (i := 0) (show List.Nodup (["row", "many"] : List Str) from by decide +kernel) rfl (Or.inl rfl)), pif_nil, (pe_comp rfl (NY := ["k"]) (fr := [none]) ⟨rfl, by decide +kernel, by decide +kernel, rfl, rfl, rfl⟩ (pi_range1 (by rfl) T.z_range (pa_cons (pv 1) pa_nil)) (fun _ _ _ _ _ => ⟨(pg_name (i := 0) (show List.Nodup (["k"] : List Str) from by decide +kernel) rfl (Or.inl rfl)), pif_nil, pe_int⟩))⟩))
    (pss_cons
      (ps_for PassesOwn.never rfl (pi_listK K (pv 1)) (pg_tupK K (n := 2) rfl (pgs_cons (pg_name (i := 3) sc_law_laid.nd rfl (Or.inl rfl)) (pgs_cons (pg_name (i := 4) sc_law_laid.nd rfl (Or.inl rfl)) pgs_nil)))
        (pss_one
          (ps_for PassesOwn.never rfl (pi_range1 (by rfl) T.z_range (pa_cons (pv 0) pa_nil)) (pg_name (i := 5) sc_law_laid.nd rfl (Or.inl rfl))
            (pss_one
              (ps_if (pt_cmpR op_notN (pe_ix (ix_listK K) (pv 4) (pv 5) (fun _ _ => rfl)) pe_non (nomark _))
                (pss_one
                  (ps_asg (pe_op op_add (pe_ix (ix_listK K) (pe_ix (ix_listK K) (pv 2) (pv 5) (fun _ _ => rfl)) (pe_ix (ix_listK K) (pv 4) (pv 5) (fun _ _ => rfl)) (fun _ _ => rfl)) (pv 3)) (pg_sub (pe_ix (ix_listK K) (pv 2) (pv 5) (fun _ _ => rfl)) (pe_ix (ix_listK K) (pv 4) (pv 5) (fun _ _ => rfl)) set_list)))
                pss_nil)))))
    (pss_one
      (ps_ret (pv 2))))), ?_⟩
  refine ⟨_, rfl, (n : Int), rfl, by omega, by omega, fun t ht => cmp_range (fun i ys Hc => ∃ ps : List Addr, ys = ps.map V.ref ∧ NewTab H Hc t ps (List.replicate i (List.replicate n (0 : Int)))) ⟨[], rfl, same_new ht _, ⟨upd_same, .nil, by simp⟩, fun b hb => by
        have e : b = t := by simpa using hb
        rw [e]; exact ht⟩ (fun i ys Hc hi p => ?_) (fun i ys Hc R hi p k => ?_) (fun ys Hc p => ?_)⟩
  · obtain ⟨ps, rfl, hN⟩ := p
    have := hN.2.1.len
    rw [List.length_replicate] at this
    exact small1000 (by rw [List.length_map]; omega)
  · obtain ⟨ps, rfl, hN⟩ := p
    refine ⟨_, rfl, (n : Int), rfl, by omega, by omega, fun u hu => cmp_mapR (ys := (List.replicate n (0 : Int)).map V.int) hu (by omega) (by simp) (fun j y H2 R2 hj hy s2 d2 k2 => ?_) (fun H2 s2 d2 => ?_)⟩
    · have e : ((List.replicate n (0 : Int)).map V.int)[j]? = some (.int 0) := map_at (by rw [List.getElem?_replicate]; rw [if_pos (by omega)])
      rw [e] at hy; cases hy
      exact k2 H2 s2 d2
    · have nut : u ≠ t := Ne.symm (ne_of_none hN.2.1.top hu)
      have nups : u ∉ ps := fun hm => by
        obtain ⟨j, hj, e⟩ := List.getElem_of_mem hm
        obtain ⟨r, _, er⟩ := pr_get hN.2.1.rows (i := j) (x := u) (by simp [hj, e])
        rw [hu] at er; cases er
      have hN2 := (hN.grow s2).push d2 nut nups (hN.1.free hu)
      refine k _ _ (hN.grow s2).2.1.top ⟨ps ++ [u], by simp, ?_⟩
      rw [List.replicate_succ']
      exact hN2
  obtain ⟨ps, rfl, hN0⟩ := p
  rw [eR] at hN0
  refine ⟨_, rfl, a, rfl, ⟨_, SqL.of (hN0.1 _ _ hP.top)⟩, for_list (K := K) (a := a) (xs := ts.map V.ref) (fun i σ H2 => ∃ v3 v4 v5, σ = [some (.int n), some (.ref a), some (.ref t), v3, v4, v5] ∧ NewTab H H2 t ps ((prs.take i).foldl (fun T pr => addTo pr.1 pr.2 n T) (zeros n))) ⟨_, _, _, rfl, hN0⟩ (fun i σ H2 _ ⟨_, _, _, _, N⟩ => SqL.of (N.1 _ _ hP.top)) ?_ ?_⟩
  · rintro i x σ H2 hx ⟨v3, v4, v5, rfl, N⟩
    obtain ⟨tt, htt, rfl⟩ := at_map hx
    obtain ⟨⟨tm, pls⟩, hpr, l, et, el⟩ := pr_get hP.rows htt
    obtain ⟨o1, p1, p2, p3⟩ := hok _ (List.mem_of_getElem? hpr)
    have et2 := N.1 _ _ et
    have el2 := N.1 _ _ el
    have hSh := Sh.fold (prs.take i) (Sh.zeros n)
    rw [fold_snoc hpr]
    generalize (prs.take i).foldl (fun T pr => addTo pr.1 pr.2 n T) (zeros n) = Tb at N hSh ⊢
    have nlp : l ∉ ps := fun hm => by
      have := N.2.2 l (List.mem_cons_of_mem _ hm)
      rw [this] at el; cases el
    refine ⟨tt, _, rfl, SqT.of et2, rfl, _, _, rfl, _, _, rfl, rfl, ?_⟩
    refine ⟨_, rfl, (n : Int), rfl, by omega, by omega, ?_⟩
    rw [eR]
    refine for_range (lo := 0) (n := n) (fun j σ H5 => ∃ v5, σ = [some (.int n), some (.ref a), some (.ref t), some (.int tm), some (.ref l), v5] ∧ NewTab H H5 t ps (addTo tm pls j Tb)) ⟨_, rfl, N⟩ ?_ ?_
    · rintro j σ H5 hj ⟨y5, rfl, N5⟩
      have hSi := hSh.add (tm := tm) (pls := pls) j (by omega)
      obtain ⟨r, er, lr⟩ := hSi.at hj
      have el5 := N5.1 _ _ el
      have hjl : j < pls.length := by have : pls.length = n := p1; omega
      have ho : pls[j]? = some pls[j] := List.getElem?_eq_getElem hjl
      have eD : pls.getD j none = pls[j] := by rw [List.getD_eq_getElem?_getD, ho]; rfl
      have a0 : atI (pls.map plV) (0 + (j : Int)) = some (plV pls[j]) := by rw [Int.zero_add]; exact atI_nat (map_at ho)
      refine ⟨_, rfl, _, rfl, l, _, _, _, rfl, rfl, SqL.of el5, a0, rfl, _, rfl, ?_⟩
      generalize eo : pls[j] = o at ho eD a0
      cases o with
      | none =>
        refine iteDn (fun z => absurd rfl z) (fun _ => ⟨_, rfl, ?_⟩)
        have e1 : addTo tm pls (j + 1) Tb = addTo tm pls j Tb := by
          show (addTo tm pls j Tb).set j (addAt tm ((addTo tm pls j Tb).getD j []) (pls.getD j none)) = _
          rw [eD, getD_at er]
          exact set_self er
        rw [e1]
        exact N5
      | some k =>
        obtain ⟨k0, k1⟩ := p2 k (List.mem_of_getElem? ho)
        obtain ⟨p, hp, ep⟩ := pr_getR N5.2.1.rows er
        have a1 : atI (ps.map V.ref) (0 + (j : Int)) = some (.ref p) := by rw [Int.zero_add]; exact atI_nat (map_at hp)
        have hk : k.toNat < r.length := by omega
        have ek : k = ((k.toNat : Nat) : Int) := by omega
        have a2 : atI (r.map V.int) k = some (.int r[k.toNat]) := by
          have q2 := atI_nat (xs := r.map V.int) (j := k.toNat) (v := .int r[k.toNat]) (map_at (by simp [hk]))
          rw [← ek] at q2
          exact q2
        have ix : ixN (r.map V.int).length k = some k.toNat := by
          unfold ixN; rw [if_pos k0, if_pos (by rw [List.length_map]; omega)]
        refine iteDn (fun _ => ?_) (fun z => by cases z)
        refine ⟨_, rfl, _, rfl, t, _, _, _, rfl, rfl, SqL.of N5.2.1.top, a1, _, rfl, _, rfl, l, _, _, _, rfl, rfl, SqL.of el5, a0, p, _, _, _, rfl, rfl, SqL.of ep, a2, _, rfl, _, _, rfl, rfl, ?_⟩
        refine ⟨_, rfl, _, rfl, t, _, _, _, rfl, rfl, SqL.of N5.2.1.top, a1, _, rfl, _, rfl, l, _, _, _, rfl, rfl, SqL.of el5, a0, p, _, _, _, rfl, rfl, ep, ix, ?_⟩
        have N6 := N5.set (r' := r.set k.toNat (r[k.toNat] + tm)) hp
        rw [setV_map] at N6
        refine ⟨_, rfl, ?_⟩
        have e1 : addTo tm pls (j + 1) Tb = (addTo tm pls j Tb).set j (r.set k.toNat (r[k.toNat] + tm)) := by
          show (addTo tm pls j Tb).set j (addAt tm ((addTo tm pls j Tb).getD j []) (pls.getD j none)) = _
          rw [eD, getD_at er]
          show (addTo tm pls j Tb).set j (r.set k.toNat (r.getD k.toNat 0 + tm)) = _
          rw [List.getD_eq_getElem?_getD, List.getElem?_eq_getElem hk]
          rfl
        rw [e1]
        exact N6
    · rintro σ H5 ⟨y5, rfl, N5⟩
      exact ⟨_, _, _, rfl, N5⟩
  · rintro σ H2 ⟨v3, v4, v5, rfl, N⟩
    rw [List.length_map, hl, List.take_length] at N
    exact ⟨_, rfl, q t ps H2 N⟩
end

end My

namespace My
open PySem L2
section
open Ev
variable {P : Program} {w : World} {K : PySem.W.Frag} {mg : Str → Option Value} {base : Heap} {f : Nat → Addr} {fd : Nat → FuncData}
theorem ok_law_right (T : Txt K mg f fd) : FnOk P w K mg base CX0 21 (f 22) (fd 22) ["table"] spRightL := by
  refine T.F_law_right.ok sc_law_right (fun vs H Q E h => ?_) (fun cdv A outer s H vs Q E hr h => ?_)
  · obtain ⟨a, ps, Tb, sm, rfl, _⟩ := h; rfl
  obtain ⟨a, ps, Tb, sm, rfl, hT, hV, hL, q⟩ := h
  have h1 := hV.1
  have h8 := hV.2.1
  have hl := hT.len
  have i0 : ∀ {xs : List V} {v : V}, xs[0]? = some v → atI xs 0 = some v := fun h => atI_nat (j := 0) h
  have i1 : ∀ {xs : List V} {v : V}, xs[1]? = some v → atI xs 1 = some v := fun h => atI_nat (j := 1) h
  refine ⟨_, 
    (pss_cons
      (ps_set (i := 1) sc_law_right.nd rfl (Or.inl rfl) (pe_callB (call_lenK K) (by rfl) T.z_len PySem.boot_len (pa_cons (pv 0) pa_nil)))
    (pss_cons
      (ps_set (i := 2) sc_law_right.nd rfl (Or.inl rfl) (pe_call (ok_law_copied T) (hr.mono (by decide)) (by rfl) T.m_law_copied T.F_law_copied.kp T.b_law_copied .nil pass0 (pa_cons (pv 0) pa_nil)))
    (pss_cons
      (ps_set (i := 3) sc_law_right.nd rfl (Or.inl rfl) (pe_call (ok_rounds T) (hr.mono (by decide)) (by rfl) T.m_rounds T.F_rounds.kp T.b_rounds .nil pass0 (pa_cons (pv 2) pa_nil)))
    (pss_cons
      (ps_if (pw_or (pt_cmpR (op_neD hr.units) (pv 2) (pv 0) (nomark _)) (pw_or (pt_not (pt_val (pe_call (ok_law_is_pairs T) (hr.mono (by decide)) (by rfl) T.m_law_is_pairs T.F_law_is_pairs.kp T.b_law_is_pairs .nil pass0 (pa_cons (pv 3) (pa_cons (pv 1) pa_nil))))) (pw_or1 (pt_cmpR op_gt (pe_callB (call_lenK K) (by rfl) T.z_len PySem.boot_len (pa_cons (pv 3) pa_nil)) (pe_op op_add (pe_op op_sub (pe_op op_mul (pv 1) (pv 1)) (pv 1)) pe_int) (nomark _))))).pt
        (pss_one
          (ps_ret pe_bl))
        pss_nil)
    (pss_cons
      (ps_for PassesOwn.never rfl (pi_listK K (pv 3)) (pg_tupK K (n := 2) rfl (pgs_cons (pg_name (i := 4) sc_law_right.nd rfl (Or.inl rfl)) (pgs_cons (pg_name (i := 5) sc_law_right.nd rfl (Or.inl rfl)) pgs_nil)))
        (pss_one
          (ps_if (pt_cmpR (op_inK K) pe_non (pv 5) (by with_unfolding_all rfl))
            (pss_one
              (ps_ret pe_bl))
            pss_nil)))
    (pss_cons
      (ps_if (pw_or (pt_cmpR (op_neD hr.units) (pe_call (ok_law_laid T) (hr.mono (by decide)) (by rfl) T.m_law_laid T.F_law_laid.kp T.b_law_laid .nil pass0 (pa_cons (pv 1) (pa_cons (pv 3) pa_nil))) (pv 0) (nomark _)) (pw_or1 (pt_cmpR op_ne (pe_callB (call_sumK K) (by rfl) T.z_sum PyProof.Rows.boot_sum (pa_cons (pe_comp rfl (NY := ["pair"]) (fr := [none]) ⟨rfl, by decide +kernel, by decide +kernel, rfl, rfl, rfl⟩ (pi_listK K (pv 3)) (fun _ _ _ _ _ => ⟨(pg_name (i := 0) (show List.Nodup (["pair"] : List Str) from by decide +kernel) rfl (Or.inl rfl)), pif_nil, (pe_ix (ix_tupK K) (pv 0) pe_int (fun _ _ => rfl))⟩)) pa_nil)) (pe_callB (call_sumK K) (by rfl) T.z_sum PyProof.Rows.boot_sum (pa_cons (pe_ix (ix_listK K) (pv 0) pe_int (fun _ _ => rfl)) pa_nil)) (nomark _)))).pt
        (pss_one
          (ps_ret pe_bl))
        pss_nil)
    (pss_cons
      (ps_if (pt_cmpR op_ne (pe_lenset K hr.units (by rfl) T.z_len (by rfl) T.z_set (pe_comp rfl (NY := ["pair"]) (fr := [none]) ⟨rfl, by decide +kernel, by decide +kernel, rfl, rfl, rfl⟩ (pi_listK K (pv 3)) (fun _ _ _ _ _ => ⟨(pg_name (i := 0) (show List.Nodup (["pair"] : List Str) from by decide +kernel) rfl (Or.inl rfl)), pif_nil, (pe_callTy (call_tupleK K) (by rfl) T.z_tuple (by decide +kernel) (pa_cons (pe_ix (ix_tupK K) (pv 0) pe_int (fun _ _ => rfl)) pa_nil))⟩))) (pe_callB (call_lenK K) (by rfl) T.z_len PySem.boot_len (pa_cons (pv 3) pa_nil)) (nomark _))
        (pss_one
          (ps_ret pe_bl))
        pss_nil)
    (pss_cons
      (ps_for PassesOwn.never rfl (pi_listK K (pv 3)) (pg_name (i := 6) sc_law_right.nd rfl (Or.inl rfl))
        (pss_cons
          (ps_if (pt_cmpR op_ne (pe_callB (call_lenK K) (by rfl) T.z_len PySem.boot_len (pa_cons (pe_ix (ix_tupK K) (pv 6) pe_int (fun _ _ => rfl)) pa_nil)) (pv 1) (nomark _))
            (pss_one
              (ps_ret pe_bl))
            pss_nil)
        (pss_one
          (ps_expr (pe_bm PySem.F.plainAttrs_list PySem.F.slot_list_append PySem.F.type_list_append mt_append (pe_ix (ix_tupK K) (pv 6) pe_int (fun _ _ => rfl)) (pa_cons pe_int pa_nil))))))
    (pss_cons
      (ps_expr (pe_bm PySem.F.plainAttrs_list PySem.F.slot_list_append PySem.F.type_list_append mt_append (pv 3) (pa_cons (pe_tup (pa_cons pe_int (pa_cons (pe_lst pa_nil) pa_nil))) pa_nil)))
    (pss_one
      (ps_ret pe_bl))))))))))), ?_⟩
  refine ⟨_, rfl, a, _, rfl, .inl (SqL.of hT.top), ?_⟩
  have eM : (((ps.map V.ref).length : Nat) : Int) = (Tb.length : Int) := by rw [List.length_map, hl]
  rw [eM]
  refine ⟨_, rfl, a, ps, Tb, rfl, hT, by omega, fun c qs H1 N1 => ?_⟩
  refine ⟨_, rfl, Tb.length, c, qs, Tb, sm, rfl, N1.2.1, hV, hL, fun fo tls prs R left H2 NP EV hz => ?_⟩
  have cnt2 := EV.cnt2
  have pl2 := posT_le Tb.length Tb
  have nn : (Tb.length : Int) * Tb.length ≤ 8 * Tb.length := Int.mul_le_mul_of_nonneg_right (by omega) (by omega)
  have n1 : (Tb.length : Int) ≤ (Tb.length : Int) * Tb.length := by
    have : (1 : Int) * Tb.length ≤ (Tb.length : Int) * Tb.length := Int.mul_le_mul_of_nonneg_right (by omega) (by omega)
    omega
  have cnt : (prs.length : Int) ≤ (Tb.length : Int) * Tb.length - Tb.length + 1 := by
    rcases cnt2 with e | e
    · rw [e]; simp; omega
    · omega
  have h57 : prs.length ≤ 57 := by omega
  have ltls := NP.len
  rw [List.length_map] at ltls
  have ltl : (tls.map fun x => V.ref x.1).length = prs.length := by rw [List.length_map]; exact ltls
  have s2 := N1.1.trans NP.same
  have T2 := hT.same s2
  have ok2 : ∀ pr ∈ prs.map toPr, PairOk Tb.length pr := fun pr hpr => by
    obtain ⟨x, hx, e⟩ := List.mem_map.mp hpr
    rw [← e]
    exact ⟨(EV.pr x hx).1, (EV.pr x hx).2.part⟩
  refine ⟨_, rfl, _, rfl, _, dat_tab (n := 62) (N1.2.1.same NP.same), dat_tab (n := 62) T2, _, rfl, iteF ?_⟩
  refine ⟨_, rfl, _, rfl, Tb.length, fo, tls.map (·.1), _, rfl, NP.at, ok2, h8, fun H4 s4 => ⟨_, rfl, iteF ?_⟩⟩
  have NP4 := NP.grow s4
  have T4 := T2.same s4
  refine ⟨_, rfl, fo, _, rfl, .inl (SqL.of NP4.top), _, rfl, _, rfl, _, _, rfl, rfl, .inl ⟨by omega, by omega⟩, _, rfl, _, _, rfl, rfl, _, _, rfl, rfl, _, _, rfl, rfl, _, rfl, iteD (fun k => absurd k (by rw [ltl]; omega)) (fun _ => ?_)⟩
  refine ⟨_, rfl, fo, rfl, ⟨_, SqL.of NP4.top⟩, for_list (K := K) (a := fo) (xs := tls.map fun x => V.ref x.1) (fun i σ H6 => ∃ x4 x5 : Option V, σ = [some (.ref a), some (.int (Tb.length : Int)), some (.ref c), some (.ref fo), x4, x5, none] ∧ H6 = H4) ⟨_, _, rfl, rfl⟩ (fun i σ H6 _ ⟨_, _, _, e⟩ => e ▸ SqL.of NP4.top) ?_ ?_⟩
  · rintro i x σ H6 hx ⟨x4, x5, rfl, rfl⟩
    obtain ⟨tl, htl, rfl⟩ := at_map hx
    obtain ⟨prO, hprO, _, _, b1, b2⟩ := pr_get NP4.rows htl
    obtain ⟨pr, hpr, rfl⟩ := at_map hprO
    refine ⟨tl.1, _, rfl, SqT.of b1, rfl, _, _, rfl, _, _, rfl, rfl, ?_⟩
    refine ⟨_, rfl, tl.2, _, rfl, .inl (SqL.of b2), rfl, pl_flat _, _, rfl, ?_⟩
    have : inV .non ((toPr pr).2.map plV) = false := pl_none (fun hn => by
      unfold toPr plO at hn
      simp at hn)
    rw [this]
    exact iteF ⟨_, _, rfl, rfl⟩
  rintro σ H6 ⟨x4, x5, rfl, rfl⟩
  refine ⟨_, rfl, _, rfl, Tb.length, fo, tls.map (·.1), _, rfl, h1, h8, NP4.at, ok2, fun la lps H5 N5 => ?_⟩
  rw [EV.done hV.sh hz] at N5
  have T5 := T4.same N5.1
  have NP5 := NP4.grow N5.1
  refine ⟨_, rfl, _, dat_tab (n := 62) N5.2.1, dat_tab (n := 62) T5, _, rfl, iteF ?_⟩
  obtain ⟨r, er, es⟩ := hL.row0 h1
  refine ⟨_, rfl, fo, rfl, ⟨_, SqL.of NP5.top⟩, fun D hD => cmp_mapL (K := K) (xs := tls.map fun x => V.ref x.1) (ys := ((prs.map toPr).map (·.1)).map V.int) hD (SqL.of NP5.top) (by rw [ltl]; omega) (by rw [ltl]; simp) (fun i x y Hc R hx hy s7 d7 k => ?_) (fun H7 s7 d7 => ?_)⟩
  · obtain ⟨tl, htl, rfl⟩ := at_map hx
    obtain ⟨prO, hprO, _, _, b1, b2⟩ := pr_get NP5.rows htl
    have e1 : (((prs.map toPr).map (·.1)).map V.int)[i]? = some (.int prO.1) := map_at (map_at (f := fun p : Pr => p.1) hprO)
    rw [e1] at hy; cases hy
    exact ⟨_, rfl, tl.1, _, _, _, rfl, rfl, SqT.of (s7 _ _ b1), i0 rfl, k _ s7 d7⟩
  have T7 := T5.same s7
  have NP7 := NP5.grow s7
  obtain ⟨p, hp, ep⟩ := pr_getR T7.rows er
  refine ⟨D, _, rfl, SqL.of d7, _, rfl, a, _, _, _, rfl, rfl, SqL.of T7.top, i0 (map_at hp), p, r, rfl, SqL.of ep, rfl, _, rfl, iteNe (fun z => absurd ?_ z) (fun _ => ?_)⟩
  · have e1 := EV.sum
    have e2 := EV.nn
    have e3 : ((prs.map toPr).map (·.1)).sum = (prs.map (·.1)).sum := by rw [List.map_map]; rfl
    rw [e3, es]
    omega
  -- the seatings differ
  refine ⟨_, rfl, fo, rfl, ⟨_, SqL.of NP7.top⟩, fun D2 hD2 => cmp_list (K := K) (a := fo) (xs := tls.map fun x => V.ref x.1) (fun i ys Hc => ∃ qs : List Addr, ys = qs.map V.ref ∧ Same H7 Hc ∧ Hc D2 = some (.lst ys) ∧ Paired (fun q (pr : Rd3) => Hc q = some (.tup (nV pr.2))) qs (prs.take i))
    ⟨[], rfl, same_new hD2 _, upd_same, by simpa using Paired.nil⟩ (fun i ys Hc _ ⟨_, _, s9, _⟩ => SqL.of (s9 _ _ NP7.top)) (fun i ys Hc hi pv => ?_) (fun i x ys Hc R hx pv k => ?_) (fun ys Hc pv => ?_)⟩
  · obtain ⟨qs2, rfl, _, _, pp⟩ := pv
    have := pr_len pp
    rw [List.length_take] at this
    exact small1000 (by rw [List.length_map]; omega)
  · obtain ⟨qs2, rfl, s9, eD, pp⟩ := pv
    obtain ⟨tl, htl, rfl⟩ := at_map hx
    obtain ⟨prO, hprO, _, _, b1, b2⟩ := pr_get NP7.rows htl
    obtain ⟨pr, hpr, rfl⟩ := at_map hprO
    have b2' : H7 tl.2 = some (.lst (nV pr.2)) := by rw [← plO_V]; exact b2
    refine ⟨_, rfl, tl.1, _, _, _, rfl, rfl, SqT.of (s9 _ _ b1), i1 rfl, tl.2, _, rfl, .inl ⟨SqL.of (s9 _ _ b2'), fun l hlN => ?_⟩⟩
    have s10 := same_new hlN (.tup (nV pr.2))
    refine k _ _ (s10 _ _ eD) ⟨qs2 ++ [l], by simp, ?_, by rw [upd_same], ?_⟩
    · exact same_upd (s9.trans s10) hD2 _
    · rw [take_snoc hpr]
      refine Paired.snoc (pr_imp (fun q pr' hq => ?_) pp) ?_
      · rw [upd_ne (ne_of hq eD (by intro z; cases z))]; exact s10 _ _ hq
      · rw [upd_ne (Ne.symm (ne_of_none eD hlN)), upd_same]
  obtain ⟨qs2, rfl, s9, eD, pp⟩ := pv
  rw [ltl, List.take_length] at pp
  have T9 := T7.same s9
  have NP9 := NP7.grow s9
  refine ⟨prs.length, ⟨D2, qs2, prs.map fun x => x.2.map Int.ofNat, rfl, SqL.of eD, ?_, ?_, by rw [List.length_map]; omega, by rw [List.length_map]⟩, ?_⟩
  · have key : ∀ {qs : List Addr} {prs : List Rd3}, Paired (fun q (pr : Rd3) => Hc q = some (.tup (nV pr.2))) qs prs → Paired (fun q (ks : List Int) => SqT K Hc q (ks.map V.int)) qs (prs.map fun x => x.2.map Int.ofNat) := fun {qs prs} p => by
      induction p with
      | nil => exact .nil
      | cons a r ih => exact .cons (by rw [← nV_int]; exact SqT.of a) ih
    exact key pp
  · have := nodup_ints EV.dif
    rw [List.map_map] at this
    exact this
  refine ⟨_, rfl, fo, _, rfl, .inl (SqL.of NP9.top), rfl, _, rfl, iteNe (fun z => absurd (by rw [ltl]) z) (fun _ => ?_)⟩
  obtain ⟨nd1, nd2⟩ := List.nodup_cons.mp NP9.nd
  -- what is done to the told lists
  refine ⟨_, rfl, fo, rfl, ⟨_, SqL.of NP9.top⟩, for_list (K := K) (a := fo) (xs := tls.map fun x => V.ref x.1) (fun i σ H9 => ∃ x7 : Option V, σ = [some (.ref a), some (.int (Tb.length : Int)), some (.ref c), some (.ref fo), x4, x5, x7] ∧ Same H H9 ∧ H9 fo = some (.lst (tls.map fun x => V.ref x.1)) ∧
      ∀ (j : Nat) (tl : Addr × Addr) (pr : Pr), i ≤ j → tls[j]? = some tl → (prs.map toPr)[j]? = some pr → H9 tl.1 = some (.tup [.int pr.1, .ref tl.2]) ∧ H9 tl.2 = some (.lst (pr.2.map plV)))
    ⟨_, rfl, N1.1.trans NP9.same, NP9.top, fun j tl pr _ e1 e2 => ?_⟩ (fun i σ H9 _ ⟨_, _, _, e, _⟩ => SqL.of e) ?_ ?_⟩
  · obtain ⟨pr', e3, _, _, b1, b2⟩ := pr_get NP9.rows e1
    rw [e2] at e3; cases e3
    exact ⟨b1, b2⟩
  · rintro i x σ H9 hx ⟨x7, rfl, s9, efo, hw⟩
    obtain ⟨tl, htl, rfl⟩ := at_map hx
    obtain ⟨prO, hprO, n1, n2, _, _⟩ := pr_get NP9.rows htl
    obtain ⟨b1, b2⟩ := hw i tl prO (Nat.le_refl i) htl hprO
    have lp : prO.2.length = Tb.length := (ok2 prO (List.mem_of_getElem? hprO)).2.1
    refine ⟨_, rfl, tl.1, _, _, _, rfl, rfl, SqT.of b1, i1 rfl, tl.2, _, rfl, .inl (SqL.of b2), _, rfl, rfl, _, rfl, iteNe (fun z => absurd (by rw [List.length_map, lp]) z) (fun _ => ?_)⟩
    refine ⟨_, rfl, tl.1, _, _, _, rfl, rfl, SqT.of b1, i1 rfl, .inl ⟨rfl, _, SqL.of b2⟩, tl.2, _, _, rfl, rfl, b2, small1000 (by rw [List.length_map]; omega), ?_⟩
    have nfo : fo ≠ tl.2 := fun z => nd1 (by rw [z]; exact List.mem_map.mpr ⟨tl, List.mem_of_getElem? htl, rfl⟩)
    refine ⟨_, rfl, same_upd s9 (N1.1.free n2) _, by rw [upd_ne nfo]; exact efo, fun j tl' pr' hj e1 e2 => ?_⟩
    obtain ⟨c1, c2⟩ := hw j tl' pr' (by omega) e1 e2
    have ne1 : tl'.1 ≠ tl.2 := ne_of c1 b2 (by intro z; cases z)
    have ne2 : tl'.2 ≠ tl.2 := fun z => by
      have f1 : (tls.map (·.2))[j]? = some tl.2 := by rw [List.getElem?_map, e1, ← z]; rfl
      have f2 : (tls.map (·.2))[i]? = some tl.2 := by rw [List.getElem?_map, htl]; rfl
      have := nodup_ixA nd2 f1 f2
      omega
    exact ⟨by rw [upd_ne ne1]; exact c1, by rw [upd_ne ne2]; exact c2⟩
  · rintro σ H9 ⟨x7, rfl, s9, efo, hw⟩
    refine ⟨_, rfl, .inl ⟨rfl, _, SqL.of efo⟩, (by show 0 ≤ sizeLine; decide), fun m hm => ⟨(by show 2 ≤ sizeLine; decide), fun t2 ht2 => ?_⟩⟩
    have e9 := same_new ht2 (.tup [.int 1, .ref m]) _ _ (same_new hm (.lst []) _ _ efo)
    refine ⟨fo, _, _, rfl, rfl, e9, small1000 (by rw [ltl]; omega), q _ (same_upd (s9.trans ((same_new hm _).trans (same_new ht2 _))) (N1.1.free NP.newA) _)⟩
theorem ok_law (T : Txt K mg f fd) : FnOk P w K mg base CX0 22 (f 23) (fd 23) ["script"] (spLaw K) := by
  refine T.F_law.ok sc_law (fun vs H Q E h => ?_) (fun cdv A outer s H vs Q E hr h => ?_)
  · obtain ⟨a, ns, rfl, _⟩ := h; rfl
  obtain ⟨a, ns, rfl, hS, h63, q⟩ := h
  refine ⟨_, 
    (pss_cons
      (ps_set (i := 1) sc_law.nd rfl (Or.inl rfl) (pe_op op_add pe_int (pe_op op_mod (pe_call (ok_law_cell_at T) (hr.mono (by decide)) (by rfl) T.m_law_cell_at T.F_law_cell_at.kp T.b_law_cell_at .nil pass0 (pa_cons (pv 0) (pa_cons pe_int pa_nil))) pe_int)))
    (pss_cons
      (ps_set (i := 2) sc_law.nd rfl (Or.inl rfl) (pe_op op_mod (pe_call (ok_law_cell_at T) (hr.mono (by decide)) (by rfl) T.m_law_cell_at T.F_law_cell_at.kp T.b_law_cell_at .nil pass0 (pa_cons (pv 0) (pa_cons pe_int pa_nil))) pe_int))
    (pss_cons
      (ps_if (pt_cmpR op_eq (pe_op op_mod (pe_op op_fdiv (pe_call (ok_law_cell_at T) (hr.mono (by decide)) (by rfl) T.m_law_cell_at T.F_law_cell_at.kp T.b_law_cell_at .nil pass0 (pa_cons (pv 0) (pa_cons pe_int pa_nil))) pe_int) pe_int) pe_int (nomark _))
        (pss_one
          (ps_set (i := 2) sc_law.nd rfl (Or.inl rfl) (pe_op op_add pe_int (pe_op op_mod (pe_op op_fdiv (pe_call (ok_law_cell_at T) (hr.mono (by decide)) (by rfl) T.m_law_cell_at T.F_law_cell_at.kp T.b_law_cell_at .nil pass0 (pa_cons (pv 0) (pa_cons pe_int pa_nil))) pe_int) pe_int))))
        pss_nil)
    (pss_cons
      (ps_set (i := 3) sc_law.nd rfl (Or.inl rfl) (pe_call (ok_law_level_by T) (hr.mono (by decide)) (by rfl) T.m_law_level_by T.F_law_level_by.kp T.b_law_level_by .nil pass0 (pa_cons (pv 0) (pa_cons pe_int (pa_cons (pv 1) (pa_cons (pv 2) pa_nil))))))
    (pss_one
      (ps_ret (pe_and (pe_call (ok_law_right T) (hr.mono (by decide)) (by rfl) T.m_law_right T.F_law_right.kp T.b_law_right .nil pass0 (pa_cons (pv 3) pa_nil)) (pe_one (pe_call (ok_law_right T) (hr.mono (by decide)) (by rfl) T.m_law_right T.F_law_right.kp T.b_law_right .nil pass0 (pa_cons (pv 3) pa_nil)))))))))), ?_⟩
  refine ⟨_, rfl, a, ns, 0, rfl, hS, Int.le_refl 0, _, _, rfl, rfl, (by show (0 : Int) < 8; decide), _, _, rfl, rfl, ?_⟩
  have hm0 : 0 ≤ cellAt ns 0 % 8 := Int.emod_nonneg _ (by decide)
  have hm1 : cellAt ns 0 % 8 < 8 := Int.emod_lt_of_pos _ (by decide)
  obtain ⟨n, en⟩ : ∃ n : Nat, 1 + cellAt ns 0 % 8 = (n : Int) := ⟨(1 + cellAt ns 0 % 8).toNat, by omega⟩
  have h1 : 1 ≤ n := by omega
  have h8 : n ≤ 8 := by omega
  show gName 1 (.int (1 + cellAt ns 0 % 8)) _ H _
  rw [en]
  refine ⟨_, rfl, a, ns, 1, rfl, hS, by decide, _, _, rfl, rfl, (by show (0 : Int) < 10; decide), ?_⟩
  refine ⟨_, rfl, a, ns, 1, rfl, hS, by decide, _, _, rfl, rfl, ⟨by decide, by decide⟩, _, _, rfl, rfl, (by show (0 : Int) < 4; decide), rfl, _, rfl, iteEq (fun _ => ?_) (fun _ => ?_)⟩
  · obtain ⟨m, em⟩ : ∃ m : Nat, 10 + cellAt ns 1 / 40 % 20 = (m : Int) := ⟨(10 + cellAt ns 1 / 40 % 20).toNat, by omega⟩
    refine ⟨_, rfl, a, ns, 1, rfl, hS, by decide, _, _, rfl, rfl, ⟨by decide, by decide⟩, _, _, rfl, rfl, (by show (0 : Int) < 20; decide), _, _, rfl, rfl, ?_⟩
    refine ⟨_, rfl, _, rfl, _, rfl, a, ns, 3, n, m, by rw [← em]; rfl, hS, by decide, h1, h8, by omega, fun t ps Tb sm H1 N1 L1 hs0 hs1 => ?_⟩
    have V1 := L1.valid h1 h8 (by omega)
    have lT := L1.sh.1
    subst lT
    exact ⟨_, rfl, t, ps, Tb, sm, rfl, N1.2.1, V1, L1, fun H3 s3 => ⟨_, rfl, iteT ⟨_, rfl, t, ps, Tb, sm, rfl, N1.2.1.same s3, V1, L1, fun H4 s4 => q H4⟩⟩⟩
  · obtain ⟨m, em⟩ : ∃ m : Nat, cellAt ns 1 % 10 = (m : Int) := ⟨(cellAt ns 1 % 10).toNat, by omega⟩
    refine ⟨_, rfl, _, rfl, _, rfl, a, ns, 3, n, m, by rw [← em]; rfl, hS, by decide, h1, h8, by omega, fun t ps Tb sm H1 N1 L1 hs0 hs1 => ?_⟩
    have V1 := L1.valid h1 h8 (by omega)
    have lT := L1.sh.1
    subst lT
    exact ⟨_, rfl, t, ps, Tb, sm, rfl, N1.2.1, V1, L1, fun H3 s3 => ⟨_, rfl, iteT ⟨_, rfl, t, ps, Tb, sm, rfl, N1.2.1.same s3, V1, L1, fun H4 s4 => q H4⟩⟩⟩
end

end My

namespace My
open PySem L2 Ev
theorem all_mk {l : PySem.W.OpenLaw} {w : World} {K : PySem.W.Frag} {h : Heap} {mg : Str → Option Value} {fa f0 f1 f2 f3 f4 f5 f6 f7 f8 f9 f10 f11 f12 f13 f14 f15 f16 f17 f18 f19 f20 f21 f22 f23 : Addr} (X : K.In h) (G : h.Ns mainGlobals mg) (hfa : mg "law" = some (.ref fa))
    {od0 an0 od1 an1 od2 an2 od3 an3 od4 an4 od5 an5 od6 an6 od7 an7 od8 an8 od9 an9 od10 an10 od11 an11 od12 an12 od13 an13 od14 an14 od15 an15 od16 an16 od17 an17 od18 an18 od19 an19 od20 an20 od21 an21 od22 an22 od23 an23 : Option Addr} {sl0 sl1 sl2 sl3 sl4 sl5 sl6 sl7 sl8 sl9 sl10 sl11 sl12 sl13 sl14 sl15 sl16 sl17 sl18 sl19 sl20 sl21 sl22 sl23 : Array (Option Value)} {oc0 kV0 dc0 pm0 cd0 ct0 oc1 kV1 dc1 pm1 cd1 ct1 oc2 kV2 dc2 pm2 cd2 ct2 oc3 kV3 dc3 pm3 cd3 ct3 oc4 kV4 dc4 pm4 cd4 ct4 oc5 kV5 dc5 pm5 cd5 ct5 oc6 kV6 dc6 pm6 cd6 ct6 oc7 kV7 dc7 pm7 cd7 ct7 oc8 kV8 dc8 pm8 cd8 ct8 oc9 kV9 dc9 pm9 cd9 ct9 oc10 kV10 dc10 pm10 cd10 ct10 oc11 kV11 dc11 pm11 cd11 ct11 oc12 kV12 dc12 pm12 cd12 ct12 oc13 kV13 dc13 pm13 cd13 ct13 oc14 kV14 dc14 pm14 cd14 ct14 oc15 kV15 dc15 pm15 cd15 ct15 oc16 kV16 dc16 pm16 cd16 ct16 oc17 kV17 dc17 pm17 cd17 ct17 oc18 kV18 dc18 pm18 cd18 ct18 oc19 kV19 dc19 pm19 cd19 ct19 oc20 kV20 dc20 pm20 cd20 ct20 oc21 kV21 dc21 pm21 cd21 ct21 oc22 kV22 dc22 pm22 cd22 ct22 oc23 kV23 dc23 pm23 cd23 ct23 : Value} {t_MOST_ROWS t_MOST_NUMBER : Tok}
    (a0 : PySem.W.nsIn K mainGlobals "check_many" = some (some (.ref f0))) (l0 : K.lookup f0 = some ⟨oc0, od0, .func (PySem.W.fnOf "check_many" "check_many" (defArgs s_check_many) (defBody s_check_many) (defScope s_check_many) .none kV0 dc0 pm0 an0 cd0 ct0), sl0⟩) (c0 : PySem.W.codeIn K cd0 "check_many" = true) (k0 : PySem.W.keepIn K (.ref f0) = true)
    (a1 : PySem.W.nsIn K mainGlobals "check_row" = some (some (.ref f1))) (l1 : K.lookup f1 = some ⟨oc1, od1, .func (PySem.W.fnOf "check_row" "check_row" (defArgs s_check_row) (defBody s_check_row) (defScope s_check_row) .none kV1 dc1 pm1 an1 cd1 ct1), sl1⟩) (c1 : PySem.W.codeIn K cd1 "check_row" = true) (k1 : PySem.W.keepIn K (.ref f1) = true)
    (a2 : PySem.W.nsIn K mainGlobals "check_table" = some (some (.ref f2))) (l2 : K.lookup f2 = some ⟨oc2, od2, .func (PySem.W.fnOf "check_table" "check_table" (defArgs s_check_table) (defBody s_check_table) (defScope s_check_table) .none kV2 dc2 pm2 an2 cd2 ct2), sl2⟩) (c2 : PySem.W.codeIn K cd2 "check_table" = true) (k2 : PySem.W.keepIn K (.ref f2) = true)
    (a3 : PySem.W.nsIn K mainGlobals "column_sum" = some (some (.ref f3))) (l3 : K.lookup f3 = some ⟨oc3, od3, .func (PySem.W.fnOf "column_sum" "column_sum" (defArgs s_column_sum) (defBody s_column_sum) (defScope s_column_sum) .none kV3 dc3 pm3 an3 cd3 ct3), sl3⟩) (c3 : PySem.W.codeIn K cd3 "column_sum" = true) (k3 : PySem.W.keepIn K (.ref f3) = true)
    (a4 : PySem.W.nsIn K mainGlobals "sums" = some (some (.ref f4))) (l4 : K.lookup f4 = some ⟨oc4, od4, .func (PySem.W.fnOf "sums" "sums" (defArgs s_sums) (defBody s_sums) (defScope s_sums) .none kV4 dc4 pm4 an4 cd4 ct4), sl4⟩) (c4 : PySem.W.codeIn K cd4 "sums" = true) (k4 : PySem.W.keepIn K (.ref f4) = true)
    (a5 : PySem.W.nsIn K mainGlobals "first_other" = some (some (.ref f5))) (l5 : K.lookup f5 = some ⟨oc5, od5, .func (PySem.W.fnOf "first_other" "first_other" (defArgs s_first_other) (defBody s_first_other) (defScope s_first_other) .none kV5 dc5 pm5 an5 cd5 ct5), sl5⟩) (c5 : PySem.W.codeIn K cd5 "first_other" = true) (k5 : PySem.W.keepIn K (.ref f5) = true)
    (a6 : PySem.W.nsIn K mainGlobals "odd_line" = some (some (.ref f6))) (l6 : K.lookup f6 = some ⟨oc6, od6, .func (PySem.W.fnOf "odd_line" "odd_line" (defArgs s_odd_line) (defBody s_odd_line) (defScope s_odd_line) .none kV6 dc6 pm6 an6 cd6 ct6), sl6⟩) (c6 : PySem.W.codeIn K cd6 "odd_line" = true) (k6 : PySem.W.keepIn K (.ref f6) = true)
    (a7 : PySem.W.nsIn K mainGlobals "lay" = some (some (.ref f7))) (l7 : K.lookup f7 = some ⟨oc7, od7, .func (PySem.W.fnOf "lay" "lay" (defArgs s_lay) (defBody s_lay) (defScope s_lay) .none kV7 dc7 pm7 an7 cd7 ct7), sl7⟩) (c7 : PySem.W.codeIn K cd7 "lay" = true) (k7 : PySem.W.keepIn K (.ref f7) = true)
    (a8 : PySem.W.nsIn K mainGlobals "find_column" = some (some (.ref f8))) (l8 : K.lookup f8 = some ⟨oc8, od8, .func (PySem.W.fnOf "find_column" "find_column" (defArgs s_find_column) (defBody s_find_column) (defScope s_find_column) .none kV8 dc8 pm8 an8 cd8 ct8), sl8⟩) (c8 : PySem.W.codeIn K cd8 "find_column" = true) (k8 : PySem.W.keepIn K (.ref f8) = true)
    (a9 : PySem.W.nsIn K mainGlobals "short_of" = some (some (.ref f9))) (l9 : K.lookup f9 = some ⟨oc9, od9, .func (PySem.W.fnOf "short_of" "short_of" (defArgs s_short_of) (defBody s_short_of) (defScope s_short_of) .none kV9 dc9 pm9 an9 cd9 ct9), sl9⟩) (c9 : PySem.W.codeIn K cd9 "short_of" = true) (k9 : PySem.W.keepIn K (.ref f9) = true)
    (a10 : PySem.W.nsIn K mainGlobals "places_of" = some (some (.ref f10))) (l10 : K.lookup f10 = some ⟨oc10, od10, .func (PySem.W.fnOf "places_of" "places_of" (defArgs s_places_of) (defBody s_places_of) (defScope s_places_of) .none kV10 dc10 pm10 an10 cd10 ct10), sl10⟩) (c10 : PySem.W.codeIn K cd10 "places_of" = true) (k10 : PySem.W.keepIn K (.ref f10) = true)
    (a11 : PySem.W.nsIn K mainGlobals "matched" = some (some (.ref f11))) (l11 : K.lookup f11 = some ⟨oc11, od11, .func (PySem.W.fnOf "matched" "matched" (defArgs s_matched) (defBody s_matched) (defScope s_matched) .none kV11 dc11 pm11 an11 cd11 ct11), sl11⟩) (c11 : PySem.W.codeIn K cd11 "matched" = true) (k11 : PySem.W.keepIn K (.ref f11) = true)
    (a12 : PySem.W.nsIn K mainGlobals "even_pairs" = some (some (.ref f12))) (l12 : K.lookup f12 = some ⟨oc12, od12, .func (PySem.W.fnOf "even_pairs" "even_pairs" (defArgs s_even_pairs) (defBody s_even_pairs) (defScope s_even_pairs) .none kV12 dc12 pm12 an12 cd12 ct12), sl12⟩) (c12 : PySem.W.codeIn K cd12 "even_pairs" = true) (k12 : PySem.W.keepIn K (.ref f12) = true)
    (a13 : PySem.W.nsIn K mainGlobals "rounds" = some (some (.ref f13))) (l13 : K.lookup f13 = some ⟨oc13, od13, .func (PySem.W.fnOf "rounds" "rounds" (defArgs s_rounds) (defBody s_rounds) (defScope s_rounds) .none kV13 dc13 pm13 an13 cd13 ct13), sl13⟩) (c13 : PySem.W.codeIn K cd13 "rounds" = true) (k13 : PySem.W.keepIn K (.ref f13) = true)
    (a14 : PySem.W.nsIn K mainGlobals "_law_cell_at" = some (some (.ref f14))) (l14 : K.lookup f14 = some ⟨oc14, od14, .func (PySem.W.fnOf "_law_cell_at" "_law_cell_at" (defArgs s_law_cell_at) (defBody s_law_cell_at) (defScope s_law_cell_at) .none kV14 dc14 pm14 an14 cd14 ct14), sl14⟩) (c14 : PySem.W.codeIn K cd14 "_law_cell_at" = true) (k14 : PySem.W.keepIn K (.ref f14) = true)
    (a15 : PySem.W.nsIn K mainGlobals "_law_whole" = some (some (.ref f15))) (l15 : K.lookup f15 = some ⟨oc15, od15, .func (PySem.W.fnOf "_law_whole" "_law_whole" (defArgs s_law_whole) (defBody s_law_whole) (defScope s_law_whole) .none kV15 dc15 pm15 an15 cd15 ct15), sl15⟩) (c15 : PySem.W.codeIn K cd15 "_law_whole" = true) (k15 : PySem.W.keepIn K (.ref f15) = true)
    (a16 : PySem.W.nsIn K mainGlobals "_law_order" = some (some (.ref f16))) (l16 : K.lookup f16 = some ⟨oc16, od16, .func (PySem.W.fnOf "_law_order" "_law_order" (defArgs s_law_order) (defBody s_law_order) (defScope s_law_order) .none kV16 dc16 pm16 an16 cd16 ct16), sl16⟩) (c16 : PySem.W.codeIn K cd16 "_law_order" = true) (k16 : PySem.W.keepIn K (.ref f16) = true)
    (a17 : PySem.W.nsIn K mainGlobals "_law_level_by" = some (some (.ref f17))) (l17 : K.lookup f17 = some ⟨oc17, od17, .func (PySem.W.fnOf "_law_level_by" "_law_level_by" (defArgs s_law_level_by) (defBody s_law_level_by) (defScope s_law_level_by) .none kV17 dc17 pm17 an17 cd17 ct17), sl17⟩) (c17 : PySem.W.codeIn K cd17 "_law_level_by" = true) (k17 : PySem.W.keepIn K (.ref f17) = true)
    (a18 : PySem.W.nsIn K mainGlobals "_law_copied" = some (some (.ref f18))) (l18 : K.lookup f18 = some ⟨oc18, od18, .func (PySem.W.fnOf "_law_copied" "_law_copied" (defArgs s_law_copied) (defBody s_law_copied) (defScope s_law_copied) .none kV18 dc18 pm18 an18 cd18 ct18), sl18⟩) (c18 : PySem.W.codeIn K cd18 "_law_copied" = true) (k18 : PySem.W.keepIn K (.ref f18) = true)
    (a19 : PySem.W.nsIn K mainGlobals "_law_is_part" = some (some (.ref f19))) (l19 : K.lookup f19 = some ⟨oc19, od19, .func (PySem.W.fnOf "_law_is_part" "_law_is_part" (defArgs s_law_is_part) (defBody s_law_is_part) (defScope s_law_is_part) .none kV19 dc19 pm19 an19 cd19 ct19), sl19⟩) (c19 : PySem.W.codeIn K cd19 "_law_is_part" = true) (k19 : PySem.W.keepIn K (.ref f19) = true)
    (a20 : PySem.W.nsIn K mainGlobals "_law_is_pairs" = some (some (.ref f20))) (l20 : K.lookup f20 = some ⟨oc20, od20, .func (PySem.W.fnOf "_law_is_pairs" "_law_is_pairs" (defArgs s_law_is_pairs) (defBody s_law_is_pairs) (defScope s_law_is_pairs) .none kV20 dc20 pm20 an20 cd20 ct20), sl20⟩) (c20 : PySem.W.codeIn K cd20 "_law_is_pairs" = true) (k20 : PySem.W.keepIn K (.ref f20) = true)
    (a21 : PySem.W.nsIn K mainGlobals "_law_laid" = some (some (.ref f21))) (l21 : K.lookup f21 = some ⟨oc21, od21, .func (PySem.W.fnOf "_law_laid" "_law_laid" (defArgs s_law_laid) (defBody s_law_laid) (defScope s_law_laid) .none kV21 dc21 pm21 an21 cd21 ct21), sl21⟩) (c21 : PySem.W.codeIn K cd21 "_law_laid" = true) (k21 : PySem.W.keepIn K (.ref f21) = true)
    (a22 : PySem.W.nsIn K mainGlobals "_law_right" = some (some (.ref f22))) (l22 : K.lookup f22 = some ⟨oc22, od22, .func (PySem.W.fnOf "_law_right" "_law_right" (defArgs s_law_right) (defBody s_law_right) (defScope s_law_right) .none kV22 dc22 pm22 an22 cd22 ct22), sl22⟩) (c22 : PySem.W.codeIn K cd22 "_law_right" = true) (k22 : PySem.W.keepIn K (.ref f22) = true)
    (a23 : PySem.W.nsIn K mainGlobals "law" = some (some (.ref f23))) (l23 : K.lookup f23 = some ⟨oc23, od23, .func (PySem.W.fnOf "law" "law" (defArgs s_law) (defBody s_law) (defScope s_law) .none kV23 dc23 pm23 an23 cd23 ct23), sl23⟩) (c23 : PySem.W.codeIn K cd23 "law" = true) (k23 : PySem.W.keepIn K (.ref f23) = true)
    (e_MOST_ROWS : PySem.W.nsIn K mainGlobals "MOST_ROWS" = some (some (.int 8 t_MOST_ROWS)))
    (e_MOST_NUMBER : PySem.W.nsIn K mainGlobals "MOST_NUMBER" = some (some (.int 1000000 t_MOST_NUMBER)))
    (y_len : PySem.W.nsIn K mainGlobals "len" = some none)
    (y_sum : PySem.W.nsIn K mainGlobals "sum" = some none)
    (y_isinstance : PySem.W.nsIn K mainGlobals "isinstance" = some none)
    (y_list : PySem.W.nsIn K mainGlobals "list" = some none)
    (y_tuple : PySem.W.nsIn K mainGlobals "tuple" = some none)
    (y_range : PySem.W.nsIn K mainGlobals "range" = some none)
    (y_enumerate : PySem.W.nsIn K mainGlobals "enumerate" = some none)
    (y_int : PySem.W.nsIn K mainGlobals "int" = some none)
    (y_bool : PySem.W.nsIn K mainGlobals "bool" = some none)
    (y_set : PySem.W.nsIn K mainGlobals "set" = some none)
    (y_min : PySem.W.nsIn K mainGlobals "min" = some none)
    (y_sorted : PySem.W.nsIn K mainGlobals "sorted" = some none)
    : ∃ fd : FuncData, (∀ (s : Shared) (v : Value), BindsTo s fd ⟨[v], []⟩ [("script", v)]) ∧ ∀ base : Heap, K.In base → base.Ns mainGlobals mg → FnOk l.prog w K mg base CX0 22 fa fd ["script"] (spLaw K) := by
  have e := hfa.symm.trans (PySem.W.mg_of X G a23)
  cases e
  let f : Nat → Addr := fun i => ([f0, f1, f2, f3, f4, f5, f6, f7, f8, f9, f10, f11, f12, f13, f14, f15, f16, f17, f18, f19, f20, f21, f22, fa] : List Addr).getD i 0
  let fd : Nat → FuncData := fun i => ([PySem.W.fnOf "check_many" "check_many" (defArgs s_check_many) (defBody s_check_many) (defScope s_check_many) .none kV0 dc0 pm0 an0 cd0 ct0, PySem.W.fnOf "check_row" "check_row" (defArgs s_check_row) (defBody s_check_row) (defScope s_check_row) .none kV1 dc1 pm1 an1 cd1 ct1, PySem.W.fnOf "check_table" "check_table" (defArgs s_check_table) (defBody s_check_table) (defScope s_check_table) .none kV2 dc2 pm2 an2 cd2 ct2, PySem.W.fnOf "column_sum" "column_sum" (defArgs s_column_sum) (defBody s_column_sum) (defScope s_column_sum) .none kV3 dc3 pm3 an3 cd3 ct3, PySem.W.fnOf "sums" "sums" (defArgs s_sums) (defBody s_sums) (defScope s_sums) .none kV4 dc4 pm4 an4 cd4 ct4, PySem.W.fnOf "first_other" "first_other" (defArgs s_first_other) (defBody s_first_other) (defScope s_first_other) .none kV5 dc5 pm5 an5 cd5 ct5, PySem.W.fnOf "odd_line" "odd_line" (defArgs s_odd_line) (defBody s_odd_line) (defScope s_odd_line) .none kV6 dc6 pm6 an6 cd6 ct6, PySem.W.fnOf "lay" "lay" (defArgs s_lay) (defBody s_lay) (defScope s_lay) .none kV7 dc7 pm7 an7 cd7 ct7, PySem.W.fnOf "find_column" "find_column" (defArgs s_find_column) (defBody s_find_column) (defScope s_find_column) .none kV8 dc8 pm8 an8 cd8 ct8, PySem.W.fnOf "short_of" "short_of" (defArgs s_short_of) (defBody s_short_of) (defScope s_short_of) .none kV9 dc9 pm9 an9 cd9 ct9, PySem.W.fnOf "places_of" "places_of" (defArgs s_places_of) (defBody s_places_of) (defScope s_places_of) .none kV10 dc10 pm10 an10 cd10 ct10, PySem.W.fnOf "matched" "matched" (defArgs s_matched) (defBody s_matched) (defScope s_matched) .none kV11 dc11 pm11 an11 cd11 ct11, PySem.W.fnOf "even_pairs" "even_pairs" (defArgs s_even_pairs) (defBody s_even_pairs) (defScope s_even_pairs) .none kV12 dc12 pm12 an12 cd12 ct12, PySem.W.fnOf "rounds" "rounds" (defArgs s_rounds) (defBody s_rounds) (defScope s_rounds) .none kV13 dc13 pm13 an13 cd13 ct13, PySem.W.fnOf "_law_cell_at" "_law_cell_at" (defArgs s_law_cell_at) (defBody s_law_cell_at) (defScope s_law_cell_at) .none kV14 dc14 pm14 an14 cd14 ct14, PySem.W.fnOf "_law_whole" "_law_whole" (defArgs s_law_whole) (defBody s_law_whole) (defScope s_law_whole) .none kV15 dc15 pm15 an15 cd15 ct15, PySem.W.fnOf "_law_order" "_law_order" (defArgs s_law_order) (defBody s_law_order) (defScope s_law_order) .none kV16 dc16 pm16 an16 cd16 ct16, PySem.W.fnOf "_law_level_by" "_law_level_by" (defArgs s_law_level_by) (defBody s_law_level_by) (defScope s_law_level_by) .none kV17 dc17 pm17 an17 cd17 ct17, PySem.W.fnOf "_law_copied" "_law_copied" (defArgs s_law_copied) (defBody s_law_copied) (defScope s_law_copied) .none kV18 dc18 pm18 an18 cd18 ct18, PySem.W.fnOf "_law_is_part" "_law_is_part" (defArgs s_law_is_part) (defBody s_law_is_part) (defScope s_law_is_part) .none kV19 dc19 pm19 an19 cd19 ct19, PySem.W.fnOf "_law_is_pairs" "_law_is_pairs" (defArgs s_law_is_pairs) (defBody s_law_is_pairs) (defScope s_law_is_pairs) .none kV20 dc20 pm20 an20 cd20 ct20, PySem.W.fnOf "_law_laid" "_law_laid" (defArgs s_law_laid) (defBody s_law_laid) (defScope s_law_laid) .none kV21 dc21 pm21 an21 cd21 ct21, PySem.W.fnOf "_law_right" "_law_right" (defArgs s_law_right) (defBody s_law_right) (defScope s_law_right) .none kV22 dc22 pm22 an22 cd22 ct22, PySem.W.fnOf "law" "law" (defArgs s_law) (defBody s_law) (defScope s_law) .none kV23 dc23 pm23 an23 cd23 ct23] : List FuncData).getD i (PySem.W.fnOf "check_many" "check_many" (defArgs s_check_many) (defBody s_check_many) (defScope s_check_many) .none kV0 dc0 pm0 an0 cd0 ct0)
  have F0 := fun_mk (st := s_check_many) l0 c0 k0
  have b0 := F0.binds (ps := ["many"]) fun _ _ _ _ _ _ us hl => match us, hl with | [_], _ => rfl
  have F1 := fun_mk (st := s_check_row) l1 c1 k1
  have b1 := F1.binds (ps := ["row", "many"]) fun _ _ _ _ _ _ us hl => match us, hl with | [_, _], _ => rfl
  have F2 := fun_mk (st := s_check_table) l2 c2 k2
  have b2 := F2.binds (ps := ["table"]) fun _ _ _ _ _ _ us hl => match us, hl with | [_], _ => rfl
  have F3 := fun_mk (st := s_column_sum) l3 c3 k3
  have b3 := F3.binds (ps := ["table", "column"]) fun _ _ _ _ _ _ us hl => match us, hl with | [_, _], _ => rfl
  have F4 := fun_mk (st := s_sums) l4 c4 k4
  have b4 := F4.binds (ps := ["table"]) fun _ _ _ _ _ _ us hl => match us, hl with | [_], _ => rfl
  have F5 := fun_mk (st := s_first_other) l5 c5 k5
  have b5 := F5.binds (ps := ["totals", "wanted"]) fun _ _ _ _ _ _ us hl => match us, hl with | [_, _], _ => rfl
  have F6 := fun_mk (st := s_odd_line) l6 c6 k6
  have b6 := F6.binds (ps := ["table"]) fun _ _ _ _ _ _ us hl => match us, hl with | [_], _ => rfl
  have F7 := fun_mk (st := s_lay) l7 c7 k7
  have b7 := F7.binds (ps := ["table", "pair"]) fun _ _ _ _ _ _ us hl => match us, hl with | [_, _], _ => rfl
  have F8 := fun_mk (st := s_find_column) l8 c8 k8
  have b8 := F8.binds (ps := ["table", "row", "holders", "tried"]) fun _ _ _ _ _ _ us hl => match us, hl with | [_, _, _, _], _ => rfl
  have F9 := fun_mk (st := s_short_of) l9 c9 k9
  have b9 := F9.binds (ps := ["row", "holders", "tried"]) fun _ _ _ _ _ _ us hl => match us, hl with | [_, _, _], _ => rfl
  have F10 := fun_mk (st := s_places_of) l10 c10 k10
  have b10 := F10.binds (ps := ["holders"]) fun _ _ _ _ _ _ us hl => match us, hl with | [_], _ => rfl
  have F11 := fun_mk (st := s_matched) l11 c11 k11
  have b11 := F11.binds (ps := ["table"]) fun _ _ _ _ _ _ us hl => match us, hl with | [_], _ => rfl
  have F12 := fun_mk (st := s_even_pairs) l12 c12 k12
  have b12 := F12.binds (ps := ["table", "total"]) fun _ _ _ _ _ _ us hl => match us, hl with | [_, _], _ => rfl
  have F13 := fun_mk (st := s_rounds) l13 c13 k13
  have b13 := F13.binds (ps := ["table"]) fun _ _ _ _ _ _ us hl => match us, hl with | [_], _ => rfl
  have F14 := fun_mk (st := s_law_cell_at) l14 c14 k14
  have b14 := F14.binds (ps := ["script", "k"]) fun _ _ _ _ _ _ us hl => match us, hl with | [_, _], _ => rfl
  have F15 := fun_mk (st := s_law_whole) l15 c15 k15
  have b15 := F15.binds (ps := ["found"]) fun _ _ _ _ _ _ us hl => match us, hl with | [_], _ => rfl
  have F16 := fun_mk (st := s_law_order) l16 c16 k16
  have b16 := F16.binds (ps := ["cell", "many"]) fun _ _ _ _ _ _ us hl => match us, hl with | [_, _], _ => rfl
  have F17 := fun_mk (st := s_law_level_by) l17 c17 k17
  have b17 := F17.binds (ps := ["script", "first", "many", "count"]) fun _ _ _ _ _ _ us hl => match us, hl with | [_, _, _, _], _ => rfl
  have F18 := fun_mk (st := s_law_copied) l18 c18 k18
  have b18 := F18.binds (ps := ["table"]) fun _ _ _ _ _ _ us hl => match us, hl with | [_], _ => rfl
  have F19 := fun_mk (st := s_law_is_part) l19 c19 k19
  have b19 := F19.binds (ps := ["found", "many"]) fun _ _ _ _ _ _ us hl => match us, hl with | [_, _], _ => rfl
  have F20 := fun_mk (st := s_law_is_pairs) l20 c20 k20
  have b20 := F20.binds (ps := ["found", "many"]) fun _ _ _ _ _ _ us hl => match us, hl with | [_, _], _ => rfl
  have F21 := fun_mk (st := s_law_laid) l21 c21 k21
  have b21 := F21.binds (ps := ["many", "pairs"]) fun _ _ _ _ _ _ us hl => match us, hl with | [_, _], _ => rfl
  have F22 := fun_mk (st := s_law_right) l22 c22 k22
  have b22 := F22.binds (ps := ["table"]) fun _ _ _ _ _ _ us hl => match us, hl with | [_], _ => rfl
  have F23 := fun_mk (st := s_law) l23 c23 k23
  have b23 := F23.binds (ps := ["script"]) fun _ _ _ _ _ _ us hl => match us, hl with | [_], _ => rfl
  have T : Txt K mg f fd := ⟨F0, b0, PySem.W.mg_of X G a0, F1, b1, PySem.W.mg_of X G a1, F2, b2, PySem.W.mg_of X G a2, F3, b3, PySem.W.mg_of X G a3, F4, b4, PySem.W.mg_of X G a4, F5, b5, PySem.W.mg_of X G a5, F6, b6, PySem.W.mg_of X G a6, F7, b7, PySem.W.mg_of X G a7, F8, b8, PySem.W.mg_of X G a8, F9, b9, PySem.W.mg_of X G a9, F10, b10, PySem.W.mg_of X G a10, F11, b11, PySem.W.mg_of X G a11, F12, b12, PySem.W.mg_of X G a12, F13, b13, PySem.W.mg_of X G a13, F14, b14, PySem.W.mg_of X G a14, F15, b15, PySem.W.mg_of X G a15, F16, b16, PySem.W.mg_of X G a16, F17, b17, PySem.W.mg_of X G a17, F18, b18, PySem.W.mg_of X G a18, F19, b19, PySem.W.mg_of X G a19, F20, b20, PySem.W.mg_of X G a20, F21, b21, PySem.W.mg_of X G a21, F22, b22, PySem.W.mg_of X G a22, F23, b23, PySem.W.mg_of X G a23, ⟨_, PySem.W.mg_of X G e_MOST_ROWS⟩, ⟨_, PySem.W.mg_of X G e_MOST_NUMBER⟩, PySem.W.mg_none_of X G y_len, PySem.W.mg_none_of X G y_sum, PySem.W.mg_none_of X G y_isinstance, PySem.W.mg_none_of X G y_list, PySem.W.mg_none_of X G y_tuple, PySem.W.mg_none_of X G y_range, PySem.W.mg_none_of X G y_enumerate, PySem.W.mg_none_of X G y_int, PySem.W.mg_none_of X G y_bool, PySem.W.mg_none_of X G y_set, PySem.W.mg_none_of X G y_min, PySem.W.mg_none_of X G y_sorted⟩
  exact ⟨fd 23, fun s v => .of_eq rfl, fun base _ _ => ok_law T⟩
theorem walk {l : PySem.W.OpenLaw} {q : Program} {loose : List Str} {XP : (Str → Option Value) → Heap → Prop} {YP : World → Heap → Prop} {d : DefRec} {K : Params → PySem.W.Frag} (hn : l.most = some 63) (hdf : d.params.defaults = [])
    (hY : ∀ (w : World) (h : Heap), YP w h → (K w.params).In h)
    (F : ∀ (w : World) (mg : Str → Option Value) (fa : Addr) (h : Heap), (K w.params).In h → h.Ns mainGlobals mg → mg d.name = some (.ref fa) →
      ∃ fd : FuncData, (∀ (s : Shared) (u : Value), BindsTo s fd ⟨[u], []⟩ [("script", u)]) ∧ ∀ base : Heap, (K w.params).In base → base.Ns mainGlobals mg → FnOk l.prog w (K w.params) mg base CX0 22 fa fd ["script"] (spLaw (K w.params))) :
    PySem.W.WalkO q loose XP YP l.row.toRowW d [] (fun f vs => PySem.call f vs) :=
  L2.walk_of (n := 63) (k := 22) (x := "script") (CX := fun _ => CX0) (sp := fun w => spLaw (K w.params)) hn (by decide) hdf ⟨rfl, by decide, by decide⟩ hY F (fun _ _ a ns hl _ hS => ⟨a, ns, rfl, hS, hl, fun _ => rfl⟩) fun _ _ _ _ _ z => z
end My
open PySem PySem.W PyProof.Rows
set_option maxRecDepth 100000 in
set_option maxHeartbeats 0 in
theorem PySem.Challenge.cw_evenrounds_k07_whole_rounds_holds : PySem.Challenge.rw_evenrounds_k07_whole_rounds.Holds := by
  w_on; o_law; k_head; (case hw => w_witness2)
  k_fill
  refine My.walk (l := PySem.Challenge.rw_evenrounds_k07_whole_rounds) rfl rfl (fun w h Y => PySem.W.kIn_of Y) ?F
  case F =>
    intro w mg fa h KX G hmg
    refine' My.all_mk KX G hmg ?a0 ?l0 ?c0 ?k0 ?a1 ?l1 ?c1 ?k1 ?a2 ?l2 ?c2 ?k2 ?a3 ?l3 ?c3 ?k3 ?a4 ?l4 ?c4 ?k4 ?a5 ?l5 ?c5 ?k5 ?a6 ?l6 ?c6 ?k6 ?a7 ?l7 ?c7 ?k7 ?a8 ?l8 ?c8 ?k8 ?a9 ?l9 ?c9 ?k9 ?a10 ?l10 ?c10 ?k10 ?a11 ?l11 ?c11 ?k11 ?a12 ?l12 ?c12 ?k12 ?a13 ?l13 ?c13 ?k13 ?a14 ?l14 ?c14 ?k14 ?a15 ?l15 ?c15 ?k15 ?a16 ?l16 ?c16 ?k16 ?a17 ?l17 ?c17 ?k17 ?a18 ?l18 ?c18 ?k18 ?a19 ?l19 ?c19 ?k19 ?a20 ?l20 ?c20 ?k20 ?a21 ?l21 ?c21 ?k21 ?a22 ?l22 ?c22 ?k22 ?a23 ?l23 ?c23 ?k23 ?e_MOST_ROWS ?e_MOST_NUMBER ?y_len ?y_sum ?y_isinstance ?y_list ?y_tuple ?y_range ?y_enumerate ?y_int ?y_bool ?y_set ?y_min ?y_sorted
    (case a0 => k_is); (case l0 => k_is); (case c0 => k_is); (case k0 => k_is)
    (case a1 => k_is); (case l1 => k_is); (case c1 => k_is); (case k1 => k_is)
    (case a2 => k_is); (case l2 => k_is); (case c2 => k_is); (case k2 => k_is)
    (case a3 => k_is); (case l3 => k_is); (case c3 => k_is); (case k3 => k_is)
    (case a4 => k_is); (case l4 => k_is); (case c4 => k_is); (case k4 => k_is)
    (case a5 => k_is); (case l5 => k_is); (case c5 => k_is); (case k5 => k_is)
    (case a6 => k_is); (case l6 => k_is); (case c6 => k_is); (case k6 => k_is)
    (case a7 => k_is); (case l7 => k_is); (case c7 => k_is); (case k7 => k_is)
    (case a8 => k_is); (case l8 => k_is); (case c8 => k_is); (case k8 => k_is)
    (case a9 => k_is); (case l9 => k_is); (case c9 => k_is); (case k9 => k_is)
    (case a10 => k_is); (case l10 => k_is); (case c10 => k_is); (case k10 => k_is)
    (case a11 => k_is); (case l11 => k_is); (case c11 => k_is); (case k11 => k_is)
    (case a12 => k_is); (case l12 => k_is); (case c12 => k_is); (case k12 => k_is)
    (case a13 => k_is); (case l13 => k_is); (case c13 => k_is); (case k13 => k_is)
    (case a14 => k_is); (case l14 => k_is); (case c14 => k_is); (case k14 => k_is)
    (case a15 => k_is); (case l15 => k_is); (case c15 => k_is); (case k15 => k_is)
    (case a16 => k_is); (case l16 => k_is); (case c16 => k_is); (case k16 => k_is)
    (case a17 => k_is); (case l17 => k_is); (case c17 => k_is); (case k17 => k_is)
    (case a18 => k_is); (case l18 => k_is); (case c18 => k_is); (case k18 => k_is)
    (case a19 => k_is); (case l19 => k_is); (case c19 => k_is); (case k19 => k_is)
    (case a20 => k_is); (case l20 => k_is); (case c20 => k_is); (case k20 => k_is)
    (case a21 => k_is); (case l21 => k_is); (case c21 => k_is); (case k21 => k_is)
    (case a22 => k_is); (case l22 => k_is); (case c22 => k_is); (case k22 => k_is)
    (case a23 => k_is); (case l23 => k_is); (case c23 => k_is); (case k23 => k_is)
    (case e_MOST_ROWS => k_is)
    (case e_MOST_NUMBER => k_is)
    (case y_len => k_is)
    (case y_sum => k_is)
    (case y_isinstance => k_is)
    (case y_list => k_is)
    (case y_tuple => k_is)
    (case y_range => k_is)
    (case y_enumerate => k_is)
    (case y_int => k_is)
    (case y_bool => k_is)
    (case y_set => k_is)
    (case y_min => k_is)
    (case y_sorted => k_is)


import PyProof.Rows.All
import Wide.All
import OpenK.AllK
import Wide.FinOn
import Lean
import PyProof.EqAt
import PyProof.EqKinds
import PyProof.TupleCall
import KE.KStateDown
import KE.KTryMore
import PySem.Challenge.RW_onechange_k07_no_listing
set_option Elab.async false
set_option linter.all false
set_option maxRecDepth 100000
/-! THE HAND LAYER, for ints, bools, texts, own classes, LISTS and tuples (index, slices, in, append, pop ..), calls, loops. Paste it whole ahead of your own text; what your proof does not reach may be deleted. -/
namespace L2
open PySem PySem.Spec PyProof.Rows

/-- a key: an int or a str -/
abbrev Key := Sum Int Str
def keyIs : Key → Value → Bool
  | .inl k, v => Value.isInt k v
  | .inr x, v => Value.isStrOf x v
def keyH (w : World) : Key → Int
  | .inl k => hashInt k
  | .inr x => hashStr w x
theorem keyIs_shape : ∀ {k : Key} {v : Value}, keyIs k v = true → (∃ i t, k = Sum.inl i ∧ v = Value.int i t) ∨ (∃ x t, k = Sum.inr x ∧ v = Value.str x t)
  | .inl i, v, h => by
    obtain ⟨t, e⟩ := Value.isInt_shape (k := i) (v := v) h
    exact .inl ⟨i, t, rfl, e⟩
  | .inr x, v, h => by
    obtain ⟨t, e⟩ := Value.isStrOf_shape (x := x) (v := v) h
    exact .inr ⟨x, t, rfl, e⟩
theorem keyIs_int (i : Int) (t : Tok) : keyIs (.inl i) (.int i t) = true := by simp [keyIs, Value.isInt]
theorem keyIs_str (x : Str) (t : Tok) : keyIs (.inr x) (.str x t) = true := by simp [keyIs, Value.isStrOf]
theorem key_ll (a b : Int) : decide ((Sum.inl a : Key) = Sum.inl b) = (a == b) := by
  by_cases e : a = b
  · subst e; simp
  · have h : ¬ (Sum.inl a : Key) = Sum.inl b := fun q => e (Sum.inl.inj q)
    rw [decide_eq_false h]
    exact (beq_eq_false_iff_ne.mpr e).symm
theorem key_rr (a b : Str) : decide ((Sum.inr a : Key) = Sum.inr b) = decide (a = b) := by
  by_cases e : a = b
  · subst e; simp
  · have h : ¬ (Sum.inr a : Key) = Sum.inr b := fun q => e (Sum.inr.inj q)
    rw [decide_eq_false h, decide_eq_false e]
theorem key_lr (a : Int) (b : Str) : decide ((Sum.inl a : Key) = Sum.inr b) = false := decide_eq_false (fun q => nomatch q)
theorem key_rl (a : Str) (b : Int) : decide ((Sum.inr a : Key) = Sum.inl b) = false := decide_eq_false (fun q => nomatch q)

def mixKind (prog : Program) (w : World) : PySem.KeyKind prog w Key where
  is := keyIs
  hash := keyH w
  inj := fun v a b ha hb => by
    rcases keyIs_shape ha with ⟨i, t, rfl, rfl⟩ | ⟨x, t, rfl, rfl⟩
    · rcases keyIs_shape hb with ⟨j, u, rfl, e⟩ | ⟨y, u, rfl, e⟩
      · injection e with e1 _; rw [e1]
      · exact nomatch e
    · rcases keyIs_shape hb with ⟨j, u, rfl, e⟩ | ⟨y, u, rfl, e⟩
      · exact nomatch e
      · injection e with e1 _; rw [e1]
  byValue := fun k v h => by
    rcases keyIs_shape h with ⟨i, t, rfl, rfl⟩ | ⟨x, t, rfl, rfl⟩ <;> rfl
  pyHash := fun hv h => by
    rcases keyIs_shape hv with ⟨i, t, rfl, rfl⟩ | ⟨x, t, rfl, rfl⟩
    · exact wpAny_pyHash_int h
    · exact wpAny_pyHash_str h
  eqBool := fun hu hv h => by
    rcases keyIs_shape hu with ⟨i, t, rfl, rfl⟩ | ⟨x, t, rfl, rfl⟩
    · rcases keyIs_shape hv with ⟨j, u, rfl, rfl⟩ | ⟨y, u, rfl, rfl⟩
      · rw [key_ll] at h; exact wpAny_eqBool_int h
      · rw [key_lr] at h; exact SeqAt.EqAt.int_str i t y u _ _ _ _ h
    · rcases keyIs_shape hv with ⟨j, u, rfl, rfl⟩ | ⟨y, u, rfl, rfl⟩
      · rw [key_rl] at h; exact SeqAt.EqAt.str_int x t j u _ _ _ _ h
      · rw [key_rr] at h; exact wpAny_eqBool_str h
  «strs» := fun k x t v h => by
    rcases keyIs_shape h with ⟨i, u, rfl, e⟩ | ⟨y, u, rfl, e⟩
    · exact nomatch e
    · injection e with e1 _
      subst e1
      cases v <;> rfl

theorem mixKind_is (prog : Program) (w : World) (k : Key) (v : Value) : (mixKind prog w).is k v = keyIs k v := rfl
theorem mixKind_int (prog : Program) (w : World) (i : Int) (t : Tok) : (mixKind prog w).is (.inl i) (.int i t) = true := keyIs_int i t
theorem mixKind_str (prog : Program) (w : World) (x : Str) (t : Tok) : (mixKind prog w).is (.inr x) (.str x t) = true := keyIs_str x t
end L2

namespace L2
open PySem PySem.Spec PyProof.Rows

/-- a value, without the heap -/
inductive V where
  | non | bl (b : Bool) | int (i : Int) | str (x : Str) | byt (b : Array UInt8) | flt (b : UInt64) | ref (a : Addr) | ty (n : String)
  deriving DecidableEq

def RelV : V → Value → Prop
  | .non, u => u = Value.none
  | .bl b, u => u = Value.bool b
  | .int i, u => ∃ t, u = Value.int i t
  | .str x, u => ∃ t, u = Value.str x t
  | .byt b, u => ∃ t, u = Value.bytes b t
  | .flt b, u => ∃ t, u = Value.float b t
  | .ref a, u => u = Value.ref a
  | .ty n, u => u = Value.type n

abbrev Vals : List V → List Value → Prop := Paired RelV
theorem Vals.length {xs : List V} {us : List Value} (r : Vals xs us) : xs.length = us.length := Paired.length r
theorem Vals.get : ∀ {xs : List V} {us : List Value} {i : Nat} {x : V}, Vals xs us → xs[i]? = some x → ∃ u, us[i]? = some u ∧ RelV x u
  | _, _, _, _, .nil, e => by simp at e
  | _, _, 0, _, .cons r _, e => by simp at e; subst e; exact ⟨_, rfl, r⟩
  | _, _, i + 1, x, .cons _ t, e => by
    obtain ⟨u, h1, h2⟩ := Vals.get (i := i) (x := x) t (by simpa using e)
    exact ⟨u, by simpa using h1, h2⟩
theorem Vals.set {x : V} {u : Value} (r : RelV x u) : ∀ {xs : List V} {us : List Value} (i : Nat), Vals xs us → Vals (xs.set i x) (us.set i u)
  | _, _, _, .nil => .nil
  | _, _, 0, .cons _ t => .cons r t
  | _, _, i + 1, .cons q t => .cons q (Vals.set r i t)
theorem Vals.append : ∀ {xs ys : List V} {us ws : List Value}, Vals xs us → Vals ys ws → Vals (xs ++ ys) (us ++ ws)
  | _, _, _, _, .nil, s => s
  | _, _, _, _, .cons r t, s => .cons r (Vals.append t s)
theorem Vals.take : ∀ {xs : List V} {us : List Value} (n : Nat), Vals xs us → Vals (xs.take n) (us.take n)
  | _, _, 0, _ => .nil
  | _, _, _ + 1, .nil => .nil
  | _, _, n + 1, .cons r t => .cons r (Vals.take n t)
theorem Vals.drop : ∀ {xs : List V} {us : List Value} (n : Nat), Vals xs us → Vals (xs.drop n) (us.drop n)
  | _, _, 0, r => r
  | _, _, _ + 1, .nil => .nil
  | _, _, n + 1, .cons _ t => Vals.drop n t
theorem Vals.none_of : ∀ {xs : List V} {us : List Value} {i : Nat}, Vals xs us → xs[i]? = none → us[i]? = none := fun {xs us i} r e => by
  have h1 := r.length
  have h2 : xs.length ≤ i := List.getElem?_eq_none_iff.mp e
  exact List.getElem?_eq_none_iff.mpr (by omega)

def RelO : Option V → Option Value → Prop
  | some v, some u => RelV v u
  | none, none => True
  | _, _ => False
def KV {κ : Type} : List (κ × V) → List (κ × Value) → Prop := Paired fun (p : κ × V) (q : κ × Value) => p.1 = q.1 ∧ RelV p.2 q.2

/-- a key of a dict (00_mix): an int or a text -/
def kV : Key → V
  | .inl i => .int i
  | .inr x => .str x

/-- what stands at a tracked address -/
inductive HO where
  /-- a list -/
  | lst (xs : List V)
  /-- a tuple (never changes) -/
  | tup (xs : List V)
  /-- a dict whose keys are ints and texts; one whose keys are tuples of ints and texts (the empty one is both) -/
  | dK (kvs : List (Key × V)) | dT (kvs : List (List Key × V))
  /-- a set of ints: its members, its size -/
  | set (S : Int → Bool) (n : Nat)
  /-- an instance of the class at C, its dict at dx, its attributes -/
  | ins (C dx : Addr) (fs : List (Str × V))
  /-- the dict of the instance at x -/
  | own (x : Addr)
  /-- the dict of an exception -/
  | xd (fs : List (Str × V))
  /-- a bound method, f of x -/
  | met (f x : Addr)
  /-- a range object lo, lo + 1, .. below hi -/
  | rng (lo hi : Int)
  /-- a thing that is known to the object (the script; a dict while a loop walks it): read, never written while it is so -/
  | frz (o : Obj) (u : HO)
  /-- a code object's table -/
  | tbl (ps : Array Value)
  /-- any other thing, by what is true of its one object (a def of one's own: SetO a S n := HO.ext fun h => ..) -/
  | ext (φ : Heap → Prop)

abbrev Hp := Addr → Option HO
def upd (H : Hp) (a : Addr) (o : HO) : Hp := fun b => if b = a then some o else H b
theorem upd_same {H : Hp} {a : Addr} {o : HO} : upd H a o a = some o := by unfold upd; rw [if_pos rfl]
theorem upd_ne {H : Hp} {a b : Addr} {o : HO} (h : b ≠ a) : upd H a o b = H b := by unfold upd; rw [if_neg h]
theorem upd_upd {H : Hp} {a : Addr} {o u : HO} : upd (upd H a o) a u = upd H a u := by
  funext b; unfold upd; split <;> rfl
/-- two objects of different content stand apart -/
theorem ne_of {H : Hp} {a b : Addr} {o u : HO} (h : H a = some o) (h' : H b = some u) (d : o ≠ u) : a ≠ b := by
  intro e; subst e; rw [h] at h'; exact d (Option.some.inj h')
theorem ne_of_none {H : Hp} {a b : Addr} {o : HO} (h : H a = some o) (h' : H b = none) : a ≠ b := by
  intro e; subst e; rw [h] at h'; cases h'

section
variable (P : Program) (w : World)
def ObjOk (H : Hp) (h : Heap) (a : Addr) : HO → Prop
  | .lst xs => xs.length ≤ sizeLine ∧ ∃ (its : List Value) (n : Nat), Vals xs its ∧ h.get? a = some { cls := .type "list", data := .seq its.toArray n }
  | .tup xs => xs.length ≤ sizeLine ∧ ∃ its : List Value, Vals xs its ∧ IsTup h a its.toArray
  | .dK kvs => kvs.length ≤ sizeLine ∧ (a == sysModules) = false ∧ ∃ vs, KV kvs vs ∧ h.DictOf (mixKind P w) a vs
  | .dT kvs => kvs.length ≤ sizeLine ∧ (a == sysModules) = false ∧ ∃ xs : List (List Key × Addr × Value),
      Paired (fun (p : List Key × V) (q : List Key × Addr × Value) => p.1 = q.1 ∧ H q.2.1 = some (.tup (p.1.map kV)) ∧ RelV p.2 q.2.2) kvs xs ∧
      ∃ o es ep, h.get? a = some o ∧ o.ExactDict ∧ o.data = .dict es ep ∧ es.toList = xs.map (entryOfKey (tupleKind (mixKind P w))) ∧ (xs.map (·.1)).Nodup
  | .set S n => h.SetOf (intKind P w) a S n
  | .ins C dx fs => H dx = some (.own a) ∧ fs.length ≤ 1000 ∧ dx ≠ a ∧ h.get? a = some (PySem.W.instObj C dx) ∧
      ∃ mA, h.Ns1 dx mA ∧ (∀ f, RelO (fs.lookup f) (mA f)) ∧ PySem.Within mA (fs.map (·.1))
  | .own _ => ∃ o, h.get? a = some o
  | .xd fs => ∃ mA, h.Ns1 a mA ∧ ∀ f, RelO (fs.lookup f) (mA f)
  | .rng lo hi => ∃ t u v, h.get? a = some { cls := .type "range", data := .fields #[.int lo t, .int hi u, .int 1 v] }
  | .frz o u => h.get? a = some o ∧ ObjOk H h a u
  | .tbl ps => h.get? a = some { cls := .none, data := .fields ps }
  | .met f x => h.get? a = some (PySem.W.methodObj (.ref f) (.ref x))
  | .ext φ => φ h ∧ (∃ o, h.get? a = some o) ∧ ∀ h1 h2 : Heap, φ h1 → (∀ o, h1.get? a = some o → h2.get? a = some o) → φ h2
/-- the abstract heap is held -/
def HOk (H : Hp) (h : Heap) : Prop := ∀ a o, H a = some o → ObjOk P w H h a o
end

section
variable {P : Program} {w : World} {H H' : Hp} {h h' : Heap} {a : Addr} {o : HO}
theorem ObjOk.lt (x : ObjOk P w H h a o) : a < h.objs.size := by
  cases o with
  | lst xs => obtain ⟨_, _, _, _, e⟩ := x; exact Heap.lt_size e
  | tup xs => obtain ⟨_, _, _, p⟩ := x; exact p.lt
  | dK kvs => obtain ⟨_, _, _, _, o, _, _, e, _⟩ := x; exact Heap.lt_size e
  | dT kvs => obtain ⟨_, _, _, _, o, _, _, e, _⟩ := x; exact Heap.lt_size e
  | set S n => obtain ⟨o, _, _, _, e, _⟩ := x; exact Heap.lt_size e
  | ins C dx fs => obtain ⟨_, _, _, e, _⟩ := x; exact Heap.lt_size e
  | own y => obtain ⟨_, e⟩ := x; exact Heap.lt_size e
  | xd fs => obtain ⟨_, ⟨_, _, _, e, _⟩, _⟩ := x; exact Heap.lt_size e
  | rng lo hi => obtain ⟨_, _, _, e⟩ := x; exact Heap.lt_size e
  | frz ob u => obtain ⟨e, _⟩ := x; exact Heap.lt_size e
  | tbl ps => exact Heap.lt_size (show h.get? a = some _ from x)
  | met f y => exact Heap.lt_size (show h.get? a = some _ from x)
  | ext φ => obtain ⟨_, ⟨_, e⟩, _⟩ := x; exact Heap.lt_size e
theorem Paired.mapP {α β : Type} {F G : α → β → Prop} : ∀ {l₁ : List α} {l₂ : List β}, Paired F l₁ l₂ → (∀ a b, F a b → G a b) → Paired G l₁ l₂
  | _, _, .nil, _ => .nil
  | _, _, .cons r t, f => .cons (f _ _ r) (Paired.mapP t f)
theorem Paired.imp' {α β : Type} {F G : α → β → Prop} (f : ∀ a b, F a b → G a b) {l₁ : List α} {l₂ : List β} (r : Paired F l₁ l₂) : Paired G l₁ l₂ := Paired.mapP r f
/-- what an object's description leans on: its own object, its own dict, the tuples -/
theorem ObjOk.stay (x : ObjOk P w H h a o) (k : ∀ b u, (b = a ∨ H b = some (.own a)) → h.get? b = some u → h'.get? b = some u)
    (ho : ∀ b, H b = some (.own a) → H' b = some (.own a)) (ht : ∀ b xs, H b = some (.tup xs) → H' b = some (.tup xs)) : ObjOk P w H' h' a o := by
  induction o with
  | lst xs => obtain ⟨z, its, n, r, e⟩ := x; exact ⟨z, its, n, r, k _ _ (.inl rfl) e⟩
  | tup xs => obtain ⟨z, its, r, ob, e, c⟩ := x; exact ⟨z, its, r, ob, k _ _ (.inl rfl) e, c⟩
  | dK kvs => obtain ⟨z, y, vs, r, ob, es, ep, e, c⟩ := x; exact ⟨z, y, vs, r, ob, es, ep, k _ _ (.inl rfl) e, c⟩
  | dT kvs =>
    obtain ⟨z, y, xs, r, ob, es, ep, e, c⟩ := x
    exact ⟨z, y, xs, Paired.mapP r fun p q z => ⟨z.1, ht _ _ z.2.1, z.2.2⟩, ob, es, ep, k _ _ (.inl rfl) e, c⟩
  | set S n => obtain ⟨ob, es, ep, t, e, c⟩ := x; exact ⟨ob, es, ep, t, k _ _ (.inl rfl) e, c⟩
  | ins C dx fs =>
    obtain ⟨d, z, ne, e, mA, ⟨od, es, ep, e2, c⟩, r⟩ := x
    exact ⟨ho _ d, z, ne, k _ _ (.inl rfl) e, mA, ⟨od, es, ep, k _ _ (.inr d) e2, c⟩, r⟩
  | own y => obtain ⟨ob, e⟩ := x; exact ⟨ob, k _ _ (.inl rfl) e⟩
  | xd fs => obtain ⟨mA, ⟨od, es, ep, e, c⟩, r⟩ := x; exact ⟨mA, ⟨od, es, ep, k _ _ (.inl rfl) e, c⟩, r⟩
  | rng lo hi => obtain ⟨t, u, v, e⟩ := x; exact ⟨t, u, v, k _ _ (.inl rfl) e⟩
  | frz ob u ih => obtain ⟨e, q⟩ := x; exact ⟨k _ _ (.inl rfl) e, ih q⟩
  | tbl ps =>
    have e : h.get? a = some { cls := .none, data := .fields ps } := x
    show h'.get? a = some { cls := .none, data := .fields ps }
    exact k a _ (.inl rfl) e
  | met f y =>
    have e : h.get? a = some (PySem.W.methodObj (.ref f) (.ref y)) := x
    show h'.get? a = some (PySem.W.methodObj (.ref f) (.ref y))
    exact k a _ (.inl rfl) e
  | ext φ => obtain ⟨p, ⟨o, e⟩, st⟩ := x; exact ⟨st _ _ p fun o q => k _ _ (.inl rfl) q, ⟨o, k _ _ (.inl rfl) e⟩, st⟩
theorem HOk.lt (x : HOk P w H h) (e : H a = some o) : a < h.objs.size := (x a o e).lt
theorem HOk.fresh (x : HOk P w H h) (e : h.objs.size ≤ a) : H a = none := by
  cases q : H a with
  | none => rfl
  | some u => exact absurd (Nat.lt_of_lt_of_le (x.lt q) e) (Nat.lt_irrefl _)
/-- every object of the heap is kept -/
theorem HOk.kept (x : HOk P w H h) (k : ∀ b u, h.get? b = some u → h'.get? b = some u) : HOk P w H h' := fun a o e =>
  (x a o e).stay (fun b u _ q => k b u q) (fun _ q => q) fun _ _ q => q
/-- a new object is laid and tracked -/
theorem HOk.laid (x : HOk P w H h) (k : ∀ b u, h.get? b = some u → h'.get? b = some u) (hp : h.objs.size ≤ a) (new : ObjOk P w (upd H a o) h' a o) : HOk P w (upd H a o) h' := fun b u e => by
  have hn := x.fresh hp
  by_cases hb : b = a
  · subst hb; rw [upd_same] at e; cases e; exact new
  · rw [upd_ne hb] at e
    exact (x b u e).stay (fun c v _ q => k c v q) (fun c q => by rw [upd_ne (ne_of_none q hn)]; exact q) fun c xs q => by rw [upd_ne (ne_of_none q hn)]; exact q
end

/-- what may be read as u: it is u, or a known u -/
def Rd (H : Hp) (a : Addr) (u : HO) : Prop := H a = some u ∨ ∃ o, H a = some (.frz o u)
theorem Rd.of {H : Hp} {a : Addr} {u : HO} (h : H a = some u) : Rd H a u := .inl h
theorem Rd.ok {P : Program} {w : World} {H : Hp} {h : Heap} {a : Addr} {u : HO} (r : Rd H a u) (x : HOk P w H h) : ObjOk P w H h a u := by
  rcases r with r | ⟨o, r⟩
  · exact x a u r
  · obtain ⟨_, q⟩ := x a _ r
    exact q
/-- what may be written -/
def Mut : Option HO → Prop
  | some (.lst _) => True
  | some (.dK _) => True
  | some (.dT _) => True
  | some (.set _ _) => True
  | some (.ins _ _ _) => True
  | some (.ext _) => True
  | _ => False
section
variable {P : Program} {w : World} {H : Hp} {h h' : Heap} {x e : Addr} {o' : HO}
/-- the object at e is changed: x itself, or the dict of the instance x -/
theorem HOk.write (ok : HOk P w H h) (mu : Mut (H x)) (he : e = x ∨ H e = some (.own x)) (k : ∀ b u, b ≠ e → h.get? b = some u → h'.get? b = some u) (heo : ∃ u, h'.get? e = some u)
    (new : ObjOk P w (upd H x o') h' x o') : HOk P w (upd H x o') h' := fun b u q => by
  have nown : ∀ c y, H c = some (.own y) → c ≠ x := fun c y r z => by subst z; rw [r] at mu; exact mu
  have ntup : ∀ c xs, H c = some (.tup xs) → c ≠ x := fun c xs r z => by subst z; rw [r] at mu; exact mu
  by_cases hb : b = x
  · subst hb; rw [upd_same] at q; cases q; exact new
  · rw [upd_ne hb] at q
    by_cases hbe : b = e
    · have q' : H b = some (.own x) := by
        rcases he with z | z
        · exact absurd (hbe.trans z) hb
        · rw [hbe]; exact z
      rw [q] at q'; cases q'
      obtain ⟨v, hv⟩ := heo
      exact ⟨v, by rw [hbe]; exact hv⟩
    · refine (ok b u q).stay (fun c v hc r => k c v ?_ r) (fun c r => by rw [upd_ne (nown c b r)]; exact r) fun c xs r => by rw [upd_ne (ntup c xs r)]; exact r
      rcases hc with rfl | hc
      · exact hbe
      · rintro rfl
        rcases he with z | z
        · exact nown c b hc z
        · rw [hc] at z; cases z; exact hb rfl
end

/-! ### kept unless tracked; of the frames at fs (the callers') the slots may change (an exception that passes writes there); of the records at ex (iterators) nothing is said -/
structure Un (fs ex : List Addr) (H H' : Hp) (h h' : Heap) : Prop where
  keep : ∀ b o, h.get? b = some o → H b = none → b ∉ fs → b ∉ ex → h'.get? b = some o
  slot : ∀ b o, h.get? b = some o → H b = none → b ∈ fs → b ∉ ex → ∃ sl, h'.get? b = some { o with slots := sl }
  free : ∀ b o, h.get? b = some o → H b = none → b ∉ ex → H' b = none
  there : ∀ b o, h.get? b = some o → b ∉ ex → ∃ o', h'.get? b = some o'
  tups : ∀ b xs, H b = some (.tup xs) → H' b = some (.tup xs)
  frzs : ∀ b o u, H b = some (.frz o u) → H' b = some (.frz o u)
  tbls : ∀ b ps, H b = some (.tbl ps) → ∃ more, H' b = some (.tbl (ps ++ more))
section
variable {fs fs' ex ex' : List Addr} {H H1 H2 : Hp} {h h1 h2 h' : Heap} {a x e : Addr} {o : HO}
theorem Un.any (u : Un fs ex H H1 h h1) {b : Addr} {ob : Obj} (q : h.get? b = some ob) (n : H b = none) (hx : b ∉ ex) : ∃ sl, h1.get? b = some { ob with slots := sl } := by
  by_cases hb : b ∈ fs
  · exact u.slot b ob q n hb hx
  · exact ⟨ob.slots, u.keep b ob q n hb hx⟩
theorem Un.trans (a : Un fs ex H H1 h h1) (b : Un fs ex H1 H2 h1 h2) : Un fs ex H H2 h h2 where
  keep := fun c ob q n hc hx => b.keep c ob (a.keep c ob q n hc hx) (a.free c ob q n hx) hc hx
  slot := fun c ob q n hc hx => by
    obtain ⟨sl, e1⟩ := a.slot c ob q n hc hx
    obtain ⟨sl', e2⟩ := b.slot c _ e1 (a.free c ob q n hx) hc hx
    exact ⟨sl', e2⟩
  free := fun c ob q n hx => by
    obtain ⟨o', e1⟩ := a.there c ob q hx
    exact b.free c o' e1 (a.free c ob q n hx) hx
  there := fun c ob q hx => by
    obtain ⟨o', e1⟩ := a.there c ob q hx
    exact b.there c o' e1 hx
  tups := fun c xs q => b.tups c xs (a.tups c xs q)
  frzs := fun c ob xs q => b.frzs c ob xs (a.frzs c ob xs q)
  tbls := fun c ps q => by
    obtain ⟨m1, e1⟩ := a.tbls c ps q
    obtain ⟨m2, e2⟩ := b.tbls c _ e1
    exact ⟨m1 ++ m2, by rw [e2, Array.append_assoc]⟩
theorem Un.kept (k : ∀ b u, h.get? b = some u → h'.get? b = some u) : Un fs ex H H h h' :=
  ⟨fun b ob q _ _ _ => k b ob q, fun b ob q _ _ _ => ⟨ob.slots, k b ob q⟩, fun _ _ _ n _ => n, fun b ob q _ => ⟨ob, k b ob q⟩, fun _ _ q => q, fun _ _ _ q => q, fun _ ps q => ⟨#[], by rw [q]; simp⟩⟩
theorem Un.refl : Un fs ex H H h h := Un.kept fun _ _ q => q
theorem Un.laid (k : ∀ b u, h.get? b = some u → h'.get? b = some u) (hp : h.objs.size ≤ a) (hn : H a = none) : Un fs ex H (upd H a o) h h' where
  keep := fun b u q _ _ _ => k b u q
  slot := fun b u q _ _ _ => ⟨u.slots, k b u q⟩
  free := fun b u q n _ => by rw [upd_ne (Nat.ne_of_lt (Nat.lt_of_lt_of_le (Heap.lt_size q) hp))]; exact n
  there := fun b u q _ => ⟨u, k b u q⟩
  tups := fun b xs q => by rw [upd_ne (ne_of_none q hn)]; exact q
  frzs := fun b u xs q => by rw [upd_ne (ne_of_none q hn)]; exact q
  tbls := fun b ps q => ⟨#[], by rw [upd_ne (ne_of_none q hn), q]; simp⟩
theorem Un.write (mu : Mut (H x)) (he : e = x ∨ H e = some (.own x)) (k : ∀ b u, b ≠ e → h.get? b = some u → h'.get? b = some u) (heo : ∃ u, h'.get? e = some u) : Un fs ex H (upd H x o) h h' := by
  have hx : ∀ b, H b = none → b ≠ x := fun b n z => by subst z; rw [n] at mu; exact mu
  have hb : ∀ b, H b = none → b ≠ e := fun b n z => by
    subst z
    rcases he with r | r
    · exact hx b n r
    · rw [n] at r; cases r
  have hm : ∀ b u, H b = some u → ¬ Mut (some u) → b ≠ x := fun b u q nm z => by subst z; rw [q] at mu; exact nm mu
  refine ⟨fun b u q n _ _ => k b u (hb b n) q, fun b u q n _ _ => ⟨u.slots, k b u (hb b n) q⟩, fun b u q n _ => by rw [upd_ne (hx b n)]; exact n, fun b u q _ => ?_,
    fun b xs q => by rw [upd_ne (hm b _ q fun z => z)]; exact q, fun b u xs q => by rw [upd_ne (hm b _ q fun z => z)]; exact q, fun b ps q => ⟨#[], by rw [upd_ne (hm b _ q fun z => z), q]; simp⟩⟩
  by_cases hbe : b = e
  · subst hbe; exact heo
  · exact ⟨u, k b u hbe q⟩
theorem Un.mono (u : Un fs ex H H1 h h1) (hs : ∀ b ∈ fs, b ∈ fs') (hx : ∀ b ∈ ex, b ∈ ex') : Un fs' ex' H H1 h h1 :=
  ⟨fun b ob q n hb he => u.keep b ob q n (fun z => hb (hs b z)) fun z => he (hx b z), fun _ _ q n _ he => u.any q n fun z => he (hx _ z), fun b ob q n he => u.free b ob q n fun z => he (hx b z), fun b ob q he => u.there b ob q fun z => he (hx b z), u.tups, u.frzs, u.tbls⟩
end

/-! ### the heap without what is tracked -/
def trk (h : Heap) (H : Hp) : List Addr := (List.range h.objs.size).filter fun a => (H a).isSome
def hidT (h : Heap) (H : Hp) : Heap := PySem.W.hideAll h (trk h H)
theorem hidT_size (h : Heap) (H : Hp) : (hidT h H).objs.size = h.objs.size := PySem.W.hideAll_size _ _
theorem hidT_get {h : Heap} {H : Hp} {b : Addr} {o : Obj} (e : h.get? b = some o) (n : H b = none) : (hidT h H).get? b = some o :=
  PySem.W.hideAll_get _ e fun hm => by
    have q : (H b).isSome = true := (List.mem_filter.mp hm).2
    rw [n] at q; simp at q
theorem of_hidT {h : Heap} {H : Hp} {b : Addr} {o : Obj} (e : (hidT h H).get? b = some o) : h.get? b = some o ∧ H b = none := by
  have e' : h.get? b = some o := PySem.W.of_hideAll (trk h H) e
  refine ⟨e', ?_⟩
  cases q : H b with
  | none => rfl
  | some x =>
    have hm : b ∈ trk h H := List.mem_filter.mpr ⟨List.mem_range.mpr (Heap.lt_size e'), by simp [q]⟩
    have z : (hidT h H).get? b = none := PySem.W.hideAll_none (trk h H) hm
    rw [z] at e; cases e

/-! ### OpenK's ledger, filled with every new object but one -/
def allNews (g h : Heap) (L : Addr) : List (Addr × Obj) := (List.range h.objs.size).filterMap fun a => if a = L ∨ (g.get? a).isSome = true then none else (h.get? a).map fun o => (a, o)
theorem mem_allNews {g h : Heap} {L a : Addr} {o : Obj} (h1 : a ≠ L) (h2 : g.get? a = none) (h3 : h.get? a = some o) : (a, o) ∈ allNews g h L :=
  List.mem_filterMap.mpr ⟨a, List.mem_range.mpr (Heap.lt_size h3), by simp [h1, h2, h3]⟩
theorem of_mem_allNews {g h : Heap} {L : Addr} {p : Addr × Obj} (hp : p ∈ allNews g h L) : p.1 ≠ L ∧ g.get? p.1 = none ∧ h.get? p.1 = some p.2 := by
  obtain ⟨b, _, e⟩ := List.mem_filterMap.mp hp
  split at e
  · cases e
  · rename_i hn
    cases q : h.get? b with
    | none => rw [q] at e; simp at e
    | some u =>
      rw [q] at e
      simp only [Option.map_some, Option.some.injEq] at e
      subst e
      refine ⟨fun z => hn (.inl z), ?_, q⟩
      show g.get? b = none
      cases r : g.get? b with
      | none => rfl
      | some v => exact (hn (.inr (by simp [r]))).elim
def rest (g h : Heap) (L d : Addr) : List (Addr × Obj) := (allNews g h L).filter fun p => decide (p.1 ≠ d)
theorem rest_ne {g h : Heap} {L d : Addr} : ∀ p ∈ rest g h L d, p.1 ≠ d := fun p hp => of_decide_eq_true (List.mem_filter.mp hp).2
theorem mem_rest {g h : Heap} {L d a : Addr} {o : Obj} (h1 : a ≠ L) (h2 : g.get? a = none) (h3 : h.get? a = some o) (h4 : a ≠ d) : (a, o) ∈ rest g h L d :=
  List.mem_filter.mpr ⟨mem_allNews h1 h2 h3, decide_eq_true h4⟩
theorem news_all {g h : Heap} {L : Addr} : News g L h (allNews g h L) := fun p hp => let ⟨a, b, c⟩ := of_mem_allNews hp; ⟨c, a, b⟩
theorem news_at {g h : Heap} {L d : Addr} {o : Obj} (h1 : d ≠ L) (h2 : g.get? d = none) (h3 : h.get? d = some o) : News g L h ((d, o) :: rest g h L d) := fun p hp => by
  rcases List.mem_cons.mp hp with rfl | hp
  · exact ⟨h3, h1, h2⟩
  · exact news_all p (List.mem_filter.mp hp).1
/-- behind a rule that changed d alone: all else but the frame is kept -/
theorem kept_of_news {g h h' : Heap} {L d : Addr} {m : Str → Option Value} (k : ∀ b o, g.get? b = some o → h.get? b = some o) (F : Fr g L h' m) (N : News g L h' (rest g h L d)) :
    ∀ b o, b ≠ L → b ≠ d → h.get? b = some o → h'.get? b = some o := fun b o h1 h2 e => by
  cases q : g.get? b with
  | some u =>
    have := k b u q
    rw [e] at this; cases this
    exact F.keep b _ q
  | none => exact (N (b, o) (mem_rest h1 q e h2)).1
end L2

namespace L2
open PySem PySem.Spec PyProof.Rows

/-- the module's facts, over the base: the heap at the law's entry without what is tracked there -/
structure Mod (K : PySem.W.Frag) (mg : Str → Option Value) (base : Heap) : Prop where
  kin : K.In base
  glob : base.Ns mainGlobals mg
  blt : ∃ mb, base.Ns builtinsNs mb ∧ ∀ x : Str, x ≠ "__name__" → mb x = bootBuiltins x
  nolimit : base.NoLimit

/-- the context: a def's body (or a comprehension's block) running. base: fixed through the whole law; s₀, H₀: the entry; outer: the frames whose slots others may change (a def's callers); stack: all frames that run;
   ex: iterators that were made ahead of the entry and are walked here (a comprehension's); fn: the names whose cells were made at the entry (a def: all; a comprehension's block: its own); calm: not within an except suite; pn: pins that every state bears; xe: what is wanted of an exception that leaves the code -/
structure Cx where
  prog : Program
  w : World
  K : PySem.W.Frag
  mg : Str → Option Value
  base : Heap
  A : Around
  N : List Str
  s₀ : Shared
  H₀ : Hp
  env : Env
  outer : List Env
  stack : List Env
  ex : List Addr
  fn : Str → Bool
  calm : Bool
  pn : List (Addr × Obj)
  xe : Value → Shared → Prop
/-- the callers' frames -/
def frs (l : List Env) : List Addr := l.filterMap (·.frame)
abbrev Cx.fs (X : Cx) : List Addr := frs X.outer

def Vis (sc : Scope) (x : Str) : Prop := sc.names.lookup x = some .local ∨ sc.names.lookup x = some .cell ∨ sc.names.lookup x = some .free
def Loc (sc : Scope) (x : Str) : Prop := sc.names.lookup x = some .local ∨ sc.names.lookup x = some .cell
def Look (env : Env) (h : Heap) (m : Str → Option Value) (x : Str) (u : Value) : Prop :=
  (env.kindOf x = some .local ∧ m x = some u) ∨ ((env.kindOf x = some .cell ∨ env.kindOf x = some .free) ∧ ∃ c, env.cells.lookup x = some c ∧ h.IsCell c (some u))

structure Cx.Ok (X : Cx) : Prop where
  mod : Mod X.K X.mg X.base
  kind : X.env.scope.kind = .function
  glob : X.env.globals = mainGlobals
  blt : X.env.builtins = builtinsNs
  above : X.s₀.heap.objs.size ≤ X.env.locals
  inj : ∀ x y c, X.env.cells.lookup x = some c → X.env.cells.lookup y = some c → x = y
  has : ∀ x, (X.env.kindOf x = some .cell ∨ X.env.kindOf x = some .free) → ∃ c, X.env.cells.lookup x = some c
  cab : ∀ x c, X.fn x = true → X.env.cells.lookup x = some c → X.s₀.heap.objs.size ≤ c
  hd : X.calm = true → X.A.handled = none
  frames : X.A.frames = some X.stack
  stk : X.stack = X.outer ∨ (X.stack = X.env :: X.outer ∧ X.env.frame = some X.env.locals)
  exf : ∀ b ∈ X.ex, b ≠ X.env.locals ∧ ∀ x c, X.env.cells.lookup x = some c → c ≠ b
  bs : ∀ b o, X.base.get? b = some o → X.s₀.heap.get? b = some o ∧ X.H₀ b = none
  bsz : X.base.objs.size ≤ X.s₀.heap.objs.size
  noex : ∀ b o, X.base.get? b = some o → b ∉ X.ex
  exfs : ∀ b ∈ X.ex, b ∉ X.fs
  funs : X.s₀.heap.FunFrames X.base X.outer
  frf : ∀ b ∈ X.fs, X.H₀ b = none

structure Inv (X : Cx) (pins : List (Addr × Obj)) (σ : List (Option V)) (H : Hp) (s : Shared) : Prop where
  ok : X.Ok
  os : s.os = X.s₀.os
  bare : AllBare s.gens
  base : Un X.fs X.ex X.H₀ H X.s₀.heap s.heap
  loc : ∃ m, s.heap.Ns X.env.locals m ∧ ∀ (i : Nat) (x : Str) (v : V), X.N[i]? = some x → σ[i]? = some (some v) → Vis X.env.scope x → ∃ u, RelV v u ∧ Look X.env s.heap m x u
  cell : ∀ x c, X.env.cells.lookup x = some c → ∃ v, s.heap.IsCell c v
  free : H X.env.locals = none
  freeC : ∀ x c, X.env.cells.lookup x = some c → H c = none
  pin : ∀ p ∈ X.pn ++ pins, s.heap.get? p.1 = some p.2 ∧ H p.1 = none ∧ p.1 ≠ X.env.locals ∧ p.1 ∉ X.fs ∧ ∀ v, p.2.data ≠ .cell v
  hok : HOk X.prog X.w H s.heap
  len : σ.length = X.N.length

section
variable {X : Cx} {pins : List (Addr × Obj)} {σ : List (Option V)} {H H' : Hp} {s : Shared} {h' : Heap}

theorem Cx.Ok.nofr (ok : X.Ok) {b : Addr} {o : Obj} (e : X.base.get? b = some o) : b ∉ X.fs := fun hb => by
  have := (ok.funs.mem hb).1
  rw [e] at this; cases this
theorem Inv.bs (I : Inv X pins σ H s) : ∀ b o, X.base.get? b = some o → s.heap.get? b = some o ∧ H b = none := fun b o e =>
  ⟨I.base.keep b o (I.ok.bs b o e).1 (I.ok.bs b o e).2 (I.ok.nofr e) (I.ok.noex b o e), I.base.free b o (I.ok.bs b o e).1 (I.ok.bs b o e).2 (I.ok.noex b o e)⟩
theorem Inv.bk (I : Inv X pins σ H s) : ∀ b o, X.base.get? b = some o → s.heap.get? b = some o := fun b o e => (I.bs b o e).1
theorem Inv.mod (I : Inv X pins σ H s) : Mod X.K X.mg X.base := I.ok.mod
theorem Inv.kIn (I : Inv X pins σ H s) : X.K.In s.heap := I.ok.mod.kin.keeps I.bk
theorem Inv.nolimit (I : Inv X pins σ H s) : s.heap.NoLimit := I.ok.mod.nolimit.keeps I.bk
/-- the frame over the base: for OpenK's rules (K.In X.base is I.mod.kin) -/
theorem Inv.fr (I : Inv X pins σ H s) : ∃ m, Fr X.base X.env.locals s.heap m :=
  let ⟨m, hn, _⟩ := I.loc
  ⟨m, hn, I.bk, Nat.le_trans I.ok.bsz I.ok.above⟩
theorem Inv.lt (I : Inv X pins σ H s) : X.env.locals < s.heap.objs.size := let ⟨_, hn, _⟩ := I.loc; hn.lt
theorem Inv.sz (I : Inv X pins σ H s) : X.s₀.heap.objs.size ≤ s.heap.objs.size := Nat.le_trans I.ok.above (Nat.le_of_lt I.lt)
theorem Inv.nofs (I : Inv X pins σ H s) {a : Addr} (h : s.heap.objs.size ≤ a) : a ∉ X.fs := fun hb => by
  obtain ⟨_, o, ho, _⟩ := I.ok.funs.mem hb
  exact absurd (Nat.lt_of_lt_of_le (Heap.lt_size ho) (Nat.le_trans I.sz h)) (Nat.lt_irrefl _)
theorem Inv.cne (I : Inv X pins σ H s) : ∀ x c, X.env.cells.lookup x = some c → c ≠ X.env.locals := fun x c e z => by
  obtain ⟨v, o, ho, hd⟩ := I.cell x c e
  obtain ⟨m, ⟨o', es, ep, ho', hd', _⟩, _⟩ := I.loc
  rw [z, ho'] at ho; cases ho; rw [hd'] at hd; cases hd
theorem Inv.funs (I : Inv X pins σ H s) : s.heap.FunFrames X.base X.outer := by
  have all : ∀ (l : List Env), (∀ b ∈ frs l, b ∈ X.fs) → X.s₀.heap.FunFrames X.base l → s.heap.FunFrames X.base l := by
    intro l
    induction l with
    | nil => intro _ _; trivial
    | cons env r ih =>
      intro hs hl
      obtain ⟨hk, ⟨L, o, hf, hn, ho, hd⟩, hr⟩ := hl
      have hL : L ∈ X.fs := hs L (by unfold frs; rw [List.filterMap_cons, hf]; exact List.mem_cons_self)
      obtain ⟨sl, e⟩ := I.base.slot L o ho (I.ok.frf L hL) hL fun z => I.ok.exfs L z hL
      exact ⟨hk, ⟨L, _, hf, hn, e, hd⟩, ih (fun b hb => hs b (by unfold frs; rw [List.filterMap_cons, hf]; exact List.mem_cons_of_mem _ hb)) hr⟩
  exact all X.outer (fun _ hb => hb) I.ok.funs

/-- the frames that run, for a call -/
theorem Inv.stack (I : Inv X pins σ H s) : s.heap.FunFrames X.base X.stack := by
  rcases I.ok.stk with e | ⟨e, hf⟩
  · rw [e]; exact I.funs
  · rw [e]
    obtain ⟨m, hn, _⟩ := I.loc
    refine .cons (by rw [I.ok.kind]; decide) hf hn ?_ I.funs
    exact Heap.get?_none_of_le (Nat.le_trans I.ok.bsz I.ok.above)
theorem Inv.stkSub (I : Inv X pins σ H s) : ∀ b ∈ frs X.stack, b ∈ X.env.locals :: X.fs := fun b hb => by
  rcases I.ok.stk with e | ⟨e, hf⟩
  · rw [e] at hb; exact List.mem_cons_of_mem _ hb
  · rw [e] at hb
    unfold frs at hb
    rw [List.filterMap_cons, hf] at hb
    exact hb
theorem Inv.stkFree (I : Inv X pins σ H s) : ∀ b ∈ frs X.stack, H b = none := fun b hb => by
  rcases List.mem_cons.mp (I.stkSub b hb) with e | hb
  · rw [e]; exact I.free
  · obtain ⟨_, o, ho, _⟩ := I.ok.funs.mem hb
    exact I.base.free b o ho (I.ok.frf b hb) fun z => I.ok.exfs b z hb

/-- THE STEP: the untracked objects but the frame and the records at ch are kept (the callers' frames up to slots), the frame's map is kept, the new abstract heap is held -/
theorem Inv.step {g' : Array GenState} {t' : Nat} {d' : Drawn} {ch : List Addr} (I : Inv X pins σ H s)
    (hch : ∀ b ∈ ch, (b ∈ X.ex ∨ X.s₀.heap.objs.size ≤ b) ∧ b ≠ X.env.locals ∧ (∀ x c, X.env.cells.lookup x = some c → c ≠ b) ∧ ∀ p ∈ X.pn ++ pins, p.1 ≠ b)
    (keep : ∀ b o, b ≠ X.env.locals → b ∉ X.fs → b ∉ ch → s.heap.get? b = some o → H b = none → h'.get? b = some o)
    (slot : ∀ b o, b ≠ X.env.locals → b ∈ X.fs → b ∉ ch → s.heap.get? b = some o → H b = none → ∃ sl, h'.get? b = some { o with slots := sl }) (free : ∀ b o, b ∉ ch → s.heap.get? b = some o → H b = none → H' b = none)
    (there : ∀ b o, b ∉ ch → s.heap.get? b = some o → ∃ o', h'.get? b = some o')
    (tups : ∀ b xs, H b = some (.tup xs) → H' b = some (.tup xs)) (frzs : ∀ b o u, H b = some (.frz o u) → H' b = some (.frz o u)) (tbls : ∀ b ps, H b = some (.tbl ps) → ∃ more, H' b = some (.tbl (ps ++ more)))
    (ns : ∀ m, s.heap.Ns X.env.locals m → h'.Ns X.env.locals m) (hok : HOk X.prog X.w H' h') (hg : AllBare g') :
    Inv X pins σ H' { s with heap := h', gens := g', drawn := d', toks := t' } := by
  have neL : ∀ b o, X.s₀.heap.get? b = some o → b ≠ X.env.locals := fun b o e => Nat.ne_of_lt (Nat.lt_of_lt_of_le (Heap.lt_size e) I.ok.above)
  have neC : ∀ b o, X.s₀.heap.get? b = some o → b ∉ X.ex → b ∉ ch := fun b o e hx hb => by
    rcases (hch b hb).1 with z | z
    · exact hx z
    · exact absurd (Nat.lt_of_lt_of_le (Heap.lt_size e) z) (Nat.lt_irrefl _)
  have cellK : ∀ x c, X.env.cells.lookup x = some c → ∀ v, s.heap.IsCell c v → h'.IsCell c v := fun x c e v ⟨o, ho, hd⟩ => by
    have nch : c ∉ ch := fun z => (hch c z).2.2.1 x c e rfl
    by_cases hc : c ∈ X.fs
    · obtain ⟨sl, q⟩ := slot c o (I.cne x c e) hc nch ho (I.freeC x c e)
      exact ⟨_, q, hd⟩
    · exact ⟨o, keep c o (I.cne x c e) hc nch ho (I.freeC x c e), hd⟩
  refine ⟨I.ok, I.os, hg, ⟨fun b o e n hb hx => ?_, fun b o e n hb hx => ?_, fun b o e n hx => ?_, fun b o e hx => ?_, fun b xs e => tups b xs (I.base.tups b xs e), fun b o xs e => frzs b o xs (I.base.frzs b o xs e), fun b ps e => ?_⟩, ?_, fun x c e => ?_, ?_, fun x c e => ?_, fun p hp => ?_, hok, I.len⟩
  · exact keep b o (neL b o e) hb (neC b o e hx) (I.base.keep b o e n hb hx) (I.base.free b o e n hx)
  · obtain ⟨sl, e1⟩ := I.base.slot b o e n hb hx
    obtain ⟨sl', e2⟩ := slot b _ (neL b o e) hb (neC b o e hx) e1 (I.base.free b o e n hx)
    exact ⟨sl', e2⟩
  · obtain ⟨o', e1⟩ := I.base.there b o e hx
    exact free b o' (neC b o e hx) e1 (I.base.free b o e n hx)
  · obtain ⟨o', e1⟩ := I.base.there b o e hx
    exact there b o' (neC b o e hx) e1
  · obtain ⟨m1, e1⟩ := I.base.tbls b ps e
    obtain ⟨m2, e2⟩ := tbls b _ e1
    exact ⟨m1 ++ m2, by rw [e2, Array.append_assoc]⟩
  · obtain ⟨m, hn, hl⟩ := I.loc
    refine ⟨m, ns m hn, fun i x v e1 e2 e3 => ?_⟩
    obtain ⟨u, r, l⟩ := hl i x v e1 e2 e3
    refine ⟨u, r, ?_⟩
    rcases l with l | ⟨k, c, e, z⟩
    · exact .inl l
    · exact .inr ⟨k, c, e, cellK x c e _ z⟩
  · obtain ⟨v, z⟩ := I.cell x c e
    exact ⟨v, cellK x c e v z⟩
  · obtain ⟨m, ⟨o, _, _, ho, _⟩, _⟩ := I.loc
    exact free _ o (fun z => (hch _ z).2.1 rfl) ho I.free
  · obtain ⟨v, o, ho, hd⟩ := I.cell x c e
    exact free c o (fun z => (hch c z).2.2.1 x c e rfl) ho (I.freeC x c e)
  · obtain ⟨e, n, ne, nf, d⟩ := I.pin p hp
    have nch : p.1 ∉ ch := fun z => (hch p.1 z).2.2.2 p hp rfl
    exact ⟨keep p.1 p.2 ne nf nch e n, free p.1 p.2 nch e n, ne, nf, d⟩
/-- .. where the frame's own object is kept too -/
theorem Inv.un {t' : Nat} (I : Inv X pins σ H s) (u : Un X.fs [] H H' s.heap h') (hok : HOk X.prog X.w H' h') : Inv X pins σ H' { s with heap := h', toks := t' } := by
  obtain ⟨m, ⟨o, es, ep, ho, r⟩, _⟩ := id I.loc
  obtain ⟨sl, hL⟩ := u.any ho I.free (by simp)
  exact I.step (g' := s.gens) (d' := s.drawn) (ch := []) (fun _ z => nomatch z) (fun b o _ hb _ e n => u.keep b o e n hb (by simp)) (fun b o _ hb _ e n => u.slot b o e n hb (by simp)) (fun b o _ e n => u.free b o e n (by simp)) (fun b o _ e => u.there b o e (by simp)) u.tups u.frzs u.tbls (fun m' hm => by
    obtain ⟨o', es', ep', ho', r'⟩ := hm
    rw [ho] at ho'; cases ho'
    exact ⟨_, es', ep', hL, r'⟩) hok I.bare
/-- behind a call (or a comprehension's block): the slots of this frame may have changed too, the records at ch may have turned -/
theorem Inv.call {g' : Array GenState} {t' : Nat} {d' : Drawn} {ch : List Addr} (I : Inv X pins σ H s) (u : Un (frs X.stack) ch H H' s.heap h') (hok : HOk X.prog X.w H' h') (hg : AllBare g')
    (hch : ∀ b ∈ ch, (b ∈ X.ex ∨ X.s₀.heap.objs.size ≤ b) ∧ b ≠ X.env.locals ∧ (∀ x c, X.env.cells.lookup x = some c → c ≠ b) ∧ ∀ p ∈ X.pn ++ pins, p.1 ≠ b) :
    Inv X pins σ H' { s with heap := h', gens := g', drawn := d', toks := t' } := by
  obtain ⟨m, ⟨o, es, ep, ho, r⟩, _⟩ := id I.loc
  obtain ⟨sl, hL⟩ := u.any ho I.free fun z => (hch _ z).2.1 rfl
  exact I.step (ch := ch) hch (fun b o hL hb hc e n => u.keep b o e n (fun z => (List.mem_cons.mp (I.stkSub b z)).elim hL hb) hc) (fun b o _ _ hc e n => u.any e n hc) (fun b o hc e n => u.free b o e n hc) (fun b o hc e => u.there b o e hc) u.tups u.frzs u.tbls (fun m' hm => by
    obtain ⟨o', es', ep', ho', r'⟩ := hm
    rw [ho] at ho'; cases ho'
    exact ⟨_, es', ep', hL, r'⟩) hok hg
/-- an untracked record of ours (an iterator) has turned -/
theorem Inv.turned {t' : Nat} {it : Addr} (I : Inv X pins σ H s) (k : ∀ b o, b ≠ it → s.heap.get? b = some o → h'.get? b = some o) (hn : H it = none) (hL : it ≠ X.env.locals)
    (h1 : it ∈ X.ex ∨ X.s₀.heap.objs.size ≤ it) (h2 : ∀ x c, X.env.cells.lookup x = some c → c ≠ it) (h3 : ∀ p ∈ X.pn ++ pins, p.1 ≠ it) : Inv X pins σ H { s with heap := h', toks := t' } := by
  have nit : ∀ b u, H b = some u → b ≠ it := fun b u e z => by rw [z, hn] at e; cases e
  refine I.step (g' := s.gens) (d' := s.drawn) (ch := [it]) (fun b hb => ?_) (fun b o _ _ hc e _ => k b o (fun z => hc (by simp [z])) e) (fun b o _ _ hc e _ => ⟨o.slots, k b o (fun z => hc (by simp [z])) e⟩) (fun _ _ _ _ n => n)
    (fun b o hc e => ⟨o, k b o (fun z => hc (by simp [z])) e⟩) (fun _ _ e => e) (fun _ _ _ e => e) (fun b ps e => ⟨#[], by rw [e]; simp⟩) (fun m hm => ?_) (fun b u e => ?_) I.bare
  · have e : b = it := by simpa using hb
    subst e
    exact ⟨h1, hL, h2, h3⟩
  · obtain ⟨o, es, ep, ho, r⟩ := hm
    exact ⟨o, es, ep, k _ o (Ne.symm hL) ho, r⟩
  · refine (I.hok b u e).stay (fun c v hc q => k c v ?_ q) (fun _ q => q) fun _ _ q => q
    rcases hc with z | z
    · rw [z]; exact nit b u e
    · exact nit c _ z
theorem Inv.tok (I : Inv X pins σ H s) (t : Nat) : Inv X pins σ H { s with toks := t } := I.un (h' := s.heap) (t' := t) Un.refl I.hok
/-- all objects kept -/
theorem Inv.kept {t' : Nat} (I : Inv X pins σ H s) (k : ∀ b u, s.heap.get? b = some u → h'.get? b = some u) : Inv X pins σ H { s with heap := h', toks := t' } := I.un (Un.kept k) (I.hok.kept k)
/-- a new object laid and tracked -/
theorem Inv.laid {a : Addr} {o : HO} {t' : Nat} (I : Inv X pins σ H s) (k : ∀ b u, s.heap.get? b = some u → h'.get? b = some u) (hp : s.heap.objs.size ≤ a) (new : ObjOk X.prog X.w (upd H a o) h' a o) :
    Inv X pins σ (upd H a o) { s with heap := h', toks := t' } := I.un (Un.laid k hp (I.hok.fresh hp)) (I.hok.laid k hp new)
/-- an object written -/
theorem Inv.write {x e : Addr} {o : HO} {t' : Nat} (I : Inv X pins σ H s) (mu : Mut (H x)) (he : e = x ∨ H e = some (.own x)) (k : ∀ b u, b ≠ e → s.heap.get? b = some u → h'.get? b = some u) (heo : ∃ u, h'.get? e = some u)
    (new : ObjOk X.prog X.w (upd H x o) h' x o) : Inv X pins σ (upd H x o) { s with heap := h', toks := t' } := I.un (Un.write mu he k heo) (I.hok.write mu he k heo new)
/-- forgetting slots, pins -/
theorem Inv.weak {σ' : List (Option V)} (I : Inv X pins σ H s) (hl : σ'.length = σ.length) (w : ∀ (i : Nat) v, σ'[i]? = some (some v) → σ[i]? = some (some v)) : Inv X pins σ' H s :=
  ⟨I.ok, I.os, I.bare, I.base, let ⟨m, hn, hl'⟩ := I.loc; ⟨m, hn, fun i x v e1 e2 e3 => hl' i x v e1 (w i v e2) e3⟩, I.cell, I.free, I.freeC, I.pin, I.hok, hl.trans I.len⟩
theorem Inv.pins_of {pins' : List (Addr × Obj)} (I : Inv X pins σ H s) (h : ∀ p ∈ pins', s.heap.get? p.1 = some p.2 ∧ H p.1 = none ∧ p.1 ≠ X.env.locals ∧ p.1 ∉ X.fs ∧ ∀ v, p.2.data ≠ .cell v) : Inv X pins' σ H s :=
  ⟨I.ok, I.os, I.bare, I.base, I.loc, I.cell, I.free, I.freeC, fun p hp => (List.mem_append.mp hp).elim (fun z => I.pin p (List.mem_append_left _ z)) (h p), I.hok, I.len⟩

theorem nodup_ix {N : List Str} (hN : N.Nodup) {i j : Nat} {x : Str} (a : N[i]? = some x) (b : N[j]? = some x) : i = j := by
  obtain ⟨h1, e1⟩ := List.getElem?_eq_some_iff.mp a
  obtain ⟨h2, e2⟩ := List.getElem?_eq_some_iff.mp b
  exact (List.getElem_inj hN).mp (e1.trans e2.symm)

/-- a name is stored; what changed -/
theorem store_ok2 {M : Model} {A : Around} {E : Value → Shared → Prop} {i : Nat} {x : Str} {v : V} {u : Value} {Q : Unit → Shared → Prop} (I : Inv X pins σ H s) (hN : X.N.Nodup) (hi : X.N[i]? = some x) (hx : Loc X.env.scope x) (r : RelV v u)
    (h : ∀ s', Inv X pins (σ.set i (some v)) H s' → (∃ a, Heap.SameBut a s.heap s'.heap ∧ (a = X.env.locals ∨ X.env.cells.lookup x = some a)) → Q () s') (hf : X.fn x = true ∨ X.env.scope.names.lookup x = some .local := by first | exact .inl rfl | exact .inr rfl | assumption) : wpAny M A (storeName X.env x u) Q E s := by
  obtain ⟨m, hn, hl⟩ := id I.loc
  have hcls : (X.env.scope.kind == .class || (X.env.scope.kind == .module && X.env.locals != X.env.globals)) = false := by rw [I.ok.kind]; rfl
  have hiσ : i < σ.length := by rw [I.len]; exact (List.getElem?_eq_some_iff.mp hi).1
  have cne := I.cne
  have tracked : ∀ {a : Addr} {h' : Heap}, (∃ o, s.heap.get? a = some o ∧ H a = none) → Heap.SameBut a s.heap h' → HOk X.prog X.w H h' := fun {a h'} ha hs b ob e => by
    obtain ⟨_, _, hfree⟩ := ha
    refine (I.hok b ob e).stay (fun c w' hc q => (hs.2 c ?_).trans q) (fun _ q => q) fun _ _ q => q
    rintro rfl
    rcases hc with rfl | hc
    · rw [hfree] at e; cases e
    · rw [hfree] at hc; cases hc
  rcases hx with hk | hk
  · refine wpAny_storeName_local hk hn (fun h' hn' hs => ?_) hcls
    obtain ⟨oL, _, _, hoL, _⟩ := id hn
    refine h _ ⟨I.ok, I.os, I.bare, ⟨fun b o e n hb hx => ?_, fun b o e n hb hx => ?_, I.base.free, fun b o e hx => ?_, I.base.tups, I.base.frzs, I.base.tbls⟩, ⟨_, hn', fun j y v' e1 e2 e3 => ?_⟩, fun y c e => ?_, I.free, I.freeC, fun p hp => ?_, tracked ⟨oL, hoL, I.free⟩ hs, by simpa using I.len⟩ ⟨_, hs, .inl rfl⟩
    · exact (hs.2 b (Nat.ne_of_lt (Nat.lt_of_lt_of_le (Heap.lt_size e) I.ok.above))).trans (I.base.keep b o e n hb hx)
    · obtain ⟨sl, e1⟩ := I.base.slot b o e n hb hx
      exact ⟨sl, (hs.2 b (Nat.ne_of_lt (Nat.lt_of_lt_of_le (Heap.lt_size e) I.ok.above))).trans e1⟩
    · obtain ⟨o', e1⟩ := I.base.there b o e hx
      exact ⟨o', (hs.2 b (Nat.ne_of_lt (Nat.lt_of_lt_of_le (Heap.lt_size e) I.ok.above))).trans e1⟩
    · by_cases hj : j = i
      · subst hj
        rw [hi] at e1; cases e1
        rw [List.getElem?_set_self hiσ] at e2
        cases e2
        exact ⟨u, r, .inl ⟨hk, by simp⟩⟩
      · rw [List.getElem?_set_ne (Ne.symm hj)] at e2
        obtain ⟨u', r', q⟩ := hl j y v' e1 e2 e3
        refine ⟨u', r', ?_⟩
        rcases q with ⟨k, e⟩ | ⟨k, c, e, z⟩
        · refine .inl ⟨k, ?_⟩
          have : y ≠ x := fun e => hj (nodup_ix hN e1 (e ▸ hi))
          simp [this, e]
        · exact .inr ⟨k, c, e, z.sameBut hs (cne y c e)⟩
    · obtain ⟨w', z⟩ := I.cell y c e
      exact ⟨w', z.sameBut hs (cne y c e)⟩
    · obtain ⟨e, n, ne, nf, d⟩ := I.pin p hp
      exact ⟨(hs.2 p.1 ne).trans e, n, ne, nf, d⟩
  · have hfn : X.fn x = true := by
      rcases hf with z | z
      · exact z
      · rw [z] at hk; cases hk
    obtain ⟨c, hc⟩ := I.ok.has x (.inl hk)
    obtain ⟨w', z⟩ := I.cell x c hc
    refine wpAny_storeName_cell I.ok.kind hk hc z (fun h' hc' hs => ?_)
    obtain ⟨oc, hoc, hocd⟩ := id z
    refine h { s with heap := h' } ⟨I.ok, I.os, I.bare, ⟨fun b o e n hb hx => ?_, fun b o e n hb hx => ?_, I.base.free, fun b o e hx => ?_, I.base.tups, I.base.frzs, I.base.tbls⟩, ⟨m, hn.sameBut hs (Ne.symm (cne x c hc)), fun j y v' e1 e2 e3 => ?_⟩, fun y c' e => ?_, I.free, I.freeC, fun p hp => ?_, tracked ⟨oc, hoc, I.freeC x c hc⟩ hs, by simpa using I.len⟩ ⟨c, hs, .inr hc⟩
    · exact (hs.2 b (Nat.ne_of_lt (Nat.lt_of_lt_of_le (Heap.lt_size e) (I.ok.cab x c hfn hc)))).trans (I.base.keep b o e n hb hx)
    · obtain ⟨sl, e1⟩ := I.base.slot b o e n hb hx
      exact ⟨sl, (hs.2 b (Nat.ne_of_lt (Nat.lt_of_lt_of_le (Heap.lt_size e) (I.ok.cab x c hfn hc)))).trans e1⟩
    · obtain ⟨o', e1⟩ := I.base.there b o e hx
      exact ⟨o', (hs.2 b (Nat.ne_of_lt (Nat.lt_of_lt_of_le (Heap.lt_size e) (I.ok.cab x c hfn hc)))).trans e1⟩
    · by_cases hj : j = i
      · subst hj
        rw [hi] at e1; cases e1
        rw [List.getElem?_set_self hiσ] at e2
        cases e2
        exact ⟨u, r, .inr ⟨.inl hk, c, hc, hc'⟩⟩
      · rw [List.getElem?_set_ne (Ne.symm hj)] at e2
        obtain ⟨u', r', q⟩ := hl j y v' e1 e2 e3
        refine ⟨u', r', ?_⟩
        rcases q with q | ⟨k, c', e, z'⟩
        · exact .inl q
        · refine .inr ⟨k, c', e, z'.sameBut hs ?_⟩
          rintro rfl
          exact hj (nodup_ix hN e1 (I.ok.inj _ _ _ e hc ▸ hi))
    · by_cases hcc : c' = c
      · subst hcc; exact ⟨_, hc'⟩
      · obtain ⟨w2, z2⟩ := I.cell y c' e
        exact ⟨w2, z2.sameBut hs hcc⟩
    · obtain ⟨e, n, ne, nf, d⟩ := I.pin p hp
      refine ⟨(hs.2 p.1 ?_).trans e, n, ne, nf, d⟩
      intro q
      rw [q, hoc] at e
      have q' : oc = p.2 := Option.some.inj e
      exact d w' (by rw [← q']; exact hocd)
theorem store_ok {M : Model} {A : Around} {E : Value → Shared → Prop} {i : Nat} {x : Str} {v : V} {u : Value} {Q : Unit → Shared → Prop} (I : Inv X pins σ H s) (hN : X.N.Nodup) (hi : X.N[i]? = some x) (hx : Loc X.env.scope x) (r : RelV v u)
    (h : ∀ s', Inv X pins (σ.set i (some v)) H s' → Q () s') (hf : X.fn x = true ∨ X.env.scope.names.lookup x = some .local := by first | exact .inl rfl | exact .inr rfl | assumption) : wpAny M A (storeName X.env x u) Q E s :=
  store_ok2 I hN hi hx r (fun s' I' _ => h s' I') hf
/-- behind a call or a block, the state as it is -/
theorem Inv.call' {s' : Shared} {ch : List Addr} (I : Inv X pins σ H s) (ho : s'.os = s.os) (u : Un (frs X.stack) ch H H' s.heap s'.heap) (hok : HOk X.prog X.w H' s'.heap) (hg : AllBare s'.gens)
    (hch : ∀ b ∈ ch, (b ∈ X.ex ∨ X.s₀.heap.objs.size ≤ b) ∧ b ≠ X.env.locals ∧ (∀ x c, X.env.cells.lookup x = some c → c ≠ b) ∧ ∀ p ∈ X.pn ++ pins, p.1 ≠ b) : Inv X pins σ H' s' := by
  obtain ⟨h', g', d', t', o'⟩ := s'
  have e : o' = s.os := ho
  subst e
  exact I.call (g' := g') (t' := t') (d' := d') u hok hg hch
end

/-! ### the judgements -/
/-- an exception: its class, its own dict's address (where it has one), the abstract heap behind it -/
abbrev XK := Value → Option Addr → Hp → Prop
abbrev St := List (Option V)
abbrev VK := V → Hp → Prop
/-- an expression's reading; a test's; an argument list's -/
abbrev TE := St → Hp → VK → Prop
abbrev TT := St → Hp → (Bool → Hp → Prop) → Prop
abbrev TA := St → Hp → (List V → Hp → Prop) → Prop
/-- what is wanted behind a statement -/
structure Ends where
  nx : St → Hp → Prop
  rt : VK
  bk : St → Hp → Prop := fun _ _ => False
  ct : St → Hp → Prop := fun _ _ => False
abbrev TS := Ends → St → Hp → Prop

def EP (X : Cx) (pins : List (Addr × Obj)) (σ : St) (Q : VK) (u : Value) (s' : Shared) : Prop := ∃ v H', Inv X pins σ H' s' ∧ RelV v u ∧ Q v H'
def TP (X : Cx) (pins : List (Addr × Obj)) (σ : St) (Q : Bool → Hp → Prop) (b : Bool) (s' : Shared) : Prop := ∃ H', Inv X pins σ H' s' ∧ Q b H'
def AP (X : Cx) (pins : List (Addr × Obj)) (σ : St) (Q : List V → Hp → Prop) (us : List Value) (s' : Shared) : Prop := ∃ vs H', Inv X pins σ H' s' ∧ Vals vs us ∧ Q vs H'
def SP (X : Cx) (pins : List (Addr × Obj)) (D : Ends) (f : Flow) (s' : Shared) : Prop :=
  match f with
  | .next => ∃ σ' H', Inv X pins σ' H' s' ∧ D.nx σ' H'
  | .brk => ∃ σ' H', Inv X pins σ' H' s' ∧ D.bk σ' H'
  | .cont => ∃ σ' H', Inv X pins σ' H' s' ∧ D.ct σ' H'
  | .ret u => ∃ v σ' H', Inv X pins σ' H' s' ∧ RelV v u ∧ D.rt v H'

def PE (X : Cx) (e : Expr) (t : TE) : Prop :=
  ∀ (pins : List (Addr × Obj)) (s : Shared) (σ : St) (H : Hp) (Q : VK), Inv X pins σ H s → t σ H Q → wpAny (model X.prog X.w) X.A (eval e X.env) (EP X pins σ Q) X.xe s
def PT (X : Cx) (e : Expr) (t : TT) : Prop :=
  ∀ (pins : List (Addr × Obj)) (s : Shared) (σ : St) (H : Hp) (Q : Bool → Hp → Prop), Inv X pins σ H s → t σ H Q → wpAny (model X.prog X.w) X.A (isTrue e X.env (eval e X.env)) (TP X pins σ Q) X.xe s
/-- a test whatever its 'whole' is (and, or) -/
def PW (X : Cx) (e : Expr) (t : TT) : Prop :=
  ∀ (whole : Sem Value) (pins : List (Addr × Obj)) (s : Shared) (σ : St) (H : Hp) (Q : Bool → Hp → Prop), Inv X pins σ H s → t σ H Q → wpAny (model X.prog X.w) X.A (isTrue e X.env whole) (TP X pins σ Q) X.xe s
theorem PW.pt {X : Cx} {e : Expr} {t : TT} (h : PW X e t) : PT X e t := h _
/-- an argument list (no star), from the left -/
def PA (X : Cx) (es : List Expr) (t : TA) : Prop :=
  ∀ (pos : Pos) (pins : List (Addr × Obj)) (s : Shared) (σ : St) (H : Hp) (Q : List V → Hp → Prop), Inv X pins σ H s → t σ H Q → wpAny (model X.prog X.w) X.A (spliced (backTo pos (starEach es X.env))) (AP X pins σ Q) X.xe s
def PS (X : Cx) (st : Stmt) (t : TS) : Prop :=
  ∀ (pins : List (Addr × Obj)) (s : Shared) (σ : St) (H : Hp) (D : Ends), Inv X pins σ H s → t D σ H → wpAny (model X.prog X.w) X.A (exec st X.env) (SP X pins D) X.xe s
def PSs (X : Cx) (st : List Stmt) (t : TS) : Prop :=
  ∀ (pins : List (Addr × Obj)) (s : Shared) (σ : St) (H : Hp) (D : Ends), Inv X pins σ H s → t D σ H → wpAny (model X.prog X.w) X.A (execs st X.env) (SP X pins D) X.xe s
/-- weaken the end -/
theorem thn {α : Type} {t : Sem α} {Q Q' : α → Shared → Prop} {M : Model} {A : Around} {E : Value → Shared → Prop} {s : Shared} (h : wpAny M A t Q E s) (hQ : ∀ a s, Q a s → Q' a s) : wpAny M A t Q' E s := wpAny_mono h hQ fun _ _ x => x
end L2

namespace L2
open PySem PySem.Spec PyProof.Rows
section
variable {X : Cx}

/-- two expressions in a row -/
theorem bin {a b : Expr} {ta tb : TE} (ha : PE X a ta) (hb : PE X b tb) {pins : List (Addr × Obj)} {s : Shared} {σ : St} {H : Hp} {R : V → V → Hp → Prop} (I : Inv X pins σ H s) (h : ta σ H fun x H1 => tb σ H1 fun y H2 => R x y H2)
    {α : Type} {Q : α → Shared → Prop} {f : Value → Value → Sem α}
    (hf : ∀ v u s2 x y H2, Inv X pins σ H2 s2 → RelV x v → RelV y u → R x y H2 → wpAny (model X.prog X.w) X.A (f v u) Q X.xe s2) :
    wpAny (model X.prog X.w) X.A (eval a X.env) (fun v s₁ => wpAny (model X.prog X.w) X.A (eval b X.env) (fun u s₂ => wpAny (model X.prog X.w) X.A (f v u) Q X.xe s₂) X.xe s₁) X.xe s := by
  refine thn (ha pins s σ H _ I h) fun v s1 ⟨x, H1, I1, r1, q1⟩ => ?_
  refine thn (hb pins s1 σ H1 _ I1 q1) fun u s2 ⟨y, H2, I2, r2, q2⟩ => ?_
  exact hf v u s2 x y H2 I2 r1 r2 q2

/-! ### names and constants -/
def tVar (i : Nat) : TE := fun σ H Q => ∃ v, σ[i]? = some (some v) ∧ Q v H
def tC (v : V) : TE := fun _ H Q => Q v H
theorem pe_var {i : Nat} {x : Str} {pos : Pos} (hN : X.N[i]? = some x) (hv : Vis X.env.scope x) (hd : (x == ("__debug__" : Str)) = false := by decide) (hcd : (x == ("__classdict__" : Str)) = false := by decide) : PE X (.Name x pos) (tVar i) := by
  intro pins s σ H Q I h
  obtain ⟨v, e, h⟩ := h
  obtain ⟨m, hn, hl⟩ := I.loc
  obtain ⟨u, r, l⟩ := hl i x v hN e hv
  have fin : EP X pins σ Q u s := ⟨v, H, I, r, h⟩
  rcases l with ⟨hk, hm⟩ | ⟨hk, c, hc, hcell⟩
  · exact wpAny_Name (wpAny_loadName_local I.ok.kind hk hn hm fin) hd
  · rcases hk with hk | hk
    · exact wpAny_Name (wpAny_loadName_cell I.ok.kind hk hc hcell fin) hd
    · exact wpAny_Name (wpAny_loadName_free I.ok.kind hk hc hcell fin hcd) hd
theorem pe_int {i j pos} : PE X (.Constant (.int i) j pos) (tC (.int i)) := fun _ _ _ H _ I h => wpAny_Constant_int ⟨.int i, H, I.tok _, ⟨_, rfl⟩, h⟩
theorem pe_bl {b j pos} : PE X (.Constant (.bool b) j pos) (tC (.bl b)) := fun _ _ _ H _ I h => Constant_bool ⟨.bl b, H, I, rfl, h⟩
theorem pe_non {j pos} : PE X (.Constant .none j pos) (tC .non) := fun _ _ _ H _ I h => Constant_none ⟨.non, H, I, rfl, h⟩
theorem pe_str {x j pos} : PE X (.Constant (.str x) j pos) (tC (.str x)) := fun _ _ _ H _ I h => Calls.Constant_str ⟨.str x, H, I.tok _, ⟨_, rfl⟩, h⟩

/-- a global name of the def -/
def Gl (X : Cx) (x : Str) : Prop := X.env.kindOf x = some .globalImplicit
theorem ld_glob {E : Value → Shared → Prop} {pins : List (Addr × Obj)} {s : Shared} {σ : St} {H : Hp} {x : Str} {u : Value} {pos : Pos} {Q : Value → Shared → Prop} (I : Inv X pins σ H s) (hg : Gl X x) (hm : X.mg x = some u) (h : Q u s)
    (hd : (x == ("__debug__" : Str)) = false := by decide) : wpAny (model X.prog X.w) X.A (eval (.Name x pos) X.env) Q E s :=
  Calls.Name_function_global I.ok.kind hg (Calls.loadGlobal_global (by rw [I.ok.glob]; exact I.mod.glob.keeps I.bk) hm h) hd
theorem ld_blt {E : Value → Shared → Prop} {pins : List (Addr × Obj)} {s : Shared} {σ : St} {H : Hp} {x : Str} {u : Value} {pos : Pos} {Q : Value → Shared → Prop} (I : Inv X pins σ H s) (hg : Gl X x) (hm : X.mg x = none) (hv : bootBuiltins x = some u) (h : Q u s)
    (hn : x ≠ "__name__" := by decide) (hd : (x == ("__debug__" : Str)) = false := by decide) : wpAny (model X.prog X.w) X.A (eval (.Name x pos) X.env) Q E s := by
  obtain ⟨mb, h1, h2⟩ := I.mod.blt
  exact Calls.Name_function_global I.ok.kind hg (Calls.loadGlobal_builtin (by rw [I.ok.glob]; exact I.mod.glob.keeps I.bk) hm (by rw [I.ok.blt]; exact h1.keeps I.bk) ((h2 x hn).trans hv) h) hd
/-- a module's constant, a class, a function, as a value -/
theorem pe_glob {x : Str} {v : V} {u : Value} {pos : Pos} (hg : Gl X x) (hm : X.mg x = some u) (r : RelV v u) (hd : (x == ("__debug__" : Str)) = false := by decide) : PE X (.Name x pos) (tC v) :=
  fun _ _ _ H _ I h => ld_glob I hg hm ⟨v, H, I, r, h⟩ hd
theorem pe_bltn {x : Str} {v : V} {u : Value} {pos : Pos} (hg : Gl X x) (hm : X.mg x = none) (hv : bootBuiltins x = some u) (r : RelV v u) (hn : x ≠ "__name__" := by decide) (hd : (x == ("__debug__" : Str)) = false := by decide) : PE X (.Name x pos) (tC v) :=
  fun _ _ _ H _ I h => ld_blt I hg hm hv ⟨v, H, I, r, h⟩ hn hd

/-! ### arithmetic -/
/-- two ints -/
def t2I (ta tb : TE) (k : Int → Int → Hp → Prop) : St → Hp → Prop := fun σ H => ta σ H fun x H1 => tb σ H1 fun y H2 => ∃ i j, x = .int i ∧ y = .int j ∧ k i j H2
def tAdd (ta tb : TE) : TE := fun σ H Q => t2I ta tb (fun i j H2 => Q (.int (i + j)) H2) σ H
def tSub (ta tb : TE) : TE := fun σ H Q => t2I ta tb (fun i j H2 => Q (.int (i - j)) H2) σ H
/-- the left factor below 2^64 -/
def tMul (ta tb : TE) : TE := fun σ H Q => t2I ta tb (fun i j H2 => (-(2 ^ 64) < i ∧ i < 2 ^ 64) ∧ Q (.int (i * j)) H2) σ H
variable {a b : Expr} {ta tb : TE} {pos : Pos}
theorem pe_add (ha : PE X a ta) (hb : PE X b tb) : PE X (.BinOp a .Add b pos) (tAdd ta tb) := by
  intro pins s σ H Q I h
  refine wpAny_BinOp (bin ha hb I h fun v u s2 x y H2 I2 rx ry q => ?_)
  obtain ⟨i, j, rfl, rfl, q⟩ := q
  obtain ⟨t, rfl⟩ := rx
  obtain ⟨t', rfl⟩ := ry
  exact add_int ⟨.int _, H2, I2.tok _, ⟨_, rfl⟩, q⟩
theorem pe_sub (ha : PE X a ta) (hb : PE X b tb) : PE X (.BinOp a .Sub b pos) (tSub ta tb) := by
  intro pins s σ H Q I h
  refine wpAny_BinOp (bin ha hb I h fun v u s2 x y H2 I2 rx ry q => ?_)
  obtain ⟨i, j, rfl, rfl, q⟩ := q
  obtain ⟨t, rfl⟩ := rx
  obtain ⟨t', rfl⟩ := ry
  exact sub_int ⟨.int _, H2, I2.tok _, ⟨_, rfl⟩, q⟩
theorem pe_mul (ha : PE X a ta) (hb : PE X b tb) : PE X (.BinOp a .Mult b pos) (tMul ta tb) := by
  intro pins s σ H Q I h
  refine wpAny_BinOp (bin ha hb I h fun v u s2 x y H2 I2 rx ry q => ?_)
  obtain ⟨i, j, rfl, rfl, ⟨q1, q2⟩, q⟩ := q
  obtain ⟨t, rfl⟩ := rx
  obtain ⟨t', rfl⟩ := ry
  exact mul_int ⟨.int _, H2, I2.tok _, ⟨_, rfl⟩, q⟩ (.of_left (intBits_le_64 q1 q2))

/-! ### comparisons -/
def PC (X : Cx) (op : CmpOp) (a b : Expr) (t : TE) : Prop :=
  ∀ (pins : List (Addr × Obj)) (s : Shared) (σ : St) (H : Hp) (Q : VK), Inv X pins σ H s → t σ H Q →
    wpAny (model X.prog X.w) X.A (eval a X.env) (fun v s₁ => wpAny (model X.prog X.w) X.A (eval b X.env) (fun u s₂ => wpAny (model X.prog X.w) X.A (compareOp op v u) (EP X pins σ Q) X.xe s₂) X.xe s₁) X.xe s
theorem nobehind (b : Expr) {op : CmpOp} (h : op ≠ .In) (h2 : op ≠ .NotIn) : behindInMarks op b = false := by
  have e1 : (op == CmpOp.In) = false := by cases op <;> first | rfl | exact absurd rfl h
  have e2 : (op == CmpOp.NotIn) = false := by cases op <;> first | rfl | exact absurd rfl h2
  cases b <;> simp [behindInMarks, e1, e2]
def tCmp (p : Int → Int → Bool) (ta tb : TE) : TE := fun σ H Q => t2I ta tb (fun i j H2 => Q (.bl (p i j)) H2) σ H
abbrev tLt : TE → TE → TE := tCmp fun i j => decide (i < j)
abbrev tLe : TE → TE → TE := tCmp fun i j => decide (i ≤ j)
abbrev tGt : TE → TE → TE := tCmp fun i j => decide (j < i)
abbrev tGe : TE → TE → TE := tCmp fun i j => decide (j ≤ i)
abbrev tEqI : TE → TE → TE := tCmp fun i j => decide (i = j)
abbrev tNeI : TE → TE → TE := tCmp fun i j => !decide (i = j)
/-- a comparison of two ints, by its rule -/
theorem pc_int {op : CmpOp} {p : Int → Int → Bool} (ha : PE X a ta) (hb : PE X b tb)
    (rule : ∀ (i j : Int) (t u : Tok) (Q : Value → Shared → Prop) (s : Shared), Q (.bool (p i j)) s → wpAny (model X.prog X.w) X.A (compareOp op (.int i t) (.int j u)) Q X.xe s) : PC X op a b (tCmp p ta tb) := by
  intro pins s σ H Q I h
  refine bin ha hb I h fun v u s2 x y H2 I2 rx ry q => ?_
  obtain ⟨i, j, rfl, rfl, q⟩ := q
  obtain ⟨t, rfl⟩ := rx
  obtain ⟨t', rfl⟩ := ry
  exact rule i j t t' _ s2 ⟨.bl _, H2, I2, rfl, q⟩
theorem pc_lt (ha : PE X a ta) (hb : PE X b tb) : PC X .Lt a b (tLt ta tb) := pc_int ha hb fun _ _ _ _ _ _ h => lt_int h
theorem pc_le (ha : PE X a ta) (hb : PE X b tb) : PC X .LtE a b (tLe ta tb) := pc_int ha hb fun _ _ _ _ _ _ h => le_int h
theorem pc_gt (ha : PE X a ta) (hb : PE X b tb) : PC X .Gt a b (tGt ta tb) := pc_int ha hb fun _ _ _ _ _ _ h => gt_int h
theorem pc_ge (ha : PE X a ta) (hb : PE X b tb) : PC X .GtE a b (tGe ta tb) := pc_int ha hb fun _ _ _ _ _ _ h => ge_int h
theorem pc_eqI (ha : PE X a ta) (hb : PE X b tb) : PC X .Eq a b (tEqI ta tb) := pc_int ha hb fun _ _ _ _ _ _ h => eq_int (by rw [Bool.beq_eq_decide_eq]; exact h)
theorem pc_neI (ha : PE X a ta) (hb : PE X b tb) : PC X .NotEq a b (tNeI ta tb) := pc_int ha hb fun _ _ _ _ _ _ h => ne_int (by rw [bne, Bool.beq_eq_decide_eq]; exact h)
/-- is None -/
def tIsN (ta : TE) : TE := fun σ H Q => ta σ H fun x H1 => Q (.bl (decide (x = .non))) H1
def tNotN (ta : TE) : TE := fun σ H Q => ta σ H fun x H1 => Q (.bl (!decide (x = .non))) H1
theorem RelV.none_iff {x : V} {v : Value} (r : RelV x v) : (v == Value.none) = decide (x = .non) := by
  cases x with
  | non => cases r; rfl
  | bl _ => cases r; rfl
  | int _ => obtain ⟨t, rfl⟩ := r; rfl
  | str _ => obtain ⟨t, rfl⟩ := r; rfl
  | byt _ => obtain ⟨t, rfl⟩ := r; rfl
  | flt _ => obtain ⟨t, rfl⟩ := r; rfl
  | ref _ => cases r; rfl
  | ty _ => cases r; rfl
theorem pc_isN {j pos'} (ha : PE X a ta) : PC X .Is a (.Constant .none j pos') (tIsN ta) := by
  intro pins s σ H Q I h
  refine thn (ha pins s σ H _ I h) fun v s1 ⟨x, H1, I1, r1, q1⟩ => ?_
  exact Constant_none (is_none_gen ⟨.bl _, H1, I1, by rw [r1.none_iff]; rfl, q1⟩)
theorem pc_notN {j pos'} (ha : PE X a ta) : PC X .IsNot a (.Constant .none j pos') (tNotN ta) := by
  intro pins s σ H Q I h
  refine thn (ha pins s σ H _ I h) fun v s1 ⟨x, H1, I1, r1, q1⟩ => ?_
  exact Constant_none (isnot_none_gen ⟨.bl _, H1, I1, by rw [r1.none_iff]; rfl, q1⟩)
/-- a comparison as a value, as a test -/
def tB (t : TE) : TT := fun σ H Q => t σ H fun x H1 => ∃ c, x = .bl c ∧ Q c H1
theorem pe_cmp {op : CmpOp} {t : TE} (h : PC X op a b t) (h1 : behindInMarks op b = false := by first | exact nobehind _ (by decide) (by decide) | rfl) : PE X (.Compare a [op] [b] pos) t := fun pins s σ H Q I hw => wpAny_Compare1 (h pins s σ H Q I hw) h1
theorem pt_cmp {op : CmpOp} {t : TE} (h : PC X op a b t) (h1 : behindInMarks op b = false := by first | exact nobehind _ (by decide) (by decide) | rfl) : PT X (.Compare a [op] [b] pos) (tB t) := by
  intro pins s σ H Q I hw
  refine wpAny_isTrue_Compare1 (thn (h pins s σ H _ I hw) fun v s1 h1 => thn h1 fun u s2 h2 => thn h2 fun c s3 ⟨x, H1, I1, r1, q1⟩ => ?_) h1
  obtain ⟨d, rfl, q⟩ := q1
  cases r1
  exact wpAny_truthy_bool ⟨H1, I1, q⟩
/-- an expression whose value is a bool, as a test -/
theorem pt_val {e : Expr} {t : TE} (h : PE X e t) (he : ∀ whole, isTrue e X.env whole = (do let v ← whole; standAt e.pos; holding [v] (truthy v)) := by intro _; rfl) : PT X e (tB t) := by
  intro pins s σ H Q I hw
  refine isTrue_plain (thn (h pins s σ H _ I hw) fun v s1 ⟨x, H1, I1, r1, q1⟩ => ?_) (he _)
  obtain ⟨d, rfl, q⟩ := q1
  cases r1
  exact wpAny_truthy_bool ⟨H1, I1, q⟩

/-! ### and, or, not -/
variable {tA tB' : TT} {rest : List Expr}
def tAnd (t u : TT) : TT := fun σ H Q => t σ H fun c H1 => if c = true then u σ H1 Q else Q false H1
def tOr (t u : TT) : TT := fun σ H Q => t σ H fun c H1 => if c = true then Q true H1 else u σ H1 Q
def tNot (t : TT) : TT := fun σ H Q => t σ H fun c H1 => Q (!c) H1
theorem pw_and1 (ha : PT X a tA) : PW X (.BoolOp .And [a] pos) tA := by
  intro wh pins s σ H Q I h
  refine isTrue_and (thn (ha pins s σ H Q I h) fun c s1 e => ?_)
  cases c with
  | true => exact isTrue_and_nil e
  | false => exact e
theorem pw_or1 (ha : PT X a tA) : PW X (.BoolOp .Or [a] pos) tA := by
  intro wh pins s σ H Q I h
  refine isTrue_or (thn (ha pins s σ H Q I h) fun c s1 e => ?_)
  cases c with
  | false => exact isTrue_or_nil e
  | true => exact e
theorem pw_and (ha : PT X a tA) (hb : PW X (.BoolOp .And (b :: rest) pos) tB') : PW X (.BoolOp .And (a :: b :: rest) pos) (tAnd tA tB') := by
  intro wh pins s σ H Q I h
  refine isTrue_and (thn (ha pins s σ H _ I h) fun c s1 ⟨H1, I1, q1⟩ => ?_)
  cases c with
  | true => exact hb wh pins s1 σ H1 Q I1 q1
  | false => exact ⟨H1, I1, q1⟩
theorem pw_or (ha : PT X a tA) (hb : PW X (.BoolOp .Or (b :: rest) pos) tB') : PW X (.BoolOp .Or (a :: b :: rest) pos) (tOr tA tB') := by
  intro wh pins s σ H Q I h
  refine isTrue_or (thn (ha pins s σ H _ I h) fun c s1 ⟨H1, I1, q1⟩ => ?_)
  cases c with
  | true => exact ⟨H1, I1, q1⟩
  | false => exact hb wh pins s1 σ H1 Q I1 q1
theorem pt_not (ha : PT X a tA) : PT X (.UnaryOp .Not a pos) (tNot tA) := by
  intro pins s σ H Q I h
  exact isTrue_not (ha pins s σ H (fun c H1 => Q (!c) H1) I h)
/-- .. as values (bools) -/
def tAndV (ta tb : TE) : TE := fun σ H Q => ta σ H fun x H1 => ∃ c, x = .bl c ∧ if c = true then tb σ H1 Q else Q (.bl false) H1
def tOrV (ta tb : TE) : TE := fun σ H Q => ta σ H fun x H1 => ∃ c, x = .bl c ∧ if c = true then Q (.bl true) H1 else tb σ H1 Q
def tNotV (ta : TE) : TE := fun σ H Q => ta σ H fun x H1 => ∃ c, x = .bl c ∧ Q (.bl (!c)) H1
theorem pe_one {op} {t : TE} (h : PE X a t) : PE X (.BoolOp op [a] pos) t := fun pins s σ H Q I hw => BoolOp_one (h pins s σ H Q I hw)
theorem pe_and (ha : PE X a ta) (hb : PE X (.BoolOp .And (b :: rest) pos) tb) : PE X (.BoolOp .And (a :: b :: rest) pos) (tAndV ta tb) := by
  intro pins s σ H Q I h
  refine BoolOp_and (thn (ha pins s σ H _ I h) fun v s1 ⟨x, H1, I1, r1, q1⟩ => ?_)
  obtain ⟨c, rfl, q1⟩ := q1
  cases r1
  refine wpAny_truthy_bool ?_
  cases c with
  | true => exact hb pins s1 σ H1 Q I1 q1
  | false => exact ⟨.bl false, H1, I1, rfl, q1⟩
theorem pe_or (ha : PE X a ta) (hb : PE X (.BoolOp .Or (b :: rest) pos) tb) : PE X (.BoolOp .Or (a :: b :: rest) pos) (tOrV ta tb) := by
  intro pins s σ H Q I h
  refine BoolOp_or (thn (ha pins s σ H _ I h) fun v s1 ⟨x, H1, I1, r1, q1⟩ => ?_)
  obtain ⟨c, rfl, q1⟩ := q1
  cases r1
  refine wpAny_truthy_bool ?_
  cases c with
  | false => exact hb pins s1 σ H1 Q I1 q1
  | true => exact ⟨.bl true, H1, I1, rfl, q1⟩
theorem pe_not (ha : PE X a ta) : PE X (.UnaryOp .Not a pos) (tNotV ta) := by
  intro pins s σ H Q I h
  refine UnaryOp_ (thn (ha pins s σ H _ I h) fun v s1 ⟨x, H1, I1, r1, q1⟩ => ?_)
  obtain ⟨c, rfl, q1⟩ := q1
  cases r1
  exact not_of (wpAny_truthy_bool ⟨.bl (!c), H1, I1, rfl, q1⟩)
/-- a if t else b -/
def tIf (t : TT) (ta tb : TE) : TE := fun σ H Q => t σ H fun c H1 => if c = true then ta σ H1 Q else tb σ H1 Q
theorem pe_ifExp {c : Expr} (hc : PT X c tA) (ha : PE X a ta) (hb : PE X b tb) : PE X (.IfExp c a b pos) (tIf tA ta tb) := by
  intro pins s σ H Q I h
  refine wpAny_IfExp (thn (hc pins s σ H _ I h) fun d s1 ⟨H1, I1, q1⟩ => ?_)
  cases d with
  | true => exact ha pins s1 σ H1 Q I1 q1
  | false => exact hb pins s1 σ H1 Q I1 q1
end
end L2

namespace L2
open PySem PySem.Spec PyProof.Rows

/-! ### a list, a tuple that is read: tracked, frozen, or an object of the module -/
def SqL (K : PySem.W.Frag) (H : Hp) (a : Addr) (xs : List V) : Prop :=
  Rd H a (.lst xs) ∨
    ∃ (o : Obj) (its : Array Value) (n : Nat), K.lookup a = some o ∧ o.cls = .type "list" ∧ o.dict = none ∧ o.data = .seq its n ∧ its.size ≤ sizeLine ∧ Vals xs its.toList
def SqT (K : PySem.W.Frag) (H : Hp) (a : Addr) (xs : List V) : Prop :=
  Rd H a (.tup xs) ∨
    ∃ (o : Obj) (its : Array Value) (n : Nat), K.lookup a = some o ∧ o.cls = .type "tuple" ∧ o.data = .seq its n ∧ its.size ≤ sizeLine ∧ Vals xs its.toList
def absV : Value → Option V
  | .none => some .non
  | .bool b => some (.bl b)
  | .int i _ => some (.int i)
  | .str x _ => some (.str x)
  | .bytes b _ => some (.byt b)
  | .float b _ => some (.flt b)
  | .ref a => some (.ref a)
  | .type n => some (.ty n)
  | _ => none
theorem RelV.abs {x : V} {u : Value} (r : RelV x u) : absV u = some x := by
  cases x with
  | non => cases r; rfl
  | bl _ => cases r; rfl
  | int _ => obtain ⟨t, rfl⟩ := r; rfl
  | str _ => obtain ⟨t, rfl⟩ := r; rfl
  | byt _ => obtain ⟨t, rfl⟩ := r; rfl
  | flt _ => obtain ⟨t, rfl⟩ := r; rfl
  | ref _ => cases r; rfl
  | ty _ => cases r; rfl
theorem RelV.inj {x y : V} {u : Value} (r : RelV x u) (q : RelV y u) : x = y := Option.some.inj (r.abs.symm.trans q.abs)
theorem Vals.inj : ∀ {xs ys : List V} {us : List Value}, Vals xs us → Vals ys us → xs = ys
  | _, _, _, .nil, .nil => rfl
  | _, _, _, .cons r t, .cons r' t' => by rw [r.inj r', Vals.inj t t']
section
variable {X : Cx} {pins : List (Addr × Obj)} {σ : St} {H : Hp} {s : Shared} {a : Addr} {xs ys : List V}
theorem SqL.of {K : PySem.W.Frag} (h : H a = some (.lst xs)) : SqL K H a xs := .inl (.inl h)
theorem SqT.of {K : PySem.W.Frag} (h : H a = some (.tup xs)) : SqT K H a xs := .inl (.inl h)
theorem Inv.list (I : Inv X pins σ H s) (h : SqL X.K H a xs) : ∃ its : List Value, Vals xs its ∧ PlainL s.heap a its.toArray ∧ xs.length ≤ sizeLine := by
  rcases h with h | ⟨o, its, n, hk, hc, hd, hs, hz, r⟩
  · obtain ⟨z, its, n, r, e⟩ := h.ok I.hok
    exact ⟨its, r, ⟨_, n, e, rfl, rfl, rfl⟩, z⟩
  · refine ⟨its.toList, r, ⟨o, n, I.kIn a o hk, hc, hd, by simpa using hs⟩, ?_⟩
    have e := r.length
    simp only [Array.length_toList] at e
    omega
theorem Inv.tuple (I : Inv X pins σ H s) (h : SqT X.K H a xs) : ∃ its : List Value, Vals xs its ∧ IsTup s.heap a its.toArray ∧ xs.length ≤ sizeLine := by
  rcases h with h | ⟨o, its, n, hk, hc, hs, hz, r⟩
  · obtain ⟨z, its, r, p⟩ := h.ok I.hok
    exact ⟨its, r, p, z⟩
  · refine ⟨its.toList, r, ⟨o, I.kIn a o hk, hc, n, by simpa using hs⟩, ?_⟩
    have e := r.length
    simp only [Array.length_toList] at e
    omega
theorem Inv.list_inj (I : Inv X pins σ H s) (h : SqL X.K H a xs) (h' : SqL X.K H a ys) : xs = ys := by
  obtain ⟨its, r, ⟨o, n, e, _, _, d⟩, _⟩ := I.list h
  obtain ⟨its', r', ⟨o', n', e', _, _, d'⟩, _⟩ := I.list h'
  rw [e] at e'; cases e'
  rw [d] at d'
  injection d' with d1 _
  have : its = its' := by simpa using congrArg Array.toList d1
  subst this
  exact r.inj r'
theorem Inv.tuple_inj (I : Inv X pins σ H s) (h : SqT X.K H a xs) (h' : SqT X.K H a ys) : xs = ys := by
  obtain ⟨its, r, ⟨o, e, _, n, d⟩, _⟩ := I.tuple h
  obtain ⟨its', r', ⟨o', e', _, n', d'⟩, _⟩ := I.tuple h'
  rw [e] at e'; cases e'
  rw [d] at d'
  injection d' with d1 _
  have : its = its' := by simpa using congrArg Array.toList d1
  subst this
  exact r.inj r'
end

/-! ### another wish about exceptions -/
abbrev Cx.wish (X : Cx) (E : Value → Shared → Prop) : Cx := { X with xe := E }
/-- no exception leaves -/
abbrev Cx.nox (X : Cx) : Cx := X.wish fun _ _ => False
theorem Cx.Ok.wish {X : Cx} (ok : X.Ok) (E : Value → Shared → Prop) : (X.wish E).Ok :=
  ⟨ok.mod, ok.kind, ok.glob, ok.blt, ok.above, ok.inj, ok.has, ok.cab, ok.hd, ok.frames, ok.stk, ok.exf, ok.bs, ok.bsz, ok.noex, ok.exfs, ok.funs, ok.frf⟩
theorem Cx.Ok.unwish {X : Cx} {E : Value → Shared → Prop} (ok : (X.wish E).Ok) : X.Ok :=
  ⟨ok.mod, ok.kind, ok.glob, ok.blt, ok.above, ok.inj, ok.has, ok.cab, ok.hd, ok.frames, ok.stk, ok.exf, ok.bs, ok.bsz, ok.noex, ok.exfs, ok.funs, ok.frf⟩
section
variable {X : Cx} {pins : List (Addr × Obj)} {σ : St} {H : Hp} {s : Shared} {E : Value → Shared → Prop}
theorem Inv.wish (I : Inv X pins σ H s) (E : Value → Shared → Prop) : Inv (X.wish E) pins σ H s := ⟨I.ok.wish E, I.os, I.bare, I.base, I.loc, I.cell, I.free, I.freeC, I.pin, I.hok, I.len⟩
theorem Inv.unwish (I : Inv (X.wish E) pins σ H s) : Inv X pins σ H s := ⟨I.ok.unwish, I.os, I.bare, I.base, I.loc, I.cell, I.free, I.freeC, I.pin, I.hok, I.len⟩
theorem SP.unwish {D : Ends} {f : Flow} {s' : Shared} (h : SP (X.wish E) pins D f s') : SP X pins D f s' := by
  cases f with
  | next => obtain ⟨σ', H', I, q⟩ := h; exact ⟨σ', H', I.unwish, q⟩
  | brk => obtain ⟨σ', H', I, q⟩ := h; exact ⟨σ', H', I.unwish, q⟩
  | cont => obtain ⟨σ', H', I, q⟩ := h; exact ⟨σ', H', I.unwish, q⟩
  | ret u => obtain ⟨v, σ', H', I, r, q⟩ := h; exact ⟨v, σ', H', I.unwish, r, q⟩
theorem PE.nox {e : Expr} {t : TE} (h : PE X.nox e t) : PE X e t := fun pins s σ H Q I hw =>
  wpAny_mono (h pins s σ H Q (I.wish _) hw) (fun _ _ ⟨v, H', I', r, q⟩ => ⟨v, H', I'.unwish, r, q⟩) fun _ _ z => False.elim z
theorem PT.nox {e : Expr} {t : TT} (h : PT X.nox e t) : PT X e t := fun pins s σ H Q I hw =>
  wpAny_mono (h pins s σ H Q (I.wish _) hw) (fun _ _ ⟨H', I', q⟩ => ⟨H', I'.unwish, q⟩) fun _ _ z => False.elim z
theorem PSs.nox {st : List Stmt} {t : TS} (h : PSs X.nox st t) : PSs X st t := fun pins s σ H D I hw =>
  wpAny_mono (h pins s σ H D (I.wish _) hw) (fun _ _ q => q.unwish) fun _ _ z => False.elim z
end

/-! ### blocks and small statements -/
section
variable {X : Cx} {st : Stmt} {rest : List Stmt} {t u : TS} {e : Expr} {te : TE} {pos : Pos}
def tNext : TS := fun D σ H => D.nx σ H
def tSeq (t u : TS) : TS := fun D σ H => t { D with nx := u D } σ H
theorem pss_nil : PSs X [] tNext := fun _ _ σ H _ I h => wpAny_execs_nil ⟨σ, H, I, h⟩
theorem pss_cons (h1 : PS X st t) (h2 : PSs X rest u) : PSs X (st :: rest) (tSeq t u) := by
  intro pins s σ H D I h
  refine wpAny_execs_cons (thn (h1 pins s σ H { D with nx := u D } I h) fun f s1 q => ?_)
  cases f with
  | next =>
    obtain ⟨σ', H', I', q⟩ := q
    exact h2 pins s1 σ' H' D I' q
  | ret v => exact q
  | brk => exact q
  | cont => exact q
theorem pss_one (h1 : PS X st t) : PSs X [st] t := by
  intro pins s σ H D I h
  refine wpAny_execs_cons (thn (h1 pins s σ H D I h) fun f s1 q => ?_)
  cases f with
  | next => exact wpAny_execs_nil q
  | ret v => exact q
  | brk => exact q
  | cont => exact q
def tBreak : TS := fun D σ H => D.bk σ H
def tCont : TS := fun D σ H => D.ct σ H
theorem ps_pass : PS X (.Pass pos) tNext := fun _ _ σ H _ I h => wpAny_Pass ⟨σ, H, I, h⟩
theorem ps_break : PS X (.Break pos) tBreak := fun _ _ σ H _ I h => wpAny_Break ⟨σ, H, I, h⟩
theorem ps_continue : PS X (.Continue pos) tCont := fun _ _ σ H _ I h => wpAny_Continue ⟨σ, H, I, h⟩
/-- in a def's body nothing is shown -/
theorem Inv.quiet {pins : List (Addr × Obj)} {σ : St} {H : Hp} {s : Shared} (I : Inv X pins σ H s) : interactive X.env = false := by simp [interactive, I.ok.kind]
/-- a docstring -/
theorem ps_doc {x j pos pos'} : PS X (.Expr (.Constant (.str x) j pos) pos') tNext := fun _ s σ H _ I h => wpAny_Expr (Calls.Constant_str (show SP X _ _ .next { s with toks := s.toks + 1 } from ⟨σ, H, I.tok _, h⟩)) I.quiet
/-- an expression whose value is dropped -/
def tDrop (te : TE) : TS := fun D σ H => te σ H fun _ H1 => D.nx σ H1
theorem ps_expr (he : PE X e te) (hs : swapsWith e none pos.line X.env = pure false := by rfl) : PS X (.Expr e pos) (tDrop te) := by
  intro pins s σ H D I h
  exact wpAny_Expr_any (thn (he pins s σ H _ I h) fun v s1 ⟨x, H1, I1, r1, q1⟩ => ⟨σ, H1, I1, q1⟩) I.quiet hs
def tRet (te : TE) : TS := fun D σ H => te σ H D.rt
theorem ps_ret (he : PE X e te) : PS X (.Return (some e) pos) (tRet te) := by
  intro pins s σ H D I h
  exact wpAny_Return_some (thn (he pins s σ H _ I h) fun v s1 ⟨x, H1, I1, r1, q1⟩ => ⟨x, σ, H1, I1, r1, q1⟩)
def tRetN : TS := fun D _ H => D.rt .non H
theorem ps_retN : PS X (.Return none pos) tRetN := fun _ _ σ H _ I h => wpAny_Return_none ⟨.non, σ, H, I, rfl, h⟩
def tIfS (c : TT) (t u : TS) : TS := fun D σ H => c σ H fun b H1 => if b = true then t D σ H1 else u D σ H1
theorem ps_if {c : Expr} {a b : List Stmt} {tc : TT} (hc : PT X c tc) (ha : PSs X a t) (hb : PSs X b u) : PS X (.If c a b pos) (tIfS tc t u) := by
  intro pins s σ H D I h
  refine wpAny_If (thn (hc pins s σ H _ I h) fun d s1 ⟨H1, I1, q1⟩ => ?_)
  cases d with
  | true => exact ha pins s1 σ H1 D I1 q1
  | false => exact hb pins s1 σ H1 D I1 q1
/-- code that the proof never comes to -/
def tNever : TS := fun _ _ _ => False
theorem ps_never : PS X st tNever := fun _ _ _ _ _ _ h => h.elim
theorem pss_never {sts : List Stmt} : PSs X sts tNever := fun _ _ _ _ _ _ h => h.elim
end

/-! ### targets -/
abbrev TG := V → St → Hp → (St → Hp → Prop) → Prop
abbrev TGs := List V → St → Hp → (St → Hp → Prop) → Prop
def PG (X : Cx) (target : Expr) (t : TG) : Prop :=
  ∀ (pins : List (Addr × Obj)) (s : Shared) (σ : St) (H : Hp) (v : V) (u : Value) (Q : St → Hp → Prop), Inv X pins σ H s → RelV v u → t v σ H Q →
    wpAny (model X.prog X.w) X.A (assign target X.env u) (fun _ s' => ∃ σ' H', Inv X pins σ' H' s' ∧ Q σ' H') X.xe s
/-- several targets, one after another -/
def PGs (X : Cx) (ts : List Expr) (t : TGs) : Prop :=
  ∀ (pins : List (Addr × Obj)) (s : Shared) (σ : St) (H : Hp) (vs : List V) (us : List Value) (Q : St → Hp → Prop), Inv X pins σ H s → Vals vs us → t vs σ H Q →
    wpAny (model X.prog X.w) X.A (assignInOrder ((assignEach ts X.env).map (·.2)) us) (fun _ s' => ∃ σ' H', Inv X pins σ' H' s' ∧ Q σ' H') X.xe s
/-- o[i] = v, by values -/
abbrev TSet := V → V → V → Hp → (Hp → Prop) → Prop
def PSet (X : Cx) (t : TSet) : Prop :=
  ∀ (pins : List (Addr × Obj)) (s : Shared) (σ : St) (H : Hp) (o i v : V) (ov iv u : Value) (Q : Hp → Prop), Inv X pins σ H s → RelV o ov → RelV i iv → RelV v u → t o i v H Q →
    wpAny (model X.prog X.w) X.A (setItem ov iv u) (fun _ s' => ∃ H', Inv X pins σ H' s' ∧ Q H') X.xe s
/-- a op= b, by values -/
abbrev TIp := V → V → Hp → VK → Prop
def PIp (X : Cx) (op : Operator) (t : TIp) : Prop :=
  ∀ (pins : List (Addr × Obj)) (s : Shared) (σ : St) (H : Hp) (x y : V) (v u : Value) (Q : VK), Inv X pins σ H s → RelV x v → RelV y u → t x y H Q →
    wpAny (model X.prog X.w) X.A (inplaceOp op v u) (EP X pins σ Q) X.xe s
section
variable {X : Cx} {pos : Pos}
def gName (i : Nat) : TG := fun v σ H Q => Q (σ.set i (some v)) H
theorem pg_name {i : Nat} {x : Str} (hN : X.N.Nodup) (hi : X.N[i]? = some x) (hx : Loc X.env.scope x) (hf : X.fn x = true ∨ X.env.scope.names.lookup x = some .local := by first | exact .inl rfl | exact .inr rfl | assumption) : PG X (.Name x pos) (gName i) := by
  intro pins s σ H v u Q I r h
  exact wpAny_assign_Name (store_ok I hN hi hx r (fun s' I' => ⟨_, H, I', h⟩) hf)
def gNil : TGs := fun vs σ H Q => vs = [] ∧ Q σ H
def gCons (t : TG) (u : TGs) : TGs := fun vs σ H Q => ∃ v r, vs = v :: r ∧ t v σ H fun σ' H' => u r σ' H' Q
theorem pgs_nil : PGs X [] gNil := by
  intro pins s σ H vs us Q I r h
  obtain ⟨e, h⟩ := h
  subst e
  cases r
  exact assignInOrder_nil ⟨σ, H, I, h⟩
theorem pgs_cons {e : Expr} {es : List Expr} {t : TG} {u : TGs} (h1 : PG X e t) (h2 : PGs X es u)
    (hs : (assignEach (e :: es) X.env).map (·.2) = assign e X.env :: (assignEach es X.env).map (·.2) := by rfl) : PGs X (e :: es) (gCons t u) := by
  intro pins s σ H vs us Q I r h
  obtain ⟨v, vr, e1, h⟩ := h
  subst e1
  cases r with
  | cons r rr =>
    rw [hs]
    refine assignInOrder_cons (thn (h1 pins s σ H _ _ _ I r h) fun _ s1 ⟨σ1, H1, I1, q1⟩ => ?_)
    exact h2 pins s1 σ1 H1 _ _ Q I1 rr q1
/-- (a, b, ..) = a tuple of that length -/
def gTup (K : PySem.W.Frag) (n : Nat) (t : TGs) : TG := fun v σ H Q => ∃ a xs, v = .ref a ∧ SqT K H a xs ∧ xs.length = n ∧ t xs σ H Q
theorem pg_tup {es : List Expr} {k : Nat} {t : TGs} {n : Nat} (hc : X.calm = true) (h : PGs X es t)
    (hn : (assignEach es X.env).length = n := by rfl) (hst : (assignEach es X.env).findIdx? (·.1) = none := by rfl) : PG X (.Tuple es k pos) (gTup X.K n t) := by
  intro pins s σ H v u Q I r hw
  obtain ⟨a, xs, e1, hq, hl, hw⟩ := hw
  subst e1
  cases r
  obtain ⟨its, rv, ht, hz⟩ := I.tuple hq
  refine assign_Tuple_tuple (I.ok.hd hc) ht (by simp [hn, ← hl, rv.length]) hst fun h' hx => ?_
  have I1 : Inv X pins σ H { s with heap := h' } := I.kept (t' := s.toks) fun b o e => hx b o (Nat.ne_of_lt (Heap.lt_size e)) e
  exact h pins _ σ H xs _ Q I1 (by simpa using rv) hw
/-- o[i] = .. -/
def gSub (to ti : TE) (t : TSet) : TG := fun v σ H Q => to σ H fun o H1 => ti σ H1 fun i H2 => t o i v H2 fun H3 => Q σ H3
theorem pg_sub {o i : Expr} {to ti : TE} {t : TSet} (ho : PE X o to) (hi : PE X i ti) (hs : PSet X t)
    (ha : ∀ v, assign (.Subscript o i pos) X.env v = (do
      let ov ← holding [v] (eval o X.env)
      let iv ← holding [v, ov] (eval i X.env)
      standAt pos
      holding [v, ov, iv] (setItem ov iv v)
      release [v, ov, iv] []) := by intro _; rfl) : PG X (.Subscript o i pos) (gSub to ti t) := by
  intro pins s σ H v u Q I r h
  rw [ha]
  refine wpAny_bind (wpAny_holding (thn (ho pins s σ H _ I h) fun ov s1 ⟨x, H1, I1, r1, q1⟩ => ?_))
  refine wpAny_bind (wpAny_holding (thn (hi pins s1 σ H1 _ I1 q1) fun iv s2 ⟨y, H2, I2, r2, q2⟩ => ?_))
  refine wpAny_bind (wpAny_standAt (wpAny_bind (wpAny_holding (thn (hs pins s2 σ H2 x y v ov iv u _ I2 r1 r2 r q2) fun _ s3 ⟨H3, I3, q3⟩ => ?_))))
  exact wpAny_release ⟨σ, H3, I3, q3⟩
/-- target = value -/
def tAsg (te : TE) (g : TG) : TS := fun D σ H => te σ H fun x H1 => g x σ H1 D.nx
theorem ps_asg {tg e : Expr} {te : TE} {g : TG} (he : PE X e te) (hg : PG X tg g) (hs : swapsWithSole [tg] e pos.line X.env = pure false := by rfl) (hw : swappedStores [tg] e X.env = pure none := by rfl)
    (h1 : (assignEach [tg] X.env).map (·.2) = [assign tg X.env] := by rfl) : PS X (.Assign [tg] e pos) (tAsg te g) := by
  intro pins s σ H D I h
  refine wpAny_Assign_stores (thn (he pins s σ H _ I h) fun v s1 ⟨x, H1, I1, r1, q1⟩ => ?_) hs hw
  rw [h1]
  exact thn (hg pins s1 σ H1 x v _ I1 r1 q1) fun _ s2 q => q
/-- name = value -/
theorem ps_set {i : Nat} {x : Str} {e : Expr} {te : TE} {pos' : Pos} (hN : X.N.Nodup) (hi : X.N[i]? = some x) (hx : Loc X.env.scope x) (he : PE X e te) (hs : swapsWith e (some (.Name x pos')) pos.line X.env = pure false := by rfl) (hf : X.fn x = true ∨ X.env.scope.names.lookup x = some .local := by first | exact .inl rfl | exact .inr rfl | assumption) :
    PS X (.Assign [.Name x pos'] e pos) (tAsg te (gName i)) := by
  intro pins s σ H D I h
  refine wpAny_Assign_Name (thn (he pins s σ H _ I h) fun v s1 ⟨y, H1, I1, r1, q1⟩ => ?_) hs
  exact store_ok I1 hN hi hx r1 (fun s2 I2 => ⟨_, H1, I2, q1⟩) hf
/-- a, b = x, y with plain local names: stored from the right; the pair itself is not tracked (the opening rows as in PyProof/Rows/TupAssign.lean:23) -/
def tPar (i j : Nat) (ta : TA) : TS := fun D σ H => ta σ H fun vs H1 => ∃ v w, vs = [v, w] ∧ D.nx ((σ.set i (some v)).set j (some w)) H1
theorem ps_par {i j : Nat} {x y : Str} {a b : Expr} {ta : TA} {px py pt : Pos} {kt k2 pt2} (hc : X.calm = true) (hN : X.N.Nodup) (hi : X.N[i]? = some x) (hj : X.N[j]? = some y) (hij : i ≠ j)
    (hx : X.env.scope.names.lookup x = some .local) (hy : X.env.scope.names.lookup y = some .local) (ha : PA X [a, b] ta)
    (hw : swappedStores [.Tuple [.Name x px, .Name y py] kt pt] (.Tuple [a, b] k2 pt2) X.env = pure (some [x, y]))
    (hs : swapsWithSole [.Tuple [.Name x px, .Name y py] kt pt] (.Tuple [a, b] k2 pt2) pos.line X.env = pure false := by rfl) :
    PS X (.Assign [.Tuple [.Name x px, .Name y py] kt pt] (.Tuple [a, b] k2 pt2) pos) (tPar i j ta) := by
  intro pins s σ H D I h
  rw [exec_Assign_arm]
  refine wpAny_bind (wpAny_standAt ?_)
  rw [hs]
  refine wpAny_bind (wpAny_pure ?_)
  rw [if_neg (by decide)]
  refine wpAny_bind (Tuple_ (thn (ha _ pins s σ H _ I h) fun us s1 ⟨vs, H1, I1, r1, q1⟩ => ?_))
  obtain ⟨v, w, e1, q1⟩ := q1
  subst e1
  obtain ⟨u1, u2, rfl, rv, rw'⟩ : ∃ u1 u2, us = [u1, u2] ∧ RelV v u1 ∧ RelV w u2 := by
    cases r1 with
    | cons p q =>
      cases q with
      | cons p' q' =>
        cases q'
        exact ⟨_, _, rfl, p, p'⟩
  refine wpAny_newObj_type ?_ (by show 2 ≤ sizeLine; decide)
  have I2 : Inv X pins σ H1 { s1 with heap := s1.heap.push { cls := .type "tuple", data := .seq [u1, u2].toArray } } := I1.kept (t' := s1.toks) fun b o e => Heap.get?_push_of_some _ e
  rw [hw]
  refine wpAny_bind (wpAny_pure ?_)
  show wpAny (model X.prog X.w) X.A (do rule "assign.swapped-stores"; let items ← unpackItems (.ref s1.heap.objs.size) 2 none; assignInOrder [fun v => bindName X.env y v, fun v => bindName X.env x v] items.reverse; pure Flow.next) _ _ _
  refine wpAny_bind (wpAny_rule (wpAny_bind (unpackItems_tuple (items := #[u1, u2]) (I.ok.hd hc) (IsTup.new s1.heap _) fun h' hx' => ?_)))
  have I3 := I2.kept (h' := h') (t' := s1.toks) fun b o e => hx' b o (Nat.ne_of_lt (Heap.lt_size e)) e
  show wpAny _ _ (assignInOrder [fun v => bindName X.env y v, fun v => bindName X.env x v] [u2, u1] >>= fun _ => pure Flow.next) _ _ _
  refine wpAny_bind (assignInOrder_cons (wpAny_bindName (store_ok I3 hN hj (.inl hy) rw' (fun s2 I4 => ?_) (.inr hy))))
  refine assignInOrder_cons (wpAny_bindName (store_ok I4 hN hi (.inl hx) rv (fun s3 I5 => assignInOrder_nil (wpAny_pure ?_)) (.inr hx)))
  rw [List.set_comm _ _ (Ne.symm hij)] at I5
  exact ⟨_, H1, I5, q1⟩
/-- name op= e -/
def tAug (i : Nat) (te : TE) (ti : TIp) : TS := fun D σ H => ∃ x, σ[i]? = some (some x) ∧ te σ H fun y H1 => ti x y H1 fun z H2 => D.nx (σ.set i (some z)) H2
theorem ps_aug {i : Nat} {x : Str} {e : Expr} {te : TE} {op : Operator} {ti : TIp} {pos' : Pos} (hN : X.N.Nodup) (hi : X.N[i]? = some x) (hx : Loc X.env.scope x) (he : PE X e te) (ho : PIp X op ti) (hf : X.fn x = true ∨ X.env.scope.names.lookup x = some .local := by first | exact .inl rfl | exact .inr rfl | assumption) :
    PS X (.AugAssign (.Name x pos') op e pos) (tAug i te ti) := by
  intro pins s σ H D I h
  obtain ⟨v, e1, h⟩ := h
  obtain ⟨m, hn, hl⟩ := I.loc
  have vis : Vis X.env.scope x := by rcases hx with k | k; exact .inl k; exact .inr (.inl k)
  obtain ⟨u, r, l⟩ := hl i x v hi e1 vis
  refine wpAny_AugAssign_Name ?_
  have go : wpAny (model X.prog X.w) X.A (eval e X.env) (fun w s₂ => wpAny (model X.prog X.w) X.A (inplaceOp op u w) (fun r s₃ => wpAny (model X.prog X.w) X.A (storeName X.env x r) (fun _ => SP X pins D .next) X.xe s₃) X.xe s₂) X.xe s := by
    refine thn (he pins s σ H _ I h) fun w s1 ⟨y, H1, I1, r1, q1⟩ => ?_
    refine thn (ho pins s1 σ H1 v y u w _ I1 r r1 q1) fun z s2 ⟨zv, H2, I2, r2, q2⟩ => ?_
    exact store_ok I2 hN hi hx r2 (fun s3 I3 => ⟨_, H2, I3, q2⟩) hf
  rcases l with ⟨hk, hm⟩ | ⟨hk, c, hc, hcell⟩
  · exact wpAny_loadName_local I.ok.kind hk hn hm go
  · rcases hk with hk | hk
    · exact wpAny_loadName_cell I.ok.kind hk hc hcell go
    · rcases hx with k | k
      · have : X.env.scope.names.lookup x = some .free := hk
        rw [k] at this; cases this
      · have : X.env.scope.names.lookup x = some .free := hk
        rw [k] at this; cases this
/-- o[i] op= e -/
def tAugS (to ti te : TE) (tget : V → V → Hp → VK → Prop) (tip : TIp) (tset : TSet) : TS := fun D σ H => to σ H fun o H1 => ti σ H1 fun i H2 => tget o i H2 fun x H3 => te σ H3 fun y H4 => tip x y H4 fun z H5 => tset o i z H5 fun H6 => D.nx σ H6
/-- o[i], by values -/
def PGet (X : Cx) (t : V → V → Hp → VK → Prop) : Prop :=
  ∀ (pins : List (Addr × Obj)) (s : Shared) (σ : St) (H : Hp) (o i : V) (ov iv : Value) (Q : VK), Inv X pins σ H s → RelV o ov → RelV i iv → t o i H Q →
    wpAny (model X.prog X.w) X.A (getItem ov iv) (EP X pins σ Q) X.xe s
theorem ps_augS {o i e : Expr} {to ti te : TE} {tget : V → V → Hp → VK → Prop} {tip : TIp} {tset : TSet} {op : Operator} {tpos : Pos} (ho : PE X o to) (hi : PE X i ti) (hg : PGet X tget) (he : PE X e te) (hp : PIp X op tip) (hs : PSet X tset)
    (ha : ∀ ov iv new, augStore i ov iv new = (do holding [new, ov, iv] (setItem ov iv new); release [new, ov, iv] []; pure .next) := by intros; rfl) : PS X (.AugAssign (.Subscript o i tpos) op e pos) (tAugS to ti te tget tip tset) := by
  intro pins s σ H D I h
  refine wpAny_AugAssign_SubscriptAny (thn (ho pins s σ H _ I h) fun ov s1 ⟨x1, H1, I1, r1, q1⟩ => ?_) ha
  refine thn (hi pins s1 σ H1 _ I1 q1) fun iv s2 ⟨x2, H2, I2, r2, q2⟩ => ?_
  refine thn (hg pins s2 σ H2 x1 x2 ov iv _ I2 r1 r2 q2) fun old s3 ⟨x3, H3, I3, r3, q3⟩ => ?_
  refine thn (he pins s3 σ H3 _ I3 q3) fun v s4 ⟨x4, H4, I4, r4, q4⟩ => ?_
  refine thn (hp pins s4 σ H4 x3 x4 old v _ I4 r3 r4 q4) fun new s5 ⟨x5, H5, I5, r5, q5⟩ => ?_
  exact thn (hs pins s5 σ H5 x1 x2 x5 ov iv new _ I5 r1 r2 r5 q5) fun _ s6 ⟨H6, I6, q6⟩ => ⟨σ, H6, I6, q6⟩
/-- ints -/
def ipI (f : Int → Int → Int) : TIp := fun x y H Q => ∃ i j, x = .int i ∧ y = .int j ∧ Q (.int (f i j)) H
theorem ip_add : PIp X .Add (ipI fun i j => i + j) := by
  intro pins s σ H x y v u Q I r1 r2 h
  obtain ⟨i, j, e1, e2, q⟩ := h
  subst e1; subst e2
  obtain ⟨t, rfl⟩ := r1
  obtain ⟨t', rfl⟩ := r2
  exact iadd_int ⟨.int _, H, I.tok _, ⟨_, rfl⟩, q⟩
theorem ip_sub : PIp X .Sub (ipI fun i j => i - j) := by
  intro pins s σ H x y v u Q I r1 r2 h
  obtain ⟨i, j, e1, e2, q⟩ := h
  subst e1; subst e2
  obtain ⟨t, rfl⟩ := r1
  obtain ⟨t', rfl⟩ := r2
  exact isub_int ⟨.int _, H, I.tok _, ⟨_, rfl⟩, q⟩
end

/-! ### while -/
section
variable {X : Cx} {pos : Pos}
/-- the invariant W with its measure -/
def tWhile (c : TT) (tb : TS) : TS := fun D σ H => ∃ W : Nat → St → Hp → Prop, (∃ m, W m σ H) ∧ ∀ m σ H, W m σ H →
  c σ H fun b H1 => if b = true then ∃ N : St → Hp → Prop, (∀ σ' H', N σ' H' → ∃ m', m' < m ∧ W m' σ' H') ∧ tb { D with nx := N, ct := N, bk := D.nx } σ H1 else D.nx σ H1
theorem ps_while {c : Expr} {body : List Stmt} {tc : TT} {tb : TS} (hp : PassesOwn (model X.prog X.w) X.A X.env X.xe) (hc : PT X c tc) (hb : PSs X body tb) : PS X (.While c body [] pos) (tWhile tc tb) := by
  intro pins s σ H D I h
  obtain ⟨W, ⟨m0, w0⟩, turn⟩ := h
  refine wpAny_While (codeAny_whileLoop (fun n s' => ∃ σ' H', Inv X pins σ' H' s' ∧ W n σ' H') ?_ m0 ⟨σ, H, I, w0⟩)
  rintro n s1 ⟨σ1, H1, I1, w1⟩
  refine wpAny_passesOwn hp (thn (hc pins s1 σ1 H1 _ I1 (turn n σ1 H1 w1)) fun b s2 ⟨H2, I2, q2⟩ => ?_)
  cases b with
  | true =>
    obtain ⟨N, hN, q2⟩ := q2
    rw [if_pos rfl]
    refine wpAny_passesOwn hp (thn (hb pins s2 σ1 H2 _ I2 q2) fun f s3 q3 => ?_)
    cases f with
    | next =>
      obtain ⟨σ3, H3, I3, n3⟩ := q3
      obtain ⟨m', hm, w3⟩ := hN σ3 H3 n3
      exact ⟨m', hm, σ3, H3, I3, w3⟩
    | cont =>
      obtain ⟨σ3, H3, I3, n3⟩ := q3
      obtain ⟨m', hm, w3⟩ := hN σ3 H3 n3
      exact ⟨m', hm, σ3, H3, I3, w3⟩
    | brk => exact q3
    | ret v => exact q3
  | false =>
    rw [if_neg Bool.false_ne_true]
    exact wpAny_execs_nil ⟨σ1, H2, I2, q2⟩
end

/-! ### what a loop or a comprehension walks -/
/-- at turn i: it yields x (the heap may grow), or it stops -/
structure It where
  go : Nat → Hp → Prop
  yld : Nat → Hp → V → Hp → Prop
  stop : Nat → Hp → Prop
/-- the iterator's own objects may turn: they are not the frame's, not pinned, younger than the entry (or a comprehension's own) -/
def FpOk (X : Cx) (pins : List (Addr × Obj)) (H : Hp) (b : Addr) : Prop :=
  H b = none ∧ b ≠ X.env.locals ∧ b ∉ X.fs ∧ (b ∈ X.ex ∨ X.s₀.heap.objs.size ≤ b) ∧ (∀ x c, X.env.cells.lookup x = some c → c ≠ b) ∧ ∀ p ∈ X.pn ++ pins, p.1 ≠ b
theorem Inv.fpOk {X : Cx} {pins : List (Addr × Obj)} {σ : St} {H H' : Hp} {s : Shared} {b : Addr} (I : Inv X pins σ H s) (hb : s.heap.objs.size ≤ b) (hn : H' b = none) : FpOk X pins H' b := by
  refine ⟨hn, Nat.ne_of_gt (Nat.lt_of_lt_of_le I.lt hb), I.nofs hb, .inr (Nat.le_trans I.sz hb), fun x c e z => ?_, fun p hp z => ?_⟩
  · obtain ⟨v, q⟩ := I.cell x c e
    exact absurd (Nat.lt_of_lt_of_le q.lt (by rw [z]; exact hb)) (Nat.lt_irrefl _)
  · exact absurd (Nat.lt_of_lt_of_le (Heap.lt_size (I.pin p hp).1) (by rw [z]; exact hb)) (Nat.lt_irrefl _)
structure Turn (P : Program) (w : World) (K : PySem.W.Frag) (tg : Expr) (J : It) (fp : List Addr) (it : Addr) (tn : Nat → Heap → Prop) : Prop where
  mem : it ∈ fp
  obj : ∀ i h, tn i h → ∀ b ∈ fp, ∃ o, h.get? b = some o ∧ ∀ v, o.data ≠ .cell v
  keep : ∀ i h h', tn i h → (∀ b ∈ fp, ∀ o, h.get? b = some o → h'.get? b = some o) → tn i h'
  item : ∀ (X : Cx), X.prog = P → X.w = w → X.K = K → X.calm = true → ∀ (i : Nat) (pins : List (Addr × Obj)) (s : Shared) (σ : St) (H : Hp) (E : Value → Shared → Prop), Inv X pins σ H s → (∀ b ∈ fp, FpOk X pins H b) → tn i s.heap → J.go i H →
    wpAny (model P w) X.A (pyNext (.ref it)) (fun r s1 => ∃ u, r = some u ∧
      wpAny (model P w) X.A (letOwnedTupleGo tg (.ref it) u) (fun _ s2 => ∃ x H', Inv X pins σ H' s2 ∧ RelV x u ∧ J.yld i H x H' ∧ tn (i + 1) s2.heap ∧ ∀ b ∈ fp, H' b = none) E s1) E s
  done : ∀ (X : Cx), X.prog = P → X.w = w → X.K = K → X.calm = true → ∀ (i : Nat) (pins : List (Addr × Obj)) (s : Shared) (σ : St) (H : Hp) (E : Value → Shared → Prop), Inv X pins σ H s → (∀ b ∈ fp, FpOk X pins H b) → tn i s.heap → J.stop i H →
    wpAny (model P w) X.A (pyNext (.ref it)) (fun r s1 => r = none ∧ Inv X pins σ H s1) E s
  self : ∀ (A : Around) (i : Nat) (s : Shared) (Q : Value → Shared → Prop) (E : Value → Shared → Prop), tn i s.heap → Q (.ref it) s → wpAny (model P w) A (pyIter (.ref it)) Q E s
abbrev TI := St → Hp → (It → Hp → Prop) → Prop
/-- an iterator has come -/
def PIE (X : Cx) (pins : List (Addr × Obj)) (σ : St) (tg : Expr) (R : It → Hp → Prop) (itv : Value) (s2 : Shared) : Prop :=
  ∃ (it : Addr) (fp : List Addr) (tn : Nat → Heap → Prop) (J : It) (H' : Hp), itv = .ref it ∧ Inv X pins σ H' s2 ∧ Turn X.prog X.w X.K tg J fp it tn ∧ tn 0 s2.heap ∧ (∀ b ∈ fp, FpOk X pins H' b) ∧ R J H'
def PI (X : Cx) (tg iter : Expr) (wi : TI) : Prop :=
  ∀ (pins : List (Addr × Obj)) (s : Shared) (σ : St) (H : Hp) (R : It → Hp → Prop), Inv X pins σ H s → wi σ H R →
    wpAny (model X.prog X.w) X.A (eval iter X.env) (fun v s1 => wpAny (model X.prog X.w) X.A (pyIter v) (PIE X pins σ tg R) X.xe s1) X.xe s

/-- the step ahead of the store is nothing for an iterator that keeps no tuple -/
theorem go_of {M : Model} {A : Around} {E : Value → Shared → Prop} {s : Shared} {tg : Expr} {it : Addr} {u : Value} {o : Obj} {n : String} {vs : Array Value} {Q : Unit → Shared → Prop} (ho : s.heap.get? it = some o) (hc : o.cls = .type n) (hd : o.data = .fields vs)
    (hn : ["enumerate", "zip", "dict_itemiterator", "dict_reverseitemiterator", "odict_iterator", "itertools.zip_longest", "itertools.pairwise"].contains n = false) (hQ : Q () s) : wpAny M A (letOwnedTupleGo tg (.ref it) u) Q E s := by
  unfold letOwnedTupleGo
  cases tg <;> first
    | exact wpAny_pure hQ
    | (cases u <;> first
        | exact wpAny_pure hQ
        | (refine wpAny_bind (wpAny_load ho ?_)
           rw [hc, hd]
           show wpAny M A (if (["enumerate", "zip", "dict_itemiterator", "dict_reverseitemiterator", "odict_iterator", "itertools.zip_longest", "itertools.pairwise"].contains n && vs[0]? == some (rawInt _)) = true then _ else _) Q E s
           rw [if_neg (by intro h; rw [hn, Bool.false_and] at h; cases h)]
           exact wpAny_pure hQ))

/-- the list at a, as it stands at each turn (a loop may append to it) -/
def Itl (K : PySem.W.Frag) (a : Addr) : It :=
  ⟨fun i H => ∃ xs x, SqL K H a xs ∧ xs[i]? = some x, fun i H x H' => H' = H ∧ ∀ xs, SqL K H a xs → xs[i]? = some x, fun i H => ∃ xs, SqL K H a xs ∧ xs.length ≤ i⟩
def Itt (K : PySem.W.Frag) (a : Addr) : It :=
  ⟨fun i H => ∃ xs x, SqT K H a xs ∧ xs[i]? = some x, fun i H x H' => H' = H ∧ ∀ xs, SqT K H a xs → xs[i]? = some x, fun i H => ∃ xs, SqT K H a xs ∧ xs.length ≤ i⟩
/-- lo, lo + 1, .. (n of them) -/
def Itr (lo : Int) (n : Nat) : It := ⟨fun i _ => i < n, fun i H x H' => H' = H ∧ x = .int (lo + i), fun i _ => n ≤ i⟩
theorem turn_list {P : Program} {w : World} {K : PySem.W.Frag} {tg : Expr} (a it : Addr) : Turn P w K tg (Itl K a) [it] it (fun i h => h.IsListIter it a i) where
  mem := by simp
  obj := fun i h st b hb => by
    have e : b = it := by simpa using hb
    subst e
    obtain ⟨o, e, c, d⟩ := st
    exact ⟨o, e, fun v z => by rw [d] at z; cases z⟩
  keep := fun i h h' st k => st.at fun o e => k it (by simp) o e
  item := by
    intro X hP hw hK hc i pins s σ H E I hf st hg
    subst hP hw hK
    obtain ⟨xs, x, hq, hx⟩ := hg
    obtain ⟨its, rv, p, hz⟩ := I.list hq
    obtain ⟨u, hu, ru⟩ := rv.get hx
    obtain ⟨f0, f1, f2, f3, f4, f5⟩ := hf it (by simp)
    refine wpAny_pyNext_list_item st p.isList (x := u) (by simpa using hu) fun h' st' sb => ?_
    have I1 : Inv X pins σ H { s with heap := h' } := I.turned (t' := s.toks) (fun b o hb e => (sb.2 b hb).trans e) f0 f1 f3 f4 f5
    obtain ⟨o, e, c, d⟩ := id st'
    exact ⟨u, rfl, go_of (s := { s with heap := h' }) e c d (by decide) ⟨x, H, I1, ru, ⟨rfl, fun ys hy => by rw [I.list_inj hy hq]; exact hx⟩, st', fun b hb => (hf b hb).1⟩⟩
  done := by
    intro X hP hw hK hc i pins s σ H E I hf st hg
    subst hP hw hK
    obtain ⟨xs, hq, hx⟩ := hg
    obtain ⟨its, rv, p, hz⟩ := I.list hq
    obtain ⟨f0, f1, f2, f3, f4, f5⟩ := hf it (by simp)
    have hl := rv.length
    exact wpAny_pyNext_list_end (I.ok.hd hc) st p.isList (by simp; omega) fun h' eb => ⟨rfl, I.turned (t' := s.toks) (fun b o hb e => eb b o hb e) f0 f1 f3 f4 f5⟩
  self := fun _ _ _ _ _ st h => wpAny_pyIter_listiter st h
theorem turn_tuple {P : Program} {w : World} {K : PySem.W.Frag} {tg : Expr} (a it : Addr) : Turn P w K tg (Itt K a) [it] it (fun i h => h.IsTupleIter it a i) where
  mem := by simp
  obj := fun i h st b hb => by
    have e : b = it := by simpa using hb
    subst e
    obtain ⟨o, e, c, d⟩ := st
    exact ⟨o, e, fun v z => by rw [d] at z; cases z⟩
  keep := fun i h h' st k => st.at fun o e => k it (by simp) o e
  item := by
    intro X hP hw hK hc i pins s σ H E I hf st hg
    subst hP hw hK
    obtain ⟨xs, x, hq, hx⟩ := hg
    obtain ⟨its, rv, p, hz⟩ := I.tuple hq
    obtain ⟨u, hu, ru⟩ := rv.get hx
    obtain ⟨f0, f1, f2, f3, f4, f5⟩ := hf it (by simp)
    refine wpAny_pyNext_tuple_item st (show s.heap.IsTuple a its.toArray from p) (x := u) (by simpa using hu) fun h' st' sb => ?_
    have I1 : Inv X pins σ H { s with heap := h' } := I.turned (t' := s.toks) (fun b o hb e => (sb.2 b hb).trans e) f0 f1 f3 f4 f5
    obtain ⟨o, e, c, d⟩ := id st'
    exact ⟨u, rfl, go_of (s := { s with heap := h' }) e c d (by decide) ⟨x, H, I1, ru, ⟨rfl, fun ys hy => by rw [I.tuple_inj hy hq]; exact hx⟩, st', fun b hb => (hf b hb).1⟩⟩
  done := by
    intro X hP hw hK hc i pins s σ H E I hf st hg
    subst hP hw hK
    obtain ⟨xs, hq, hx⟩ := hg
    obtain ⟨its, rv, p, hz⟩ := I.tuple hq
    obtain ⟨f0, f1, f2, f3, f4, f5⟩ := hf it (by simp)
    have hl := rv.length
    exact wpAny_pyNext_tuple_end (I.ok.hd hc) st (show s.heap.IsTuple a its.toArray from p) (by simp; omega) fun h' eb => ⟨rfl, I.turned (t' := s.toks) (fun b o hb e => eb b o hb e) f0 f1 f3 f4 f5⟩
  self := fun _ _ _ _ _ st h => wpAny_pyIter_tupleiter st h
theorem turn_range {P : Program} {w : World} {K : PySem.W.Frag} {tg : Expr} (it : Addr) (lo : Int) (n : Nat) : Turn P w K tg (Itr lo n) [it] it (fun i h => IsRangeIter h it (lo + (i : Nat) * 1) ((n : Int) - (i : Nat)) 1) where
  mem := by simp
  obj := fun i h st b hb => by
    have e : b = it := by simpa using hb
    subst e
    exact ⟨_, st, fun v z => by
      have z' : Data.fields _ = Data.cell v := z
      cases z'⟩
  keep := fun i h h' st k => k it (by simp) _ st
  item := by
    intro X hP hw hK hc i pins s σ H E I hf st hg
    subst hP hw hK
    obtain ⟨f0, f1, f2, f3, f4, f5⟩ := hf it (by simp)
    have W := Walks.range (prog := X.prog) (w := X.w) (I.ok.hd hc) it lo 1 n
    refine W.item i s _ _ hg st fun v h' tk hv st' kk => ?_
    obtain ⟨t, rfl⟩ := hv
    have I1 : Inv X pins σ H { s with heap := h', toks := tk } := I.turned (fun b o hb e => kk b o (by simpa using hb) e) f0 f1 f3 f4 f5
    refine ⟨_, rfl, go_of (s := { s with heap := h', toks := tk }) (n := "range_iterator") st' rfl rfl (by decide) ⟨.int (lo + i), H, I1, ⟨t, ?_⟩, ⟨rfl, rfl⟩, st', fun b hb => (hf b hb).1⟩⟩
    rw [Int.mul_one]
  done := by
    intro X hP hw hK hc i pins s σ H E I hf st hg
    subst hP hw hK
    obtain ⟨f0, f1, f2, f3, f4, f5⟩ := hf it (by simp)
    exact wpAny_pyNext_range_end (I.ok.hd hc) st (by have : n ≤ i := hg; omega) fun h' eb => ⟨rfl, I.turned (t' := s.toks) (fun b o hb e => eb b o hb e) f0 f1 f3 f4 f5⟩
  self := fun _ _ _ _ _ st h => wpAny_pyIter_rangeiter st h
end L2

namespace L2
open PySem PySem.Spec PyProof.Rows
section
variable {X : Cx} {tg : Expr}
def iList (K : PySem.W.Frag) (tl : TE) : TI := fun σ H R => tl σ H fun x H1 => ∃ a, x = .ref a ∧ (∃ xs, SqL K H1 a xs) ∧ R (Itl K a) H1
def iTup (K : PySem.W.Frag) (tl : TE) : TI := fun σ H R => tl σ H fun x H1 => ∃ a, x = .ref a ∧ (∃ xs, SqT K H1 a xs) ∧ R (Itt K a) H1
theorem pi_list {l : Expr} {tl : TE} (hl : PE X l tl) : PI X tg l (iList X.K tl) := by
  intro pins s σ H R I h
  refine thn (hl pins s σ H _ I h) fun v s1 ⟨x, H1, I1, r1, q1⟩ => ?_
  obtain ⟨a, e, ⟨xs, hq⟩, q⟩ := q1
  subst e
  cases r1
  obtain ⟨its, rv, p, hz⟩ := I1.list hq
  refine wpAny_pyIter_list p.isList ?_
  refine ⟨s1.heap.objs.size, [s1.heap.objs.size], _, _, H1, rfl, I1.kept (t' := s1.toks) fun b o e => Heap.get?_push_of_some _ e, turn_list a _, ⟨_, Heap.get?_push_size _ rfl, rfl, rfl⟩, fun b hb => ?_, q⟩
  have e : b = s1.heap.objs.size := by simpa using hb
  subst e
  exact I1.fpOk (Nat.le_refl _) (I1.hok.fresh (Nat.le_refl _))
theorem pi_tup {l : Expr} {tl : TE} (hl : PE X l tl) : PI X tg l (iTup X.K tl) := by
  intro pins s σ H R I h
  refine thn (hl pins s σ H _ I h) fun v s1 ⟨x, H1, I1, r1, q1⟩ => ?_
  obtain ⟨a, e, ⟨xs, hq⟩, q⟩ := q1
  subst e
  cases r1
  obtain ⟨its, rv, p, hz⟩ := I1.tuple hq
  refine wpAny_pyIter_tuple (show s1.heap.IsTuple a its.toArray from p) ?_
  refine ⟨s1.heap.objs.size, [s1.heap.objs.size], _, _, H1, rfl, I1.kept (t' := s1.toks) fun b o e => Heap.get?_push_of_some _ e, turn_tuple a _, ⟨_, Heap.get?_push_size _ rfl, rfl, rfl⟩, fun b hb => ?_, q⟩
  have e : b = s1.heap.objs.size := by simpa using hb
  subst e
  exact I1.fpOk (Nat.le_refl _) (I1.hok.fresh (Nat.le_refl _))
/-- a range object just made, walked -/
theorem range_it {pins : List (Addr × Obj)} {σ : St} {H : Hp} {s : Shared} {R : It → Hp → Prop} {E : Value → Shared → Prop} {lo hi : Int} {t u v : Tok} {tk : Nat} (I : Inv X pins σ H s) (h1 : -(2 ^ 62) ≤ lo) (h2 : lo < 2 ^ 62) (h3 : -(2 ^ 62) ≤ hi) (h4 : hi < 2 ^ 62)
    (q : R (Itr lo (hi - lo).toNat) H) : wpAny (model X.prog X.w) X.A (pyIter (.ref s.heap.objs.size)) (PIE X pins σ tg R) E { s with heap := s.heap.push { cls := .type "range", data := .fields #[.int lo t, .int hi u, .int 1 v] }, toks := tk } := by
  refine wpAny_pyIter_range (IsRange.new ..) (small_one h1 h2 h3 h4) ?_
  have I1 : Inv X pins σ H { s with heap := s.heap.push { cls := .type "range", data := .fields #[.int lo t, .int hi u, .int 1 v] }, toks := tk } := I.kept fun b o e => Heap.get?_push_of_some _ e
  refine ⟨(s.heap.push { cls := .type "range", data := .fields #[.int lo t, .int hi u, .int 1 v] }).objs.size, [(s.heap.push { cls := .type "range", data := .fields #[.int lo t, .int hi u, .int 1 v] }).objs.size], _, _, H, rfl,
    I1.kept (t' := tk) fun b o e => Heap.get?_push_of_some _ e, turn_range _ lo (hi - lo).toNat, ?_, fun b hb => ?_, q⟩
  · have e1 : lo + ((0 : Nat) : Int) * 1 = lo := by simp
    have e2 : (((hi - lo).toNat : Nat) : Int) - ((0 : Nat) : Int) = Builtin.Range.rangeSize lo hi 1 := by rw [rangeSize_one]; split <;> omega
    show IsRangeIter _ _ (lo + ((0 : Nat) : Int) * 1) ((((hi - lo).toNat : Nat) : Int) - ((0 : Nat) : Int)) 1
    rw [e1, e2]
    exact Heap.get?_push_size _ rfl
  · have e : b = (s.heap.push { cls := .type "range", data := .fields #[.int lo t, .int hi u, .int 1 v] }).objs.size := by simpa using hb
    subst e
    exact I1.fpOk (Nat.le_refl _) (I1.hok.fresh (Nat.le_refl _))
def iRng1 (ta : TA) : TI := fun σ H R => ta σ H fun vs H1 => ∃ j : Int, vs = [.int j] ∧ -(2 ^ 62) ≤ j ∧ j < 2 ^ 62 ∧ R (Itr 0 j.toNat) H1
def iRng2 (ta : TA) : TI := fun σ H R => ta σ H fun vs H1 => ∃ i j : Int, vs = [.int i, .int j] ∧ (-(2 ^ 62) ≤ i ∧ i < 2 ^ 62 ∧ -(2 ^ 62) ≤ j ∧ j < 2 ^ 62) ∧ R (Itr i (j - i).toNat) H1
theorem pi_range1 {a : Expr} {ta : TA} {p pos : Pos} (hg : Gl X "range") (hm : X.mg "range" = none) (ha : PA X [a] ta) (hs : starEach [a] X.env = [(false, eval a X.env)] := by rfl) : PI X tg (.Call (.Name "range" p) [a] [] pos) (iRng1 ta) := by
  intro pins s σ H R I h
  refine Call_ (ld_blt I hg hm boot_range (PyProof.Rows.callWith_type1 (thn (ha pos pins s σ H _ I h) fun us s1 ⟨vs, H1, I1, r1, q1⟩ => ?_) hs rfl))
  obtain ⟨j, e, q1, q2, q⟩ := q1
  subst e
  cases r1 with
  | cons r rr =>
    cases rr
    obtain ⟨t, rfl⟩ := r
    exact call_range_1 (range_it I1 (by omega) (by omega) q1 q2 (by simpa using q))
theorem pi_range2 {a b : Expr} {ta : TA} {p pos : Pos} (hg : Gl X "range") (hm : X.mg "range" = none) (ha : PA X [a, b] ta) (hs : starEach [a, b] X.env = [(false, eval a X.env), (false, eval b X.env)] := by rfl) (hs2 : starEach [b] X.env = [(false, eval b X.env)] := by rfl) :
    PI X tg (.Call (.Name "range" p) [a, b] [] pos) (iRng2 ta) := by
  intro pins s σ H R I h
  refine Call_ (ld_blt I hg hm boot_range (PyProof.Rows.callWith_type1 (thn (ha pos pins s σ H _ I h) fun us s1 ⟨vs, H1, I1, r1, q1⟩ => ?_) (by rw [hs, hs2]) (by rw [hs2]; rfl)))
  obtain ⟨i, j, e, ⟨q1, q2, q3, q4⟩, q⟩ := q1
  subst e
  cases r1 with
  | cons r rr =>
    cases rr with
    | cons r' rr =>
      cases rr
      obtain ⟨t, rfl⟩ := r
      obtain ⟨t', rfl⟩ := r'
      exact call_range_2 (range_it I1 q1 q2 q3 q4 q)

/-! ### for -/
/-- W: the invariant by the turn and a measure; N: what the body is to reach -/
def tFor (wi : TI) (g : TG) (tb : TS) : TS := fun D σ H => wi σ H fun J H1 => ∃ W : Nat → Nat → St → Hp → Prop, (∃ m, W 0 m σ H1) ∧ ∀ i m σ H, W i m σ H →
  (J.stop i H ∧ D.nx σ H) ∨ (J.go i H ∧ ∃ N : St → Hp → Prop, (∀ σ' H', N σ' H' → ∃ m', m' < m ∧ W (i + 1) m' σ' H') ∧ ∀ x H', J.yld i H x H' → g x σ H' fun σ2 H2 => tb { D with nx := N, ct := N, bk := D.nx } σ2 H2)
/-- the records at fp as they stand -/
def pinsAt (fp : List Addr) (h : Heap) : List (Addr × Obj) := fp.filterMap fun b => (h.get? b).map fun o => (b, o)
theorem mem_pinsAt {fp : List Addr} {h : Heap} {b : Addr} {o : Obj} (hb : b ∈ fp) (e : h.get? b = some o) : (b, o) ∈ pinsAt fp h := List.mem_filterMap.mpr ⟨b, hb, by rw [e]; rfl⟩
theorem of_pinsAt {fp : List Addr} {h : Heap} {p : Addr × Obj} (hp : p ∈ pinsAt fp h) : p.1 ∈ fp ∧ h.get? p.1 = some p.2 := by
  obtain ⟨b, hb, e⟩ := List.mem_filterMap.mp hp
  cases q : h.get? b with
  | none => rw [q] at e; cases e
  | some o =>
    rw [q] at e
    have e' : (b, o) = p := Option.some.inj e
    subst e'
    exact ⟨hb, q⟩
theorem Inv.pinned {pins : List (Addr × Obj)} {σ : St} {H : Hp} {s : Shared} {fp : List Addr} (I : Inv X pins σ H s) (hf : ∀ b ∈ fp, FpOk X pins H b) (ho : ∀ b ∈ fp, ∃ o, s.heap.get? b = some o ∧ ∀ v, o.data ≠ .cell v) : Inv X (pins ++ pinsAt fp s.heap) σ H s :=
  I.pins_of fun p hp => (List.mem_append.mp hp).elim (fun z => I.pin p (List.mem_append_right _ z)) fun z => by
    obtain ⟨hb, e⟩ := of_pinsAt z
    obtain ⟨f0, f1, f2, _⟩ := hf p.1 hb
    obtain ⟨o, e', d⟩ := ho p.1 hb
    rw [e] at e'; cases e'
    exact ⟨e, f0, f1, f2, d⟩
theorem Inv.unpinned {pins pl : List (Addr × Obj)} {σ : St} {H : Hp} {s : Shared} (I : Inv X (pins ++ pl) σ H s) : Inv X pins σ H s := I.pins_of fun p hp => I.pin p (List.mem_append_right _ (List.mem_append_left _ hp))
theorem ps_for {iter : Expr} {body : List Stmt} {wi : TI} {g : TG} {tb : TS} {pos : Pos} (hp : PassesOwn (model X.prog X.w) X.A X.env X.xe) (hc : X.calm = true) (hi : PI X tg iter wi) (hg : PG X tg g) (hb : PSs X body tb)
    (hs : ∀ x, foldedSetIterable iter X.env x = pure x := by intro _; rfl) : PS X (.For tg iter body [] pos) (tFor wi g tb) := by
  intro pins s σ H D I h
  refine wpAny_For (thn (hi pins s σ H _ I h) fun v s1 h1 => thn h1 fun itv s2 h2 => ?_) hs
  obtain ⟨it, fp, tn, J, H2, e, I2, T, st2, f2, W, ⟨m0, w0⟩, turn⟩ := h2
  subst e
  -- what stays true of the iterator's objects through the loop
  have stat : ∀ {H' : Hp}, (∀ b ∈ fp, H' b = none) → ∀ b ∈ fp, FpOk X pins H' b := fun hn b hb => ⟨hn b hb, (f2 b hb).2⟩
  refine codeAny_forLoop_any (fun n s' => ∃ i σ' H', Inv X pins σ' H' s' ∧ tn i s'.heap ∧ (∀ b ∈ fp, H' b = none) ∧ W i n σ' H') ?_ m0 ⟨0, σ, H2, I2, st2, fun b hb => (f2 b hb).1, w0⟩
  rintro n s3 ⟨i, σ3, H3, I3, st3, fr3, w3⟩
  rcases turn i n σ3 H3 w3 with ⟨stop, qn⟩ | ⟨go, N, hN, step⟩
  · refine wpAny_passesOwn hp (thn (T.done X rfl rfl rfl hc i pins s3 σ3 H3 X.xe I3 (stat fr3) st3 stop) fun r s4 ⟨hr, I4⟩ => ?_)
    subst hr
    exact wpAny_execs_nil ⟨σ3, H3, I4, qn⟩
  · refine wpAny_passesOwn hp (thn (T.item X rfl rfl rfl hc i pins s3 σ3 H3 X.xe I3 (stat fr3) st3 go) fun r s4 ⟨u, hr, h4⟩ => ?_)
    subst hr
    refine wpAny_passesOwn hp (thn h4 fun _ s5 ⟨x, H5, I5, r5, y5, st5, fr5⟩ => ?_)
    have I5' := I5.pinned (stat fr5) (T.obj _ _ st5)
    refine wpAny_passesOwn hp (thn (hg _ s5 σ3 H5 x u _ I5' r5 (step x H5 y5)) fun _ s6 ⟨σ6, H6, I6, q6⟩ => ?_)
    refine wpAny_passesOwn hp (thn (hb _ s6 σ6 H6 _ I6 q6) fun f s7 q7 => ?_)
    have again : ∀ {σ7 : St} {H7 : Hp}, Inv X (pins ++ pinsAt fp s5.heap) σ7 H7 s7 → N σ7 H7 → ∃ m, m < n ∧ ∃ i σ' H', Inv X pins σ' H' s7 ∧ tn i s7.heap ∧ (∀ b ∈ fp, H' b = none) ∧ W i m σ' H' := fun {σ7 H7} I7 n7 => by
      obtain ⟨m', hm, w7⟩ := hN σ7 H7 n7
      refine ⟨m', hm, i + 1, σ7, H7, I7.unpinned, T.keep _ _ _ st5 fun b hb o e => (I7.pin (b, o) (List.mem_append_right _ (List.mem_append_right _ (mem_pinsAt hb e)))).1, fun b hb => ?_, w7⟩
      obtain ⟨o, e, d⟩ := T.obj _ _ st5 b hb
      exact (I7.pin (b, o) (List.mem_append_right _ (List.mem_append_right _ (mem_pinsAt hb e)))).2.1
    cases f with
    | next => obtain ⟨σ7, H7, I7, n7⟩ := q7; exact again I7 n7
    | cont => obtain ⟨σ7, H7, I7, n7⟩ := q7; exact again I7 n7
    | brk => obtain ⟨σ7, H7, I7, q7⟩ := q7; exact ⟨σ7, H7, I7.unpinned, q7⟩
    | ret v => obtain ⟨x7, σ7, H7, I7, r7, q7⟩ := q7; exact ⟨x7, σ7, H7, I7.unpinned, r7, q7⟩
end

/-! ### the forms one uses -/
/-- over a list that the body leaves as it is -/
theorem for_list {K : PySem.W.Frag} {a : Addr} {xs : List V} {g : TG} {tb : TS} {D : Ends} {σ : St} {H : Hp} (Pv : Nat → St → Hp → Prop) (h0 : Pv 0 σ H) (hl : ∀ i σ H, i ≤ xs.length → Pv i σ H → SqL K H a xs)
    (hs : ∀ i x σ H, xs[i]? = some x → Pv i σ H → g x σ H fun σ2 H2 => tb { D with nx := Pv (i + 1), ct := Pv (i + 1), bk := D.nx } σ2 H2) (hd : ∀ σ H, Pv xs.length σ H → D.nx σ H) :
    ∃ W : Nat → Nat → St → Hp → Prop, (∃ m, W 0 m σ H) ∧ ∀ i m σ H, W i m σ H →
      ((Itl K a).stop i H ∧ D.nx σ H) ∨ ((Itl K a).go i H ∧ ∃ N : St → Hp → Prop, (∀ σ' H', N σ' H' → ∃ m', m' < m ∧ W (i + 1) m' σ' H') ∧ ∀ x H', (Itl K a).yld i H x H' → g x σ H' fun σ2 H2 => tb { D with nx := N, ct := N, bk := D.nx } σ2 H2) := by
  refine ⟨fun i m σ H => m = xs.length - i ∧ i ≤ xs.length ∧ Pv i σ H, ⟨xs.length, by simp, Nat.zero_le _, h0⟩, ?_⟩
  rintro i m σ H ⟨rfl, hi, p⟩
  have q := hl i σ H hi p
  by_cases hlt : i < xs.length
  · refine .inr ⟨⟨xs, xs[i], q, by simp [hlt]⟩, Pv (i + 1), fun σ' H' p' => ⟨xs.length - (i + 1), by omega, rfl, hlt, p'⟩, fun x H' y => ?_⟩
    obtain ⟨e, y⟩ := y
    subst e
    exact hs i x σ _ (y xs q) p
  · have e : i = xs.length := by omega
    subst e
    exact .inl ⟨⟨xs, q, Nat.le_refl _⟩, hd σ H p⟩
theorem for_tup {K : PySem.W.Frag} {a : Addr} {xs : List V} {g : TG} {tb : TS} {D : Ends} {σ : St} {H : Hp} (Pv : Nat → St → Hp → Prop) (h0 : Pv 0 σ H) (hl : ∀ i σ H, i ≤ xs.length → Pv i σ H → SqT K H a xs)
    (hs : ∀ i x σ H, xs[i]? = some x → Pv i σ H → g x σ H fun σ2 H2 => tb { D with nx := Pv (i + 1), ct := Pv (i + 1), bk := D.nx } σ2 H2) (hd : ∀ σ H, Pv xs.length σ H → D.nx σ H) :
    ∃ W : Nat → Nat → St → Hp → Prop, (∃ m, W 0 m σ H) ∧ ∀ i m σ H, W i m σ H →
      ((Itt K a).stop i H ∧ D.nx σ H) ∨ ((Itt K a).go i H ∧ ∃ N : St → Hp → Prop, (∀ σ' H', N σ' H' → ∃ m', m' < m ∧ W (i + 1) m' σ' H') ∧ ∀ x H', (Itt K a).yld i H x H' → g x σ H' fun σ2 H2 => tb { D with nx := N, ct := N, bk := D.nx } σ2 H2) := by
  refine ⟨fun i m σ H => m = xs.length - i ∧ i ≤ xs.length ∧ Pv i σ H, ⟨xs.length, by simp, Nat.zero_le _, h0⟩, ?_⟩
  rintro i m σ H ⟨rfl, hi, p⟩
  have q := hl i σ H hi p
  by_cases hlt : i < xs.length
  · refine .inr ⟨⟨xs, xs[i], q, by simp [hlt]⟩, Pv (i + 1), fun σ' H' p' => ⟨xs.length - (i + 1), by omega, rfl, hlt, p'⟩, fun x H' y => ?_⟩
    obtain ⟨e, y⟩ := y
    subst e
    exact hs i x σ _ (y xs q) p
  · have e : i = xs.length := by omega
    subst e
    exact .inl ⟨⟨xs, q, Nat.le_refl _⟩, hd σ H p⟩
theorem for_range {lo : Int} {n : Nat} {g : TG} {tb : TS} {D : Ends} {σ : St} {H : Hp} (Pv : Nat → St → Hp → Prop) (h0 : Pv 0 σ H)
    (hs : ∀ i σ H, i < n → Pv i σ H → g (.int (lo + i)) σ H fun σ2 H2 => tb { D with nx := Pv (i + 1), ct := Pv (i + 1), bk := D.nx } σ2 H2) (hd : ∀ σ H, Pv n σ H → D.nx σ H) :
    ∃ W : Nat → Nat → St → Hp → Prop, (∃ m, W 0 m σ H) ∧ ∀ i m σ H, W i m σ H →
      ((Itr lo n).stop i H ∧ D.nx σ H) ∨ ((Itr lo n).go i H ∧ ∃ N : St → Hp → Prop, (∀ σ' H', N σ' H' → ∃ m', m' < m ∧ W (i + 1) m' σ' H') ∧ ∀ x H', (Itr lo n).yld i H x H' → g x σ H' fun σ2 H2 => tb { D with nx := N, ct := N, bk := D.nx } σ2 H2) := by
  refine ⟨fun i m σ H => m = n - i ∧ i ≤ n ∧ Pv i σ H, ⟨n, by simp, Nat.zero_le _, h0⟩, ?_⟩
  rintro i m σ H ⟨rfl, hi, p⟩
  by_cases hlt : i < n
  · refine .inr ⟨hlt, Pv (i + 1), fun σ' H' p' => ⟨n - (i + 1), by omega, rfl, hlt, p'⟩, fun x H' y => ?_⟩
    obtain ⟨e, y⟩ := y
    subst e y
    exact hs i σ _ hlt p
  · have e : i = n := by omega
    subst e
    exact .inl ⟨Nat.le_refl _, hd σ H p⟩
/-- while, by a word and a measure of the state -/
theorem while_by {c : TT} {tb : TS} {D : Ends} {σ : St} {H : Hp} (Pv : St → Hp → Prop) (μ : St → Hp → Nat) (h0 : Pv σ H)
    (hs : ∀ σ H, Pv σ H → c σ H fun b H1 => if b = true then tb { D with nx := fun σ' H' => Pv σ' H' ∧ μ σ' H' < μ σ H, ct := fun σ' H' => Pv σ' H' ∧ μ σ' H' < μ σ H, bk := D.nx } σ H1 else D.nx σ H1)
    (mono : ∀ σ H Q Q', (∀ b H1, Q b H1 → Q' b H1) → c σ H Q → c σ H Q') : tWhile c tb D σ H := by
  refine ⟨fun m σ H => m = μ σ H ∧ Pv σ H, ⟨_, rfl, h0⟩, ?_⟩
  rintro m σ H ⟨rfl, p⟩
  refine mono σ H _ _ (fun b H1 q => ?_) (hs σ H p)
  cases b with
  | true => exact ⟨_, fun σ' H' ⟨p', l⟩ => ⟨_, l, rfl, p'⟩, q⟩
  | false => exact q
end L2

namespace L2
open PySem PySem.Spec PyProof.Rows

abbrev R2 := V → V → Hp → VK → Prop
/-- a two-place operation on values: f is binaryOp op, inplaceOp op or compareOp op -/
def OpR (X : Cx) (f : Value → Value → Sem Value) (r : R2) : Prop :=
  ∀ (pins : List (Addr × Obj)) (s : Shared) (σ : St) (H : Hp) (x y : V) (v u : Value) (Q : VK), Inv X pins σ H s → RelV x v → RelV y u → r x y H Q →
    wpAny (model X.prog X.w) X.A (f v u) (EP X pins σ Q) X.xe s
/-- a one-place operation -/
def UnR (X : Cx) (f : Value → Sem Value) (r : V → Hp → VK → Prop) : Prop :=
  ∀ (pins : List (Addr × Obj)) (s : Shared) (σ : St) (H : Hp) (x : V) (v : Value) (Q : VK), Inv X pins σ H s → RelV x v → r x H Q →
    wpAny (model X.prog X.w) X.A (f v) (EP X pins σ Q) X.xe s
/-- a call of a value that is known (a builtin, a type) with values -/
def CallR (X : Cx) (f : Value) (r : List V → Hp → VK → Prop) : Prop :=
  ∀ (pins : List (Addr × Obj)) (s : Shared) (σ : St) (H : Hp) (xs : List V) (us : List Value) (Q : VK), Inv X pins σ H s → Vals xs us → r xs H Q →
    wpAny (model X.prog X.w) X.A (call f us) (EP X pins σ Q) X.xe s
/-- a value's truth -/
def TruR (X : Cx) (r : V → Hp → (Bool → Hp → Prop) → Prop) : Prop :=
  ∀ (pins : List (Addr × Obj)) (s : Shared) (σ : St) (H : Hp) (x : V) (v : Value) (Q : Bool → Hp → Prop), Inv X pins σ H s → RelV x v → r x H Q →
    wpAny (model X.prog X.w) X.A (truthy v) (TP X pins σ Q) X.xe s

def tOp (r : R2) (ta tb : TE) : TE := fun σ H Q => ta σ H fun x H1 => tb σ H1 fun y H2 => r x y H2 Q
def tUn (r : V → Hp → VK → Prop) (ta : TE) : TE := fun σ H Q => ta σ H fun x H1 => r x H1 Q
/-- ints in, under C, and a value out -/
def rI (C : Int → Int → Prop) (g : Int → Int → V) : R2 := fun x y H Q => ∃ i j, x = .int i ∧ y = .int j ∧ C i j ∧ Q (g i j) H
def rI0 (g : Int → Int → V) : R2 := fun x y H Q => ∃ i j, x = .int i ∧ y = .int j ∧ Q (g i j) H
def rU (g : Int → V) : V → Hp → VK → Prop := fun x H Q => ∃ i, x = .int i ∧ Q (g i) H

section
variable {X : Cx} {a b c : Expr} {ta tb tc : TE} {pos : Pos}

theorem binT (ha : PE X a ta) (hb : PE X b tb) {pins : List (Addr × Obj)} {s : Shared} {σ : St} {H : Hp} {R : V → V → Hp → Prop} (I : Inv X pins σ H s)
    (h : ta σ H fun x H1 => tb σ H1 fun y H2 => R x y H2) {Q : Value → Shared → Prop} {f : Value → Value → Sem Value}
    (hf : ∀ v u s2 x y H2, Inv X pins σ H2 s2 → RelV x v → RelV y u → R x y H2 → wpAny (model X.prog X.w) X.A (f v u) Q X.xe s2) :
    wpAny (model X.prog X.w) X.A (eval a X.env) (fun v s₁ => wpAny (model X.prog X.w) X.A (eval b X.env) (fun u s₂ => wpAny (model X.prog X.w) X.A (f v u) Q X.xe s₂) X.xe s₁) X.xe s := by
  refine thn (ha pins s σ H _ I h) fun v s1 ⟨x, H1, I1, r1, q1⟩ => ?_
  refine thn (hb pins s1 σ H1 _ I1 q1) fun u s2 ⟨y, H2, I2, r2, q2⟩ => ?_
  exact hf v u s2 x y H2 I2 r1 r2 q2

theorem pe_op {op : Operator} {r : R2} (ho : OpR X (binaryOp op) r) (ha : PE X a ta) (hb : PE X b tb) : PE X (.BinOp a op b pos) (tOp r ta tb) := by
  intro pins s σ H Q I h
  exact wpAny_BinOp (binT ha hb I h fun v u s2 x y H2 I2 rx ry q => ho pins s2 σ H2 x y v u Q I2 rx ry q)
theorem pe_un {op : UnaryOp} {r : V → Hp → VK → Prop} (ho : UnR X (unaryOp op) r) (ha : PE X a ta) : PE X (.UnaryOp op a pos) (tUn r ta) := by
  intro pins s σ H Q I h
  exact UnaryOp_ (thn (ha pins s σ H _ I h) fun v s1 ⟨x, H1, I1, r1, q1⟩ => ho pins s1 σ H1 x v Q I1 r1 q1)
/-- a op= e at a name: the name's slot i -/
theorem augR {op : Operator} {r : R2} (ho : OpR X (inplaceOp op) r) {pins : List (Addr × Obj)} {s : Shared} {σ : St} {H : Hp} {x y : V} {v u : Value} {Q : VK} (I : Inv X pins σ H s)
    (rx : RelV x v) (ry : RelV y u) (q : r x y H Q) : wpAny (model X.prog X.w) X.A (inplaceOp op v u) (EP X pins σ Q) X.xe s := ho pins s σ H x y v u Q I rx ry q

/-! ### ints -/
theorem opI {f : Value → Value → Sem Value} {C : Int → Int → Prop} {g : Int → Int → Int}
    (rule : ∀ (i j : Int) (t u : Tok) (s : Shared) (Q : Value → Shared → Prop) (E : Value → Shared → Prop), C i j → Q (.int (g i j) s.toks) { s with toks := s.toks + 1 } → wpAny (model X.prog X.w) X.A (f (.int i t) (.int j u)) Q E s) :
    OpR X f (rI C fun i j => .int (g i j)) := by
  intro pins s σ H x y v u Q I rx ry h
  obtain ⟨i, j, rfl, rfl, hc, q⟩ := h
  obtain ⟨t, rfl⟩ := rx
  obtain ⟨t', rfl⟩ := ry
  exact rule i j t t' s _ _ hc ⟨.int (g i j), H, I.tok _, ⟨_, rfl⟩, q⟩
theorem opI0 {f : Value → Value → Sem Value} {g : Int → Int → Int}
    (rule : ∀ (i j : Int) (t u : Tok) (s : Shared) (Q : Value → Shared → Prop) (E : Value → Shared → Prop), Q (.int (g i j) s.toks) { s with toks := s.toks + 1 } → wpAny (model X.prog X.w) X.A (f (.int i t) (.int j u)) Q E s) :
    OpR X f (rI0 fun i j => .int (g i j)) := by
  intro pins s σ H x y v u Q I rx ry h
  obtain ⟨i, j, rfl, rfl, q⟩ := h
  obtain ⟨t, rfl⟩ := rx
  obtain ⟨t', rfl⟩ := ry
  exact rule i j t t' s _ _ ⟨.int (g i j), H, I.tok _, ⟨_, rfl⟩, q⟩
theorem opB0 {f : Value → Value → Sem Value} {g : Int → Int → Bool}
    (rule : ∀ (i j : Int) (t u : Tok) (s : Shared) (Q : Value → Shared → Prop) (E : Value → Shared → Prop), Q (.bool (g i j)) s → wpAny (model X.prog X.w) X.A (f (.int i t) (.int j u)) Q E s) :
    OpR X f (rI0 fun i j => .bl (g i j)) := by
  intro pins s σ H x y v u Q I rx ry h
  obtain ⟨i, j, rfl, rfl, q⟩ := h
  obtain ⟨t, rfl⟩ := rx
  obtain ⟨t', rfl⟩ := ry
  exact rule i j t t' s _ _ ⟨.bl (g i j), H, I, rfl, q⟩

def CDiv (i j : Int) : Prop := 0 < j ∧ j < 1073741824
def CDivN (i j : Int) : Prop := j ≠ 0 ∧ j.natAbs < 1073741824
def CPow (i j : Int) : Prop := 0 ≤ j ∧ j ≤ 1000000 ∧ i.natAbs < 2 ^ 64
def CMul (i j : Int) : Prop := (-(2 ^ 64) < i ∧ i < 2 ^ 64) ∨ (-(2 ^ 64) < j ∧ j < 2 ^ 64)
theorem CMul.ok {i j : Int} (h : CMul i j) : IntMulOk i j := by
  rcases h with ⟨h1, h2⟩ | ⟨h1, h2⟩
  · exact .of_left (intBits_le_64 h1 h2)
  · exact .of_right (intBits_le_64 h1 h2)
theorem two_pow_nn (k : Nat) : (0 : Int) ≤ 2 ^ k := by
  rw [two_pow_cast]
  exact Int.natCast_nonneg _

theorem op_add : OpR X (binaryOp .Add) (rI0 fun i j => .int (i + j)) := opI0 fun _ _ _ _ _ _ _ q => add_int q
theorem op_sub : OpR X (binaryOp .Sub) (rI0 fun i j => .int (i - j)) := opI0 fun _ _ _ _ _ _ _ q => sub_int q
theorem op_mul : OpR X (binaryOp .Mult) (rI CMul fun i j => .int (i * j)) := opI fun _ _ _ _ _ _ _ hc q => mul_int q hc.ok
/-- // by a positive divisor -/
theorem op_fdiv : OpR X (binaryOp .FloorDiv) (rI CDiv fun i j => .int (i / j)) := opI fun i j _ _ _ _ _ hc q => by
  have h1 : (0 : Int) < j := hc.1
  have h2 : j < 1073741824 := hc.2
  exact floordiv_int (by omega) (by rw [Int.fdiv_eq_ediv_of_nonneg i (by omega)]; exact q) (.inl (PyProof.noPylong_small (by omega)))
theorem op_fdivN : OpR X (binaryOp .FloorDiv) (rI CDivN fun i j => .int (i.fdiv j)) := opI fun _ _ _ _ _ _ _ hc q => floordiv_int hc.1 q (.inl (PyProof.noPylong_small hc.2))
/-- % by a positive divisor of any size -/
theorem op_mod : OpR X (binaryOp .Mod) (rI (fun _ j => 0 < j) fun i j => .int (i % j)) := opI fun i j _ _ _ _ _ hc q => by
  have h1 : (0 : Int) < j := hc
  exact mod_int' (by omega) (by rw [Int.fmod_eq_emod_of_nonneg i (by omega)]; exact q)
theorem op_modN : OpR X (binaryOp .Mod) (rI (fun _ j => j ≠ 0) fun i j => .int (i.fmod j)) := opI fun _ _ _ _ _ _ _ hc q => mod_int' hc q
theorem op_pow : OpR X (binaryOp .Pow) (rI CPow fun i j => .int (i ^ j.toNat)) := opI fun _ _ _ _ _ _ _ hc q => pow_int_small hc.1 hc.2.1 hc.2.2 q
theorem op_shl : OpR X (binaryOp .LShift) (rI CPow fun i j => .int (i * 2 ^ j.toNat)) := opI fun _ _ _ _ _ _ _ hc q => lshift_int_small hc.1 hc.2.1 hc.2.2 q
theorem op_shr : OpR X (binaryOp .RShift) (rI (fun _ j => 0 ≤ j) fun i j => .int (i / 2 ^ j.toNat)) := opI fun i j _ _ _ _ _ hc q =>
  rshift_int hc (by rw [Int.fdiv_eq_ediv_of_nonneg i (two_pow_nn _)]; exact q)
theorem op_and : OpR X (binaryOp .BitAnd) (rI0 fun i j => .int (Builtin.bitAnd i j)) := opI0 fun _ _ _ _ _ _ _ q => and_int q
theorem op_or : OpR X (binaryOp .BitOr) (rI0 fun i j => .int (Builtin.bitOr i j)) := opI0 fun _ _ _ _ _ _ _ q => or_int q
theorem op_xor : OpR X (binaryOp .BitXor) (rI0 fun i j => .int (Builtin.bitXor i j)) := opI0 fun _ _ _ _ _ _ _ q => xor_int q

theorem iop_add : OpR X (inplaceOp .Add) (rI0 fun i j => .int (i + j)) := opI0 fun _ _ _ _ _ _ _ q => iadd_int q
theorem iop_sub : OpR X (inplaceOp .Sub) (rI0 fun i j => .int (i - j)) := opI0 fun _ _ _ _ _ _ _ q => isub_int q
theorem iop_mul : OpR X (inplaceOp .Mult) (rI CMul fun i j => .int (i * j)) := opI fun _ _ _ _ _ _ _ hc q => imul_int q hc.ok
theorem iop_fdiv : OpR X (inplaceOp .FloorDiv) (rI CDiv fun i j => .int (i / j)) := opI fun i j _ _ _ _ _ hc q => by
  have h1 : (0 : Int) < j := hc.1
  have h2 : j < 1073741824 := hc.2
  exact ifloordiv_int (by omega) (by rw [Int.fdiv_eq_ediv_of_nonneg i (by omega)]; exact q) (.inl (PyProof.noPylong_small (by omega)))
theorem iop_mod : OpR X (inplaceOp .Mod) (rI (fun _ j => 0 < j) fun i j => .int (i % j)) := opI fun i j _ _ _ _ _ hc q => by
  have h1 : (0 : Int) < j := hc
  exact imod_int (by omega) (by rw [Int.fmod_eq_emod_of_nonneg i (by omega)]; exact q)
theorem iop_shl : OpR X (inplaceOp .LShift) (rI CPow fun i j => .int (i * 2 ^ j.toNat)) := opI fun _ _ _ _ _ _ _ hc q => ilshift_int_small hc.1 hc.2.1 hc.2.2 q
theorem iop_shr : OpR X (inplaceOp .RShift) (rI (fun _ j => 0 ≤ j) fun i j => .int (i / 2 ^ j.toNat)) := opI fun i j _ _ _ _ _ hc q =>
  irshift_int hc (by rw [Int.fdiv_eq_ediv_of_nonneg i (two_pow_nn _)]; exact q)
theorem iop_and : OpR X (inplaceOp .BitAnd) (rI0 fun i j => .int (Builtin.bitAnd i j)) := opI0 fun _ _ _ _ _ _ _ q => iand_int q
theorem iop_or : OpR X (inplaceOp .BitOr) (rI0 fun i j => .int (Builtin.bitOr i j)) := opI0 fun _ _ _ _ _ _ _ q => ior_int q
theorem iop_xor : OpR X (inplaceOp .BitXor) (rI0 fun i j => .int (Builtin.bitXor i j)) := opI0 fun _ _ _ _ _ _ _ q => ixor_int q

theorem unI {f : Value → Sem Value} {g : Int → Int}
    (rule : ∀ (i : Int) (t : Tok) (s : Shared) (Q : Value → Shared → Prop) (E : Value → Shared → Prop), Q (.int (g i) s.toks) { s with toks := s.toks + 1 } → wpAny (model X.prog X.w) X.A (f (.int i t)) Q E s) :
    UnR X f (rU fun i => .int (g i)) := by
  intro pins s σ H x v Q I rx h
  obtain ⟨i, rfl, q⟩ := h
  obtain ⟨t, rfl⟩ := rx
  exact rule i t s _ _ ⟨.int (g i), H, I.tok _, ⟨_, rfl⟩, q⟩
theorem un_neg : UnR X (unaryOp .USub) (rU fun i => .int (-i)) := unI fun _ _ _ _ _ q => neg_int q
theorem un_inv : UnR X (unaryOp .Invert) (rU fun i => .int (Builtin.bitNot i)) := unI fun _ _ _ _ _ q => invert_int q

/-! ### bools among ints: n += (a < b) -/
theorem op_add_ib : OpR X (binaryOp .Add) (fun x y H Q => ∃ i k, x = .int i ∧ y = .bl k ∧ Q (.int (i + b2i k)) H) := by
  intro pins s σ H x y v u Q I rx ry h
  obtain ⟨i, k, rfl, rfl, q⟩ := h
  obtain ⟨t, rfl⟩ := rx
  cases ry
  exact add_int_bool ⟨.int (i + b2i k), H, I.tok _, ⟨_, rfl⟩, q⟩
end

/-! ### comparisons -/
/-- the scalars that == tells apart as data does -/
def scal : V → V → Bool
  | .non, .non => true | .non, .int _ => true | .int _, .non => true | .non, .bl _ => true | .bl _, .non => true | .non, .str _ => true | .str _, .non => true
  | .int _, .int _ => true | .bl _, .bl _ => true | .str _, .str _ => true | .byt _, .byt _ => true
  | .int _, .str _ => true | .str _, .int _ => true | .bl _, .str _ => true | .str _, .bl _ => true
  | _, _ => false
def rEq : R2 := fun x y H Q => scal x y = true ∧ Q (.bl (decide (x = y))) H
def rNe : R2 := fun x y H Q => scal x y = true ∧ Q (.bl (!decide (x = y))) H

theorem dec_int {i j : Int} : decide (V.int i = V.int j) = (i == j) := by
  rw [Bool.eq_iff_iff]
  simp
theorem dec_bl {i j : Bool} : decide (V.bl i = V.bl j) = (i == j) := by
  rw [Bool.eq_iff_iff]
  simp
theorem dec_str {i j : Str} : decide (V.str i = V.str j) = (i == j) := by
  rw [Bool.eq_iff_iff]
  simp
theorem dec_byt {i j : Array UInt8} : decide (V.byt i = V.byt j) = (i.toList == j.toList) := by
  rw [Bool.eq_iff_iff]
  cases i
  cases j
  simp

section
variable {X : Cx} {a b c : Expr} {ta tb tc : TE} {pos : Pos}
theorem fin_bl {pins : List (Addr × Obj)} {σ : St} {H : Hp} {s : Shared} {Q : VK} {k k' : Bool} (I : Inv X pins σ H s) (q : Q (.bl k) H) (e : k = k') : EP X pins σ Q (.bool k') s := by
  subst e
  exact ⟨.bl k, H, I, rfl, q⟩
theorem op_eq : OpR X (compareOp .Eq) rEq := by
  intro pins s σ H x y v u Q I rx ry h
  obtain ⟨hs, q⟩ := h
  cases x with
  | non =>
    cases rx
    cases y with
    | non => cases ry; exact PySem.EqNone.eq_none_none (fin_bl I q (by simp))
    | bl j => cases ry; exact PySem.EqNone.eq_none_bool (fin_bl I q (by simp))
    | int j => obtain ⟨t', rfl⟩ := ry; exact PySem.EqNone.eq_none_int (fin_bl I q (by simp))
    | str j => obtain ⟨t', rfl⟩ := ry; exact PySem.EqNone.eq_none_str (fin_bl I q (by simp))
    | _ => exact absurd (show false = true from hs) Bool.false_ne_true
  | bl i =>
    cases rx
    cases y with
    | non => cases ry; exact PySem.EqNone.eq_bool_none (fin_bl I q (by simp))
    | bl j => cases ry; exact eq_bool (fin_bl I q dec_bl)
    | str j => obtain ⟨t', rfl⟩ := ry; exact PySem.EqMixed.eq_bool_str (fin_bl I q (by simp))
    | _ => exact absurd (show false = true from hs) Bool.false_ne_true
  | int i =>
    obtain ⟨t, rfl⟩ := rx
    cases y with
    | non => cases ry; exact PySem.EqNone.eq_int_none (fin_bl I q (by simp))
    | int j => obtain ⟨t', rfl⟩ := ry; exact eq_int (fin_bl I q dec_int)
    | str j => obtain ⟨t', rfl⟩ := ry; exact PySem.EqMixed.eq_int_str (fin_bl I q (by simp))
    | _ => exact absurd (show false = true from hs) Bool.false_ne_true
  | str i =>
    obtain ⟨t, rfl⟩ := rx
    cases y with
    | non => cases ry; exact PySem.EqNone.eq_str_none (fin_bl I q (by simp))
    | bl j => cases ry; exact PySem.EqMixed.eq_str_bool (fin_bl I q (by simp))
    | int j => obtain ⟨t', rfl⟩ := ry; exact PySem.EqMixed.eq_str_int (fin_bl I q (by simp))
    | str j => obtain ⟨t', rfl⟩ := ry; exact eq_str (fin_bl I q dec_str)
    | _ => exact absurd (show false = true from hs) Bool.false_ne_true
  | byt i =>
    obtain ⟨t, rfl⟩ := rx
    cases y with
    | byt j => obtain ⟨t', rfl⟩ := ry; exact PySem.W.eq_bytes (fin_bl I q dec_byt)
    | _ => exact absurd (show false = true from hs) Bool.false_ne_true
  | _ => cases y <;> exact absurd (show false = true from hs) Bool.false_ne_true
theorem op_ne : OpR X (compareOp .NotEq) rNe := by
  intro pins s σ H x y v u Q I rx ry h
  obtain ⟨hs, q⟩ := h
  cases x with
  | non =>
    cases rx
    cases y with
    | non => cases ry; exact PySem.EqNone.ne_none_none (fin_bl I q (by simp))
    | bl j => cases ry; exact PySem.EqNone.ne_none_bool (fin_bl I q (by simp))
    | int j => obtain ⟨t', rfl⟩ := ry; exact PySem.EqNone.ne_none_int (fin_bl I q (by simp))
    | str j => obtain ⟨t', rfl⟩ := ry; exact PySem.EqNone.ne_none_str (fin_bl I q (by simp))
    | _ => exact absurd (show false = true from hs) Bool.false_ne_true
  | bl i =>
    cases rx
    cases y with
    | non => cases ry; exact PySem.EqNone.ne_bool_none (fin_bl I q (by simp))
    | bl j => cases ry; exact ne_bool (fin_bl I q (congrArg not dec_bl))
    | str j => obtain ⟨t', rfl⟩ := ry; exact PySem.EqMixed.ne_bool_str (fin_bl I q (by simp))
    | _ => exact absurd (show false = true from hs) Bool.false_ne_true
  | int i =>
    obtain ⟨t, rfl⟩ := rx
    cases y with
    | non => cases ry; exact PySem.EqNone.ne_int_none (fin_bl I q (by simp))
    | int j => obtain ⟨t', rfl⟩ := ry; exact ne_int (fin_bl I q (congrArg not dec_int))
    | str j => obtain ⟨t', rfl⟩ := ry; exact PySem.EqMixed.ne_int_str (fin_bl I q (by simp))
    | _ => exact absurd (show false = true from hs) Bool.false_ne_true
  | str i =>
    obtain ⟨t, rfl⟩ := rx
    cases y with
    | non => cases ry; exact PySem.EqNone.ne_str_none (fin_bl I q (by simp))
    | bl j => cases ry; exact PySem.EqMixed.ne_str_bool (fin_bl I q (by simp))
    | int j => obtain ⟨t', rfl⟩ := ry; exact PySem.EqMixed.ne_str_int (fin_bl I q (by simp))
    | str j => obtain ⟨t', rfl⟩ := ry; exact ne_str (fin_bl I q (congrArg not dec_str))
    | _ => exact absurd (show false = true from hs) Bool.false_ne_true
  | byt i =>
    obtain ⟨t, rfl⟩ := rx
    cases y with
    | byt j => obtain ⟨t', rfl⟩ := ry; exact PySem.W.ne_bytes (fin_bl I q (congrArg not dec_byt))
    | _ => exact absurd (show false = true from hs) Bool.false_ne_true
  | _ => cases y <;> exact absurd (show false = true from hs) Bool.false_ne_true

theorem op_lt : OpR X (compareOp .Lt) (rI0 fun i j => .bl (decide (i < j))) := opB0 fun _ _ _ _ _ _ _ q => lt_int q
theorem op_le : OpR X (compareOp .LtE) (rI0 fun i j => .bl (decide (i ≤ j))) := opB0 fun _ _ _ _ _ _ _ q => le_int q
theorem op_gt : OpR X (compareOp .Gt) (rI0 fun i j => .bl (decide (j < i))) := opB0 fun _ _ _ _ _ _ _ q => gt_int q
theorem op_ge : OpR X (compareOp .GtE) (rI0 fun i j => .bl (decide (j ≤ i))) := opB0 fun _ _ _ _ _ _ _ q => ge_int q
theorem op_lt_str : OpR X (compareOp .Lt) (fun x y H Q => ∃ i j, x = .str i ∧ y = .str j ∧ Q (.bl (decide (i.cps.toList < j.cps.toList))) H) := by
  intro pins s σ H x y v u Q I rx ry h
  obtain ⟨i, j, rfl, rfl, q⟩ := h
  obtain ⟨t, rfl⟩ := rx
  obtain ⟨t', rfl⟩ := ry
  exact lt_str (fin_bl I q rfl)
/-- the one string within the other -/
theorem op_in_str : OpR X (compareOp .In) (fun x y H Q => ∃ i j, x = .str i ∧ y = .str j ∧ Q (.bl (!(Builtin.Str.occurrences j i 0 j.length 1).isEmpty)) H) := by
  intro pins s σ H x y v u Q I rx ry h
  obtain ⟨i, j, rfl, rfl, q⟩ := h
  obtain ⟨t, rfl⟩ := rx
  obtain ⟨t', rfl⟩ := ry
  exact in_str (fin_bl I q rfl)

/-- is None, is not None: the right side a value none -/
theorem op_isN : OpR X (compareOp .Is) (fun x y H Q => y = .non ∧ Q (.bl (decide (x = .non))) H) := by
  intro pins s σ H x y v u Q I rx ry h
  obtain ⟨rfl, q⟩ := h
  cases ry
  refine is_none_gen (fin_bl I q ?_)
  cases x <;> first
    | (cases rx; rfl)
    | (obtain ⟨t, rfl⟩ := rx; rfl)
theorem op_notN : OpR X (compareOp .IsNot) (fun x y H Q => y = .non ∧ Q (.bl (!decide (x = .non))) H) := by
  intro pins s σ H x y v u Q I rx ry h
  obtain ⟨rfl, q⟩ := h
  cases ry
  refine isnot_none_gen (fin_bl I q ?_)
  cases x <;> first
    | (cases rx; rfl)
    | (obtain ⟨t, rfl⟩ := rx; rfl)

theorem op_notin_str : OpR X (compareOp .NotIn) (fun x y H Q => ∃ i j, x = .str i ∧ y = .str j ∧ Q (.bl (!(!(Builtin.Str.occurrences j i 0 j.length 1).isEmpty))) H) := by
  intro pins s σ H x y v u Q I rx ry h
  obtain ⟨i, j, rfl, rfl, q⟩ := h
  obtain ⟨t, rfl⟩ := rx
  obtain ⟨t', rfl⟩ := ry
  exact notIn_str (fin_bl I q rfl)
/-- is, is not of two objects that are tracked lists or instances -/
def isObj : HO → Bool
  | .lst _ => true
  | .ins _ _ _ => true
  | _ => false
theorem obj_there {pins : List (Addr × Obj)} {s : Shared} {σ : St} {H : Hp} {a : Addr} {o : HO} (I : Inv X pins σ H s) (h : H a = some o) (p : isObj o = true) : ∃ ob, s.heap.get? a = some ob ∧ ob.cls ≠ .type "tuple" := by
  cases o with
  | lst xs =>
    obtain ⟨_, its, n, _, e⟩ : xs.length ≤ sizeLine ∧ ∃ (its : List Value) (n : Nat), Vals xs its ∧ s.heap.get? a = some { cls := .type "list", data := .seq its.toArray n } := I.hok a _ h
    exact ⟨_, e, (by show Value.type "list" ≠ .type "tuple"; decide +kernel)⟩
  | ins C dx fs =>
    have x := I.hok a _ h
    obtain ⟨_, _, _, e, _⟩ := x
    exact ⟨_, e, (by show Value.ref C ≠ .type "tuple"; exact fun z => by cases z)⟩
  | _ => exact absurd (show false = true from p) Bool.false_ne_true
theorem op_is_ref : OpR X (compareOp .Is) (fun x y H Q => ∃ a b oa ob, x = .ref a ∧ y = .ref b ∧ H a = some oa ∧ isObj oa = true ∧ H b = some ob ∧ isObj ob = true ∧ Q (.bl (decide (a = b))) H) := by
  intro pins s σ H x y v u Q I rx ry h
  obtain ⟨a, b, oa, ob, rfl, rfl, ha, pa, hb, pb, q⟩ := h
  cases rx
  cases ry
  obtain ⟨o1, e1, n1⟩ := obj_there I ha pa
  obtain ⟨o2, e2, _⟩ := obj_there I hb pb
  by_cases z : a = b
  · subst z
    exact wpAny_is_ref_self (fin_bl I q (by simp))
  · exact wpAny_is_ref_other z e1 e2 n1 (fin_bl I q (by simp [z]))
theorem op_isnot_ref : OpR X (compareOp .IsNot) (fun x y H Q => ∃ a b oa ob, x = .ref a ∧ y = .ref b ∧ H a = some oa ∧ isObj oa = true ∧ H b = some ob ∧ isObj ob = true ∧ Q (.bl (!decide (a = b))) H) := by
  intro pins s σ H x y v u Q I rx ry h
  obtain ⟨a, b, oa, ob, rfl, rfl, ha, pa, hb, pb, q⟩ := h
  cases rx
  cases ry
  obtain ⟨o1, e1, n1⟩ := obj_there I ha pa
  obtain ⟨o2, e2, _⟩ := obj_there I hb pb
  by_cases z : a = b
  · subst z
    exact wpAny_isNot_ref_self (fin_bl I q (by simp))
  · exact wpAny_isNot_ref_other z e1 e2 n1 (fin_bl I q (by simp [z]))

/-- two rules for one operation: by cases -/
theorem OpR.or {f : Value → Value → Sem Value} {r r' : R2} (h : OpR X f r) (h' : OpR X f r') : OpR X f (fun x y H Q => r x y H Q ∨ r' x y H Q) := by
  intro pins s σ H x y v u Q I rx ry q
  rcases q with q | q
  · exact h pins s σ H x y v u Q I rx ry q
  · exact h' pins s σ H x y v u Q I rx ry q

theorem nomark (b : Expr) {op : CmpOp} (h : op ≠ .In := by decide) (h2 : op ≠ .NotIn := by decide) : behindInMarks op b = false := by
  have e1 : (op == CmpOp.In) = false := by cases op <;> first | rfl | exact absurd rfl h
  have e2 : (op == CmpOp.NotIn) = false := by cases op <;> first | rfl | exact absurd rfl h2
  cases b <;> simp [behindInMarks, e1, e2]
/-- a comparison as a value; hm: nomark b, or (for in, not in) by with_unfolding_all rfl -/
theorem pe_cmpR {op : CmpOp} {r : R2} (ho : OpR X (compareOp op) r) (ha : PE X a ta) (hb : PE X b tb) (hm : behindInMarks op b = false) : PE X (.Compare a [op] [b] pos) (tOp r ta tb) := by
  intro pins s σ H Q I h
  exact wpAny_Compare1 (binT ha hb I h fun v u s2 x y H2 I2 rx ry q => ho pins s2 σ H2 x y v u Q I2 rx ry q) hm
/-- a reading of a value as a test -/
def tTest (t : TE) : TT := fun σ H Q => t σ H fun x H' => ∃ k, x = .bl k ∧ Q k H'
theorem pt_cmpR {op : CmpOp} {r : R2} (ho : OpR X (compareOp op) r) (ha : PE X a ta) (hb : PE X b tb) (hm : behindInMarks op b = false) : PT X (.Compare a [op] [b] pos) (tTest (tOp r ta tb)) := by
  intro pins s σ H Q I h
  refine wpAny_isTrue_Compare1 (thn (ha pins s σ H _ I h) fun v s1 ⟨x, H1, I1, r1, q1⟩ => thn (hb pins s1 σ H1 _ I1 q1) fun u s2 ⟨y, H2, I2, r2, q2⟩ =>
    thn (ho pins s2 σ H2 x y v u _ I2 r1 r2 q2) fun c s3 ⟨z, H3, I3, r3, k, e, q3⟩ => ?_) hm
  subst e
  cases r3
  exact wpAny_truthy_bool ⟨H3, I3, q3⟩
/-- a op1 b op2 c -/
def tChain (r r' : R2) (ta tb tc : TE) : TE := fun σ H Q => ta σ H fun x H1 => tb σ H1 fun y H2 => r x y H2 fun z H3 => ∃ k, z = .bl k ∧
  (if k = true then tc σ H3 fun w' H4 => r' y w' H4 Q else Q (.bl false) H3)
theorem pe_chain {op op' : CmpOp} {r r' : R2} (ho : OpR X (compareOp op) r) (ho' : OpR X (compareOp op') r') (ha : PE X a ta) (hb : PE X b tb) (hc : PE X c tc)
    (hm : lastMarks [op, op'] [b, c] = false := by with_unfolding_all rfl) : PE X (.Compare a [op, op'] [b, c] pos) (tChain r r' ta tb tc) := by
  intro pins s σ H Q I h
  refine Compare_chain (thn (ha pins s σ H _ I h) fun v s1 ⟨x, H1, I1, r1, q1⟩ => chain_link (thn (hb pins s1 σ H1 _ I1 q1) fun u s2 ⟨y, H2, I2, r2, q2⟩ =>
    thn (ho pins s2 σ H2 x y v u _ I2 r1 r2 q2) fun d s3 ⟨z, H3, I3, r3, k, e, q3⟩ => ?_)) hm
  subst e
  cases r3
  refine wpAny_truthy_bool ?_
  cases k with
  | false => exact ite_ff ⟨.bl false, H3, I3, rfl, q3⟩
  | true => exact ite_tt (chain_last (thn (hc pins s3 σ H3 _ I3 q3) fun w' s4 ⟨z', H4, I4, r4, q4⟩ => ho' pins s4 σ H4 y z' u w' Q I4 r2 r4 q4))
theorem pt_chain {op op' : CmpOp} {r r' : R2} (ho : OpR X (compareOp op) r) (ho' : OpR X (compareOp op') r') (ha : PE X a ta) (hb : PE X b tb) (hc : PE X c tc)
    (hm : lastMarks [op, op'] [b, c] = false := by with_unfolding_all rfl) : PT X (.Compare a [op, op'] [b, c] pos) (tTest (tChain r r' ta tb tc)) := by
  intro pins s σ H Q I h
  refine isTrue_chain (thn (ha pins s σ H _ I h) fun v s1 ⟨x, H1, I1, r1, q1⟩ => test_link (thn (hb pins s1 σ H1 _ I1 q1) fun u s2 ⟨y, H2, I2, r2, q2⟩ =>
    thn (ho pins s2 σ H2 x y v u _ I2 r1 r2 q2) fun d s3 ⟨z, H3, I3, r3, k, e, q3⟩ => ?_)) hm
  subst e
  cases r3
  refine wpAny_truthy_bool ?_
  cases k with
  | false =>
    obtain ⟨k', e', q'⟩ := q3
    cases e'
    exact ite_ff ⟨H3, I3, q'⟩
  | true =>
    refine ite_tt (test_last (thn (hc pins s3 σ H3 _ I3 q3) fun w' s4 ⟨z', H4, I4, r4, q4⟩ => thn (ho' pins s4 σ H4 y z' u w' _ I4 r2 r4 q4) fun d' s5 ⟨z2, H5, I5, r5, k2, e2, q5⟩ => ?_))
    subst e2
    cases r5
    exact wpAny_truthy_bool ⟨H5, I5, q5⟩

/-! ### truth -/
/-- a value's truth by the abstract heap -/
def TruV (K : PySem.W.Frag) (x : V) (H : Hp) (k : Bool) : Prop :=
  match x with
  | .non => k = false
  | .bl b => k = b
  | .int i => k = (i != 0)
  | .str y => y.length ≤ sizeLine ∧ k = ((y.length : Int) != 0)
  | .byt y => y.size ≤ sizeLine ∧ k = ((y.size : Int) != 0)
  | .ref p => (∃ xs, SqL K H p xs ∧ k = !xs.isEmpty) ∨ (∃ xs, SqT K H p xs ∧ k = !xs.isEmpty) ∨ ∃ kvs, H p = some (.dK kvs) ∧ k = !kvs.isEmpty
  | _ => False
theorem isEmpty_kv {κ : Type} {kvs : List (κ × V)} {vs : List (κ × Value)} (r : KV kvs vs) : (!vs.isEmpty) = !kvs.isEmpty := by
  cases r <;> rfl
theorem isEmpty_of {xs : List V} {its : List Value} (r : Vals xs its) : (!its.toArray.isEmpty) = !xs.isEmpty := by
  cases r <;> simp
theorem line63 : (sizeLine : Nat) < 2 ^ 63 := by rw [sizeLine_eq]; decide
theorem tru_ok : TruR X (fun x H Q => ∃ k, TruV X.K x H k ∧ Q k H) := by
  intro pins s σ H x v Q I rx h
  obtain ⟨k, e, q⟩ := h
  have hl := line63
  have hs : sizeLine = 16777216 := sizeLine_eq
  cases x with
  | non =>
    cases rx
    have e' : k = false := e
    subst e'
    exact truthy_none ⟨H, I, q⟩
  | bl b =>
    cases rx
    have e' : k = b := e
    subst e'
    exact wpAny_truthy_bool ⟨H, I, q⟩
  | int i =>
    obtain ⟨t, rfl⟩ := rx
    have e' : k = (i != 0) := e
    subst e'
    exact PySem.P.truthy_int ⟨H, I, q⟩
  | str y =>
    obtain ⟨t, rfl⟩ := rx
    obtain ⟨hy, e'⟩ : y.length ≤ sizeLine ∧ k = ((y.length : Int) != 0) := e
    subst e'
    exact PySem.P.truthy_str (by omega) ⟨H, I.tok _, q⟩
  | byt y =>
    obtain ⟨t, rfl⟩ := rx
    obtain ⟨hy, e'⟩ : y.size ≤ sizeLine ∧ k = ((y.size : Int) != 0) := e
    subst e'
    exact PySem.W.truthy_bytes (by omega) ⟨H, I.tok _, q⟩
  | ref p =>
    cases rx
    have e' : (∃ xs, SqL X.K H p xs ∧ k = !xs.isEmpty) ∨ (∃ xs, SqT X.K H p xs ∧ k = !xs.isEmpty) ∨ ∃ kvs, H p = some (.dK kvs) ∧ k = !kvs.isEmpty := e
    rcases e' with ⟨xs, hx, e'⟩ | ⟨xs, hx, e'⟩ | ⟨kvs, hx, e'⟩
    · subst e'
      obtain ⟨its, r, pl, hz⟩ := I.list hx
      have hlen := r.length
      exact wpAny_truthy_list pl.isList (by simp only [List.size_toArray]; omega) ⟨H, I.tok _, by rw [isEmpty_of r]; exact q⟩
    · subst e'
      obtain ⟨its, r, pl, hz⟩ := I.tuple hx
      have hlen := r.length
      exact truthy_tuple pl (by simp only [List.size_toArray]; omega) ⟨H, I.tok _, by rw [isEmpty_of r]; exact q⟩
    · subst e'
      obtain ⟨hz, hS, vs, r, m⟩ : kvs.length ≤ sizeLine ∧ (p == sysModules) = false ∧ ∃ vs, KV kvs vs ∧ s.heap.DictOf (mixKind X.prog X.w) p vs := I.hok p _ hx
      have hlen : kvs.length = vs.length := Paired.length r
      exact wpAny_truthy_dict hS m (by omega) ⟨H, I.tok _, by rw [isEmpty_kv r]; exact q⟩
  | _ => exact (show False from e).elim
/-- any expression whose test is its value's truth (a name, a call, a subscript, a field ..: he by fun _ => rfl) -/
theorem pt_truth (ha : PE X a ta) (he : ∀ whole, isTrue a X.env whole = (do let v ← whole; standAt a.pos; holding [v] (truthy v))) :
    PT X a (fun σ H Q => ta σ H fun x H' => ∃ k, TruV X.K x H' k ∧ Q k H') := by
  intro pins s σ H Q I h
  exact isTrue_plain (thn (ha pins s σ H _ I h) fun v s1 ⟨x, H1, I1, r1, q1⟩ => tru_ok pins s1 σ H1 x v Q I1 r1 q1) (he _)

/-! ### strs and bytes -/
theorem pe_byt {x : List UInt8} {k : Nat} : PE X (.Constant (.bytes x) k pos) (fun _ H Q => Q (.byt x.toArray) H) := fun _ _ _ H _ I h => PySem.W.Constant_bytes ⟨.byt x.toArray, H, I.tok _, ⟨_, rfl⟩, h⟩
theorem op_add_str : OpR X (binaryOp .Add) (fun x y H Q => ∃ i j, x = .str i ∧ y = .str j ∧ i.length + j.length ≤ sizeLine ∧ Q (.str (i ++ j)) H) := by
  intro pins s σ H x y v u Q I rx ry h
  obtain ⟨i, j, rfl, rfl, hz, q⟩ := h
  obtain ⟨t, rfl⟩ := rx
  obtain ⟨t', rfl⟩ := ry
  exact add_str (fun t' tk => ⟨.str (i ++ j), H, I.tok _, ⟨_, rfl⟩, q⟩) hz
theorem iop_add_str : OpR X (inplaceOp .Add) (fun x y H Q => ∃ i j, x = .str i ∧ y = .str j ∧ i.length + j.length ≤ sizeLine ∧ Q (.str (i ++ j)) H) := by
  intro pins s σ H x y v u Q I rx ry h
  obtain ⟨i, j, rfl, rfl, hz, q⟩ := h
  obtain ⟨t, rfl⟩ := rx
  obtain ⟨t', rfl⟩ := ry
  exact iadd_str (fun t' tk => ⟨.str (i ++ j), H, I.tok _, ⟨_, rfl⟩, q⟩) hz
theorem op_add_byt : OpR X (binaryOp .Add) (fun x y H Q => ∃ i j, x = .byt i ∧ y = .byt j ∧ i.size + j.size ≤ 16777216 ∧ Q (.byt (i ++ j)) H) := by
  intro pins s σ H x y v u Q I rx ry h
  obtain ⟨i, j, rfl, rfl, hz, q⟩ := h
  obtain ⟨t, rfl⟩ := rx
  obtain ⟨t', rfl⟩ := ry
  exact PySem.W.KBy.add_bytes hz (fun t' tk => ⟨.byt (i ++ j), H, I.tok _, ⟨_, rfl⟩, q⟩)

def PlainIxT (b : Expr) : Prop := ∀ o i, subscripted b false o i = operate [o, i] (getItem o i)
/-- s[i], 0 ≤ i < len -/
theorem pe_item_str (ha : PE X a ta) (hb : PE X b tb) (hs : PlainIxT b) :
    PE X (.Subscript a b pos) (tOp (fun x y H Q => ∃ z i c, x = .str z ∧ y = .int i ∧ 0 ≤ i ∧ i < 2 ^ 63 ∧ i < z.length ∧ z.cps[i.toNat]? = some c ∧ Q (.str ⟨#[c]⟩) H) ta tb) := by
  intro pins s σ H Q I h
  refine Subscript_ (binT ha hb I h fun v u s2 x y H2 I2 rx ry q => ?_)
  obtain ⟨z, i, c, rfl, rfl, h0, h63, h1, hc, q⟩ := q
  obtain ⟨t, rfl⟩ := rx
  obtain ⟨t', rfl⟩ := ry
  have e : seqIndex? i z.length = some i.toNat := PySem.StrLaws.seqIndex_nonneg h0 h1
  exact tail_any (typeIs_str s2 z t) slot_str_getitem.lookup (getItem_str (c := c) (by
    have e1 : decide (i < -(2 ^ 63 : Int)) = false := decide_eq_false (by omega)
    have e2 : decide (i ≥ 2 ^ 63) = false := decide_eq_false (by omega)
    rw [e1, e2] <;> rfl) (by rw [e]; exact hc) ⟨.str ⟨#[c]⟩, H2, I2.tok _, ⟨_, rfl⟩, q⟩) (hs _ _)
/-- b[i], 0 ≤ i < len -/
theorem pe_item_byt (ha : PE X a ta) (hb : PE X b tb) (hs : PlainIxT b) :
    PE X (.Subscript a b pos) (tOp (fun x y H Q => ∃ (z : List UInt8) (i : Int), x = .byt z.toArray ∧ y = .int i ∧ z.length ≤ sizeLine ∧ 0 ≤ i ∧ i < z.length ∧ Q (.int ((z.getD i.toNat 0).toNat : Nat)) H) ta tb) := by
  intro pins s σ H Q I h
  refine Subscript_ (binT ha hb I h fun v u s2 x y H2 I2 rx ry q => ?_)
  obtain ⟨z, i, rfl, rfl, hz, h0, h1, q⟩ := q
  obtain ⟨t, rfl⟩ := rx
  obtain ⟨t', rfl⟩ := ry
  have hl : sizeLine = 16777216 := sizeLine_eq
  exact tail_any (PySem.W.typeIs_bytes s2 z.toArray t) PySem.W.FB.slot_bytes_getitem.lookup (PySem.W.getItem_bytes (by omega) h0 h1 ⟨.int ((z.getD i.toNat 0).toNat : Nat), H2, I2.tok _, ⟨_, rfl⟩, q⟩) (hs _ _)

/-! ### scalar builtins, by CallR -/
theorem vals1 {x : V} {us : List Value} (r : Vals [x] us) : ∃ u, us = [u] ∧ RelV x u := by
  cases r with
  | cons r1 r2 => cases r2; exact ⟨_, rfl, r1⟩
theorem vals2 {x y : V} {us : List Value} (r : Vals [x, y] us) : ∃ u w', us = [u, w'] ∧ RelV x u ∧ RelV y w' := by
  cases r with
  | cons r1 r2 =>
    cases r2 with
    | cons r3 r4 => cases r4; exact ⟨_, _, rfl, r1, r3⟩
theorem call_abs : CallR X (.builtin "abs") (fun xs H Q => ∃ i, xs = [.int i] ∧ Q (.int (if i < 0 then -i else i)) H) := by
  intro pins s σ H xs us Q I r h
  obtain ⟨i, rfl, q⟩ := h
  obtain ⟨u, rfl, t, rfl⟩ := vals1 r
  exact call_abs_int fun u tk => ⟨.int (if i < 0 then -i else i), H, I.tok _, ⟨_, rfl⟩, q⟩
theorem call_max2 (hc : X.calm = true) : CallR X (.builtin "max") (fun xs H Q => ∃ i j, xs = [.int i, .int j] ∧ Q (.int (if j > i then j else i)) H) := by
  intro pins s σ H xs us Q I r h
  obtain ⟨i, j, rfl, q⟩ := h
  obtain ⟨u, w', rfl, ⟨t, rfl⟩, ⟨t', rfl⟩⟩ := vals2 r
  refine max_two_ints (I.ok.hd hc) fun h' tk k => ⟨_, H, I.kept k, ?_, q⟩
  by_cases hj : j > i
  · rw [if_pos hj, if_pos hj]; exact ⟨_, rfl⟩
  · rw [if_neg hj, if_neg hj]; exact ⟨_, rfl⟩
theorem call_min2 (hc : X.calm = true) : CallR X (.builtin "min") (fun xs H Q => ∃ i j, xs = [.int i, .int j] ∧ Q (.int (if j < i then j else i)) H) := by
  intro pins s σ H xs us Q I r h
  obtain ⟨i, j, rfl, q⟩ := h
  obtain ⟨u, w', rfl, ⟨t, rfl⟩, ⟨t', rfl⟩⟩ := vals2 r
  refine min_two_ints (I.ok.hd hc) fun h' tk k => ⟨_, H, I.kept k, ?_, q⟩
  by_cases hj : j < i
  · rw [if_pos hj, if_pos hj]; exact ⟨_, rfl⟩
  · rw [if_neg hj, if_neg hj]; exact ⟨_, rfl⟩
theorem call_int1 : CallR X (.type "int") (fun xs H Q => (∃ i, xs = [.int i] ∧ Q (.int i) H) ∨ ∃ k, xs = [.bl k] ∧ Q (.int (if k then 1 else 0)) H) := by
  intro pins s σ H xs us Q I r h
  rcases h with ⟨i, rfl, q⟩ | ⟨k, rfl, q⟩
  · obtain ⟨u, rfl, t, rfl⟩ := vals1 r
    exact call_int_int ⟨.int i, H, I, ⟨_, rfl⟩, q⟩
  · obtain ⟨u, rfl, r1⟩ := vals1 r
    cases r1
    exact call_int_bool ⟨.int (if k then 1 else 0), H, I.tok _, ⟨_, rfl⟩, q⟩
theorem call_bool1 : CallR X (.type "bool") (fun xs H Q => (∃ i, xs = [.int i] ∧ Q (.bl (i != 0)) H) ∨ ∃ k, xs = [.bl k] ∧ Q (.bl k) H) := by
  intro pins s σ H xs us Q I r h
  rcases h with ⟨i, rfl, q⟩ | ⟨k, rfl, q⟩
  · obtain ⟨u, rfl, t, rfl⟩ := vals1 r
    exact call_bool_int ⟨.bl (i != 0), H, I, rfl, q⟩
  · obtain ⟨u, rfl, r1⟩ := vals1 r
    cases r1
    exact call_bool_bool ⟨.bl k, H, I, rfl, q⟩
theorem call_str_int : CallR X (.type "str") (fun xs H Q => ∃ i, xs = [.int i] ∧ i.natAbs.log2 < 1920 ∧ Q (.str (toString i)) H) := by
  intro pins s σ H xs us Q I r h
  obtain ⟨i, rfl, hz, q⟩ := h
  obtain ⟨u, rfl, t, rfl⟩ := vals1 r
  exact PySem.P.str_of_int hz ⟨.str _, H, I.tok _, ⟨_, rfl⟩, q⟩
theorem call_ord : CallR X (.builtin "ord") (fun xs H Q => ∃ x, xs = [.str x] ∧ x.length = 1 ∧ Q (.int (x.cps.getD 0 0 : Nat)) H) := by
  intro pins s σ H xs us Q I r h
  obtain ⟨x, rfl, hz, q⟩ := h
  obtain ⟨u, rfl, t, rfl⟩ := vals1 r
  exact ord_of_one hz ⟨.int _, H, I.tok _, ⟨_, rfl⟩, q⟩
theorem call_chr : CallR X (.builtin "chr") (fun xs H Q => ∃ i, xs = [.int i] ∧ 0 ≤ i ∧ i ≤ 1114111 ∧ Q (.str ⟨#[i.toNat]⟩) H) := by
  intro pins s σ H xs us Q I r h
  obtain ⟨i, rfl, h0, h1, q⟩ := h
  obtain ⟨u, rfl, t, rfl⟩ := vals1 r
  exact chr_of_range h0 h1 ⟨.str _, H, I.tok _, ⟨_, rfl⟩, q⟩
/-- len of a str, a bytes, a list, a tuple -/
def LenV (K : PySem.W.Frag) (x : V) (H : Hp) (n : Nat) : Prop :=
  match x with
  | .str y => y.length ≤ sizeLine ∧ n = y.length
  | .byt y => y.size ≤ sizeLine ∧ n = y.size
  | .ref p => (∃ xs, SqL K H p xs ∧ n = xs.length) ∨ ∃ xs, SqT K H p xs ∧ n = xs.length
  | _ => False
theorem call_len : CallR X (.builtin "len") (fun xs H Q => ∃ x n, xs = [x] ∧ LenV X.K x H n ∧ Q (.int n) H) := by
  intro pins s σ H xs us Q I r h
  obtain ⟨x, n, rfl, e, q⟩ := h
  obtain ⟨u, rfl, rx⟩ := vals1 r
  have hl := line63
  have hs : sizeLine = 16777216 := sizeLine_eq
  cases x with
  | str y =>
    obtain ⟨t, rfl⟩ := rx
    obtain ⟨hy, e'⟩ : y.length ≤ sizeLine ∧ n = y.length := e
    subst e'
    exact len_str (by omega) ⟨.int _, H, I.tok _, ⟨_, rfl⟩, q⟩
  | byt y =>
    obtain ⟨t, rfl⟩ := rx
    obtain ⟨hy, e'⟩ : y.size ≤ sizeLine ∧ n = y.size := e
    subst e'
    exact PySem.W.len_bytes (by omega) ⟨.int _, H, I.tok _, ⟨_, rfl⟩, q⟩
  | ref p =>
    cases rx
    have e' : (∃ xs, SqL X.K H p xs ∧ n = xs.length) ∨ ∃ xs, SqT X.K H p xs ∧ n = xs.length := e
    rcases e' with ⟨xs, hx, e'⟩ | ⟨xs, hx, e'⟩
    · subst e'
      obtain ⟨its, r', pl, hz⟩ := I.list hx
      have hlen := r'.length
      exact Calls.call_len_list pl.isList (by simp only [List.size_toArray]; omega) ⟨.int xs.length, H, I.tok _, ⟨_, by simp only [List.size_toArray]; rw [hlen]⟩, q⟩
    · subst e'
      obtain ⟨its, r', pl, hz⟩ := I.tuple hx
      have hlen := r'.length
      exact len_tuple pl (by simp only [List.size_toArray]; omega) ⟨.int xs.length, H, I.tok _, ⟨_, by simp only [List.size_toArray]; rw [hlen]⟩, q⟩
  | _ => exact (show False from e).elim
/-- divmod: a new tuple -/
theorem call_divmod : CallR X (.builtin "divmod") (fun xs H Q => ∃ i j, xs = [.int i, .int j] ∧ CDiv i j ∧ ∀ p, H p = none → Q (.ref p) (upd H p (.tup [.int (i / j), .int (i % j)]))) := by
  intro pins s σ H xs us Q I r h
  obtain ⟨i, j, rfl, ⟨h1, h2⟩, q⟩ := h
  obtain ⟨u, w', rfl, ⟨t, rfl⟩, ⟨t', rfl⟩⟩ := vals2 r
  refine divmod_int (by omega) ?_ (.inl (PyProof.noPylong_small (by omega)))
  rw [Int.fdiv_eq_ediv_of_nonneg i (by omega), Int.fmod_eq_emod_of_nonneg i (by omega)]
  have hn : H s.heap.objs.size = none := I.hok.fresh (Nat.le_refl _)
  refine ⟨.ref s.heap.objs.size, _, ?_, rfl, q _ hn⟩
  refine I.laid (fun b o e => Heap.get?_push_of_some _ e) (Nat.le_refl _) ⟨by simp only [List.length_cons, List.length_nil]; rw [sizeLine_eq]; decide, [.int (i / j) s.toks, .int (i % j) (s.toks + 1)], .cons ⟨_, rfl⟩ (.cons ⟨_, rfl⟩ .nil), ?_⟩
  exact ⟨_, Heap.get?_push_size s.heap rfl, rfl, 0, rfl⟩
end
end L2

namespace L2
open PySem PySem.Spec PyProof.Rows

/-! ### an instance, its attributes a map -/
structure ObjM (h : Heap) (x dx C : Addr) (mA : Str → Option Value) : Prop where
  obj : h.get? x = some (PySem.W.instObj C dx)
  ns : h.Ns1 dx mA
  ne : dx ≠ x

theorem lookIn_ns {h : Heap} {dx : Addr} {mA : Str → Option Value} (n : h.Ns1 dx mA) : ∃ od, h.get? dx = some od ∧ ∀ name, PySem.W.lookIn name od = some (mA name) := by
  obtain ⟨o, es, ep, ho, hd, hk, _, hm⟩ := n
  refine ⟨o, ho, fun name => ?_⟩
  have e := hm name
  unfold nsFind findBy at e
  rw [← Array.find?_toList] at e
  unfold PySem.W.lookIn
  rw [hd]
  dsimp only
  split
  · rename_i y q
    rw [q] at e
    exact congrArg some e
  · rename_i q
    rw [q] at e
    have a : es.toList.any (·.refKey) = false := by
      rw [List.any_eq_false]
      intro y hy
      obtain ⟨z, t, hkey⟩ := hk y (Array.mem_toList_iff.mp hy)
      simp [DictEntry.refKey, hkey]
    have a' : ¬ es.toList.any (·.refKey) = true := by rw [a]; exact Bool.false_ne_true
    rw [if_neg a']
    exact congrArg some e

theorem ObjM.look {h : Heap} {x dx C : Addr} {mA : Str → Option Value} (I : ObjM h x dx C mA) : ∃ od, PySem.W.InstAt h x (PySem.W.instObj C dx) C (some od) ∧ ∀ name, PySem.W.lookIn name od = some (mA name) :=
  let ⟨od, ho, hl⟩ := lookIn_ns I.ns
  ⟨od, ⟨I.obj, rfl, rfl, ho⟩, hl⟩

section
variable {prog : Program} {w : World} {A : Around} {E : Value → Shared → Prop} {s : Shared} {K : PySem.W.Frag} {x dx C f : Addr} {mA : Str → Option Value} {name : Str} {v : Value}

theorem get_map {expr : Bool} {Q : Value → Shared → Prop} (X : K.In s.heap) (I : ObjM s.heap x dx C mA) (hg : PySem.W.plainGet K C name = true) (hh : PySem.W.hasDictIn K C = true)
    (ha : PySem.W.findIn K (.ref C) name = some none) (hv : mA name = some v) (hv' : PySem.W.handedIn v = true) (h : Q v { s with toks := s.toks + 1 }) :
    wpAny (model prog w) A (getAttr (.ref x) name expr) Q E s := by
  obtain ⟨od, J, hl⟩ := I.look
  exact PySem.W.get_value X J (PySem.W.plainGet_of hg).1 (PySem.W.findObj_own hh ha rfl (by rw [hl, hv])) hv' h

theorem get_const {expr : Bool} {a : Value} {Q : Value → Shared → Prop} (X : K.In s.heap) (I : ObjM s.heap x dx C mA) (hg : PySem.W.plainGet K C name = true) (hh : PySem.W.hasDictIn K C = true)
    (ha : PySem.W.findIn K (.ref C) name = some (some a)) (hn : PySem.W.specialIn K a "__get__" = some none) (hc : PySem.W.copiedNames.contains name = false) (hv : mA name = none) (hv' : PySem.W.handedIn a = true)
    (h : Q a { s with toks := s.toks + 1 }) : wpAny (model prog w) A (getAttr (.ref x) name expr) Q E s := by
  obtain ⟨od, J, hl⟩ := I.look
  exact PySem.W.get_value X J (PySem.W.plainGet_of hg).1 (PySem.W.findObj_cls hh ha hn hv' hc (by rw [hl, hv])) hv' h

theorem get_meth {pl : Sem Bool} {Q : Value × List Value → Shared → Prop} (X : K.In s.heap) (I : ObjM s.heap x dx C mA) (hg : PySem.W.plainGet K C name = true)
    (hf : PySem.W.findIn K (.ref C) name = some (some (.ref f))) (ht : PySem.W.isFn K (.ref f) = true) (hv : mA name = none) (h : Q (.ref f, [.ref x]) s) :
    wpAny (model prog w) A (getMethod (.ref x) name pl) Q E s := by
  obtain ⟨od, J, hl⟩ := I.look
  exact PySem.W.method_fn X J (PySem.W.plainGet_of hg).1 (PySem.W.plainGet_of hg).2 hf (beq_iff_eq.mp ht) (by show (PySem.W.lookIn name od).map (·.isSome) = some false; rw [hl, hv]; rfl) h

theorem set_map {ns : List Str} {Q : Unit → Shared → Prop} (X : K.In s.heap) (I : ObjM s.heap x dx C mA)
    (hs : PySem.W.findIn K (.ref C) "__setattr__" = some (some (.builtin "object.__setattr__"))) (hp : PySem.W.plainOver K C = true) (ht : PySem.W.takerIn K C name = some none) (hh : PySem.W.hasDictIn K C = true)
    (hw : PySem.Within mA ns) (hsz : ns.length ≤ sizeLine)
    (h : ∀ h', ObjM h' x dx C (fun y => if y = name then some v else mA y) → Heap.SameBut dx s.heap h' → Q () { s with heap := h', toks := s.toks + 2 }) :
    wpAny (model prog w) A (setAttr (.ref x) name v) Q E s := by
  obtain ⟨od, J, hl⟩ := I.look
  refine PySem.W.set_plain X J hs (PySem.W.osa_open (s := { s with toks := s.toks + 1 }) (r := none) X J hp ht fun b => ?_)
  obtain ⟨cd, hc, hd'⟩ := PySem.W.any_some hh
  have hx : s.heap.get? x = some ⟨.ref C, some dx, .plain, #[]⟩ := I.obj
  refine wpAny_bind (wpAny_pure (wpAny_bind (wpAny_bind (wpAny_loadPart hx (wpAny_bind (PySem.W.Looks.here (s := { s with toks := s.toks + 1 }) (PySem.W.looks_clsIn X hc) ?_))))))
  rw [hd']
  refine wpAny_pure (a := some dx) (wpAny_bind (wpAny_pure (wpAny_bind ?_)))
  refine wpAny_nsSet1 (s := { s with toks := s.toks + 1 }) I.ns fun h' hn2 hs2 => ?_
  obtain ⟨oD, esD, epD, hoD, hdD, hcD⟩ := hn2.count (PySem.Within.cons name v hw)
  refine wpAny_bind (wpAny_lookBehind hoD (by rw [hdD]; exact pastItsLine_dict (Nat.le_trans hcD (by rw [List.length_cons]; omega))) ?_)
  exact wpAny_pure (h _ ⟨(hs2.2 _ (Ne.symm I.ne)).trans I.obj, hn2, I.ne⟩ hs2)

/-- C(..): the dict at the heap's end, the instance behind it; then its __init__ -/
theorem make_map {R : Result → Shared → Prop} {vs : List Value} {kw : List (Str × Value)} (X : K.In s.heap) (hm : PySem.W.makesIn K C = true)
    (hi : PySem.W.findIn K (.ref C) "__init__" = some (some (.ref f))) (hf : PySem.W.typeIn K (.ref f) = some (.type "function"))
    (h : codeAny (model prog w) (A.under (.builtin "type.__call__" ⟨.ref C :: vs, kw⟩)) (.call (.ref f) ⟨.ref (s.heap.objs.size + 1) :: vs, kw⟩) (PySem.W.InitBack (s.heap.objs.size + 1) R)
      { s with heap := (s.heap.push PySem.W.emptyDict).push (PySem.W.instObj C s.heap.objs.size) }) :
    codeAny (model prog w) A (.call (.ref C) ⟨vs, kw⟩) R s := by
  obtain ⟨hh, g, d, t, os⟩ := s
  exact PySem.W.make_core (PySem.W.makes_of X hm) (PySem.W.looks_findIn X hi) (fun self => PySem.W.bind_fn X self hf) (.inl rfl) h
/-- C() where there is no __init__ but object's -/
theorem make_map0 {R : Result → Shared → Prop} (X : K.In s.heap) (hm : PySem.W.makesIn K C = true)
    (hi : PySem.W.findIn K (.ref C) "__init__" = some (some (.builtin "object.__init__")))
    (hb : ∀ self, PySem.W.Looks (model prog w) s.heap (bindSpecial (.builtin "object.__init__") self) (.builtin "object.__init__", [self]))
    (h : codeAny (model prog w) (A.under (.builtin "type.__call__" ⟨[.ref C], []⟩)) (.call (.builtin "object.__init__") ⟨[.ref (s.heap.objs.size + 1)], []⟩) (PySem.W.InitBack (s.heap.objs.size + 1) R)
      { s with heap := (s.heap.push PySem.W.emptyDict).push (PySem.W.instObj C s.heap.objs.size) }) :
    codeAny (model prog w) A (.call (.ref C) ⟨[], []⟩) R s := by
  obtain ⟨hh, g, d, t, os⟩ := s
  exact PySem.W.make_core (PySem.W.makes_of X hm) (PySem.W.looks_findIn X hi) hb (.inr ⟨rfl, rfl⟩) h
end

/-! ### the attributes as a list of pairs -/
def putF (f : Str) (v : V) : List (Str × V) → List (Str × V)
  | [] => [(f, v)]
  | (g, x) :: r => if g = f then (g, v) :: r else (g, x) :: putF f v r
theorem lookup_putF (f g : Str) (v : V) : ∀ fs : List (Str × V), (putF f v fs).lookup g = if g = f then some v else fs.lookup g
  | [] => by
    show List.lookup g [(f, v)] = _
    by_cases h : g = f
    · have hb : (g == f) = true := beq_iff_eq.mpr h
      simp only [List.lookup, hb, if_pos h]
    · have hb : (g == f) = false := beq_eq_false_iff_ne.mpr h
      simp only [List.lookup, hb, if_neg h]
  | (k, x) :: r => by
    have ih := lookup_putF f g v r
    rw [show putF f v ((k, x) :: r) = (if k = f then (k, v) :: r else (k, x) :: putF f v r) from rfl]
    by_cases hk : k = f
    · rw [if_pos hk]
      by_cases h : g = k
      · have hb : (g == k) = true := beq_iff_eq.mpr h
        simp only [List.lookup, hb, if_pos (h.trans hk)]
      · have hb : (g == k) = false := beq_eq_false_iff_ne.mpr h
        simp only [List.lookup, hb, if_neg (fun e : g = f => h (e.trans hk.symm))]
    · rw [if_neg hk]
      by_cases h : g = k
      · have hb : (g == k) = true := beq_iff_eq.mpr h
        simp only [List.lookup, hb, if_neg (fun e : g = f => hk (h.symm.trans e))]
      · have hb : (g == k) = false := beq_eq_false_iff_ne.mpr h
        simp only [List.lookup, hb]
        exact ih
theorem keys_putF (f : Str) (v : V) : ∀ fs : List (Str × V), f ∈ (putF f v fs).map (·.1) ∧ ∀ g, g ∈ fs.map (·.1) → g ∈ (putF f v fs).map (·.1)
  | [] => ⟨by simp [putF], fun g h => by simp at h⟩
  | (k, x) :: r => by
    obtain ⟨i1, i2⟩ := keys_putF f v r
    rw [show putF f v ((k, x) :: r) = (if k = f then (k, v) :: r else (k, x) :: putF f v r) from rfl]
    by_cases hk : k = f
    · rw [if_pos hk]
      subst hk
      exact ⟨by simp, fun g h => by simpa using h⟩
    · rw [if_neg hk]
      refine ⟨?_, fun g h => ?_⟩
      · rw [List.map_cons]
        exact List.mem_cons_of_mem _ i1
      · rw [List.map_cons] at h ⊢
        rcases List.mem_cons.mp h with e | e
        · exact List.mem_cons.mpr (.inl e)
        · exact List.mem_cons_of_mem _ (i2 g e)
theorem length_putF (f : Str) (v : V) : ∀ fs : List (Str × V), (putF f v fs).length ≤ fs.length + 1
  | [] => by simp [putF]
  | (k, x) :: r => by
    have ih := length_putF f v r
    rw [show putF f v ((k, x) :: r) = (if k = f then (k, v) :: r else (k, x) :: putF f v r) from rfl]
    by_cases hk : k = f
    · rw [if_pos hk, List.length_cons, List.length_cons]; omega
    · rw [if_neg hk, List.length_cons, List.length_cons]; omega

theorem RelO.some_of {v : V} {o : Option Value} (r : RelO (some v) o) : ∃ u, o = some u ∧ RelV v u := by
  cases o with
  | none => exact (show False from r).elim
  | some u => exact ⟨u, rfl, r⟩
theorem RelO.none_of {o : Option Value} (r : RelO none o) : o = none := by
  cases o with
  | none => rfl
  | some u => exact (show False from r).elim
theorem handed_of {v : V} {u : Value} (r : RelV v u) : PySem.W.handedIn u = true := by
  cases v with
  | non => cases (show u = Value.none from r); rfl
  | bl b => cases (show u = Value.bool b from r); rfl
  | int i => obtain ⟨t, e⟩ := (show ∃ t, u = Value.int i t from r); cases e; rfl
  | str x => obtain ⟨t, e⟩ := (show ∃ t, u = Value.str x t from r); cases e; rfl
  | byt b => obtain ⟨t, e⟩ := (show ∃ t, u = Value.bytes b t from r); cases e; rfl
  | flt b => obtain ⟨t, e⟩ := (show ∃ t, u = Value.float b t from r); cases e; rfl
  | ref a => cases (show u = Value.ref a from r); rfl
  | ty n => cases (show u = Value.type n from r); rfl

section
variable {P : Program} {w : World} {H H' : Hp} {h h' : Heap} {a C dx : Addr} {fs fs' : List (Str × V)}
theorem ins_get (hok : HOk P w H h) (e : H a = some (.ins C dx fs)) : ∃ mA, ObjM h a dx C mA ∧ (∀ f, RelO (fs.lookup f) (mA f)) ∧ PySem.Within mA (fs.map (·.1)) ∧ fs.length ≤ 1000 ∧ H dx = some (.own a) := by
  obtain ⟨d, z, ne, ob, mA, n, r, q⟩ := (show ObjOk P w H h a (.ins C dx fs) from hok a _ e)
  exact ⟨mA, ⟨ob, n, ne⟩, r, q, z, d⟩
end

/-! ### what of the text a class must have -/
structure Cls (K : PySem.W.Frag) (C : Addr) : Prop where
  pg : PySem.W.plainGet K C Str.empty = true
  hd : PySem.W.hasDictIn K C = true
  po : PySem.W.plainOver K C = true
  sa : PySem.W.findIn K (.ref C) "__setattr__" = some (some (.builtin "object.__setattr__"))
theorem Cls.get {K : PySem.W.Frag} {C : Addr} (c : Cls K C) (f : Str) : PySem.W.plainGet K C f = true := c.pg
/-- no class of it has the name -/
def NoAttr (K : PySem.W.Frag) (C : Addr) (f : Str) : Prop := PySem.W.findIn K (.ref C) f = some none
theorem NoAttr.taker {K : PySem.W.Frag} {C : Addr} {f : Str} (n : NoAttr K C f) : PySem.W.takerIn K C f = some none := by
  unfold PySem.W.takerIn
  rw [show PySem.W.findIn K (.ref C) f = some none from n]
  rfl
/-- a constant of the class -/
structure Con (K : PySem.W.Frag) (C : Addr) (f : Str) (v : V) (u : Value) : Prop where
  at_ : PySem.W.findIn K (.ref C) f = some (some u)
  rel : RelV v u
  get : PySem.W.specialIn K u "__get__" = some none
  cp : PySem.W.copiedNames.contains f = false
/-- a method: a plain def of the class or of one above it -/
structure Meth (K : PySem.W.Frag) (C : Addr) (m : Str) (f : Addr) : Prop where
  at_ : PySem.W.findIn K (.ref C) m = some (some (.ref f))
  fn : PySem.W.isFn K (.ref f) = true
  kp : PySem.W.keepIn K (.ref f) = true

section
variable {X : Cx} {pins : List (Addr × Obj)} {σ : St} {H : Hp} {s : Shared} {a C dx : Addr} {fs : List (Str × V)} {f : Str} {v : V} {A : Around} {E : Value → Shared → Prop}

theorem getattr_ok {b : Bool} {Q : Value → Shared → Prop} (I : Inv X pins σ H s) (e : H a = some (.ins C dx fs)) (c : Cls X.K C) (n : NoAttr X.K C f) (l : fs.lookup f = some v)
    (h : ∀ u s', Inv X pins σ H s' → RelV v u → Q u s') : wpAny (model X.prog X.w) A (getAttr (.ref a) f b) Q E s := by
  obtain ⟨mA, O, r, _, _, _⟩ := ins_get I.hok e
  obtain ⟨u, hu, ru⟩ := RelO.some_of (v := v) (o := mA f) (by rw [← l]; exact r f)
  exact get_map I.kIn O (c.get f) c.hd n hu (handed_of ru) (h u _ (I.tok _) ru)

theorem getcon_ok {b : Bool} {u : Value} {Q : Value → Shared → Prop} (I : Inv X pins σ H s) (e : H a = some (.ins C dx fs)) (c : Cls X.K C) (k : Con X.K C f v u) (l : fs.lookup f = none)
    (h : ∀ s', Inv X pins σ H s' → Q u s') : wpAny (model X.prog X.w) A (getAttr (.ref a) f b) Q E s := by
  obtain ⟨mA, O, r, _, _, _⟩ := ins_get I.hok e
  have hn : mA f = none := RelO.none_of (by rw [← l]; exact r f)
  exact get_const I.kIn O (c.get f) c.hd k.at_ k.get k.cp hn (handed_of k.rel) (h _ (I.tok _))

theorem getmeth_ok {m : Str} {g : Addr} {pl : Sem Bool} {Q : Value × List Value → Shared → Prop} (I : Inv X pins σ H s) (e : H a = some (.ins C dx fs)) (c : Cls X.K C) (k : Meth X.K C m g) (l : fs.lookup m = none)
    (h : Q (.ref g, [.ref a]) s) : wpAny (model X.prog X.w) A (getMethod (.ref a) m pl) Q E s := by
  obtain ⟨mA, O, r, _, _, _⟩ := ins_get I.hok e
  have hn : mA m = none := RelO.none_of (by rw [← l]; exact r m)
  exact get_meth I.kIn O (c.get m) k.at_ k.fn hn h

theorem setattr_ok {y : V} {u : Value} {Q : Unit → Shared → Prop} (I : Inv X pins σ H s) (e : H a = some (.ins C dx fs)) (c : Cls X.K C) (n : NoAttr X.K C f) (hl : fs.length < 1000) (ry : RelV y u)
    (h : ∀ s', Inv X pins σ (upd H a (.ins C dx (putF f y fs))) s' → Q () s') : wpAny (model X.prog X.w) A (setAttr (.ref a) f u) Q E s := by
  obtain ⟨mA, O, r, wi, _, ho⟩ := ins_get I.hok e
  have hz : (fs.map (·.1)).length ≤ sizeLine := by rw [List.length_map, sizeLine_eq]; omega
  refine set_map I.kIn O c.sa c.po n.taker c.hd wi hz fun h' O' sb => h _ ?_
  have hd : ∃ o, h'.get? dx = some o := let ⟨o, _, _, e', _⟩ := O'.ns; ⟨o, e'⟩
  refine I.write (x := a) (e := dx) (by rw [e]; exact True.intro) (.inr ho) (fun b q hb z => (sb.2 b hb).trans z) hd ?_
  refine ⟨by rw [upd_ne O.ne]; exact ho, ?_, O.ne, O'.obj, _, O'.ns, fun g => ?_, fun g hg => ?_⟩
  · have := length_putF f y fs; omega
  · show RelO ((putF f y fs).lookup g) (if g = f then some u else mA g)
    rw [lookup_putF]
    by_cases q : g = f
    · rw [if_pos q, if_pos q]; exact ry
    · rw [if_neg q, if_neg q]; exact r g
  · by_cases q : g = f
    · rw [q]; exact (keys_putF f y fs).1
    · refine (keys_putF f y fs).2 g (wi g fun z => hg ?_)
      show (if g = f then some u else mA g) = none
      rw [if_neg q]; exact z

/-- a new instance, tracked, without attributes -/
theorem Inv.made (I : Inv X pins σ H s) : Inv X pins σ (upd (upd H s.heap.objs.size (.own (s.heap.objs.size + 1))) (s.heap.objs.size + 1) (.ins C s.heap.objs.size []))
    { s with heap := (s.heap.push PySem.W.emptyDict).push (PySem.W.instObj C s.heap.objs.size) } := by
  have e1 : (s.heap.push PySem.W.emptyDict).get? s.heap.objs.size = some PySem.W.emptyDict := Heap.get?_push_size s.heap rfl
  have e2 : ((s.heap.push PySem.W.emptyDict).push (PySem.W.instObj C s.heap.objs.size)).get? (s.heap.objs.size + 1) = some (PySem.W.instObj C s.heap.objs.size) := by
    have := Heap.get?_push_size (s.heap.push PySem.W.emptyDict) (o := PySem.W.instObj C s.heap.objs.size) rfl
    rwa [Heap.size_push] at this
  have e3 : (s.heap.push PySem.W.emptyDict).Ns s.heap.objs.size (fun _ => none) := ⟨PySem.W.emptyDict, #[], _, e1, rfl, (fun e he => absurd he (by simp)), fun _ => rfl⟩
  have I1 := I.laid (a := s.heap.objs.size) (o := .own (s.heap.objs.size + 1)) (h' := s.heap.push PySem.W.emptyDict) (t' := s.toks) (fun b u q => Heap.get?_push_of_some _ q) (Nat.le_refl _) ⟨_, e1⟩
  refine I1.laid (a := s.heap.objs.size + 1) (o := .ins C s.heap.objs.size []) (t' := s.toks) (fun b u q => Heap.get?_push_of_some _ q) (Nat.le_of_eq (Heap.size_push _ _)) ?_
  have ne : s.heap.objs.size ≠ s.heap.objs.size + 1 := Nat.ne_of_lt (Nat.lt_succ_self _)
  refine ⟨by rw [upd_ne ne, upd_same], Nat.zero_le _, ne, e2, fun _ => none, (Heap.Ns1.of_empty e3).at fun o q => Heap.get?_push_of_some _ q, fun _ => True.intro, fun y hy => absurd rfl hy⟩

/-- e.f where nothing but the object is asked: through attributeBase (super) and the last hold -/
theorem attr_of {prog : Program} {w : World} {env : Env} {e : Expr} {f : Str} {pos : Pos} {s : Shared} {Q : Value → Shared → Prop} (hb : attributeBase e f env (eval e env) = eval e env)
    (h : wpAny (model prog w) A (eval e env) (fun o s₁ => wpAny (model prog w) A (getAttr o f true) Q E s₁) E s) : wpAny (model prog w) A (eval (.Attribute e f pos) env) Q E s :=
  Attribute_any_ h (by rw [arm_eval_Attribute, hb])
end

/-! ### readings and rules -/
/-- e.f, an attribute of the instance -/
def tFld (K : PySem.W.Frag) (ta : TE) (f : Str) : TE := fun σ H Q => ta σ H fun x H1 => ∃ a C dx fs v, x = .ref a ∧ H1 a = some (.ins C dx fs) ∧ Cls K C ∧ NoAttr K C f ∧ fs.lookup f = some v ∧ Q v H1
/-- e.f, a constant of the class -/
def tCon (K : PySem.W.Frag) (ta : TE) (f : Str) : TE := fun σ H Q => ta σ H fun x H1 => ∃ a C dx fs v u, x = .ref a ∧ H1 a = some (.ins C dx fs) ∧ Cls K C ∧ Con K C f v u ∧ fs.lookup f = none ∧ Q v H1
/-- e.f = value -/
def sFld (K : PySem.W.Frag) (ta tv : TE) (f : Str) : TS := fun D σ H => tv σ H fun y H1 => ta σ H1 fun x H2 => ∃ a C dx fs, x = .ref a ∧ H2 a = some (.ins C dx fs) ∧ Cls K C ∧ NoAttr K C f ∧ fs.length < 1000 ∧
  D.nx σ (upd H2 a (.ins C dx (putF f y fs)))
/-- an augmented operator on two values -/
def InOp (X : Cx) (op : Operator) (rd : V → V → Hp → VK → Prop) : Prop :=
  ∀ (pins : List (Addr × Obj)) (s : Shared) (σ : St) (H : Hp) (x y : V) (u v : Value) (Q : VK), Inv X pins σ H s → RelV x u → RelV y v → rd x y H Q → wpAny (model X.prog X.w) X.A (inplaceOp op u v) (EP X pins σ Q) X.xe s
/-- e.f op= value -/
def sFldAug (K : PySem.W.Frag) (ta tv : TE) (rd : V → V → Hp → VK → Prop) (f : Str) : TS := fun D σ H => ta σ H fun x H1 => ∃ a C dx fs v, x = .ref a ∧ H1 a = some (.ins C dx fs) ∧ Cls K C ∧ NoAttr K C f ∧ fs.lookup f = some v ∧
  tv σ H1 fun y H2 => rd v y H2 fun z H3 => ∃ dx' fs', H3 a = some (.ins C dx' fs') ∧ fs'.length < 1000 ∧ D.nx σ (upd H3 a (.ins C dx' (putF f z fs')))

section
variable {X : Cx} {o e value : Expr} {f : Str} {pos pos' tpos : Pos} {ta tv : TE}
theorem pe_fld (he : PE X e ta) (hb : attributeBase e f X.env (eval e X.env) = eval e X.env) : PE X (.Attribute e f pos) (tFld X.K ta f) := by
  intro pins s σ H Q I h
  refine attr_of hb (thn (he pins s σ H _ I h) fun u s1 ⟨x, H1, I1, rx, a, C, dx, fs, v, ex, ea, c, n, l, q⟩ => ?_)
  subst ex
  obtain rfl : u = Value.ref a := rx
  exact getattr_ok I1 ea c n l fun u' s2 I2 ru => ⟨v, H1, I2, ru, q⟩
theorem pe_con (he : PE X e ta) (hb : attributeBase e f X.env (eval e X.env) = eval e X.env) : PE X (.Attribute e f pos) (tCon X.K ta f) := by
  intro pins s σ H Q I h
  refine attr_of hb (thn (he pins s σ H _ I h) fun u s1 ⟨x, H1, I1, rx, a, C, dx, fs, v, u0, ex, ea, c, k, l, q⟩ => ?_)
  subst ex
  obtain rfl : u = Value.ref a := rx
  exact getcon_ok I1 ea c k l fun s2 I2 => ⟨v, H1, I2, k.rel, q⟩
theorem ps_fld (ha : PE X o ta) (hv : PE X value tv) (hs : swapsWith value (some (.Attribute o f pos')) pos.line X.env = pure false) : PS X (.Assign [.Attribute o f pos'] value pos) (sFld X.K ta tv f) := by
  intro pins s σ H D I h
  refine plainObj_wpAny_Assign_Attribute (thn (hv pins s σ H _ I h) fun u s1 ⟨y, H1, I1, ry, q⟩ => thn (ha pins s1 σ H1 _ I1 q) fun ov s2 ⟨x, H2, I2, rx, a, C, dx, fs, ex, ea, c, n, l, q2⟩ => ?_) hs
  subst ex
  obtain rfl : ov = Value.ref a := rx
  exact setattr_ok I2 ea c n l ry fun s3 I3 => ⟨σ, _, I3, q2⟩
theorem ps_fldaug {op : Operator} {rd : V → V → Hp → VK → Prop} (ha : PE X o ta) (hv : PE X value tv) (hop : InOp X op rd) : PS X (.AugAssign (.Attribute o f tpos) op value pos) (sFldAug X.K ta tv rd f) := by
  intro pins s σ H D I h
  refine wpAny_AugAssign_AttributeAny (thn (ha pins s σ H _ I h) fun ov s1 ⟨x, H1, I1, rx, a, C, dx, fs, v, ex, ea, c, n, l, q⟩ => ?_)
  subst ex
  obtain rfl : ov = Value.ref a := rx
  refine getattr_ok I1 ea c n l fun u s2 I2 ru => thn (hv pins s2 σ H1 _ I2 q) fun w3 s3 ⟨y, H2, I3, ry, q3⟩ => thn (hop pins s3 σ H2 v y u w3 _ I3 ru ry q3) fun w4 s4 ⟨z, H3, I4, rz, dx', fs', ea', l', q4⟩ => ?_
  exact setattr_ok I4 ea' c n l' rz fun s5 I5 => ⟨σ, _, I5, q4⟩
def rAdd : V → V → Hp → VK → Prop := fun x y H Q => ∃ i j, x = .int i ∧ y = .int j ∧ Q (.int (i + j)) H
def rSub : V → V → Hp → VK → Prop := fun x y H Q => ∃ i j, x = .int i ∧ y = .int j ∧ Q (.int (i - j)) H
theorem in_add : InOp X .Add rAdd := by
  rintro pins s σ H x y u v Q I rx ry ⟨i, j, rfl, rfl, q⟩
  obtain ⟨t, rfl⟩ := (show ∃ t, u = Value.int i t from rx)
  obtain ⟨t', rfl⟩ := (show ∃ t', v = Value.int j t' from ry)
  exact PyProof.Rows.iadd_int ⟨.int (i + j), H, I.tok _, ⟨_, rfl⟩, q⟩
theorem in_sub : InOp X .Sub rSub := by
  rintro pins s σ H x y u v Q I rx ry ⟨i, j, rfl, rfl, q⟩
  obtain ⟨t, rfl⟩ := (show ∃ t, u = Value.int i t from rx)
  obtain ⟨t', rfl⟩ := (show ∃ t', v = Value.int j t' from ry)
  exact PyProof.Rows.isub_int ⟨.int (i - j), H, I.tok _, ⟨_, rfl⟩, q⟩

/-- what is between an instance and its method: the tree of a method call -/
theorem methcall_of {pl : Sem Bool} {m : Str} {apos : Pos} {args : List Expr} {pins : List (Addr × Obj)} {s : Shared} {σ : St} {H : Hp} {Q : Value → Shared → Prop} {te : TE} (he : PE X e te) (I : Inv X pins σ H s)
    (h : te σ H fun x H1 => ∃ a C dx fs g, x = .ref a ∧ H1 a = some (.ins C dx fs) ∧ Cls X.K C ∧ Meth X.K C m g ∧ fs.lookup m = none ∧
      ∀ s1, Inv X pins σ H1 s1 → wpAny (model X.prog X.w) X.A (callWith pos (.ref g) [.ref a] (backTo pos (starEach args X.env)) (backToKw pos (keywordEach [] X.env))) Q X.xe s1)
    (ht : eval (.Call (.Attribute e m apos) args [] pos) X.env = (do
      let ov ← eval e X.env
      standAt apos.atName
      let (f, first) ← holding [ov] (getMethod ov m pl)
      callWith pos f first (backTo pos (starEach args X.env)) (backToKw pos (keywordEach [] X.env)))) :
    wpAny (model X.prog X.w) X.A (eval (.Call (.Attribute e m apos) args [] pos) X.env) Q X.xe s := by
  refine PySem.W.methodCall_KW (pl := pl) (thn (he pins s σ H _ I h) fun u s1 ⟨x, H1, I1, rx, a, C, dx, fs, g, ex, ea, c, k, l, q⟩ => ?_) ht
  subst ex
  obtain rfl : u = Value.ref a := rx
  exact getmeth_ok I1 ea c k l (q s1 I1)
end

/-! ### isinstance -/
section
variable {X : Cx} {pins : List (Addr × Obj)} {σ : St} {H : Hp} {s : Shared} {A : Around} {E : Value → Shared → Prop} {Q : Value → Shared → Prop} {c : Value} {b : Bool}
/-- the type of a value, as the fragment's deciders take it; for an instance its class -/
inductive TyOf (K : PySem.W.Frag) (H : Hp) : V → Value → Prop where
  | non : TyOf K H .non (.type "NoneType")
  | bl (x : Bool) : TyOf K H (.bl x) (.type "bool")
  | int (i : Int) : TyOf K H (.int i) (.type "int")
  | str (x : Str) : TyOf K H (.str x) (.type "str")
  | flt (x : UInt64) : TyOf K H (.flt x) (.type "float")
  | lst {a : Addr} {xs : List V} (e : H a = some (.lst xs)) : TyOf K H (.ref a) (.type "list")
  | frz {a : Addr} {o : Obj} {xs : List V} (e : H a = some (.frz o (.lst xs))) : TyOf K H (.ref a) (.type "list")
  | tup {a : Addr} {xs : List V} (e : H a = some (.tup xs)) : TyOf K H (.ref a) (.type "tuple")
  | dK {a : Addr} {kvs : List (Key × V)} (e : H a = some (.dK kvs)) : TyOf K H (.ref a) (.type "dict")
  | dT {a : Addr} {kvs : List (List Key × V)} (e : H a = some (.dT kvs)) : TyOf K H (.ref a) (.type "dict")
  | ins {a C dx : Addr} {fs : List (Str × V)} (e : H a = some (.ins C dx fs)) (cl : Cls K C) (ha : PySem.W.findIn K (.ref C) "__class__" = some (some (.builtin "object.__class__")))
      (hn : PySem.W.specialIn K (.builtin "object.__class__") "__get__" = some (some (.builtin "getset_descriptor.__get__"))) (htk : PySem.W.takesIn K (.builtin "object.__class__") = some true)
      (hm : PySem.W.mroIn K C (.type "object") = some true) : TyOf K H (.ref a) (.ref C)
/-- isinstance(x, c) for one class c, a built-in or an own one: kitOne's answer -/
theorem isinst_ok {x : V} {u t : Value} (I : Inv X pins σ H s) (rx : RelV x u) (ty : TyOf X.K H x t) (e : PySem.W.kitOne X.K t c = some b) (h : ∀ tk, Q (.bool b) { s with toks := tk }) :
    wpAny (model X.prog X.w) A (call (.builtin "isinstance") [u, c]) Q E s := by
  cases ty with
  | non => cases (show u = Value.none from rx); exact PySem.W.kia_one PySem.W.kitx_none I.kIn True.intro e (fun z => nomatch z) h
  | bl y => cases (show u = Value.bool y from rx); exact PySem.W.kia_one PySem.W.kitx_bool I.kIn True.intro e (fun z => nomatch z) h
  | int i => obtain ⟨t, q⟩ := (show ∃ t, u = Value.int i t from rx); cases q; exact PySem.W.kia_one PySem.W.kitx_int I.kIn True.intro e (fun z => nomatch z) h
  | str y => obtain ⟨t, q⟩ := (show ∃ t, u = Value.str y t from rx); cases q; exact PySem.W.kia_one PySem.W.kitx_str I.kIn True.intro e (fun z => nomatch z) h
  | flt y => obtain ⟨t, q⟩ := (show ∃ t, u = Value.float y t from rx); cases q; exact PySem.W.kia_one PySem.W.kitx_float I.kIn True.intro e (fun z => nomatch z) h
  | @lst a xs ea =>
    cases (show u = Value.ref a from rx)
    obtain ⟨_, _, n, _, h1⟩ := (show ObjOk X.prog X.w H s.heap a (.lst xs) from I.hok a _ ea)
    exact PySem.W.kia_one PySem.W.kitx_list I.kIn ⟨_, h1, rfl⟩ e (fun z => nomatch z) h
  | @frz a ob xs ea =>
    cases (show u = Value.ref a from rx)
    obtain ⟨_, _, _, n, _, h1⟩ := (show ObjOk X.prog X.w H s.heap a (.frz ob (.lst xs)) from I.hok a _ ea)
    exact PySem.W.kia_one PySem.W.kitx_list I.kIn ⟨_, h1, rfl⟩ e (fun z => nomatch z) h
  | @tup a xs ea =>
    cases (show u = Value.ref a from rx)
    obtain ⟨_, _, _, p⟩ := (show ObjOk X.prog X.w H s.heap a (.tup xs) from I.hok a _ ea)
    obtain ⟨o, h1, h2, _⟩ := p
    exact PySem.W.kia_one PySem.W.kitx_tuple I.kIn ⟨o, h1, h2⟩ e (fun z => nomatch z) h
  | @dK a kvs ea =>
    cases (show u = Value.ref a from rx)
    obtain ⟨_, _, vs, _, p⟩ := (show ObjOk X.prog X.w H s.heap a (.dK kvs) from I.hok a _ ea)
    obtain ⟨o, es, ep, h1, h2, _⟩ := p
    exact PySem.W.kia_one PySem.W.kitx_dict I.kIn ⟨o, h1, h2.1⟩ e (fun z => nomatch z) h
  | @dT a kvs ea =>
    cases (show u = Value.ref a from rx)
    obtain ⟨_, _, xs, _, o, es, ep, h1, h2, _⟩ := (show ObjOk X.prog X.w H s.heap a (.dT kvs) from I.hok a _ ea)
    exact PySem.W.kia_one PySem.W.kitx_dict I.kIn ⟨o, h1, h2.1⟩ e (fun z => nomatch z) h
  | @ins a C dx fs ea cl ha hn htk hm =>
    cases (show u = Value.ref a from rx)
    obtain ⟨mA, O, _⟩ := ins_get I.hok ea
    obtain ⟨od, J, _⟩ := O.look
    exact PySem.W.kia_one (PySem.W.kitx_own (cl.get _) cl.hd ha hn htk hm) I.kIn J e (fun z => nomatch z) h
end
end L2

namespace L2
open PySem PySem.Spec PyProof.Rows

/-! ### room -/
structure Room (k : Nat) (A : Around) : Prop where
  hd : A.handled = none
  dp : A.depth + 3 * k + 5 < recursionLimit
  un : A.units + 16 * k + 200 < cLine
theorem Room.mono {j k : Nat} {A : Around} (r : Room k A) (h : j ≤ k) : Room j A := ⟨r.hd, by have := r.dp; omega, by have := r.un; omega⟩
theorem Room.deeper {k : Nat} {A : Around} (r : Room (k + 1) A) (env : Env) : Room k (A.deeper env) :=
  ⟨r.hd, by have := r.dp; show A.depth + 1 + 3 * k + 5 < _; omega, by have := r.un; show A.units + 3 + 16 * k + 200 < _; omega⟩
theorem Room.in1 {k : Nat} {A : Around} (r : Room (k + 1) A) : Room k A.in1 :=
  ⟨r.hd, by have := r.dp; show A.depth + 3 * k + 5 < _; omega, by have := r.un; show A.units + 1 + 16 * k + 200 < _; omega⟩
theorem make_depth {A : Around} {C : Addr} {us : List Value} {kw : List (Str × Value)} : (A.under (.builtin "type.__call__" ⟨.ref C :: us, kw⟩)).depth = A.depth + 1 := by
  first | rfl | simp [Around.under, Code.weight, Code.isCreation, Code.isGuard, Code.isCaller, Code.frames, Code.isFrame, guardIds]
theorem make_units {A : Around} {C : Addr} {us : List Value} {kw : List (Str × Value)} : (A.under (.builtin "type.__call__" ⟨.ref C :: us, kw⟩)).units = A.units + 1 := by
  first | rfl | simp [Around.under, Code.cUnits, Code.frames, Code.isFrame]
theorem Room.make {k : Nat} {A : Around} (r : Room (k + 1) A) (C : Addr) (us : List Value) (kw : List (Str × Value)) : Room k (A.under (.builtin "type.__call__" ⟨.ref C :: us, kw⟩)) :=
  ⟨r.hd, by have := r.dp; rw [make_depth]; omega, by have := r.un; rw [make_units]; omega⟩
theorem Room.depth {k : Nat} {A : Around} (r : Room k A) : A.depth < recursionLimit := by have := r.dp; omega
theorem Room.units {k : Nat} {A : Around} (r : Room k A) : A.units + 64 < cLine := by have := r.un; omega
theorem Room.units0 {k : Nat} {A : Around} (r : Room k A) : A.units < cLine := by have := r.un; omega

/-! ### argument lists and displays -/
def tNil : TA := fun _ H Q => Q [] H
def tCons (ta : TE) (tr : TA) : TA := fun σ H Q => ta σ H fun x H1 => tr σ H1 fun xs H2 => Q (x :: xs) H2
section
variable {X : Cx} {e : Expr} {es : List Expr} {te : TE} {t : TA} {pos : Pos}
theorem pa_nil : PA X [] tNil := fun _ _ _ _ H Q I h => Calls.spliced_nil ⟨[], H, I, .nil, h⟩
theorem pa_cons (ha : PE X e te) (hr : PA X es t) (hs : starEach (e :: es) X.env = (false, eval e X.env) :: starEach es X.env := by rfl) : PA X (e :: es) (tCons te t) := by
  intro pos pins s σ H Q I h
  rw [hs]
  show wpAny _ _ (spliced ((false, eval e X.env) :: backTo pos (starEach es X.env))) _ _ s
  refine Calls.spliced_cons (thn (ha pins s σ H _ I h) fun u s1 ⟨x, H1, I1, r1, q1⟩ => ?_)
  exact thn (hr pos pins s1 σ H1 _ I1 q1) fun us s2 ⟨xs, H2, I2, r2, q2⟩ => ⟨x :: xs, H2, I2, .cons r1 r2, q2⟩

/-- a tuple, a list of written items -/
def tTup (t : TA) : TE := fun σ H Q => t σ H fun xs H1 => xs.length ≤ sizeLine ∧ ∀ p, H1 p = none → Q (.ref p) (upd H1 p (.tup xs))
def tLst (t : TA) : TE := fun σ H Q => t σ H fun xs H1 => xs.length ≤ sizeLine ∧ ∀ p, H1 p = none → Q (.ref p) (upd H1 p (.lst xs))
theorem pe_tup {x1} (h : PA X es t) : PE X (.Tuple es x1 pos) (tTup t) := by
  intro pins s σ H Q I hq
  refine wpAny_Tuple_spliced (thn (h pos pins s σ H _ I hq) fun us s1 ⟨xs, H1, I1, r, z, q⟩ => ⟨by rw [← r.length]; exact z, ?_⟩)
  have hf : H1 s1.heap.objs.size = none := I1.hok.fresh (Nat.le_refl _)
  refine ⟨.ref s1.heap.objs.size, upd H1 s1.heap.objs.size (.tup xs), I1.laid (t' := s1.toks) (fun b u e => Heap.get?_push_of_some _ e) (Nat.le_refl _) ?_, rfl, q _ hf⟩
  exact ⟨z, us, r, ⟨_, Heap.get?_push_size _ rfl, rfl, _, rfl⟩⟩
theorem pe_lst (h : PA X es t) : PE X (.List es pos) (tLst t) := by
  intro pins s σ H Q I hq
  refine wpAny_List_spliced (thn (h pos pins s σ H _ I hq) fun us s1 ⟨xs, H1, I1, r, z, q⟩ => ⟨by rw [← r.length]; exact z, ?_⟩)
  have hf : H1 s1.heap.objs.size = none := I1.hok.fresh (Nat.le_refl _)
  refine ⟨.ref s1.heap.objs.size, upd H1 s1.heap.objs.size (.lst xs), I1.laid (t' := s1.toks) (fun b u e => Heap.get?_push_of_some _ e) (Nat.le_refl _) ?_, rfl, q _ hf⟩
  exact ⟨z, us, 0, r, Heap.get?_push_size _ rfl⟩
end

/-! ### what a def promises -/
/-- a def's promise: the bound arguments in the parameters' order, the heap, the wanted end, the wanted exception -/
abbrev Sp := List V → Hp → VK → XK → Prop
/-- how an exception lies behind a call (file 08 gives it): the callers' frames, abstract heap and state ahead of the call, the wish, the exception, the state -/
abbrev CXT := List Env → Hp → Shared → XK → Value → Shared → Prop

/-- the state at a call -/
structure Env0 (P : Program) (w : World) (K : PySem.W.Frag) (mg : Str → Option Value) (base : Heap) (A : Around) (outer : List Env) (s : Shared) (H : Hp) : Prop where
  frames : A.frames = some outer
  mod : Mod K mg base
  bs : ∀ b o, base.get? b = some o → s.heap.get? b = some o ∧ H b = none
  bsz : base.objs.size ≤ s.heap.objs.size
  funs : s.heap.FunFrames base outer
  frf : ∀ b ∈ frs outer, H b = none
  hok : HOk P w H s.heap
  bare : AllBare s.gens
/-- a call's end -/
def CE (outer : List Env) (P : Program) (w : World) (H : Hp) (s : Shared) (Q : VK) (u : Value) (s' : Shared) : Prop :=
  ∃ v H', s'.os = s.os ∧ AllBare s'.gens ∧ Un (frs outer) [] H H' s.heap s'.heap ∧ HOk P w H' s'.heap ∧ RelV v u ∧ Q v H'
def CR (CX : CXT) (outer : List Env) (P : Program) (w : World) (H : Hp) (s : Shared) (Q : VK) (E : XK) (r : Result) (s' : Shared) : Prop :=
  match r with
  | .ok (.ret u) => CE outer P w H s Q u s'
  | .ok _ => False
  | .error e => CX outer H s E e s'
structure FnOk (P : Program) (w : World) (K : PySem.W.Frag) (mg : Str → Option Value) (base : Heap) (CX : CXT) (k : Nat) (f : Addr) (fd : FuncData) (ps : List Str) (sp : Sp) : Prop where
  len : ∀ vs H Q E, sp vs H Q E → vs.length = ps.length
  run : ∀ (A : Around) (outer : List Env) (s : Shared) (H : Hp) (args : Args) (us : List Value) (vs : List V) (Q : VK) (E : XK), Room k A → Env0 P w K mg base A outer s H → BindsTo s fd args (ps.zip us) → Vals vs us → sp vs H Q E →
    codeAny (model P w) A (.call (.ref f) args) (CR CX outer P w H s Q E) s
theorem FnOk.mono {P : Program} {w : World} {K : PySem.W.Frag} {mg : Str → Option Value} {base : Heap} {CX : CXT} {j k : Nat} {f : Addr} {fd : FuncData} {ps : List Str} {sp : Sp} (F : FnOk P w K mg base CX j f fd ps sp) (h : j ≤ k) :
    FnOk P w K mg base CX k f fd ps sp := ⟨F.len, fun A outer s H args us vs Q E hr => F.run A outer s H args us vs Q E (hr.mono h)⟩
/-- a weaker promise -/
theorem FnOk.imp {P : Program} {w : World} {K : PySem.W.Frag} {mg : Str → Option Value} {base : Heap} {CX : CXT} {k : Nat} {f : Addr} {fd : FuncData} {ps : List Str} {sp sp' : Sp} (F : FnOk P w K mg base CX k f fd ps sp)
    (h : ∀ vs H Q E, sp' vs H Q E → sp vs H Q E) : FnOk P w K mg base CX k f fd ps sp' :=
  ⟨fun vs H Q E q => F.len vs H Q E (h _ _ _ _ q), fun A outer s H args us vs Q E hr he hb hv hs => F.run A outer s H args us vs Q E hr he hb hv (h _ _ _ _ hs)⟩

theorem Env0.make {P : Program} {w : World} {K : PySem.W.Frag} {mg : Str → Option Value} {base : Heap} {A : Around} {outer : List Env} {s : Shared} {H : Hp} (e : Env0 P w K mg base A outer s H) (C : Addr) (us : List Value) (kw : List (Str × Value)) :
    Env0 P w K mg base (A.under (.builtin "type.__call__" ⟨.ref C :: us, kw⟩)) outer s H := ⟨by first | exact e.frames | (simpa [Around.under, Code.envs, Code.isFrame, pushEnvs] using e.frames), e.mod, e.bs, e.bsz, e.funs, e.frf, e.hok, e.bare⟩
theorem Env0.in1 {P : Program} {w : World} {K : PySem.W.Frag} {mg : Str → Option Value} {base : Heap} {A : Around} {outer : List Env} {s : Shared} {H : Hp} (e : Env0 P w K mg base A outer s H) :
    Env0 P w K mg base A.in1 outer s H := ⟨e.frames, e.mod, e.bs, e.bsz, e.funs, e.frf, e.hok, e.bare⟩

section
variable {X : Cx} {pins : List (Addr × Obj)} {σ : St} {H : Hp} {s s' : Shared}
/-- from a body: what a callee wants -/
theorem Inv.env0 (I : Inv X pins σ H s) : Env0 X.prog X.w X.K X.mg X.base X.A X.stack s H :=
  ⟨I.ok.frames, I.ok.mod, I.bs, Nat.le_trans I.ok.bsz I.sz, I.stack, I.stkFree, I.hok, I.bare⟩
/-- behind a call -/
theorem Inv.after {Q : VK} {u : Value} (I : Inv X pins σ H s) (h : CE X.stack X.prog X.w H s Q u s') : EP X pins σ Q u s' := by
  obtain ⟨v, H', os, bare, un, hok, r, q⟩ := h
  obtain ⟨hh, g, d, t, os'⟩ := s'
  obtain rfl : os' = s.os := os
  exact ⟨v, H', I.call (h' := hh) (g' := g) (d' := d) (t' := t) (ch := []) un hok bare (fun b z => absurd z (by simp)), r, q⟩
end

/-! ### calls -/
/-- f(..): the written arguments, then the defaults dvs; E: what is wanted of an exception -/
def tCall (sp : Sp) (dvs : List V) (E : XK) (t : TA) : TE := fun σ H Q => t σ H fun vs H1 => sp (vs ++ dvs) H1 Q E
/-- o.m(..) of an instance of the class at C -/
def tMeth (C : Addr) (m : Str) (sp : Sp) (dvs : List V) (E : XK) (ta : TE) (t : TA) : TE := fun σ H Q => ta σ H fun x H1 => ∃ a dx fs, x = .ref a ∧ H1 a = some (.ins C dx fs) ∧ fs.lookup m = none ∧
  t σ H1 fun vs H2 => sp (x :: (vs ++ dvs)) H2 Q E
/-- C(..): a new instance and its dict, then __init__ -/
def tMake (C : Addr) (sp : Sp) (dvs : List V) (E : XK) (t : TA) : TE := fun σ H Q => t σ H fun vs H1 => ∀ x dx, H1 x = none → H1 dx = none → dx ≠ x →
  sp (.ref x :: (vs ++ dvs)) (upd (upd H1 dx (.own x)) x (.ins C dx [])) (fun v H2 => v = .non ∧ Q (.ref x) H2) E

/-- how the parameters are bound: us the positional arguments, kw the keywords' values by name, ds the defaults that fill up -/
def Binds (K : PySem.W.Frag) (fd : FuncData) (ps : List Str) (ds : List Value) : Prop :=
  ∀ (s : Shared) (us : List Value), K.In s.heap → (us ++ ds).length = ps.length → BindsTo s fd ⟨us, []⟩ (ps.zip (us ++ ds))
/-- every parameter is given -/
theorem Binds.all {K : PySem.W.Frag} {fd : FuncData} {ps : List Str} (h : ∀ us : List Value, us.length = ps.length → bindArgs fd ⟨us, []⟩ = pure (ps.zip us)) : Binds K fd ps [] := fun s us _ hl => by
  rw [List.append_nil] at hl ⊢
  exact .of_eq (h us hl)

/-- an exception of a callee reaches what this body wants of exceptions -/
def Passes (CX : CXT) (X : Cx) (E : XK) : Prop := ∀ (pins : List (Addr × Obj)) (σ : St) (H : Hp) (s : Shared) (e : Value) (s' : Shared), Inv X pins σ H s → CX X.stack H s E e s' → X.xe e s'

section
variable {X : Cx} {CX : CXT} {k : Nat} {f C : Addr} {fd : FuncData} {ps : List Str} {sp : Sp} {dvs : List V} {ds : List Value} {E : XK} {x m : Str} {p pos apos : Pos} {e o : Expr} {es : List Expr} {ta : TE} {t : TA}

/-- the callee runs -/
theorem run_fn {pins : List (Addr × Obj)} {σ : St} {H : Hp} {s : Shared} {Q : VK} {us : List Value} {vs : List V} (F : FnOk X.prog X.w X.K X.mg X.base CX k f fd ps sp) (hr : Room k X.A) (hb : Binds X.K fd ps ds) (hd : Vals dvs ds) (hx : Passes CX X E)
    (I : Inv X pins σ H s) (r : Vals vs us) (h : sp (vs ++ dvs) H Q E) : wpAny (model X.prog X.w) X.A (call (.ref f) us) (EP X pins σ Q) X.xe s := by
  have r2 : Vals (vs ++ dvs) (us ++ ds) := r.append hd
  have hl : (us ++ ds).length = ps.length := by rw [← r2.length]; exact F.len _ _ _ _ h
  refine wpAny_call (codeAny_mono (F.run X.A X.stack s H ⟨us, []⟩ (us ++ ds) (vs ++ dvs) Q E hr I.env0 (hb s us I.kIn hl) r2 h) fun r s' hq => ?_)
  cases r with
  | error e => exact hx pins σ H s e s' I hq
  | ok fl =>
    cases fl with
    | ret u => exact I.after hq
    | next => exact False.elim hq
    | brk => exact False.elim hq
    | cont => exact False.elim hq

theorem pe_call (F : FnOk X.prog X.w X.K X.mg X.base CX k f fd ps sp) (hr : Room k X.A) (hg : Gl X x) (hm : X.mg x = some (.ref f)) (hk : PySem.W.keepIn X.K (.ref f) = true) (hb : Binds X.K fd ps ds) (hd : Vals dvs ds) (hx : Passes CX X E)
    (ha : PA X (e :: es) t) (hdb : (x == ("__debug__" : Str)) = false := by decide) (he : starEach (e :: es) X.env = (false, eval e X.env) :: starEach es X.env := by rfl) (hpl : (backTo pos (starEach es X.env)).any (·.1) = false := by rfl) :
    PE X (.Call (.Name x p) (e :: es) [] pos) (tCall sp dvs E t) := by
  intro pins s σ H Q I h
  refine wpAny_Call_Name_kw (ld_glob I hg hm ?_ hdb)
  refine PySem.W.callWith_K (h₀ := X.base) I.ok.mod.kin hk (thn (ha pos pins s σ H _ I h) fun us s1 ⟨vs, H1, I1, r, q⟩ => ⟨I1.kIn, ?_⟩) he hpl
  exact run_fn F hr hb hd hx I1 r q
theorem pe_call0 (F : FnOk X.prog X.w X.K X.mg X.base CX k f fd ps sp) (hr : Room k X.A) (hg : Gl X x) (hm : X.mg x = some (.ref f)) (hk : PySem.W.keepIn X.K (.ref f) = true) (hb : Binds X.K fd ps ds) (hd : Vals dvs ds) (hx : Passes CX X E)
    (hdb : (x == ("__debug__" : Str)) = false := by decide) : PE X (.Call (.Name x p) [] [] pos) (tCall sp dvs E tNil) := by
  intro pins s σ H Q I h
  refine wpAny_Call_Name_kw (ld_glob I hg hm ?_ hdb)
  exact PySem.W.callWith_K0 I.kIn hk (run_fn (us := []) F hr hb hd hx I .nil h)

/-- o.m(e, ..) -/
theorem pe_meth {pl : Sem Bool} (he : PE X o ta) (c : Cls X.K C) (hm : Meth X.K C m f) (F : FnOk X.prog X.w X.K X.mg X.base CX k f fd ps sp) (hr : Room k X.A) (hb : Binds X.K fd ps ds) (hd : Vals dvs ds) (hx : Passes CX X E) (ha : PA X (e :: es) t)
    (hst : starEach (e :: es) X.env = (false, eval e X.env) :: starEach es X.env := by rfl) (hpl : (backTo pos (starEach es X.env)).any (·.1) = false := by rfl)
    (ht : eval (.Call (.Attribute o m apos) (e :: es) [] pos) X.env = (do
      let ov ← eval o X.env
      standAt apos.atName
      let (f, first) ← holding [ov] (getMethod ov m pl)
      callWith pos f first (backTo pos (starEach (e :: es) X.env)) (backToKw pos (keywordEach [] X.env))) := by rfl) :
    PE X (.Call (.Attribute o m apos) (e :: es) [] pos) (tMeth C m sp dvs E ta t) := by
  intro pins s σ H Q I h
  refine PySem.W.methodCall_KW (pl := pl) (thn (he pins s σ H _ I h) fun u s1 ⟨x, H1, I1, rx, a, dx, fs, ex, ea, l, q⟩ => ?_) ht
  subst ex
  obtain rfl : u = Value.ref a := rx
  refine getmeth_ok I1 ea c hm l ?_
  refine PySem.W.callWith_K (first := [.ref a]) (h₀ := X.base) I.ok.mod.kin hm.kp (thn (ha pos pins s1 σ H1 _ I1 q) fun us s2 ⟨vs, H2, I2, r, q2⟩ => ⟨I2.kIn, ?_⟩) hst hpl
  exact run_fn (us := .ref a :: us) (vs := .ref a :: vs) F hr hb hd hx I2 (.cons rfl r) q2
/-- o.m() -/
theorem pe_meth0 {pl : Sem Bool} (he : PE X o ta) (c : Cls X.K C) (hm : Meth X.K C m f) (F : FnOk X.prog X.w X.K X.mg X.base CX k f fd ps sp) (hr : Room k X.A) (hb : Binds X.K fd ps ds) (hd : Vals dvs ds) (hx : Passes CX X E)
    (ht : eval (.Call (.Attribute o m apos) [] [] pos) X.env = (do
      let ov ← eval o X.env
      standAt apos.atName
      let (f, first) ← holding [ov] (getMethod ov m pl)
      callWith pos f first (backTo pos (starEach [] X.env)) (backToKw pos (keywordEach [] X.env))) := by rfl) :
    PE X (.Call (.Attribute o m apos) [] [] pos) (tMeth C m sp dvs E ta tNil) := by
  intro pins s σ H Q I h
  refine PySem.W.methodCall_KW (pl := pl) (thn (he pins s σ H _ I h) fun u s1 ⟨x, H1, I1, rx, a, dx, fs, ex, ea, l, q⟩ => ?_) ht
  subst ex
  obtain rfl : u = Value.ref a := rx
  refine getmeth_ok I1 ea c hm l ?_
  exact PySem.W.callWith_K0 (first := [.ref a]) I1.kIn hm.kp (run_fn (us := [.ref a]) (vs := [.ref a]) F hr hb hd hx I1 (.cons rfl .nil) q)

/-- what a class must have to be made -/
structure Mk (K : PySem.W.Frag) (C f : Addr) : Prop where
  makes : PySem.W.makesIn K C = true
  init : PySem.W.findIn K (.ref C) "__init__" = some (some (.ref f))
  fn : PySem.W.isFn K (.ref f) = true
  kp : PySem.W.keepIn K (.ref C) = true

theorem run_make {pins : List (Addr × Obj)} {σ : St} {H : Hp} {s : Shared} {Q : VK} {us : List Value} {vs : List V} (M : Mk X.K C f) (F : FnOk X.prog X.w X.K X.mg X.base CX k f fd ps sp) (hr : Room (k + 1) X.A) (hb : Binds X.K fd ps ds) (hd : Vals dvs ds)
    (hx : Passes CX X E) (I : Inv X pins σ H s) (r : Vals vs us)
    (h : ∀ x dx, H x = none → H dx = none → dx ≠ x → sp (.ref x :: (vs ++ dvs)) (upd (upd H dx (.own x)) x (.ins C dx [])) (fun v H2 => v = .non ∧ Q (.ref x) H2) E) :
    wpAny (model X.prog X.w) X.A (call (.ref C) us) (EP X pins σ Q) X.xe s := by
  have hq := h (s.heap.objs.size + 1) s.heap.objs.size (I.hok.fresh (Nat.le_succ _)) (I.hok.fresh (Nat.le_refl _)) (Nat.ne_of_lt (Nat.lt_succ_self _))
  have I2 := Inv.made (C := C) I
  have r2 : Vals (V.ref (s.heap.objs.size + 1) :: (vs ++ dvs)) (Value.ref (s.heap.objs.size + 1) :: (us ++ ds)) := .cons rfl (r.append hd)
  have hl : (Value.ref (s.heap.objs.size + 1) :: us ++ ds).length = ps.length := by
    have e := r2.length
    rw [F.len _ _ _ _ hq] at e
    exact e.symm
  refine wpAny_call (make_map (f := f) I.kIn M.makes M.init (beq_iff_eq.mp M.fn) (codeAny_mono (F.run _ X.stack _ _ ⟨Value.ref (s.heap.objs.size + 1) :: us, []⟩ (Value.ref (s.heap.objs.size + 1) :: (us ++ ds)) _ _ E (hr.make C us [])
    (I2.env0.make C us []) (hb _ (Value.ref (s.heap.objs.size + 1) :: us) I2.kIn hl) r2 hq) fun r s' hq' => ?_))
  cases r with
  | error e => exact hx pins σ _ _ e s' I2 hq'
  | ok fl =>
    cases fl with
    | ret u =>
      obtain ⟨v, H', I3, rv, ev, q3⟩ := I2.after hq'
      subst ev
      exact ⟨rv, ⟨V.ref (s.heap.objs.size + 1), H', I3, rfl, q3⟩⟩
    | next => exact False.elim hq'
    | brk => exact False.elim hq'
    | cont => exact False.elim hq'
theorem pe_make (M : Mk X.K C f) (F : FnOk X.prog X.w X.K X.mg X.base CX k f fd ps sp) (hr : Room (k + 1) X.A) (hg : Gl X x) (hm : X.mg x = some (.ref C)) (hb : Binds X.K fd ps ds) (hd : Vals dvs ds) (hx : Passes CX X E)
    (ha : PA X (e :: es) t) (hdb : (x == ("__debug__" : Str)) = false := by decide) (he : starEach (e :: es) X.env = (false, eval e X.env) :: starEach es X.env := by rfl) (hpl : (backTo pos (starEach es X.env)).any (·.1) = false := by rfl) :
    PE X (.Call (.Name x p) (e :: es) [] pos) (tMake C sp dvs E t) := by
  intro pins s σ H Q I h
  refine wpAny_Call_Name_kw (ld_glob I hg hm ?_ hdb)
  refine PySem.W.callWith_K (h₀ := X.base) I.ok.mod.kin M.kp (thn (ha pos pins s σ H _ I h) fun us s1 ⟨vs, H1, I1, r, q⟩ => ⟨I1.kIn, ?_⟩) he hpl
  exact run_make M F hr hb hd hx I1 r q
theorem pe_make0 (M : Mk X.K C f) (F : FnOk X.prog X.w X.K X.mg X.base CX k f fd ps sp) (hr : Room (k + 1) X.A) (hg : Gl X x) (hm : X.mg x = some (.ref C)) (hb : Binds X.K fd ps ds) (hd : Vals dvs ds) (hx : Passes CX X E)
    (hdb : (x == ("__debug__" : Str)) = false := by decide) : PE X (.Call (.Name x p) [] [] pos) (tMake C sp dvs E tNil) := by
  intro pins s σ H Q I h
  refine wpAny_Call_Name_kw (ld_glob I hg hm ?_ hdb)
  exact PySem.W.callWith_K0 I.kIn M.kp (run_make (us := []) M F hr hb hd hx I .nil h)
end

/-! ### keywords -/
/-- the values of the keywords, from the left -/
def PK (X : Cx) (kws : List Keyword) (t : TA) : Prop :=
  ∀ (pos : Pos) (pins : List (Addr × Obj)) (s : Shared) (σ : St) (H : Hp) (Q : List V → Hp → Prop), Inv X pins σ H s → t σ H Q → wpAny (model X.prog X.w) X.A (evalAll ((backToKw pos (keywordEach kws X.env)).map (·.2))) (AP X pins σ Q) X.xe s
section
variable {X : Cx} {CX : CXT} {k : Nat} {f C : Addr} {fd : FuncData} {ps ks : List Str} {sp : Sp} {E : XK} {x m : Str} {p pos apos kpos : Pos} {e o : Expr} {es : List Expr} {kws : List Keyword} {te ta : TE} {t tk : TA} {nm : Option Str}
theorem pk_nil : PK X [] tNil := fun _ _ _ _ H Q I h => wpAny_evalAll_nil ⟨[], H, I, .nil, h⟩
theorem pk_cons (ha : PE X e te) (hr : PK X kws t) : PK X (⟨nm, e, kpos⟩ :: kws) (tCons te t) := by
  intro pos pins s σ H Q I h
  show wpAny _ _ (evalAll ((do let v ← eval e X.env; standAt pos; pure v) :: (backToKw pos (keywordEach kws X.env)).map (·.2))) _ _ s
  refine wpAny_evalAll_cons (wpAny_bind (thn (ha pins s σ H _ I h) fun u s1 ⟨x, H1, I1, r1, q1⟩ => wpAny_bind (wpAny_standAt (wpAny_pure ?_))))
  exact thn (hr pos pins s1 σ H1 _ I1 q1) fun us s2 ⟨xs, H2, I2, r2, q2⟩ => ⟨x :: xs, H2, I2, .cons r1 r2, q2⟩

/-- how a call with keywords binds: g puts the positional values us and the keywords' values ws (names ks) in the parameters' order, defaults among them -/
structure KBinds (K : PySem.W.Frag) (fd : FuncData) (ps ks : List Str) (g : List Value → List Value → List Value) (gV : List V → List V → List V) : Prop where
  to : ∀ (s : Shared) (us ws : List Value), K.In s.heap → (g us ws).length = ps.length → BindsTo s fd ⟨us, ks.zip ws⟩ (ps.zip (g us ws))
  rel : ∀ {vs : List V} {us : List Value} {zs : List V} {ws : List Value}, Vals vs us → Vals zs ws → Vals (gV vs zs) (g us ws)
def tCallK (sp : Sp) (gV : List V → List V → List V) (E : XK) (t tk : TA) : TE := fun σ H Q => t σ H fun vs H1 => tk σ H1 fun zs H2 => sp (gV vs zs) H2 Q E
variable {g : List Value → List Value → List Value} {gV : List V → List V → List V}
theorem run_fnk {pins : List (Addr × Obj)} {σ : St} {H : Hp} {s : Shared} {Q : VK} {us ws : List Value} {vs zs : List V} (F : FnOk X.prog X.w X.K X.mg X.base CX k f fd ps sp) (hr : Room k X.A) (hb : KBinds X.K fd ps ks g gV) (hx : Passes CX X E)
    (I : Inv X pins σ H s) (r : Vals vs us) (rz : Vals zs ws) (h : sp (gV vs zs) H Q E) : wpAny (model X.prog X.w) X.A (call (.ref f) us (ks.zip ws)) (EP X pins σ Q) X.xe s := by
  have r2 := hb.rel r rz
  have hl : (g us ws).length = ps.length := by rw [← r2.length]; exact F.len _ _ _ _ h
  refine wpAny_call (codeAny_mono (F.run X.A X.stack s H ⟨us, ks.zip ws⟩ (g us ws) (gV vs zs) Q E hr I.env0 (hb.to s us ws I.kIn hl) r2 h) fun r s' hq => ?_)
  cases r with
  | error e => exact hx pins σ H s e s' I hq
  | ok fl =>
    cases fl with
    | ret u => exact I.after hq
    | next => exact False.elim hq
    | brk => exact False.elim hq
    | cont => exact False.elim hq
/-- f(e, .., k = v, ..) -/
theorem pe_callK (F : FnOk X.prog X.w X.K X.mg X.base CX k f fd ps sp) (hr : Room k X.A) (hg : Gl X x) (hm : X.mg x = some (.ref f)) (hk : PySem.W.keepIn X.K (.ref f) = true) (hb : KBinds X.K fd ps ks g gV) (hx : Passes CX X E)
    (ha : PA X (e :: es) t) (hkw : PK X kws tk) (hall : (backToKw pos (keywordEach kws X.env)).all (·.1.isSome) = true := by rfl) (hks : (backToKw pos (keywordEach kws X.env)).filterMap (·.1) = ks := by rfl)
    (hdb : (x == ("__debug__" : Str)) = false := by decide) (he : starEach (e :: es) X.env = (false, eval e X.env) :: starEach es X.env := by rfl)
    (hpl : ((backTo pos (starEach (e :: es) X.env)).any (·.1) || (backToKw pos (keywordEach kws X.env)).any (·.1.isNone)) = false := by rfl) :
    PE X (.Call (.Name x p) (e :: es) kws pos) (tCallK sp gV E t tk) := by
  intro pins s σ H Q I h
  refine wpAny_Call_Name_kw (ld_glob I hg hm ?_ hdb)
  refine PySem.W.callWith_KW (h₀ := X.base) I.ok.mod.kin hk hall (thn (ha pos pins s σ H _ I h) fun us s1 ⟨vs, H1, I1, r, q⟩ => ?_) hpl he
  refine thn (hkw pos pins s1 σ H1 _ I1 q) fun ws s2 ⟨zs, H2, I2, rz, q2⟩ => ⟨I2.kIn, ?_⟩
  rw [hks]
  exact run_fnk F hr hb hx I2 r rz q2
end

/-! ### a def's body keeps its promise -/
/-- names: the parameters first -/
structure FnScope (N P : List Str) (sc : Scope) : Prop where
  kind : sc.kind = .function
  co : sc.isCoroutine = false
  gen : sc.isGenerator = false
  nd : N.Nodup
  pre : N.take P.length = P
  par : ∀ x ∈ P, sc.names.lookup x = some .local ∨ sc.names.lookup x = some .cell
  nofree : ∀ y ∈ sc.names, y.2 ≠ .free

theorem bindL_out {kindOf : Str → Option NameKind} {x : Str} : ∀ {binds : List (Str × Value)} {m : Str → Option Value}, (∀ v, (x, v) ∉ binds) → bindL kindOf binds m x = m x
  | [], _, _ => rfl
  | (n, v) :: r, m, h => by
    unfold bindL
    rw [bindL_out fun w hw => h w (List.mem_cons_of_mem _ hw)]
    split
    · have : x ≠ n := by rintro rfl; exact h v List.mem_cons_self
      simp [this]
    · rfl
theorem bindC_out {kindOf : Str → Option NameKind} {x : Str} : ∀ {binds : List (Str × Value)} {m : Str → Option Value}, (∀ v, (x, v) ∉ binds) → bindC kindOf binds m x = m x
  | [], _, _ => rfl
  | (n, v) :: r, m, h => by
    unfold bindC
    rw [bindC_out fun w hw => h w (List.mem_cons_of_mem _ hw)]
    split
    · rfl
    · have : x ≠ n := by rintro rfl; exact h v List.mem_cons_self
      simp [this]
theorem bindL_get {kindOf : Str → Option NameKind} {x : Str} {v : Value} : ∀ {P : List Str} {vs : List Value} {i : Nat} {m : Str → Option Value}, P.Nodup → P[i]? = some x → vs[i]? = some v → kindOf x = some .local →
    bindL kindOf (P.zip vs) m x = some v
  | [], _, _, _, _, h, _, _ => by simp at h
  | _ :: _, [], _, _, _, _, h, _ => by simp at h
  | p :: P, w :: vs, 0, m, nd, h1, h2, hk => by
    simp at h1 h2; subst h1; subst h2
    show bindL kindOf ((p, w) :: P.zip vs) m p = _
    unfold bindL
    rw [bindL_out fun v hv => (List.nodup_cons.mp nd).1 (List.of_mem_zip hv).1, if_pos hk]
    simp
  | p :: P, w :: vs, i + 1, m, nd, h1, h2, hk => by
    show bindL kindOf ((p, w) :: P.zip vs) m x = _
    unfold bindL
    exact bindL_get (i := i) (List.nodup_cons.mp nd).2 (by simpa using h1) (by simpa using h2) hk
theorem bindC_get {kindOf : Str → Option NameKind} {x : Str} {v : Value} : ∀ {P : List Str} {vs : List Value} {i : Nat} {m : Str → Option Value}, P.Nodup → P[i]? = some x → vs[i]? = some v → kindOf x ≠ some .local →
    bindC kindOf (P.zip vs) m x = some v
  | [], _, _, _, _, h, _, _ => by simp at h
  | _ :: _, [], _, _, _, _, h, _ => by simp at h
  | p :: P, w :: vs, 0, m, nd, h1, h2, hk => by
    simp at h1 h2; subst h1; subst h2
    show bindC kindOf ((p, w) :: P.zip vs) m p = _
    unfold bindC
    rw [bindC_out fun v hv => (List.nodup_cons.mp nd).1 (List.of_mem_zip hv).1, if_neg hk]
    simp
  | p :: P, w :: vs, i + 1, m, nd, h1, h2, hk => by
    show bindC kindOf ((p, w) :: P.zip vs) m x = _
    unfold bindC
    exact bindC_get (i := i) (List.nodup_cons.mp nd).2 (by simpa using h1) (by simpa using h2) hk

/-- the names' values at the entry -/
def start (N : List Str) (vs : List V) : St := vs.map some ++ List.replicate (N.length - vs.length) none

/-- the context of a def's body, at its entry; an exception leaves the frame, then lies as CX says -/
def cxOf (CX : CXT) (P : Program) (w : World) (K : PySem.W.Frag) (mg : Str → Option Value) (base : Heap) (N : List Str) (qual : Str) (scope : Scope) (f : Addr) (cd : Value) (A : Around) (outer : List Env) (s : Shared) (H : Hp) (E : XK) : Cx where
  prog := P
  w := w
  K := K
  mg := mg
  base := base
  A := A.deeper (envOfC qual scope s.heap.objs.size f cd)
  N := N
  s₀ := s
  H₀ := H
  env := envOfC qual scope s.heap.objs.size f cd
  outer := outer
  stack := envOfC qual scope s.heap.objs.size f cd :: outer
  ex := []
  calm := true
  fn := fun _ => true
  pn := []
  xe := fun e s' => wpAny (model P w) (A.deeper (envOfC qual scope s.heap.objs.size f cd)) (leaving (envOfC qual scope s.heap.objs.size f cd) e) (fun _ s'' => CX outer H s E e s'') (fun e' s'' => CX outer H s E e' s'') s'

theorem cell_has {sc : Scope} {n : Nat} {x : Str} (h : sc.names.lookup x = some .cell) : ∃ c, (cellsFrom n sc.names []).lookup x = some c := by
  have q := PySem.W.cellsFrom_some sc.names n [] (.inl h)
  exact Option.isSome_iff_exists.mp q

theorem inv_start {CX : CXT} {P : Program} {w : World} {K : PySem.W.Frag} {mg : Str → Option Value} {base : Heap} {N ps : List Str} {qual : Str} {scope : Scope} {f : Addr} {cd : Value} {A : Around} {outer : List Env} {s s1 : Shared} {H : Hp} {E : XK} {us : List Value} {vs : List V}
    (S : FnScope N ps scope) (hd : A.handled = none) (e0 : Env0 P w K mg base A outer s H) (hl : vs.length = ps.length) (r : Vals vs us)
    (x : InCallC s s.heap.objs.size (bindL (envOfC qual scope s.heap.objs.size f cd).kindOf (ps.zip us) fun _ => none) (cellsFrom (s.heap.objs.size + 1) scope.names []) (bindC (envOfC qual scope s.heap.objs.size f cd).kindOf (ps.zip us) fun _ => none) s1) :
    Inv (cxOf CX P w K mg base N qual scope f cd A outer s H E) [] (start N vs) H s1 := by
  have hpl : ps.length ≤ N.length := by have := congrArg List.length S.pre; rw [List.length_take] at this; omega
  obtain ⟨h1, tk, rfl, hk⟩ := x.done
  have noA : ∀ b : Addr, b ∉ (cxOf CX P w K mg base N qual scope f cd A outer s H E).ex := fun b z => absurd (show b ∈ ([] : List Addr) from z) (by simp)
  refine ⟨⟨e0.mod, S.kind, rfl, rfl, Nat.le_refl _, fun y z c h1 h2 => ?_, fun y hy => ?_, fun y c _ h => ?_, fun _ => hd, Around.frames_deeper e0.frames, .inr ⟨rfl, rfl⟩, fun b z => absurd z (noA b), e0.bs, e0.bsz, fun b _ _ => noA b, fun b z => absurd z (noA b), e0.funs, e0.frf⟩,
    rfl, e0.bare, Un.kept hk, ⟨_, x.toInCall.ns, fun i y v h1 h2 h3 => ?_⟩, fun y c h => ⟨_, x.cell y c h⟩, e0.hok.fresh (Nat.le_refl _), fun y c h => ?_, fun p hp => absurd (show p ∈ ([] : List (Addr × Obj)) from hp) (by simp), e0.hok.kept hk, ?_⟩
  · exact name_of_addr x.apart (PySem.mem_of_lookup h1) (PySem.mem_of_lookup h2)
  · have hy : scope.names.lookup y = some .cell ∨ scope.names.lookup y = some .free := hy
    rcases hy with hy | hy
    · exact cell_has hy
    · exact absurd rfl (S.nofree _ (PySem.mem_of_lookup hy))
  · exact Nat.le_of_lt (x.above y c (PySem.mem_of_lookup h))
  · have hi : i < vs.length := by
      unfold start at h2
      by_cases hi : i < vs.length
      · exact hi
      · rw [List.getElem?_append_right (by simpa using hi)] at h2
        rw [List.getElem?_replicate] at h2
        split at h2 <;> cases h2
    have ha : vs[i]? = some v := by
      unfold start at h2
      rw [List.getElem?_append_left (by simpa using hi), List.getElem?_map] at h2
      cases e : vs[i]? with
      | none => rw [e] at h2; cases h2
      | some a => rw [e] at h2; cases h2; rfl
    obtain ⟨u, hu, rv⟩ := r.get ha
    have hp : ps[i]? = some y := by
      rw [← S.pre, List.getElem?_take_of_lt (by omega)]; exact h1
    have ndP : ps.Nodup := by rw [← S.pre]; exact S.nd.sublist (List.take_sublist _ _)
    refine ⟨u, rv, ?_⟩
    rcases S.par y (List.mem_of_getElem? hp) with k | k
    · exact .inl ⟨k, bindL_get ndP hp hu k⟩
    · obtain ⟨c, e⟩ := cell_has (n := s.heap.objs.size + 1) k
      refine .inr ⟨.inl k, c, e, ?_⟩
      have q := x.cell y c e
      rw [bindC_get ndP hp hu (by show scope.names.lookup y ≠ _; rw [k]; decide)] at q
      exact q
  · exact e0.hok.fresh (Nat.le_of_lt (x.above y c (PySem.mem_of_lookup h)))
  · unfold start
    show _ = N.length
    rw [List.length_append, List.length_map, List.length_replicate]
    omega

/-- THE RULE: a def (or a method) of the text, by its body. The body's reading t is chosen for each entry; it is run at the parameters' values -/
theorem fn_of {CX : CXT} {P : Program} {w : World} {K : PySem.W.Frag} {mg : Str → Option Value} {base : Heap} {k : Nat} {f : Addr} {name qual : Str} {params : Arguments} {body : List Stmt} {scope : Scope} {dV kV doc pm cdv ct oc : Value} {an od : Option Addr}
    {osl : Array (Option Value)} {N ps : List Str} {sp : Sp} (lk : K.lookup f = some ⟨oc, od, .func (PySem.W.fnOf name qual params body scope dV kV doc pm an cdv ct), osl⟩) (hcd : PySem.W.codeIn K cdv qual = true) (S : FnScope N ps scope)
    (len : ∀ vs H Q E, sp vs H Q E → vs.length = ps.length)
    (hbody : ∀ (A : Around) (outer : List Env) (s : Shared) (H : Hp) (vs : List V) (Q : VK) (E : XK), Room k (A.deeper (envOfC qual scope s.heap.objs.size f cdv)) → sp vs H Q E →
      ∃ t, PSs (cxOf CX P w K mg base N qual scope f cdv A outer s H E) body t ∧ t { nx := fun _ H' => Q .non H', rt := Q } (start N vs) H) :
    FnOk P w K mg base CX (k + 1) f (PySem.W.fnOf name qual params body scope dV kV doc pm an cdv ct) ps sp := by
  refine ⟨len, fun A outer s H args us vs Q E hr e0 hb r hsp => ?_⟩
  have hl := len _ _ _ _ hsp
  have KX : K.In s.heap := e0.mod.kin.keeps fun b o e => (e0.bs b o e).1
  have lim : s.heap.NoLimit := e0.mod.nolimit.keeps fun b o e => (e0.bs b o e).1
  have hkind : ∀ y ∈ ps.zip us, scope.names.lookup y.1 = some .local ∨ (scope.names.lookup y.1 = some .cell ∧ ((cellsFrom (s.heap.objs.size + 1) scope.names []).lookup y.1).isSome = true) := fun ⟨n, v⟩ hy => by
    rcases S.par n (List.of_mem_zip hy).1 with q | q
    · exact .inl q
    · exact .inr ⟨q, PySem.W.cellsFrom_some _ _ _ (.inl q)⟩
  refine codeAny_call_function hr.depth (KX _ _ lk) rfl S.co S.gen rfl (PySem.W.codeRec_of KX hcd) (hb _ _ _ _ ?_)
  refine wpAny_newFunctionEnv_cells S.kind hkind fun env he s1 x => ?_
  subst he
  refine ⟨lim.keeps x.toInCall.keep, codeAny_func ?_⟩
  obtain ⟨t, ht, hq⟩ := hbody A outer s H vs Q E (hr.deeper _) hsp
  have I : Inv (cxOf CX P w K mg base N qual scope f cdv A outer s H E) [] (start N vs) H s1 := inv_start S hr.hd e0 hl r x
  refine wpAny_mono (ht [] s1 (start N vs) H _ I hq) (fun fl s' hs => ?_) fun e s' hs => hs
  have fin : ∀ {σ' : St} {H' : Hp} {v : V} {u : Value}, Inv (cxOf CX P w K mg base N qual scope f cdv A outer s H E) [] σ' H' s' → RelV v u → Q v H' → CE outer P w H s Q u s' :=
    fun {σ' H' v u} J rv q => ⟨v, H', J.os, J.bare, J.base, J.hok, rv, q⟩
  cases fl with
  | ret u =>
    obtain ⟨v, σ', H', J, rv, q⟩ := hs
    exact fin J rv q
  | next =>
    obtain ⟨σ', H', J, q⟩ := hs
    exact fin (v := V.non) (u := Value.none) J rfl q
  | brk =>
    obtain ⟨_, _, _, q⟩ := hs
    exact False.elim q
  | cont =>
    obtain ⟨_, _, _, q⟩ := hs
    exact False.elim q
end L2

namespace L2
open PySem PySem.Spec PyProof.Rows
section
variable {X : Cx} {x : Str} {p pos : Pos} {e : Expr} {es : List Expr} {t : TA} {id T : String} {r : List V → Hp → VK → Prop}

def tCB (r : List V → Hp → VK → Prop) (t : TA) : TE := fun σ H Q => t σ H fun vs H1 => r vs H1 Q
/-- f(e, ..), f a built-in function -/
theorem pe_callB (hc : CallR X (.builtin id) r) (hg : Gl X x) (hm : X.mg x = none) (hv : bootBuiltins x = some (.builtin id)) (ha : PA X (e :: es) t) (hn : x ≠ "__name__" := by decide) (hdb : (x == ("__debug__" : Str)) = false := by decide)
    (he : starEach (e :: es) X.env = (false, eval e X.env) :: starEach es X.env := by rfl) (hpl : (backTo pos (starEach es X.env)).any (·.1) = false := by rfl) : PE X (.Call (.Name x p) (e :: es) [] pos) (tCB r t) := by
  intro pins s σ H Q I h
  refine wpAny_Call_Name_kw (ld_blt I hg hm hv ?_ hn hdb)
  exact PyProof.Rows.callWith_builtin1 (thn (ha pos pins s σ H _ I h) fun us s1 ⟨vs, H1, I1, r1, q1⟩ => hc pins s1 σ H1 vs us Q I1 r1 q1) he hpl
/-- T(e, ..), T a built-in type -/
theorem pe_callTy (hc : CallR X (.type T) r) (hg : Gl X x) (hm : X.mg x = none) (hv : bootBuiltins x = some (.type T)) (ha : PA X (e :: es) t) (hn : x ≠ "__name__" := by decide) (hdb : (x == ("__debug__" : Str)) = false := by decide)
    (he : starEach (e :: es) X.env = (false, eval e X.env) :: starEach es X.env := by rfl) (hpl : (backTo pos (starEach es X.env)).any (·.1) = false := by rfl) : PE X (.Call (.Name x p) (e :: es) [] pos) (tCB r t) := by
  intro pins s σ H Q I h
  refine wpAny_Call_Name_kw (ld_blt I hg hm hv ?_ hn hdb)
  exact PyProof.Rows.callWith_type1 (thn (ha pos pins s σ H _ I h) fun us s1 ⟨vs, H1, I1, r1, q1⟩ => hc pins s1 σ H1 vs us Q I1 r1 q1) he hpl
/-- T() -/
theorem pe_callTy0 (hc : CallR X (.type T) r) (hg : Gl X x) (hm : X.mg x = none) (hv : bootBuiltins x = some (.type T)) (hn : x ≠ "__name__" := by decide) (hdb : (x == ("__debug__" : Str)) = false := by decide) :
    PE X (.Call (.Name x p) [] [] pos) (tCB r tNil) := by
  intro pins s σ H Q I h
  refine wpAny_Call_Name_kw (ld_blt I hg hm hv ?_ hn hdb)
  exact PyProof.Rows.callWith_type0 (hc pins s σ H [] [] Q I .nil h)
end
end L2

namespace HT
open PySem PyProof.Rows

/-- t < u of tuples of ints -/
def lexLt : List Int → List Int → Bool
  | [], [] => false
  | [], _ :: _ => true
  | _ :: _, [] => false
  | x :: xs, y :: ys => if x = y then lexLt xs ys else decide (x < y)
theorem lexLt_cons (x y : Int) (xs ys : List Int) : lexLt (x :: xs) (y :: ys) = if x = y then lexLt xs ys else decide (x < y) := rfl
theorem lexLt_nil_nil : lexLt [] [] = false := rfl
theorem lexLt_nil_cons (y : Int) (ys : List Int) : lexLt [] (y :: ys) = true := rfl
theorem lexLt_cons_nil (x : Int) (xs : List Int) : lexLt (x :: xs) [] = false := rfl

theorem eqAt_int (A : Around) (s : Shared) (a : Int) (t : Tok) (c : Int) (u : Tok) : ∃ e, SeqAt.EqAt A s (.int a t) (.int c u) e ∧ (e = true ↔ a = c) :=
  ⟨(a == c), SeqAt.EqAt.int_int a t c u, by simp⟩
theorem rcLt_int (A : Around) (s : Shared) (a : Int) (t : Tok) (c : Int) (u : Tok) (prog : Program) (w : World) (E : Value → Shared → Prop) (Q : Value → Shared → Prop) (h : Q (.bool (decide (a < c))) s) :
    wpAny (model prog w) A (richCompare .Lt (.int a t) (.int c u)) Q E s :=
  (PyProof.Rows.lt_int h : wpAny (model prog w) A (compareOp .Lt (.int a t) (.int c u)) Q E s)

section
open PySem.SeqAt
open PySem.AutoSeq1 (wpAny_loadPart')
open PySem.MeetsSeq PySem.MeetsSeq2 PySem.MeetsSeq3

theorem tuple_lt_ints (l b : Addr) (items items2 : Array Value) (n n2 : Nat) (dd dd2 : Option Addr) (sl sl2 : Array (Option Value)) (ns ms : List Int) (hi : IntsAre items.toList ns) (hj : IntsAre items2.toList ms) :
    Meets (Builtin.«tuple.__lt__» ⟨[.ref l, .ref b], []⟩)
      (fun _ R s => s.heap.get? l = some { cls := .type "tuple", dict := dd, data := .seq items n, slots := sl } ∧ s.heap.get? b = some { cls := .type "tuple", dict := dd2, data := .seq items2 n2, slots := sl2 } ∧
        R (.ok (.ret (.bool (lexLt ns ms)))) s) :=
  .of_wp fun prog w A R s h => by
    obtain ⟨hp, g, d, tk, os⟩ := s; obtain ⟨hl, hb, h⟩ := h
    have f2 := AutoSeq1.sub_tuple_tuple
    have z1 : items.size = ns.length := by rw [← hi.length]; simp
    have z2 : items2.size = ms.length := by rw [← hj.length]; simp
    wp_walk using wpAny_loadPart' hl, wpAny_loadPart' hb, wpAny_forIn_list _ (fun rest b s' => b.1 = none ∧ s' = ⟨hp, g, d, tk, os⟩ ∧ ∃ (vs ws : List Value) (ns' ms' : List Int), rest = vs.zip ws ∧
      IntsAre vs ns' ∧ IntsAre ws ms' ∧ ns'.length + items2.size = ms'.length + items.size ∧ R (.ok (.ret (.bool (lexLt ns' ms')))) ⟨hp, g, d, tk, os⟩) _
    case turn =>
      rintro ⟨y, x⟩ rest b s' ⟨hb', rfl, vs, ws, ns', ms', hz, hvi, hwi, hlen, hR⟩
      cases hvi with
      | nil => rw [List.zip_nil_left] at hz; cases hz
      | cons a t hvi' =>
        cases hwi with
        | nil => rw [List.zip_nil_right] at hz; cases hz
        | cons c u hwi' =>
          rw [List.zip_cons_cons] at hz
          injection hz with hyx hrest
          injection hyx with hy hx
          subst hy hx
          rw [lexLt_cons] at hR
          simp only [List.length_cons] at hlen
          obtain ⟨e, he, hiff⟩ := eqAt_int A.in1 ⟨hp, g, d, tk, os⟩ a t c u
          refine wpAny_bind (he prog w _ _ ?_)
          cases e with
          | true =>
            rw [if_pos (hiff.mp rfl)] at hR
            wp_walk
            exact ⟨rfl, rfl, _, _, _, _, hrest, hvi', hwi', by omega, hR⟩
          | false =>
            rw [if_neg (fun q => absurd (hiff.mpr q) Bool.false_ne_true)] at hR
            have hri := rcLt_int A.in1 ⟨hp, g, d, tk, os⟩ a t c u prog w
            wp_walk using hri
            exact ⟨_, rfl, by simpa using hR⟩
    case fin =>
      rintro ⟨b1, b2⟩ s' ⟨hb', rfl, vs, ws, ns', ms', hz, hvi, hwi, hlen, hR⟩
      simp only at hb'
      subst hb'
      have hv : lexLt ns' ms' = decide (items.size < items2.size) := by
        cases hvi with
        | nil =>
          cases hwi with
          | nil =>
            simp only [List.length_nil] at hlen
            rw [lexLt_nil_nil]
            exact (decide_eq_false (by omega)).symm
          | cons c u hw =>
            simp only [List.length_nil, List.length_cons] at hlen
            rw [lexLt_nil_cons]
            exact (decide_eq_true (by omega)).symm
        | cons a t hv =>
          cases hwi with
          | nil =>
            simp only [List.length_nil, List.length_cons] at hlen
            rw [lexLt_cons_nil]
            exact (decide_eq_false (by omega)).symm
          | cons c u hw =>
            rw [List.zip_cons_cons] at hz
            cases hz
      rw [hv] at hR
      wp_walk
      exact ⟨_, rfl, by simpa [Builtin.Tuple.tupleCompareSizes] using hR⟩
    case h =>
      exact ⟨rfl, rfl, items.toList, items2.toList, ns, ms, rfl, hi, hj, by omega, h⟩
end

section
variable {prog : Program} {w : World} {A : Around} {E : Value → Shared → Prop} {s : Shared}

theorem lt_tupInts {l b : Addr} {items items2 : Array Value} {ns ms : List Int} {Q : Value → Shared → Prop} (hl : IsTup s.heap l items) (hb : IsTup s.heap b items2) (hi : IntsAre items.toList ns) (hj : IntsAre items2.toList ms)
    (hu : A.units < cLine) (h : Q (.bool (lexLt ns ms)) s) : wpAny (model prog w) A (compareOp .Lt (.ref l) (.ref b)) Q E s := by
  obtain ⟨⟨cls, dd, data, sl⟩, ho, hc, n, hd⟩ := id hl
  obtain ⟨⟨cls2, dd2, data2, sl2⟩, ho2, hc2, n2, hd2⟩ := id hb
  simp only at hc hd hc2 hd2
  subst hc hd hc2 hd2
  exact richCompare_meets_room (op := .Lt) ⟨_, ho, rfl⟩ ⟨_, ho2, rfl⟩ PySem.F.slot_tuple_lt PySem.F.entry_tuple_lt (PySem.F.args_tuple_lt_2 _ _) (tuple_lt_ints l b items items2 n n2 dd dd2 sl sl2 ns ms hi hj)
    ⟨ho, ho2, show Value.bool (lexLt ns ms) ≠ Value.notImplemented ∧ Q (.bool (lexLt ns ms)) s from ⟨(fun x => nomatch x), h⟩⟩ hu

/-- t + u, t not empty -/
theorem cat_tup {t b : Addr} {vs ws : List Value} {Q : Value → Shared → Prop} (ht : IsTup s.heap t vs.toArray) (hb : IsTup s.heap b ws.toArray) (hv : vs ≠ [])
    (h1 : ws = [] → Q (.ref t) s) (h2 : ws ≠ [] → Q (.ref s.heap.objs.size) { s with heap := s.heap.push { cls := .type "tuple", data := .seq (vs ++ ws).toArray } })
    (hsz : vs.length + ws.length ≤ sizeLine) : wpAny (model prog w) A (binaryOp .Add (.ref t) (.ref b)) Q E s := by
  obtain ⟨⟨cls, dd, data, sl⟩, ho, hc, n, hd⟩ := id ht
  obtain ⟨⟨cls2, dd2, data2, sl2⟩, ho2, hc2, n2, hd2⟩ := id hb
  simp only at hc hd hc2 hd2
  subst hc hd hc2 hd2
  have e : vs.toArray ++ ws.toArray = (vs ++ ws).toArray := by simp
  by_cases hw : ws = []
  · exact concat_meets ⟨_, ho, rfl⟩ ⟨_, ho2, rfl⟩ noFill_tuple_add seq_tuple_add PySem.F.slot_tuple_add PySem.F.entry_tuple_add (PySem.F.args_tuple_add_2 _ _)
      (tuple_addW1 t b vs.toArray ws.toArray n n2 dd dd2 sl sl2 (by simpa using hv) (by simp [hw])) ⟨ho, ho2, h1 hw⟩
  · refine concat_meets ⟨_, ho, rfl⟩ ⟨_, ho2, rfl⟩ noFill_tuple_add seq_tuple_add PySem.F.slot_tuple_add PySem.F.entry_tuple_add (PySem.F.args_tuple_add_2 _ _)
      (tuple_addW2 t b vs.toArray ws.toArray n n2 dd dd2 sl sl2 (by simpa using hv) (by simpa using hw) (by rw [List.size_toArray, List.size_toArray]; exact hsz)) ⟨ho, ho2, ?_⟩
    rw [e]
    exact h2 hw

/-! ### t[a:b], not the whole -/
/-- a slice's bound as a place among n (d where it is left out) -/
def sIx (n d : Nat) : Option Int → Nat
  | none => d
  | some v => if v < 0 then (v + (n : Int)).toNat else min v.toNat n
theorem sIx_none (n d : Nat) : sIx n d none = d := rfl
theorem sIx_nat (n d k : Nat) : sIx n d (some (k : Int)) = min k n := by
  show (if (k : Int) < 0 then ((k : Int) + (n : Int)).toNat else min (k : Int).toNat n) = min k n
  rw [if_neg (by omega), Int.toNat_natCast]
theorem sIx_le (n d : Nat) (hd : d ≤ n) (o : Option Int) : sIx n d o ≤ n := by
  cases o with
  | none => exact hd
  | some v =>
    show (if v < 0 then (v + (n : Int)).toNat else min v.toNat n) ≤ n
    by_cases hv : v < 0
    · rw [if_pos hv]; omega
    · rw [if_neg hv]; exact Nat.min_le_right _ _
theorem clip_eq (v : Int) (n d : Nat) : (if v < 0 then max (v + (n : Int)) 0 else min v (n : Int)) = ((sIx n d (some v) : Nat) : Int) := by
  show (if v < 0 then max (v + (n : Int)) 0 else min v (n : Int)) = (((if v < 0 then (v + (n : Int)).toNat else min v.toNat n) : Nat) : Int)
  by_cases hv : v < 0
  · simp only [if_pos hv]; omega
  · simp only [if_neg hv]; omega
theorem adjust_gen (lo hi : Option Int) (n : Nat) : Builtin.Slice.sliceAdjust lo hi 1 (n : Int) = (((sIx n 0 lo : Nat) : Int), ((sIx n n hi : Nat) : Int)) := by
  have h1 : ¬ ((1 : Int) < 0) := by omega
  unfold Builtin.Slice.sliceAdjust
  simp only [h1, if_false]
  refine Prod.ext ?_ ?_
  · cases lo with
    | none => rfl
    | some v => exact clip_eq v n 0
  · cases hi with
    | none => rfl
    | some v => exact clip_eq v n n
theorem places_gen (i j : Nat) : Builtin.Slice.slicePlaces (i : Int) (j : Int) 1 = j - i := by
  unfold Builtin.Slice.slicePlaces
  have h1 : (1 : Int) > 0 := by omega
  simp only [h1, if_true, Int.ediv_one]
  split <;> omega
theorem slicePart_ {v : Value} {o : Option Int} {Q : Option Int → Shared → Prop} (p : IsPart v o) (h : Q o s) : wpAny (model prog w) A (Builtin.Slice.slicePartIndex v) Q E s := by
  cases p with
  | none => exact slicePart_none h
  | int i t => exact slicePart_int h
theorem sliceApplied_gen {sl : Addr} {vl vu : Value} {lo hi : Option Int} {n : Nat} {Q : Int × Int × Nat → Shared → Prop} (hs : s.heap.IsSliceOf sl vl vu .none) (pl : IsPart vl lo) (pu : IsPart vu hi)
    (h : Q (((sIx n 0 lo : Nat) : Int), 1, sIx n n hi - sIx n 0 lo) s) : wpAny (model prog w) A (Builtin.Slice.sliceApplied (.ref sl) (pure (n : Int))) Q E s := by
  obtain ⟨os, hos, hcs, hds⟩ := id hs
  unfold Builtin.Slice.sliceApplied Builtin.Slice.sliceFields
  refine wpAny_bind (wpAny_bind (wpAny_field hos hds (x := vl) rfl (wpAny_bind (wpAny_field hos hds (x := vu) rfl (wpAny_bind (wpAny_field hos hds (x := .none) rfl (wpAny_pure ?_)))))))
  refine wpAny_bind (slicePart_none ?_)
  show wpAny _ _ (if ((1 : Int) == 0) = true then _ else _) _ _ s
  rw [if_neg (by decide)]
  refine wpAny_bind (slicePart_ pl (wpAny_bind (slicePart_ pu (wpAny_bind (wpAny_pure ?_)))))
  show wpAny _ _ (match Builtin.Slice.sliceAdjust lo hi 1 (n : Int) with | (lo, hi) => pure (lo, (1 : Int), Builtin.Slice.slicePlaces lo hi 1)) _ _ s
  rw [adjust_gen lo hi n]
  show wpAny _ _ (pure (((sIx n 0 lo : Nat) : Int), (1 : Int), Builtin.Slice.slicePlaces ((sIx n 0 lo : Nat) : Int) ((sIx n n hi : Nat) : Int) 1)) _ _ s
  rw [places_gen]
  exact wpAny_pure h
theorem pick_gen (xs : Array Value) (i k : Nat) : ((List.range k).filterMap fun (m : Nat) => xs[((i : Int) + (m : Int) * 1).toNat]?).toArray = ((xs.toList.drop i).take k).toArray := by
  have e : (fun (m : Nat) => xs[((i : Int) + (m : Int) * 1).toNat]?) = fun m => xs[i + m]? := by
    funext m
    have : ((i : Int) + (m : Int) * 1).toNat = i + m := by omega
    rw [this]
  rw [e]
  have := pick_run xs i k
  rw [List.filterMap_map] at this
  have e2 : ((fun x => xs[x]?) ∘ fun x => i + x) = fun m => xs[i + m]? := rfl
  rw [e2] at this
  rw [this]

theorem getItem_tuple_cut {t sl : Addr} {items : Array Value} {vl vu : Value} {lo hi : Option Int} {Q : Value → Shared → Prop} (ht : IsTup s.heap t items) (hs : s.heap.IsSliceOf sl vl vu .none) (pl : IsPart vl lo) (pu : IsPart vu hi)
    (hw : ¬ (sIx items.size 0 lo = 0 ∧ sIx items.size items.size hi = items.size))
    (h : Q (.ref s.heap.objs.size) { s with heap := s.heap.push { cls := .type "tuple", data := .seq ((items.toList.drop (sIx items.size 0 lo)).take (sIx items.size items.size hi - sIx items.size 0 lo)).toArray } })
    (hsz : items.size ≤ sizeLine) : wpAny (model prog w) A (getItem (.ref t) (.ref sl)) Q E s := by
  have htake : sizeOk (.seq ((items.toList.drop (sIx items.size 0 lo)).take (sIx items.size items.size hi - sIx items.size 0 lo)).toArray) := by
    show ((items.toList.drop (sIx items.size 0 lo)).take (sIx items.size items.size hi - sIx items.size 0 lo)).toArray.size ≤ sizeLine
    rw [List.size_toArray, List.length_take, List.length_drop, Array.length_toList]
    omega
  have hj : sIx items.size items.size hi ≤ items.size := sIx_le _ _ (Nat.le_refl _) hi
  obtain ⟨os, hos, hcs, hds⟩ := id hs
  have hTs : s.TypeIs (.ref sl) "slice" := ⟨os, hos, hcs⟩
  unfold getItem
  try with_reducible refine wpAny_holding ?_
  first | refine wpAny_bind (wpAny_pure ?_) | skip
  refine wpAny_bind (wpAny_sequenceKey ht.typeIs (by decide) ?_)
  refine wpAny_bind (wpAny_callSpecial?_slot (name := Str.ofString "__getitem__") ht.typeIs PyProof.Rows.slot_tuple_getitem
    (wpAny_call_entry PyProof.Rows.slot_tuple_getitem ht.typeIs entry_tuple_getitem ?_ (args_tuple_getitem _ _)))
  show wpAny _ _ (Builtin.Tuple.tupleItemsOf (.ref t) >>= _) _ _ s
  refine wpAny_bind (tupleItemsOf_ ht ?_)
  refine wpAny_bind (wpAny_typeOf hTs ?_)
  rw [if_pos (by decide)]
  refine wpAny_bind (sliceApplied_gen hs pl pu ?_)
  have hno : ¬ ((((sIx items.size 0 lo : Nat) : Int) == 0 && (1 : Int) == 1 && (sIx items.size items.size hi - sIx items.size 0 lo) == items.size) = true) := by
    intro q
    rw [Bool.and_eq_true, Bool.and_eq_true] at q
    have q1 : ((sIx items.size 0 lo : Nat) : Int) = 0 := eq_of_beq q.1.1
    have q2 : sIx items.size items.size hi - sIx items.size 0 lo = items.size := eq_of_beq q.2
    exact hw ⟨by omega, by omega⟩
  show wpAny _ _ (if (((sIx items.size 0 lo : Nat) : Int) == 0 && (1 : Int) == 1 && (sIx items.size items.size hi - sIx items.size 0 lo) == items.size) = true then _ else _) _ _ s
  rw [if_neg hno, pick_gen]
  first
    | exact wpAny_bind (m := Builtin.Tuple.tupleExact _) (wpAny_newObj_type (wpAny_pure ⟨_, rfl, wpAny_pure h⟩) htake)
    | exact wpAny_bind (m := Builtin.Tuple.tupleExact _) (wpAny_newObj_type (wpAny_bind (wpAny_pure (wpAny_pure ⟨_, rfl, wpAny_pure h⟩))) htake)
    | exact wpAny_bind (wpAny_bind (m := Builtin.Tuple.tupleExact _) (wpAny_newObj_type (wpAny_pure (wpAny_pure ⟨_, rfl, wpAny_pure h⟩)) htake))
    | exact wpAny_bind (wpAny_bind (m := Builtin.Tuple.tupleExact _) (wpAny_newObj_type (wpAny_pure ⟨_, rfl, wpAny_pure h⟩) htake))
end
end HT

namespace L2
open PySem PySem.Spec PyProof.Rows

/-! ### the parts of a slice -/
abbrev TO := St → Hp → (Option Int → Hp → Prop) → Prop
/-- a slice's part (left out, or an int) -/
def PO (X : Cx) (e : Option Expr) (t : TO) : Prop :=
  ∀ (pins : List (Addr × Obj)) (s : Shared) (σ : St) (H : Hp) (Q : Option Int → Hp → Prop), Inv X pins σ H s → t σ H Q →
    wpAny (model X.prog X.w) X.A (evalPart e X.env) (fun u s' => ∃ o H', Inv X pins σ H' s' ∧ IsPart u o ∧ Q o H') X.xe s
def tNoPart : TO := fun _ H Q => Q none H
def tPart (t : TE) : TO := fun σ H Q => t σ H fun x H1 => ∃ i, x = .int i ∧ Q (some i) H1

theorem intsAre_of {ns : List Int} : ∀ {us : List Value}, Vals (ns.map V.int) us → IntsAre us ns := by
  induction ns with
  | nil => intro us r; rw [List.map_nil] at r; cases r; exact .nil
  | cons n ns ih =>
    intro us r
    rw [List.map_cons] at r
    cases r with
    | cons r1 r2 =>
      obtain ⟨t, e⟩ := r1
      subst e
      exact .cons n t (ih r2)

section
variable {X : Cx} {e : Expr} {te : TE} {lo hi : Option Expr} {tl th : TO} {pos p2 : Pos}

theorem po_none : PO X none tNoPart := by
  intro pins s σ H Q I h
  rw [evalPart_none]
  exact wpAny_pure ⟨none, H, I, .none, h⟩
theorem po_some (h : PE X e te) : PO X (some e) (tPart te) := by
  intro pins s σ H Q I hw
  rw [evalPart_some]
  refine thn (h pins s σ H _ I hw) fun u s1 ⟨x, H1, I1, r1, q1⟩ => ?_
  obtain ⟨i, rfl, q⟩ := q1
  obtain ⟨t, rfl⟩ := r1
  exact ⟨some i, H1, I1, .int i t, q⟩

/-- what a slice of a value is, by values: the slice object stands at sl -/
def SlR (X : Cx) (r : V → Option Int → Option Int → Hp → VK → Prop) : Prop :=
  ∀ (pins : List (Addr × Obj)) (s : Shared) (σ : St) (H : Hp) (x : V) (v vl vu : Value) (lo hi : Option Int) (sl : Addr) (Q : VK), Inv X pins σ H s → RelV x v → s.heap.IsSliceOf sl vl vu .none → IsPart vl lo → IsPart vu hi → r x lo hi H Q →
    ∃ T id, typeLookup (.type T) "__getitem__" = pure (some (.builtin id)) ∧ s.TypeIs v T ∧ wpAny (model X.prog X.w) X.A (getItem v (.ref sl)) (EP X pins σ Q) X.xe s
theorem SlR.or {r r' : V → Option Int → Option Int → Hp → VK → Prop} (h : SlR X r) (h' : SlR X r') : SlR X (fun x lo hi H Q => r x lo hi H Q ∨ r' x lo hi H Q) := by
  intro pins s σ H x v vl vu lo hi sl Q I rx hs pl pu q
  rcases q with q | q
  · exact h pins s σ H x v vl vu lo hi sl Q I rx hs pl pu q
  · exact h' pins s σ H x v vl vu lo hi sl Q I rx hs pl pu q
def tSl (r : V → Option Int → Option Int → Hp → VK → Prop) (te : TE) (tl th : TO) : TE := fun σ H Q => te σ H fun x H1 => tl σ H1 fun l H2 => th σ H2 fun u H3 => r x l u H3 Q
/-- a[lo:hi], any a -/
theorem pe_slice {r : V → Option Int → Option Int → Hp → VK → Prop} (hr : SlR X r) (he : PE X e te) (hl : PO X lo tl) (hu : PO X hi th) : PE X (.Subscript e (.Slice lo hi none p2) pos) (tSl r te tl th) := by
  intro pins s σ H Q I h
  refine Subscript_ (thn (he pins s σ H _ I h) fun v s1 ⟨x, H1, I1, r1, q1⟩ => ?_)
  refine wpAny_Slice (thn (hl pins s1 σ H1 _ I1 q1) fun vl s2 ⟨l, H2, I2, pl, q2⟩ => thn (hu pins s2 σ H2 _ I2 q2) fun vu s3 ⟨u, H3, I3, pu, q3⟩ => ?_)
  rw [evalPart_none]
  refine wpAny_pure ?_
  have I4 : Inv X pins σ H3 { s3 with heap := s3.heap.push { cls := .type "slice", data := .fields #[vl, vu, .none] } } := I3.kept (t' := s3.toks) fun b ob q => Heap.get?_push_of_some _ q
  obtain ⟨T, id, hT, ht, hg⟩ := hr pins { s3 with heap := s3.heap.push { cls := .type "slice", data := .fields #[vl, vu, .none] } } σ H3 x v vl vu l u s3.heap.objs.size Q I4 r1 (Heap.IsSliceOf.new ..) pl pu q3
  show wpAny (model X.prog X.w) X.A (subscriptTail e (.Slice lo hi none p2) v (.ref s3.heap.objs.size)) (EP X pins σ Q) X.xe { s3 with heap := s3.heap.push { cls := .type "slice", data := .fields #[vl, vu, .none] } }
  exact tail_any (ops := [.ref s3.heap.objs.size, v]) ht hT hg (by with_unfolding_all rfl)

/-- the items of xs[lo:hi] -/
def cutV (xs : List V) (lo hi : Option Int) : List V := (xs.drop (HT.sIx xs.length 0 lo)).take (HT.sIx xs.length xs.length hi - HT.sIx xs.length 0 lo)
theorem cutV_length (xs : List V) (lo hi : Option Int) : (cutV xs lo hi).length ≤ xs.length := by
  unfold cutV
  rw [List.length_take, List.length_drop]
  omega
/-- t[lo:hi], not the whole of it (the whole would be t itself) -/
def rSlT (K : PySem.W.Frag) : V → Option Int → Option Int → Hp → VK → Prop := fun x lo hi H Q => ∃ a xs, x = .ref a ∧ SqT K H a xs ∧
  ¬ (HT.sIx xs.length 0 lo = 0 ∧ HT.sIx xs.length xs.length hi = xs.length) ∧ ∀ p, H p = none → Q (.ref p) (upd H p (.tup (cutV xs lo hi)))
theorem sl_tup : SlR X (rSlT X.K) := by
  intro pins s σ H x v vl vu lo hi sl Q I rx hs pl pu h
  obtain ⟨a, xs, rfl, hx, hw, q⟩ := h
  cases rx
  obtain ⟨its, r, ht, hz⟩ := I.tuple hx
  have hlen : its.toArray.size = xs.length := by rw [List.size_toArray]; exact r.length.symm
  refine ⟨"tuple", _, PyProof.Rows.slot_tuple_getitem.lookup, ht.typeIs, ?_⟩
  refine HT.getItem_tuple_cut ht hs pl pu (by rw [hlen]; exact hw) ?_ (by rw [hlen]; exact hz)
  rw [hlen]
  refine ⟨.ref s.heap.objs.size, _, I.laid (t' := s.toks) (o := .tup (cutV xs lo hi)) (fun b ob q => Heap.get?_push_of_some _ q) (Nat.le_refl _) ?_, rfl, q _ (I.hok.fresh (Nat.le_refl _))⟩
  exact ⟨Nat.le_trans (cutV_length xs lo hi) hz, _, (r.drop (HT.sIx xs.length 0 lo)).take (HT.sIx xs.length xs.length hi - HT.sIx xs.length 0 lo), IsTup.new _ _⟩

/-! ### t < u, t + u -/
def rLtT (K : PySem.W.Frag) : R2 := fun x y H Q => ∃ a b ns ms, x = .ref a ∧ y = .ref b ∧ SqT K H a (ns.map V.int) ∧ SqT K H b (ms.map V.int) ∧ Q (.bl (HT.lexLt ns ms)) H
theorem op_ltT (hu : X.A.units < cLine) : OpR X (compareOp .Lt) (rLtT X.K) := by
  intro pins s σ H x y v u Q I rx ry h
  obtain ⟨a, b, ns, ms, rfl, rfl, ha, hb, q⟩ := h
  cases rx
  cases ry
  obtain ⟨its, r1, p1, _⟩ := I.tuple ha
  obtain ⟨its2, r2, p2, _⟩ := I.tuple hb
  have i1 : IntsAre its.toArray.toList ns := intsAre_of r1
  have i2 : IntsAre its2.toArray.toList ms := intsAre_of r2
  exact HT.lt_tupInts p1 p2 i1 i2 hu ⟨.bl (HT.lexLt ns ms), H, I, rfl, q⟩
/-- t + u, t not empty: u empty gives t itself -/
def rCatT (K : PySem.W.Frag) : R2 := fun x y H Q => ∃ a b xs ys, x = .ref a ∧ y = .ref b ∧ SqT K H a xs ∧ SqT K H b ys ∧ xs ≠ [] ∧ xs.length + ys.length ≤ sizeLine ∧
  (ys = [] → Q (.ref a) H) ∧ (ys ≠ [] → ∀ p, H p = none → Q (.ref p) (upd H p (.tup (xs ++ ys))))
theorem Vals.nil_iff {xs : List V} {us : List Value} (r : Vals xs us) : us = [] ↔ xs = [] := by
  cases r with
  | nil => simp
  | cons _ _ => simp
theorem op_catT : OpR X (binaryOp .Add) (rCatT X.K) := by
  intro pins s σ H x y v u Q I rx ry h
  obtain ⟨a, b, xs, ys, rfl, rfl, ha, hb, hx, hz, q1, q2⟩ := h
  cases rx
  cases ry
  obtain ⟨its, r1, p1, _⟩ := I.tuple ha
  obtain ⟨its2, r2, p2, _⟩ := I.tuple hb
  refine HT.cat_tup p1 p2 (fun z => hx (r1.nil_iff.mp z)) (fun z => ⟨.ref a, H, I, rfl, q1 (r2.nil_iff.mp z)⟩) (fun z => ?_) (by rw [← r1.length, ← r2.length]; exact hz)
  refine ⟨.ref s.heap.objs.size, _, I.laid (t' := s.toks) (o := .tup (xs ++ ys)) (fun b ob q => Heap.get?_push_of_some _ q) (Nat.le_refl _) ?_, rfl, q2 (fun w => z (r2.nil_iff.mpr w)) _ (I.hok.fresh (Nat.le_refl _))⟩
  exact ⟨by rw [List.length_append]; exact hz, _, r1.append r2, IsTup.new _ _⟩
/-- tuple(t) -/
theorem call_tupleT : CallR X (.type "tuple") (fun xs H Q => ∃ a ys, xs = [.ref a] ∧ SqT X.K H a ys ∧ Q (.ref a) H) := by
  intro pins s σ H xs us Q I r h
  obtain ⟨a, ys, rfl, ha, q⟩ := h
  obtain ⟨u, rfl, ru⟩ := vals1 r
  cases ru
  obtain ⟨its, _, p1, _⟩ := I.tuple ha
  exact call_tuple_same (items := its.toArray) p1 ⟨.ref a, H, I, rfl, q⟩
end
end L2

namespace L2
open PySem PySem.Spec PyProof.Rows

/-! ### places -/
/-- the place that an index of any sign means -/
def ixN (n : Nat) (i : Int) : Option Nat := if 0 ≤ i then (if i < n then some i.toNat else none) else if -(n : Int) ≤ i then some (i + n).toNat else none
def atI {α : Type} (xs : List α) (i : Int) : Option α := (ixN xs.length i).bind fun j => xs[j]?
theorem ixN_seq {n : Nat} {i : Int} {j : Nat} (h : ixN n i = some j) : seqIndex? i n = some j ∧ j < n ∧ -(n : Int) ≤ i ∧ i < n := by
  unfold ixN at h
  by_cases h0 : 0 ≤ i
  · rw [if_pos h0] at h
    by_cases h1 : i < n
    · rw [if_pos h1] at h
      have e : i.toNat = j := Option.some.inj h
      exact ⟨by rw [seqIndex_of h0 h1, e], by omega, by omega, h1⟩
    · rw [if_neg h1] at h; cases h
  · rw [if_neg h0] at h
    by_cases h1 : -(n : Int) ≤ i
    · rw [if_pos h1] at h
      have e : (i + n).toNat = j := Option.some.inj h
      exact ⟨by rw [seqIndex_neg (by omega) h1, e], by omega, h1, by omega⟩
    · rw [if_neg h1] at h; cases h
theorem atI_get {α : Type} {xs : List α} {i : Int} {v : α} (h : atI xs i = some v) : ∃ j, seqIndex? i xs.length = some j ∧ xs[j]? = some v ∧ j < xs.length ∧ -(xs.length : Int) ≤ i ∧ i < xs.length := by
  unfold atI at h
  cases e : ixN xs.length i with
  | none => rw [e] at h; cases h
  | some j =>
    rw [e] at h
    obtain ⟨h1, h2, h3, h4⟩ := ixN_seq e
    exact ⟨j, h1, h, h2, h3, h4⟩
theorem atI_nat {α : Type} {xs : List α} {j : Nat} {v : α} (h : xs[j]? = some v) : atI xs (j : Int) = some v := by
  have hj : j < xs.length := (List.getElem?_eq_some_iff.mp h).1
  have e : ixN xs.length (j : Int) = some j := by
    unfold ixN
    rw [if_pos (by omega), if_pos (by omega)]; simp
  unfold atI; rw [e]; exact h
theorem atI_last {α : Type} (xs : List α) (v : α) : atI (xs ++ [v]) (-1) = some v := by
  have hl : (xs ++ [v]).length = xs.length + 1 := by simp
  have e : ixN (xs ++ [v]).length (-1) = some xs.length := by
    unfold ixN
    rw [hl, if_neg (by decide), if_pos (by omega)]
    congr 1
    omega
  unfold atI
  rw [e]
  show (xs ++ [v])[xs.length]? = some v
  simp

/-! ### what may be subscripted -/
/-- what stands as an index of a plain subscript -/
def PlainIx (b : Expr) : Prop := ∀ o i, subscripted b false o i = operate [o, i] (getItem o i)
/-- a subscript by values -/
def IxR (X : Cx) (r : R2) : Prop :=
  ∀ (value slice : Expr) (pins : List (Addr × Obj)) (s : Shared) (σ : St) (H : Hp) (x y : V) (v u : Value) (Q : VK), Inv X pins σ H s → RelV x v → RelV y u → r x y H Q →
    subscripted slice false v u = operate [v, u] (getItem v u) → wpAny (model X.prog X.w) X.A (subscriptTail value slice v u) (EP X pins σ Q) X.xe s
/-- a call of a builtin's method by values: the receiver, the arguments -/
def MtR (X : Cx) (id : String) (r : V → List V → Hp → VK → Prop) : Prop :=
  ∀ (pins : List (Addr × Obj)) (s : Shared) (σ : St) (H : Hp) (x : V) (xs : List V) (v : Value) (us : List Value) (Q : VK), Inv X pins σ H s → RelV x v → Vals xs us → r x xs H Q →
    wpAny (model X.prog X.w) X.A (call (.builtin id) (v :: us)) (EP X pins σ Q) X.xe s
section
variable {X : Cx} {a b : Expr} {ta tb : TE} {pos : Pos}
theorem IxR.or {r r' : R2} (h : IxR X r) (h' : IxR X r') : IxR X (fun x y H Q => r x y H Q ∨ r' x y H Q) := by
  intro value slice pins s σ H x y v u Q I rx ry q hs
  rcases q with q | q
  · exact h value slice pins s σ H x y v u Q I rx ry q hs
  · exact h' value slice pins s σ H x y v u Q I rx ry q hs
theorem MtR.or {id : String} {r r' : V → List V → Hp → VK → Prop} (h : MtR X id r) (h' : MtR X id r') : MtR X id (fun x xs H Q => r x xs H Q ∨ r' x xs H Q) := by
  intro pins s σ H x xs v us Q I rx rs q
  rcases q with q | q
  · exact h pins s σ H x xs v us Q I rx rs q
  · exact h' pins s σ H x xs v us Q I rx rs q
/-- a[b] -/
theorem pe_ix {r : R2} (hr : IxR X r) (ha : PE X a ta) (hb : PE X b tb) (hs : PlainIx b) : PE X (.Subscript a b pos) (tOp r ta tb) := by
  intro pins s σ H Q I h
  exact Subscript_ (binT ha hb I h fun v u s2 x y H2 I2 rx ry q => hr a b pins s2 σ H2 x y v u Q I2 rx ry q (hs _ _))

def rIxL (K : PySem.W.Frag) : R2 := fun x y H Q => ∃ p xs i v, x = .ref p ∧ y = .int i ∧ SqL K H p xs ∧ atI xs i = some v ∧ Q v H
def rIxT (K : PySem.W.Frag) : R2 := fun x y H Q => ∃ p xs i v, x = .ref p ∧ y = .int i ∧ SqT K H p xs ∧ atI xs i = some v ∧ Q v H
def rIxS : R2 := fun x y H Q => ∃ z i c, x = .str z ∧ y = .int i ∧ z.length ≤ sizeLine ∧ atI z.cps.toList i = some c ∧ Q (.str ⟨#[c]⟩) H
theorem ix_list : IxR X (rIxL X.K) := by
  intro value slice pins s σ H x y v u Q I rx ry h hs
  obtain ⟨p, xs, i, z, rfl, rfl, hq, he, q⟩ := h
  cases rx
  obtain ⟨t, rfl⟩ := ry
  obtain ⟨its, r, pl, hz⟩ := I.list hq
  obtain ⟨j, h1, h2, h3, h4, h5⟩ := atI_get he
  obtain ⟨w, ew, rw'⟩ := r.get h2
  have hl := r.length
  have hn := line63
  have fin : EP X pins σ Q w s := ⟨z, H, I, rw', q⟩
  by_cases h0 : 0 ≤ i
  · have hj : i.toNat = j := by
      rw [seqIndex_of h0 h5] at h1
      exact Option.some.inj h1
    exact item_listR pl.isList h0 (by omega) (by rw [hj]; simpa using ew) fin hs
  · have hj : (i + (its.toArray.size : Int)).toNat = j := by
      rw [seqIndex_neg (by omega) h4] at h1
      rw [List.size_toArray, ← hl]
      exact Option.some.inj h1
    exact subscriptTail_builtinR (x := w) pl.isList.typeIs slot_list_getitem.lookup
      (wpAny_getItem_list_neg (Q := fun r s' => r = w ∧ EP X pins σ Q r s') pl.isList (by omega) (by rw [List.size_toArray] <;> omega) (by omega) (by rw [hj]; simpa using ew) ⟨rfl, fin⟩) hs
theorem ix_tup : IxR X (rIxT X.K) := by
  intro value slice pins s σ H x y v u Q I rx ry h hs
  obtain ⟨p, xs, i, z, rfl, rfl, hq, he, q⟩ := h
  cases rx
  obtain ⟨t, rfl⟩ := ry
  obtain ⟨its, r, pl, hz⟩ := I.tuple hq
  obtain ⟨j, h1, h2, h3, h4, h5⟩ := atI_get he
  obtain ⟨w, ew, rw'⟩ := r.get h2
  have hl := r.length
  have hn := line63
  have fin : EP X pins σ Q w s := ⟨z, H, I, rw', q⟩
  exact subscriptTail_builtinR (x := w) pl.typeIs slot_tuple_getitem.lookup
    (getItem_tuple (j := j) (Q := fun r s' => r = w ∧ EP X pins σ Q r s') pl (by omega) (by omega) (by rw [List.size_toArray, ← hl]; exact h1) (by simpa using ew) ⟨rfl, fin⟩) hs
theorem ix_str : IxR X rIxS := by
  intro value slice pins s σ H x y v u Q I rx ry h hs
  obtain ⟨z, i, c, rfl, rfl, hz, he, q⟩ := h
  obtain ⟨t, rfl⟩ := rx
  obtain ⟨t', rfl⟩ := ry
  obtain ⟨j, h1, h2, h3, h4, h5⟩ := atI_get he
  have hl : z.cps.toList.length = z.length := by simp [Str.length]
  rw [hl] at h1 h4 h5
  have hn := line63
  exact tail_any (typeIs_str s z t) slot_str_getitem.lookup (getItem_str (c := c) (by
    have e1 : decide (i < -(2 ^ 63 : Int)) = false := decide_eq_false (by omega)
    have e2 : decide (i ≥ 2 ^ 63) = false := decide_eq_false (by omega)
    rw [e1, e2, Bool.or_false]) (by rw [h1]; simpa using h2) ⟨.str ⟨#[c]⟩, H, I.tok _, ⟨_, rfl⟩, q⟩) hs
/-- list, tuple or str -/
def rIx (K : PySem.W.Frag) : R2 := fun x y H Q => rIxL K x y H Q ∨ rIxT K x y H Q ∨ rIxS x y H Q
theorem ix_seq : IxR X (rIx X.K) := ix_list.or (ix_tup.or ix_str)

/-! ### xs[i] = v, any sign -/
/-- the list's object behind a store -/
theorem mapSeq_set (its : List Value) (n j : Nat) (u : Value) : Obj.mapSeq (·.setIfInBounds j u) { cls := .type "list", data := .seq its.toArray n } = { cls := .type "list", data := .seq (its.set j u).toArray n } := by
  simp [Obj.mapSeq]
theorem Inv.lst {pins : List (Addr × Obj)} {σ : St} {H : Hp} {s : Shared} {p : Addr} {xs : List V} (I : Inv X pins σ H s) (h : H p = some (.lst xs)) :
    ∃ (its : List Value) (n : Nat), Vals xs its ∧ s.heap.get? p = some { cls := .type "list", data := .seq its.toArray n } ∧ xs.length ≤ sizeLine := by
  obtain ⟨z, its, n, r, e⟩ := I.hok p _ h
  exact ⟨its, n, r, e, z⟩
/-- the list at p is written by an update of its object -/
theorem Inv.lstUpd {pins : List (Addr × Obj)} {σ : St} {H : Hp} {s : Shared} {p : Addr} {xs ys : List V} {its its' : List Value} {n n' : Nat} {f : Obj → Obj} (I : Inv X pins σ H s) (h : H p = some (.lst xs))
    (ho : s.heap.get? p = some { cls := .type "list", data := .seq its.toArray n }) (hf : f { cls := .type "list", data := .seq its.toArray n } = { cls := .type "list", data := .seq its'.toArray n' }) (r : Vals ys its') (hz : ys.length ≤ sizeLine) (t : Nat) :
    Inv X pins σ (upd H p (.lst ys)) { s with heap := s.heap.update p f, toks := t } := by
  have e : (s.heap.update p f).get? p = some { cls := .type "list", data := .seq its'.toArray n' } := by
    rw [Heap.get?_update_self f ho (by rw [hf] <;> rfl), hf]
  refine I.write (x := p) (e := p) (by rw [h]; trivial) (.inl rfl) (fun b u hb q => (Heap.get?_update_other _ _ (Ne.symm hb)).trans q) ⟨_, e⟩ ?_
  exact ⟨hz, its', n', r, e⟩
def rSetL : V → V → V → Hp → (Hp → Prop) → Prop := fun o i v H Q => ∃ p xs k j, o = .ref p ∧ i = .int k ∧ H p = some (.lst xs) ∧ ixN xs.length k = some j ∧ Q (upd H p (.lst (xs.set j v)))
theorem set_list : PSet X rSetL := by
  intro pins s σ H o i v ov iv u Q I ro ri rv h
  obtain ⟨p, xs, k, j, rfl, rfl, hp, hj, q⟩ := h
  cases ro
  obtain ⟨t, rfl⟩ := ri
  obtain ⟨its, n, r, ho, hz⟩ := I.lst hp
  obtain ⟨h1, h2, h3, h4⟩ := ixN_seq hj
  have hl := r.length
  have hn := line63
  have I' : Inv X pins σ (upd H p (.lst (xs.set j v))) { s with heap := s.heap.update p (Obj.mapSeq (·.setIfInBounds j u)) } :=
    I.lstUpd hp ho (mapSeq_set its n j u) (r.set rv j) (by rw [List.length_set]; exact hz) s.toks
  by_cases h0 : 0 ≤ k
  · have hk : k.toNat = j := by
      rw [seqIndex_of h0 h4] at h1
      exact Option.some.inj h1
    exact PySem.W.ki_setAt ho h0 (by omega) (by rw [List.size_toArray, ← hl]; exact h4) (by rw [hk]; exact ⟨_, I', q⟩)
  · have hk : (k + (its.toArray.size : Int)).toNat = j := by
      rw [seqIndex_neg (by omega) h3] at h1
      rw [List.size_toArray, ← hl]
      exact Option.some.inj h1
    exact PySem.W.ki_setBack ho (by omega) (by rw [List.size_toArray, ← hl]; exact h3) (by omega) (by rw [hk]; exact ⟨_, I', q⟩)

/-! ### slices -/
theorem slice_bounds (lo hi : Option Int) (n : Nat) : (sliceBounds lo hi none n).1 = ((HT.sIx n 0 lo : Nat) : Int) ∧ (sliceBounds lo hi none n).2.1 = ((HT.sIx n n hi : Nat) : Int) ∧ (sliceBounds lo hi none n).2.2 = 1 := by
  refine ⟨?_, ?_, rfl⟩
  · cases lo with
    | none => simp [sliceBounds, HT.sIx]
    | some i =>
      simp only [sliceBounds, HT.sIx, Option.getD_none, show (1 : Int) > 0 by decide, if_true]
      by_cases h : i < 0
      · simp only [h, if_true] <;> omega
      · simp only [h, if_false] <;> omega
  · cases hi with
    | none => simp [sliceBounds, HT.sIx]
    | some i =>
      simp only [sliceBounds, HT.sIx, Option.getD_none, show (1 : Int) > 0 by decide, if_true]
      by_cases h : i < 0
      · simp only [h, if_true] <;> omega
      · simp only [h, if_false] <;> omega
theorem slicePick_cut (its : List Value) (lo hi : Option Int) : slicePick its.toArray lo hi none = ((its.drop (HT.sIx its.length 0 lo)).take (HT.sIx its.length its.length hi - HT.sIx its.length 0 lo)).toArray := by
  obtain ⟨h1, h2, h3⟩ := slice_bounds lo hi its.toArray.size
  unfold slicePick
  rw [h1, h2, h3]
  simp only [sliceRange_one, pick_run, List.size_toArray] <;> rfl
/-- xs[lo:hi] of a list: a new list -/
def rSlL (K : PySem.W.Frag) : V → Option Int → Option Int → Hp → VK → Prop := fun x lo hi H Q => ∃ a xs, x = .ref a ∧ SqL K H a xs ∧ ∀ p, H p = none → Q (.ref p) (upd H p (.lst (cutV xs lo hi)))
theorem sl_list : SlR X (rSlL X.K) := by
  intro pins s σ H x v vl vu lo hi sl Q I rx hs pl pu h
  obtain ⟨a, xs, rfl, hx, q⟩ := h
  cases rx
  obtain ⟨its, r, ht, hz⟩ := I.list hx
  have hlen := r.length
  refine ⟨"list", _, slot_list_getitem.lookup, ht.isList.typeIs, ?_⟩
  refine wpAny_getItem_list_slice ht.isList hs pl pu .none (by simp) ?_ (by rw [List.size_toArray] <;> omega)
  rw [slicePick_cut, ← hlen]
  refine ⟨.ref s.heap.objs.size, _, I.laid (t' := s.toks) (o := .lst (cutV xs lo hi)) (fun b ob q => Heap.get?_push_of_some _ q) (Nat.le_refl _) ?_, rfl, q _ (I.hok.fresh (Nat.le_refl _))⟩
  exact ⟨Nat.le_trans (cutV_length xs lo hi) hz, _, 0, (r.drop (HT.sIx xs.length 0 lo)).take (HT.sIx xs.length xs.length hi - HT.sIx xs.length 0 lo), Heap.get?_push_size _ rfl⟩

/-! ### in, not in: flat items -/
def flatV : V → Bool
  | .non => true
  | .bl _ => true
  | .int _ => true
  | .str _ => true
  | _ => false
/-- == of flat values -/
def eqV : V → V → Bool
  | .non, .non => true
  | .bl a, .bl b => a == b
  | .bl a, .int b => (if a then 1 else 0) == b
  | .int a, .bl b => a == (if b then 1 else 0)
  | .int a, .int b => a == b
  | .str a, .str b => a == b
  | _, _ => false
theorem eqAt_V {A : Around} {s : Shared} {y x : V} {u v : Value} (ry : RelV y u) (rx : RelV x v) (fy : flatV y = true) (fx : flatV x = true) : SeqAt.EqAt A s u v (eqV y x) := by
  cases y with
  | non =>
    cases ry
    cases x with
    | non => cases rx; exact SeqAt.EqAt.same _
    | bl b => cases rx; exact SeqAt.EqAt.none_bool b
    | int b => obtain ⟨t, rfl⟩ := rx; exact SeqAt.EqAt.none_int b t
    | str b => obtain ⟨t, rfl⟩ := rx; exact SeqAt.EqAt.none_str b t
    | _ => exact absurd (show false = true from fx) Bool.false_ne_true
  | bl a =>
    cases ry
    cases x with
    | non => cases rx; exact SeqAt.EqAt.bool_none a
    | bl b => cases rx; exact SeqAt.EqAt.bool_bool a b
    | int b => obtain ⟨t, rfl⟩ := rx; exact SeqAt.EqAt.bool_int a b t
    | str b => obtain ⟨t, rfl⟩ := rx; exact SeqAt.EqAt.bool_str a b t
    | _ => exact absurd (show false = true from fx) Bool.false_ne_true
  | int a =>
    obtain ⟨t', rfl⟩ := ry
    cases x with
    | non => cases rx; exact SeqAt.EqAt.int_none a t'
    | bl b => cases rx; exact SeqAt.EqAt.int_bool a t' b
    | int b => obtain ⟨t, rfl⟩ := rx; exact SeqAt.EqAt.int_int a t' b t
    | str b => obtain ⟨t, rfl⟩ := rx; exact SeqAt.EqAt.int_str a t' b t
    | _ => exact absurd (show false = true from fx) Bool.false_ne_true
  | str a =>
    obtain ⟨t', rfl⟩ := ry
    cases x with
    | non => cases rx; exact SeqAt.EqAt.str_none a t'
    | bl b => cases rx; exact SeqAt.EqAt.str_bool a t' b
    | int b => obtain ⟨t, rfl⟩ := rx; exact SeqAt.EqAt.str_int a t' b t
    | str b => obtain ⟨t, rfl⟩ := rx; exact SeqAt.EqAt.str_str a t' b t
    | _ => exact absurd (show false = true from fx) Bool.false_ne_true
  | _ => exact absurd (show false = true from fy) Bool.false_ne_true
/-- the items' answers, read off the values (a value's own answer does not lean on its token) -/
def eqU (x : V) (u : Value) : Bool := match u with
  | .none => eqV .non x
  | .bool b => eqV (.bl b) x
  | .int i _ => eqV (.int i) x
  | .str z _ => eqV (.str z) x
  | _ => false
theorem eqU_of {x y : V} {u : Value} (r : RelV y u) (f : flatV y = true) : eqU x u = eqV y x := by
  cases y with
  | non => cases r; rfl
  | bl b => cases r; rfl
  | int i => obtain ⟨t, rfl⟩ := r; rfl
  | str z => obtain ⟨t, rfl⟩ := r; rfl
  | _ => exact absurd (show false = true from f) Bool.false_ne_true
theorem any_eqU {x : V} : ∀ {xs : List V} {us : List Value}, Vals xs us → xs.all flatV = true → us.any (eqU x) = xs.any fun y => eqV y x
  | _, _, .nil, _ => rfl
  | y :: xs, u :: us, .cons r t, f => by
    rw [List.all_cons, Bool.and_eq_true] at f
    rw [List.any_cons, List.any_cons, eqU_of r f.1, any_eqU t f.2]
theorem mem_eqAt {A : Around} {s : Shared} {x : V} {v : Value} (rx : RelV x v) (fx : flatV x = true) : ∀ {xs : List V} {us : List Value}, Vals xs us → xs.all flatV = true → ∀ u ∈ us, SeqAt.EqAt A s u v (eqU x u)
  | _, _, .nil, _ => fun u hu => by cases hu
  | y :: xs, u :: us, .cons r t, f => fun u' hu => by
    rw [List.all_cons, Bool.and_eq_true] at f
    rcases List.mem_cons.mp hu with rfl | hu
    · rw [eqU_of r f.1]; exact eqAt_V r rx f.1 fx
    · exact mem_eqAt rx fx t f.2 u' hu
def inV (x : V) (xs : List V) : Bool := xs.any fun y => eqV y x
/-- x in a list or tuple of flat items -/
def rIn (K : PySem.W.Frag) (neg : Bool) : R2 := fun x y H Q => ∃ p xs, y = .ref p ∧ (SqL K H p xs ∨ SqT K H p xs) ∧ flatV x = true ∧ xs.all flatV = true ∧ Q (.bl (if neg then !inV x xs else inV x xs)) H
theorem op_in_seq : OpR X (compareOp .In) (rIn X.K false) := by
  intro pins s σ H x y v u Q I rx ry h
  obtain ⟨p, xs, rfl, hq, fx, fs, q⟩ := h
  cases ry
  rcases hq with hq | hq
  · obtain ⟨its, r, pl, hz⟩ := I.list hq
    refine SeqAt.in_listAt (eqU x) pl.isList (fun w hw => mem_eqAt rx fx r fs w (by simpa using hw)) ⟨.bl _, H, I, rfl, ?_⟩
    rw [show its.toArray.any (eqU x) = its.any (eqU x) by simp, any_eqU r fs]
    exact q
  · obtain ⟨its, r, pl, hz⟩ := I.tuple hq
    refine SeqAt.in_tupleAt (eqU x) pl (fun w hw => mem_eqAt rx fx r fs w (by simpa using hw)) ⟨.bl _, H, I, rfl, ?_⟩
    rw [show its.toArray.any (eqU x) = its.any (eqU x) by simp, any_eqU r fs]
    exact q
theorem op_notIn_seq : OpR X (compareOp .NotIn) (rIn X.K true) := by
  intro pins s σ H x y v u Q I rx ry h
  obtain ⟨p, xs, rfl, hq, fx, fs, q⟩ := h
  cases ry
  rcases hq with hq | hq
  · obtain ⟨its, r, pl, hz⟩ := I.list hq
    refine SeqAt.notIn_listAt (eqU x) pl.isList (fun w hw => mem_eqAt rx fx r fs w (by simpa using hw)) ⟨.bl _, H, I, rfl, ?_⟩
    rw [show its.toArray.any (eqU x) = its.any (eqU x) by simp, any_eqU r fs]
    exact q
  · obtain ⟨its, r, pl, hz⟩ := I.tuple hq
    refine SeqAt.notIn_tupleAt (eqU x) pl (fun w hw => mem_eqAt rx fx r fs w (by simpa using hw)) ⟨.bl _, H, I, rfl, ?_⟩
    rw [show its.toArray.any (eqU x) = its.any (eqU x) by simp, any_eqU r fs]
    exact q
theorem op_notIn_str : OpR X (compareOp .NotIn) (fun x y H Q => ∃ i j, x = .str i ∧ y = .str j ∧ Q (.bl (!(!(Builtin.Str.occurrences j i 0 j.length 1).isEmpty))) H) := by
  intro pins s σ H x y v u Q I rx ry h
  obtain ⟨i, j, rfl, rfl, q⟩ := h
  obtain ⟨t, rfl⟩ := rx
  obtain ⟨t', rfl⟩ := ry
  exact notIn_str ⟨.bl _, H, I, rfl, q⟩

/-! ### len, list(x), tuple(x) of any list or tuple that is read -/
theorem call_len_seq : CallR X (.builtin "len") (fun xs H Q => ∃ p ys, xs = [.ref p] ∧ (SqL X.K H p ys ∨ SqT X.K H p ys) ∧ Q (.int ys.length) H) := by
  intro pins s σ H xs us Q I r h
  obtain ⟨p, ys, rfl, hq, q⟩ := h
  obtain ⟨u, rfl, rx⟩ := vals1 r
  cases rx
  have hn := line63
  rcases hq with hq | hq
  · obtain ⟨its, r', pl, hz⟩ := I.list hq
    have hlen := r'.length
    exact Calls.call_len_list pl.isList (by simp only [List.size_toArray] <;> omega) ⟨.int ys.length, H, I.tok _, ⟨s.toks + 1, by rw [List.size_toArray, hlen]⟩, q⟩
  · obtain ⟨its, r', pl, hz⟩ := I.tuple hq
    have hlen := r'.length
    exact len_tuple pl (by simp only [List.size_toArray] <;> omega) ⟨.int ys.length, H, I.tok _, ⟨s.toks + 1, by rw [List.size_toArray, hlen]⟩, q⟩
theorem call_len_str : CallR X (.builtin "len") (fun xs H Q => ∃ z, xs = [.str z] ∧ z.length ≤ sizeLine ∧ Q (.int z.length) H) := by
  intro pins s σ H xs us Q I r h
  obtain ⟨z, rfl, hz, q⟩ := h
  obtain ⟨u, rfl, t, rfl⟩ := vals1 r
  have hn := line63
  exact len_str (by omega) ⟨.int z.length, H, I.tok _, ⟨_, rfl⟩, q⟩
theorem CallR.or {f : Value} {r r' : List V → Hp → VK → Prop} (h : CallR X f r) (h' : CallR X f r') : CallR X f (fun xs H Q => r xs H Q ∨ r' xs H Q) := by
  intro pins s σ H xs us Q I rs q
  rcases q with q | q
  · exact h pins s σ H xs us Q I rs q
  · exact h' pins s σ H xs us Q I rs q
theorem call_list_of : CallR X (.type "list") (fun xs H Q => ∃ p ys, xs = [.ref p] ∧ (SqL X.K H p ys ∨ SqT X.K H p ys) ∧ ∀ l, H l = none → Q (.ref l) (upd H l (.lst ys))) := by
  intro pins s σ H xs us Q I r h
  obtain ⟨p, ys, rfl, hq, q⟩ := h
  obtain ⟨u, rfl, rx⟩ := vals1 r
  cases rx
  have fin : ∀ (its : List Value), Vals ys its → ys.length ≤ sizeLine → ∀ (h' : Heap) (c' : Nat), (∀ b o', s.heap.get? b = some o' → h'.get? b = some o') →
      h'.get? s.heap.objs.size = some { cls := .type "list", dict := none, data := .seq its.toArray c', slots := #[] } → EP X pins σ Q (.ref s.heap.objs.size) { s with heap := h' } := fun its r' hz h' c' kp e =>
    ⟨.ref s.heap.objs.size, _, I.laid (t' := s.toks) kp (Nat.le_refl _) (show ObjOk X.prog X.w _ h' _ (.lst ys) from ⟨hz, its, c', r', e⟩), rfl, q _ (I.hok.fresh (Nat.le_refl _))⟩
  rcases hq with hq | hq
  · obtain ⟨its, r', pl, hz⟩ := I.list hq
    have hlen := r'.length
    obtain ⟨o, ho, hc, n, hd⟩ := pl.isList
    exact call_list_seq p (.inl rfl) ho hc hd (fun h' c' kp e => fin its r' hz h' c' kp e) (by simp only [List.size_toArray] <;> omega)
  · obtain ⟨its, r', pl, hz⟩ := I.tuple hq
    have hlen := r'.length
    obtain ⟨o, ho, hc, n, hd⟩ := pl
    exact call_list_seq p (.inr rfl) ho hc hd (fun h' c' kp e => fin its r' hz h' c' kp e) (by simp only [List.size_toArray] <;> omega)
theorem call_tuple_of : CallR X (.type "tuple") (fun xs H Q => ∃ p ys, xs = [.ref p] ∧ ((SqL X.K H p ys ∧ ∀ l, H l = none → Q (.ref l) (upd H l (.tup ys))) ∨ (SqT X.K H p ys ∧ Q (.ref p) H))) := by
  intro pins s σ H xs us Q I r h
  obtain ⟨p, ys, rfl, h⟩ := h
  obtain ⟨u, rfl, rx⟩ := vals1 r
  cases rx
  rcases h with ⟨hq, q⟩ | ⟨hq, q⟩
  · obtain ⟨its, r', pl, hz⟩ := I.list hq
    have hlen := r'.length
    refine call_tuple_list pl.isList (fun h' kp => ?_) (by simp only [List.size_toArray] <;> omega)
    have I1 : Inv X pins σ H { s with heap := h' } := I.kept (t' := s.toks) kp
    have I2 : Inv X pins σ (upd H h'.objs.size (.tup ys)) { s with heap := h'.push { cls := .type "tuple", data := .seq its.toArray } } :=
      I1.laid (t' := s.toks) (fun b o e => Heap.get?_push_of_some _ e) (Nat.le_refl _) (show ObjOk X.prog X.w _ _ _ (.tup ys) from ⟨hz, its, r', IsTup.new _ _⟩)
    exact ⟨.ref h'.objs.size, _, I2, rfl, q _ (I1.hok.fresh (Nat.le_refl _))⟩
  · obtain ⟨its, r', pl, hz⟩ := I.tuple hq
    exact call_tuple_same pl ⟨.ref p, H, I, rfl, q⟩

/-! ### the call of a builtin's method: o.m(..) -/
/-- the value is of that builtin type -/
def tyV (K : PySem.W.Frag) (T : String) (x : V) (H : Hp) : Prop := match x with
  | .str _ => T = "str"
  | .int _ => T = "int"
  | .ref p => (T = "list" ∧ ∃ xs, SqL K H p xs) ∨ (T = "tuple" ∧ ∃ o, K.lookup p = some o ∧ o.cls = .type "tuple" ∧ o.dict = none) ∨
      (T = "dict" ∧ ((∃ kvs, H p = some (.dK kvs)) ∨ ∃ kvs, H p = some (.dT kvs))) ∨ (T = "set" ∧ ∃ S n, H p = some (.set S n))
  | _ => False
theorem tyV_is {pins : List (Addr × Obj)} {σ : St} {H : Hp} {s : Shared} {T : String} {x : V} {v : Value} (I : Inv X pins σ H s) (r : RelV x v) (ty : tyV X.K T x H) :
    s.TypeIs v T ∧ ∀ a, v = .ref a → ∃ ob, s.heap.get? a = some ob ∧ ob.dict = none := by
  cases x with
  | str z =>
    obtain ⟨t, rfl⟩ := r
    cases (show T = "str" from ty)
    exact ⟨typeIs_str s z t, fun _ e => nomatch e⟩
  | int i =>
    obtain ⟨t, rfl⟩ := r
    cases (show T = "int" from ty)
    exact ⟨typeIs_int s i t, fun _ e => nomatch e⟩
  | ref p =>
    cases r
    rcases ty with ⟨rfl, xs, hq⟩ | ⟨rfl, o, hk, hc, hd⟩ | ⟨rfl, hk⟩ | ⟨rfl, S, n, hk⟩
    · obtain ⟨its, _, pl, _⟩ := I.list hq
      refine ⟨pl.isList.typeIs, fun a e => ?_⟩
      cases e
      obtain ⟨o, n, e, c, hd, _⟩ := pl
      exact ⟨o, e, hd⟩
    · refine ⟨⟨o, I.kIn p o hk, hc⟩, fun a e => ?_⟩
      cases e
      exact ⟨o, I.kIn _ o hk, hd⟩
    · have z : ∃ o, s.heap.get? p = some o ∧ o.ExactDict := by
        rcases hk with ⟨kvs, hk⟩ | ⟨kvs, hk⟩
        · obtain ⟨_, _, _, _, o, _, _, e, ex, _⟩ := I.hok p _ hk
          exact ⟨o, e, ex⟩
        · obtain ⟨_, _, _, _, o, _, _, e, ex, _⟩ := I.hok p _ hk
          exact ⟨o, e, ex⟩
      obtain ⟨o, e, ex⟩ := z
      refine ⟨⟨o, e, ex.1⟩, fun a e2 => ?_⟩
      cases e2
      exact ⟨o, e, ex.2.1⟩
    · obtain ⟨o, _, _, _, e, ex, _⟩ := I.hok p _ hk
      refine ⟨⟨o, e, ex.1⟩, fun a e2 => ?_⟩
      cases e2
      exact ⟨o, e, ex.2.1⟩
  | _ => exact False.elim ty
def tBM0 (K : PySem.W.Frag) (T : String) (r : V → List V → Hp → VK → Prop) (to : TE) : TE := fun σ H Q => to σ H fun x H1 => tyV K T x H1 ∧ r x [] H1 Q
def tBM (K : PySem.W.Frag) (T : String) (r : V → List V → Hp → VK → Prop) (to : TE) (t : TA) : TE := fun σ H Q => to σ H fun x H1 => tyV K T x H1 ∧ t σ H1 fun xs H2 => r x xs H2 Q
variable {o e : Expr} {es : List Expr} {to : TE} {t : TA} {name : Str} {apos cpos : Pos} {T id : String} {r : V → List V → Hp → VK → Prop}
theorem pe_bm0 (pa : PlainAttrs T) (slot : Slot T name id) (hty : typeOf (.builtin id) = pure (.type "method_descriptor")) (hm : MtR X id r) (ho : PE X o to)
    (hbase : attributeBase o name X.env (eval o X.env) = eval o X.env := by rfl) (hline : (apos.endLine == cpos.line) = true := by rfl) : PE X (.Call (.Attribute o name apos) [] [] cpos) (tBM0 X.K T r to) := by
  intro pins s σ H Q I h
  refine wpAny_Call_method0_late hbase hline (thn (ho pins s σ H _ I h) fun v s1 ⟨x, H1, I1, r1, ty, q1⟩ => ?_)
  obtain ⟨h1, h2⟩ := tyV_is I1 r1 ty
  exact ⟨T, id, pa, slot, hty, h1, h2, Calls.callWith_builtin rfl (PySem.evalArgs_none (hm pins s1 σ H1 x [] v [] Q I1 r1 .nil q1))⟩
theorem pe_bm (pa : PlainAttrs T) (slot : Slot T name id) (hty : typeOf (.builtin id) = pure (.type "method_descriptor")) (hm : MtR X id r) (ho : PE X o to) (ha : PA X (e :: es) t)
    (hbase : attributeBase o name X.env (eval o X.env) = eval o X.env := by rfl)
    (hfew : ((backTo cpos (starEach (e :: es) X.env)).all (fun x => !x.1) && (backToKw cpos (keywordEach [] X.env)).all (fun x => x.1.isSome)
      && decide ((e :: es).length + ([] : List Keyword).length + (if ([] : List Keyword).isEmpty then 0 else 1) < 30)) = true := by rfl)
    (hline : (apos.endLine == cpos.line) = true := by rfl) (hs : starEach (e :: es) X.env = (false, eval e X.env) :: starEach es X.env := by rfl) (hplain : (backTo cpos (starEach es X.env)).any (·.1) = false := by rfl) :
    PE X (.Call (.Attribute o name apos) (e :: es) [] cpos) (tBM X.K T r to t) := by
  intro pins s σ H Q I h
  refine wpAny_Call_method_late hbase hfew hline rfl (thn (ho pins s σ H _ I h) fun v s1 ⟨x, H1, I1, r1, ty, q1⟩ => ?_)
  obtain ⟨h1, h2⟩ := tyV_is I1 r1 ty
  refine ⟨T, id, pa, slot, hty, h1, h2, ?_⟩
  have hA := ha cpos pins s1 σ H1 _ I1 q1
  rw [hs] at hA ⊢
  refine Calls.callWith_builtin (by show (false || (backTo cpos (starEach es X.env)).any (·.1)) = false; rw [hplain] <;> rfl) (Calls.evalArgs_plain ?_)
  exact thn hA fun us s2 ⟨vs, H2, I2, r2, q2⟩ => hm pins s2 σ H2 x vs v us Q I2 r1 r2 q2
/- xs.append(e), list.index on a module's tuple .. are MtR facts of 06m -/
end
end L2

namespace L2
open PySem PySem.Spec PyProof.Rows

def MtM (X : Cx) (id : String) (r : V → List V → Hp → VK → Prop) : Prop :=
  ∀ (pins : List (Addr × Obj)) (s : Shared) (σ : St) (H : Hp) (x : V) (xs : List V) (v : Value) (us : List Value) (Q : VK), Inv X pins σ H s → RelV x v → Vals xs us → r x xs H Q →
    wpAny (model X.prog X.w) X.A (call (.builtin id) (v :: us)) (EP X pins σ Q) X.xe s

/-! ### lists of values -/
theorem Vals.one : ∀ {x : V} {us : List Value}, Vals [x] us → ∃ u, us = [u] ∧ RelV x u
  | _, _, .cons r .nil => ⟨_, rfl, r⟩
theorem Vals.two : ∀ {x y : V} {us : List Value}, Vals [x, y] us → ∃ u v, us = [u, v] ∧ RelV x u ∧ RelV y v
  | _, _, _, .cons r (.cons q .nil) => ⟨_, _, rfl, r, q⟩
theorem Vals.zero : ∀ {us : List Value}, Vals [] us → us = []
  | _, .nil => rfl
theorem Vals.dropLast {xs : List V} {us : List Value} (h : Vals xs us) : Vals xs.dropLast us.dropLast := by
  induction h with
  | nil => exact .nil
  | cons r t ih =>
    cases t with
    | nil => exact .nil
    | cons q t' => exact .cons r ih
theorem Vals.eraseIdx : ∀ {xs : List V} {us : List Value} (i : Nat), Vals xs us → Vals (xs.eraseIdx i) (us.eraseIdx i)
  | _, _, _, .nil => .nil
  | _, _, 0, .cons _ t => t
  | _, _, i + 1, .cons r t => .cons r (Vals.eraseIdx i t)
theorem Vals.reverse {xs : List V} {us : List Value} (h : Vals xs us) : Vals xs.reverse us.reverse := by
  induction h with
  | nil => exact .nil
  | cons r t ih => rw [List.reverse_cons, List.reverse_cons]; exact Vals.append ih (.cons r .nil)
theorem Vals.rep {xs : List V} {us : List Value} (h : Vals xs us) : ∀ k : Nat, Vals (List.replicate k xs).flatten (List.replicate k us).flatten
  | 0 => .nil
  | k + 1 => by
    rw [List.replicate_succ, List.replicate_succ, List.flatten_cons, List.flatten_cons]
    exact Vals.append h (Vals.rep h k)
theorem erase_last {α : Type} (l : List α) : l.eraseIdx (l.length - 1) = l.dropLast := by
  induction l with
  | nil => rfl
  | cons a r ih =>
    cases r with
    | nil => rfl
    | cons b r =>
      have e : (a :: b :: r).length - 1 = ((b :: r).length - 1) + 1 := by
        have h1 : (a :: b :: r).length = r.length + 2 := rfl
        have h2 : (b :: r).length = r.length + 1 := rfl
        omega
      rw [e, List.eraseIdx_cons_succ, ih]
      all_goals rfl
theorem len_erase {α : Type} : ∀ (l : List α) (i : Nat), (l.eraseIdx i).length ≤ l.length
  | [], _ => Nat.le_refl _
  | _ :: _, 0 => Nat.le_succ _
  | _ :: r, i + 1 => Nat.succ_le_succ (len_erase r i)
theorem foldl_rep (its : List Value) : ∀ (k : Nat) (acc : List Value),
    List.foldl (fun x1 x2 => x1 ++ x2) acc.toArray (List.replicate k its.toArray) = (acc ++ (List.replicate k its).flatten).toArray
  | 0, acc => by simp
  | k + 1, acc => by
    have e : acc.toArray ++ its.toArray = (acc ++ its).toArray := by simp
    have e2 : (acc ++ its) ++ (List.replicate k its).flatten = acc ++ (List.replicate (k + 1) its).flatten := by
      rw [List.replicate_succ, List.flatten_cons, List.append_assoc]
    rw [← e2, ← foldl_rep its k (acc ++ its), ← e, List.replicate_succ, List.foldl_cons]

section
variable {X : Cx} {pins : List (Addr × Obj)} {σ : St} {H : Hp} {s : Shared} {l b : Addr} {xs ys zs : List V}

/-! ### the two steps: a tracked list is rewritten, a new list is laid -/
theorem Inv.lset {its its' : List Value} {n : Nat} {f : Array Value → Array Value} {t' : Nat} (I : Inv X pins σ H s) (hH : H l = some (.lst xs))
    (e : s.heap.get? l = some { cls := .type "list", data := .seq its.toArray n }) (hf : f its.toArray = its'.toArray) (hv : Vals ys its') (hz : ys.length ≤ sizeLine) :
    Inv X pins σ (upd H l (.lst ys)) { s with heap := s.heap.update l (Obj.mapSeq f), toks := t' } := by
  have q := PySem.IsL.update e f
  rw [hf] at q
  refine I.write (x := l) (e := l) (by rw [hH]; exact trivial) (.inl rfl) (fun b' u hb hu => (Heap.get?_update_other s.heap (Obj.mapSeq f) (Ne.symm hb)).trans hu) ⟨_, q⟩ ?_
  exact ⟨hz, its', _, hv, q⟩
theorem Inv.lnew {its : List Value} {t' : Nat} (I : Inv X pins σ H s) (hv : Vals ys its) (hz : ys.length ≤ sizeLine) :
    Inv X pins σ (upd H s.heap.objs.size (.lst ys)) { s with heap := s.heap.push { cls := .type "list", data := .seq its.toArray }, toks := t' } :=
  I.laid (fun _ _ q => Heap.get?_push_of_some _ q) (Nat.le_refl _) ⟨hz, its, 0, hv, Heap.get?_push_size _ rfl⟩
theorem Inv.fresh (I : Inv X pins σ H s) : H s.heap.objs.size = none := I.hok.fresh (Nat.le_refl _)
theorem Inv.lstM (I : Inv X pins σ H s) (hH : H l = some (.lst xs)) : xs.length ≤ sizeLine ∧ ∃ (its : List Value) (n : Nat), Vals xs its ∧ xs.length = its.length ∧ s.heap.get? l = some { cls := .type "list", data := .seq its.toArray n } := by
  obtain ⟨z, its, n, r, e⟩ := I.hok l _ hH
  exact ⟨z, its, n, r, r.length, e⟩

theorem notLongL {n : Nat} (h : n ≤ sizeLine) : Builtin.List.listTooLong n = false := by
  unfold Builtin.List.listTooLong
  exact decide_eq_false (by omega)
end

section
variable {X : Cx}

/-! ### methods -/
def rAppend : V → List V → Hp → VK → Prop := fun x vs H Q => ∃ l xs y, x = .ref l ∧ vs = [y] ∧ H l = some (.lst xs) ∧ xs.length < sizeLine ∧ Q .non (upd H l (.lst (xs ++ [y])))
theorem mt_append : MtM X "list.append" rAppend := by
  intro pins s σ H x vs v us Q I rx rv h
  obtain ⟨l, xs, y, rfl, rfl, hH, hz, q⟩ := h
  cases rx
  obtain ⟨u, rfl, ru⟩ := rv.one
  obtain ⟨z, its, n, r, hl, e⟩ := I.lstM hH
  refine call_meets F.slot_list_append ⟨_, e, rfl⟩ F.entry_list_append (F.args_list_append_2 _ _) (PySem.list_append l its.toArray n u (by rw [List.size_toArray]; omega)) ⟨e, ?_⟩
  refine ⟨.non, _, I.lset (its' := its ++ [u]) hH e (by simp) (r.append (.cons ru .nil)) ?_, rfl, q⟩
  rw [List.length_append, List.length_singleton]
  omega

def rExtend : V → List V → Hp → VK → Prop := fun x vs H Q => ∃ l b xs zs, x = .ref l ∧ vs = [.ref b] ∧ H l = some (.lst xs) ∧ H b = some (.lst zs) ∧ xs.length + zs.length ≤ sizeLine ∧ Q .non (upd H l (.lst (xs ++ zs)))
theorem mt_extend : MtM X "list.extend" rExtend := by
  intro pins s σ H x vs v us Q I rx rv h
  obtain ⟨l, b, xs, zs, rfl, rfl, hH, hB, hz, q⟩ := h
  cases rx
  obtain ⟨u, rfl, ru⟩ := rv.one
  cases ru
  obtain ⟨z, its, n, r, hl, e⟩ := I.lstM hH
  obtain ⟨z2, its2, n2, r2, hl2, e2⟩ := I.lstM hB
  have hsz : its.toArray.size + its2.toArray.size ≤ sizeLine := by rw [List.size_toArray, List.size_toArray]; omega
  have hlong : ¬ (!its.toArray.isEmpty && Builtin.List.listTooLong (its.toArray.size + its2.toArray.size)) = true := by
    rw [notLongL hsz, Bool.and_false]
    exact Bool.false_ne_true
  refine call_meets F.slot_list_extend ⟨_, e, rfl⟩ F.entry_list_extend (F.args_list_extend_2 _ _)
    (AutoSeq1.list_extend_list_list_0 l its.toArray n b its2.toArray n2 hlong (by rw [List.size_toArray]; omega) (by omega)) ⟨e, e2, ?_⟩
  refine ⟨.non, _, I.lset (its' := its ++ its2) hH e (by simp) (r.append r2) ?_, rfl, q⟩
  rw [List.length_append]
  omega

def rPop : V → List V → Hp → VK → Prop := fun x vs H Q => ∃ l xs y, x = .ref l ∧ vs = [] ∧ H l = some (.lst xs) ∧ xs[xs.length - 1]? = some y ∧ Q y (upd H l (.lst xs.dropLast))
theorem mt_pop : MtM X "list.pop" rPop := by
  intro pins s σ H x vs v us Q I rx rv h
  obtain ⟨l, xs, y, rfl, rfl, hH, hy, q⟩ := h
  cases rx
  have hus := rv.zero
  subst hus
  obtain ⟨z, its, n, r, hl, e⟩ := I.lstM hH
  obtain ⟨u, hu, ru⟩ := r.get hy
  have hy' : its.toArray[its.toArray.size - 1]? = some u := by
    show its.toArray[its.length - 1]? = some u
    rw [← Array.getElem?_toList, ← hl]
    exact hu
  refine call_meets F.slot_list_pop ⟨_, e, rfl⟩ F.entry_list_pop (F.args_list_pop_1 _) (MeetsSeq.list_pop_last l its.toArray n u hy' (by rw [List.size_toArray]; omega)) ⟨e, ?_⟩
  refine ⟨y, _, I.lset (its' := its.dropLast) hH e ?_ r.dropLast ?_, ru, q⟩
  · show its.toArray.eraseIdxIfInBounds (its.toArray.size - 1) = its.dropLast.toArray
    rw [List.size_toArray, List.eraseIdxIfInBounds_toArray, erase_last]
  · rw [List.length_dropLast]
    omega

def rPopAt : V → List V → Hp → VK → Prop := fun x vs H Q => ∃ l xs i k y, x = .ref l ∧ vs = [.int i] ∧ H l = some (.lst xs) ∧ -(2 ^ 63) ≤ i ∧ i < 2 ^ 63 ∧ seqIndex? i xs.length = some k ∧ xs[k]? = some y ∧ Q y (upd H l (.lst (xs.eraseIdx k)))
theorem mt_popAt : MtM X "list.pop" rPopAt := by
  intro pins s σ H x vs v us Q I rx rv h
  obtain ⟨l, xs, i, k, y, rfl, rfl, hH, h1, h2, hk, hy, q⟩ := h
  cases rx
  obtain ⟨u, rfl, ru⟩ := rv.one
  obtain ⟨t, rfl⟩ := ru
  obtain ⟨z, its, n, r, hl, e⟩ := I.lstM hH
  obtain ⟨w, hw, rw'⟩ := r.get hy
  refine call_meets F.slot_list_pop ⟨_, e, rfl⟩ F.entry_list_pop (F.args_list_pop_2 _ _)
    (MeetsSeq.list_pop_at l its.toArray n i t k w (fitsIndex_both h1 h2) (by rw [List.size_toArray, ← hl]; exact hk) (by rw [← Array.getElem?_toList]; exact hw) (by rw [List.size_toArray]; omega)) ⟨e, ?_⟩
  refine ⟨y, _, I.lset (its' := its.eraseIdx k) hH e ?_ (r.eraseIdx k) ?_, rw', q⟩
  · show its.toArray.eraseIdxIfInBounds k = (its.eraseIdx k).toArray
    rw [List.eraseIdxIfInBounds_toArray]
  · have := len_erase xs k
    omega

def rReverse : V → List V → Hp → VK → Prop := fun x vs H Q => ∃ l xs, x = .ref l ∧ vs = [] ∧ H l = some (.lst xs) ∧ Q .non (upd H l (.lst xs.reverse))
theorem mt_reverse : MtM X "list.reverse" rReverse := by
  intro pins s σ H x vs v us Q I rx rv h
  obtain ⟨l, xs, rfl, rfl, hH, q⟩ := h
  cases rx
  have hus := rv.zero
  subst hus
  obtain ⟨z, its, n, r, hl, e⟩ := I.lstM hH
  refine call_meets F.slot_list_reverse ⟨_, e, rfl⟩ F.entry_list_reverse (F.args_list_reverse_1 _) (AutoSeq1.list_reverse_list_0 l its.toArray n (by rw [List.size_toArray]; omega)) ⟨e, ?_⟩
  refine ⟨.non, _, I.lset (its' := its.reverse) hH e (by simp) r.reverse ?_, rfl, q⟩
  rw [List.length_reverse]
  omega

def rClear : V → List V → Hp → VK → Prop := fun x vs H Q => ∃ l xs, x = .ref l ∧ vs = [] ∧ H l = some (.lst xs) ∧ Q .non (upd H l (.lst []))
theorem mt_clear : MtM X "list.clear" rClear := by
  intro pins s σ H x vs v us Q I rx rv h
  obtain ⟨l, xs, rfl, rfl, hH, q⟩ := h
  cases rx
  have hus := rv.zero
  subst hus
  obtain ⟨z, its, n, r, hl, e⟩ := I.lstM hH
  refine call_meets F.slot_list_clear ⟨_, e, rfl⟩ F.entry_list_clear (F.args_list_clear_1 _) (AutoSeq1.list_clear_list_0 l its.toArray n (by rw [List.size_toArray]; omega)) ⟨e, ?_⟩
  exact ⟨.non, _, I.lset (its' := []) (ys := []) hH e rfl .nil (Nat.zero_le _), rfl, q⟩

/-! ### list + list, list += list, list * int -/
def rCat : R2 := fun x y H Q => ∃ l b xs zs, x = .ref l ∧ y = .ref b ∧ H l = some (.lst xs) ∧ H b = some (.lst zs) ∧ xs.length + zs.length ≤ sizeLine ∧ ∀ p, H p = none → Q (.ref p) (upd H p (.lst (xs ++ zs)))
theorem op_cat : OpR X (binaryOp .Add) rCat := by
  intro pins s σ H x y v u Q I rx ry h
  obtain ⟨l, b, xs, zs, rfl, rfl, hH, hB, hz, q⟩ := h
  cases rx
  cases ry
  obtain ⟨z, its, n, r, hl, e⟩ := I.lstM hH
  obtain ⟨z2, its2, n2, r2, hl2, e2⟩ := I.lstM hB
  refine PySem.P.add_list e e2 ?_ (by rw [List.size_toArray, List.size_toArray]; omega)
  have ea : its.toArray ++ its2.toArray = (its ++ its2).toArray := by simp
  rw [ea]
  exact ⟨.ref _, _, I.lnew (t' := s.toks) (r.append r2) (by rw [List.length_append]; omega), rfl, q _ I.fresh⟩
/-- a list times an int (a negative one is nothing) -/
def rRep : R2 := fun x y H Q => ∃ l k xs, x = .ref l ∧ y = .int k ∧ H l = some (.lst xs) ∧ -(2 ^ 63) ≤ k ∧ k < 2 ^ 63 ∧ xs.length * k.toNat ≤ sizeLine ∧
  ∀ p, H p = none → Q (.ref p) (upd H p (.lst (List.replicate k.toNat xs).flatten))
theorem len_rep {α : Type} (xs : List α) (k : Nat) : (List.replicate k xs).flatten.length = k * xs.length := by
  induction k with
  | zero => simp
  | succ k ih => rw [List.replicate_succ, List.flatten_cons, List.length_append, ih, Nat.succ_mul, Nat.add_comm]
theorem op_rep : OpR X (binaryOp .Mult) rRep := by
  intro pins s σ H x y v u Q I rx ry h
  obtain ⟨l, k, xs, rfl, rfl, hH, h1, h2, hz, q⟩ := h
  cases rx
  obtain ⟨t, rfl⟩ := ry
  obtain ⟨z, its, n, r, hl, e⟩ := I.lstM hH
  have hlen : its.toArray.size * k.toNat ≤ sizeLine := by rw [List.size_toArray, ← hl]; exact hz
  have hcap : ¬ its.toArray.size * k.toNat > (2 ^ 63 - 1) / 8 := by
    have : (sizeLine : Nat) ≤ (2 ^ 63 - 1) / 8 := by decide
    omega
  have hfit : ¬ (!Builtin.List.listFitsIndex k) = true := by
    rw [fitsIndex_both h1 h2]
    exact Bool.false_ne_true
  have hlong : ¬ Builtin.List.listTooLong (its.toArray.size * k.toNat) = true := by
    rw [notLongL hlen]
    exact Bool.false_ne_true
  have hnew : List.foldl (fun x1 x2 => x1 ++ x2) #[] (List.replicate (if its.toArray.isEmpty = true then 0 else k.toNat) its.toArray) = (List.replicate k.toNat its).flatten.toArray := by
    have f0 : ∀ m : Nat, List.foldl (fun x1 x2 => x1 ++ x2) #[] (List.replicate m its.toArray) = (List.replicate m its).flatten.toArray := fun m => by
      have := foldl_rep its m []
      rw [List.nil_append] at this
      exact this
    rw [f0]
    cases its with
    | nil => simp
    | cons a r' => rw [if_neg (by simp)]
  refine wpAny_binaryOp_repeat_ref (T := "list") (U := "int") (by decide) ⟨_, e, rfl⟩ (fun s' => typeIs_int s' k t) noFill_list_mul F.fills_int_mul F.slot_int_rmul repeat_list F.slot_int_index.lookup
    (call_meets F.slot_int_rmul (typeIs_int s k t) F.entry_int_rmul (F.args_int_rmul_2 _ _) (int___rmul___int_list k t l its.toArray n)
      ⟨e, rfl, ⟨_, e, rfl⟩, call_meets F.slot_list_mul ⟨_, e, rfl⟩ F.entry_list_mul (F.args_list_mul_2 _ _) (AutoListH.list___mul___list_int_3 l its.toArray n k t hfit hcap hlong) ⟨e, ?_⟩⟩)
  rw [hnew]
  exact ⟨.ref _, _, I.lnew (t' := s.toks) (r.rep k.toNat) (by rw [len_rep, Nat.mul_comm]; exact hz), rfl, q _ I.fresh⟩

/-! ### del xs[i] -/
theorem del_list {pins : List (Addr × Obj)} {s : Shared} {σ : St} {H : Hp} {l : Addr} {xs : List V} {i : Int} {t : Tok} {k : Nat} {Q : Unit → Shared → Prop} (I : Inv X pins σ H s) (hH : H l = some (.lst xs))
    (h1 : -(2 ^ 63) ≤ i) (h2 : i < 2 ^ 63) (hk : seqIndex? i xs.length = some k) (h : ∀ s', Inv X pins σ (upd H l (.lst (xs.eraseIdx k))) s' → Q () s') :
    wpAny (model X.prog X.w) X.A (delItem (.ref l) (.int i t)) Q X.xe s := by
  obtain ⟨z, its, n, r, hl, e⟩ := I.lstM hH
  refine PySem.P.delItem_list (k := k) e (fitsIndex_both h1 h2) (by rw [List.size_toArray, ← hl]; exact hk) (h _ ?_) (by rw [List.size_toArray]; omega)
  refine I.lset (its' := its.eraseIdx k) (t' := s.toks) hH e ?_ (r.eraseIdx k) ?_
  · show its.toArray.eraseIdxIfInBounds k = (its.eraseIdx k).toArray
    rw [List.eraseIdxIfInBounds_toArray]
  · have := len_erase xs k
    omega
end

/-! ### xs[a:b] = ys -/
section
variable {prog : Program} {w : World} {A : Around} {E : Value → Shared → Prop} {s : Shared}
theorem splice_eq (its its2 : List Value) (a c : Nat) : its.toArray.extract 0 a ++ its2.toArray ++ its.toArray.extract c its.toArray.size = (its.take a ++ its2 ++ its.drop c).toArray := by
  apply Array.toList_inj.mp
  first
    | (simp
       exact List.take_of_length_le (by simp))
    | simp [List.take_of_length_le]
    | simp
theorem bounds_run {a c n : Nat} (hac : a ≤ c) (hc : c ≤ n) : sliceBounds (some (a : Int)) (some (c : Int)) none n = ((a : Int), (c : Int), 1) := by
  simp only [sliceBounds, Option.getD_none]
  have h1 : ¬ ((a : Int) < 0) := by omega
  have h2 : ¬ ((c : Int) < 0) := by omega
  simp only [h1, h2, if_false, show (1 : Int) > 0 by decide, if_true]
  congr 1
  · omega
  · congr 1; omega
set_option maxRecDepth 100000 in
/-- list.__setitem__ with a slice of step one and another list -/
theorem setItem_slice {l b sl : Addr} {items new : Array Value} {n n2 : Nat} {vl vu : Value} {a c : Nat} {Q : Unit → Shared → Prop}
    (e : s.heap.get? l = some { cls := .type "list", data := .seq items n }) (e2 : s.heap.get? b = some { cls := .type "list", data := .seq new n2 }) (hne : l ≠ b)
    (hs : s.heap.IsSliceOf sl vl vu .none) (pl : IsPart vl (some (a : Int))) (pu : IsPart vu (some (c : Int))) (hac : a ≤ c) (hc : c ≤ items.size)
    (hsz : items.size + new.size ≤ sizeLine) (h : Q () { s with heap := s.heap.update l (Obj.mapSeq fun xs => xs.extract 0 a ++ new ++ xs.extract c xs.size) }) :
    wpAny (model prog w) A (setItem (.ref l) (.ref sl) (.ref b)) Q E s := by
  have hl : s.heap.IsList l items := PySem.IsL.isList e
  have hb : s.heap.IsList b new := PySem.IsL.isList e2
  obtain ⟨os, hos, hcs, hds⟩ := id hs
  have hTs : s.TypeIs (.ref sl) "slice" := ⟨os, hos, hcs⟩
  have hstep : ¬ ((rawPart none == rawInt 0) = true) := Bool.false_ne_true
  have hsame : Builtin.List.listSameRef (.ref l) (.ref b) = false := by
    unfold Builtin.List.listSameRef
    exact beq_eq_false_iff_ne.mpr hne
  have hmax : (max (a : Int) (c : Int)).toNat = c := by omega
  have hz' : ((fun xs : Array Value => xs.extract 0 a ++ new ++ xs.extract c xs.size) items).size ≤ sizeLine + 1 := by
    simp only [Array.size_append, Array.size_extract]
    omega
  unfold setItem
  try with_reducible refine wpAny_holding ?_
  first | refine wpAny_bind (wpAny_pure ?_) | skip
  refine wpAny_bind (wpAny_sequenceKey hl.typeIs (by decide) ?_)
  refine wpAny_bind (wpAny_callSpecial?_slot (name := Str.ofString "__setitem__") hl.typeIs slot_list_setitem
    (wpAny_call_entry slot_list_setitem hl.typeIs entry_list_setitem ?_ (args_list_setitem _ _ _)))
  show wpAny _ _ (Builtin.List.listSubscript? (.ref sl) >>= _) _ _ s
  refine wpAny_bind ?_
  unfold Builtin.List.listSubscript?
  refine wpAny_bind (wpAny_specialOf hTs slice_no_index ?_)
  simp only [Option.isNone_none, if_true]
  refine wpAny_pure ?_
  show wpAny _ _ (typeOf (.ref sl) >>= _) _ _ s
  refine wpAny_bind (wpAny_typeOf hTs ?_)
  first
    | rw [if_neg (by decide)]
    | refine PySem.W.KFB.if_not (by decide) ?_
  rw [listSliceParts_eq]
  refine wpAny_bind (wpAny_bind (wpAny_field hos hds (x := .none) rfl (wpAny_bind (wpAny_listPart .none ?_))))
  rw [if_neg hstep]
  refine wpAny_bind (wpAny_field hos hds (x := vl) rfl (wpAny_bind (wpAny_listPart pl ?_)))
  refine wpAny_bind (wpAny_field hos hds (x := vu) rfl (wpAny_bind (wpAny_listPart pu (wpAny_pure ?_))))
  first
    | simp only [hsame, Bool.false_eq_true, if_false]
    | refine PySem.W.KFB.if_not hsame ?_
    | (dsimp only
       rw [if_neg (by rw [hsame]; exact Bool.false_ne_true)])
  refine wpAny_bind (m := Builtin.List.listAllItems (.ref b) "must assign iterable to extended slice") ?_
  unfold Builtin.List.listAllItems
  refine wpAny_bind (wpAny_typeOf hb.typeIs ?_)
  first
    | refine PySem.W.KFB.if_so (by decide) ?_
    | rw [if_pos (by decide)]
    | simp only [beq_self_eq_true, Bool.true_or, if_true]
  unfold Builtin.List.listItems
  refine wpAny_bind (wpAny_seqItems e2 rfl (wpAny_pure ?_))
  refine wpAny_bind (wpAny_bind (wpAny_seqItems e rfl (wpAny_pure ?_)))
  refine wpAny_bind (wpAny_of_eq ((sliceIndices_raw (some (a : Int)) (some (c : Int)) none items.size (by simp)).trans (congrArg (pure : Int × Int × Int → Sem (Int × Int × Int)) (bounds_run hac hc))) ?_)
  show wpAny _ _ (if ((1 : Int) == 1) = true then _ else _) _ _ s
  rw [if_pos (by decide)]
  refine wpAny_bind (wpAny_rule ?_)
  first
    | simp only [notLongL hsz, Bool.false_eq_true, if_false]
    | refine PySem.W.KFB.if_not (notLongL hsz) ?_
  first | refine wpAny_bind (wpAny_pure ?_) | skip
  show wpAny _ _ (updateSeq l (fun xs => xs.extract 0 ((a : Int)).toNat ++ new ++ xs.extract (max (a : Int) (c : Int)).toNat xs.size) >>= _) _ _ s
  rw [hmax, Int.toNat_natCast]
  refine wpAny_bind (wpAny_updateSeq (hz := Nat.le_trans (Nat.le_add_right _ _) hsz) (_hz' := hz') e rfl ?_)
  refine wpAny_bind (wpAny_letGo ?_)
  first
    | exact wpAny_bind (wpAny_pure (wpAny_pure ⟨.none, rfl, wpAny_pure h⟩))
    | exact wpAny_pure ⟨.none, rfl, wpAny_pure h⟩
end

section
variable {X : Cx}
/-- xs[a:c] = ys of another list, at the value level: sl is the slice object that was just made -/
theorem set_slice {pins : List (Addr × Obj)} {s : Shared} {σ : St} {H : Hp} {l b sl : Addr} {xs ys : List V} {a c : Int} {vl vu : Value} {Q : Unit → Shared → Prop} (I : Inv X pins σ H s)
    (hH : H l = some (.lst xs)) (hB : H b = some (.lst ys)) (hne : l ≠ b) (hs : s.heap.IsSliceOf sl vl vu .none) (ra : RelV (.int a) vl) (rc : RelV (.int c) vu) (h0 : 0 ≤ a) (hac : a ≤ c) (hc : c ≤ xs.length)
    (hz : xs.length + ys.length ≤ sizeLine) (h : ∀ s', Inv X pins σ (upd H l (.lst (xs.take a.toNat ++ ys ++ xs.drop c.toNat))) s' → Q () s') :
    wpAny (model X.prog X.w) X.A (setItem (.ref l) (.ref sl) (.ref b)) Q X.xe s := by
  obtain ⟨ta, rfl⟩ := ra
  obtain ⟨tc, rfl⟩ := rc
  obtain ⟨z, its, n, r, hl, e⟩ := I.lstM hH
  obtain ⟨z2, its2, n2, r2, hl2, e2⟩ := I.lstM hB
  obtain ⟨a', rfl⟩ := Int.eq_ofNat_of_zero_le h0
  obtain ⟨c', rfl⟩ := Int.eq_ofNat_of_zero_le (Int.le_trans h0 hac)
  simp only [Int.toNat_natCast] at h
  refine setItem_slice (a := a') (c := c') e e2 hne hs (.int _ _) (.int _ _) (by omega) (by rw [List.size_toArray]; omega) (by rw [List.size_toArray, List.size_toArray]; omega) (h _ ?_)
  refine I.lset (its' := its.take a' ++ its2 ++ its.drop c') (t' := s.toks) hH e ?_ (Vals.append (Vals.append (r.take _) r2) (r.drop _)) ?_
  · exact splice_eq its its2 a' c'
  · rw [List.length_append, List.length_append, List.length_take, List.length_drop]
    omega
end
end L2

namespace Att
open PySem PySem.W PySem.Calls PyProof.Rows

/-! ### the script -/
theorem ints_of_wellAll {P : Params} {h : Heap} : ∀ (ns : List Int) (vs : List Value), WellAll P h vs (ns.map WData.int) → IntsAre vs ns := by
  intro ns
  induction ns with
  | nil =>
    intro vs w
    rw [List.map_nil] at w
    cases w
    exact .nil
  | cons n ns ih =>
    intro vs w
    rw [List.map_cons] at w
    cases w with
    | cons a b =>
      cases a
      exact .cons _ _ (ih _ b)

theorem script_of {l : OpenLaw} {n : Nat} (hn : l.most = some n) {P : Params} {h : Heap} {args : List WData} {vals : List Value}
    (hpre : l.row.toRowW.claim.pre args = true) (hwl : WellAll P h vals args) :
    ∃ a vs ns, vals = [Value.ref a] ∧ args = [WData.list (ns.map WData.int)] ∧ h.get? a = some { cls := .type "list", data := .seq vs.toArray } ∧ IntsAre vs ns ∧ ns.length ≤ n := by
  have hsh : WShape.hasAll [] args [.list .int] = true := (pre_splitW hpre).1
  have hc : l.pre.holds [] { args := args } = true := (pre_splitW hpre).2
  obtain ⟨d, r, rfl, h1, h2⟩ := hasAllW_cons hsh
  obtain rfl := hasAllW_nil h2
  obtain ⟨xs, rfl, h3⟩ := hasW_list h1
  obtain ⟨ns, rfl⟩ := items_int h3
  have hlen : ns.length ≤ n := by
    unfold OpenLaw.pre at hc
    have h4 : (WTm.not (.lt (.lit (.int (n : Int))) (.len (.arg 0)))).holds [] { args := [.list (ns.map .int)] } = true := by
      have h4 := (holds_andW hc).1
      rw [hn] at h4
      exact h4
    have h5 := condW_of h4 (w_not (w_lt w_lit (w_len_list (w_arg rfl))))
    rw [List.length_map] at h5
    refine Nat.le_of_not_lt fun q => ?_
    have q' : (n : Int) < ((ns.length : Nat) : Int) := by omega
    first
      | (rw [decide_eq_true q'] at h5; exact absurd h5 (by decide))
      | (simp at h5; omega)
  cases hwl with
  | cons w1 w2 =>
    cases w2
    cases w1 with
    | list ho hall => exact ⟨_, _, ns, rfl, rfl, ho, ints_of_wellAll ns _ hall, hlen⟩

theorem post_true (l : OpenLaw) (args : List WData) : l.row.toRowW.claim.post args (.bool true) args = true :=
  postW_of (r := l.row.toRowW) (X := (true == true))
    (show WShape.has [] (.bool true) .bool = true by first | rfl | decide | simp [WShape.has, WShape.arms, WShape.armsAll])
    (show (WTm.eq .res (.lit (.bool true))).value [] { args := args, res := some (.bool true), after := args } = some (.bool (true == true)) from w_eq_bool (w_res rfl) w_lit) rfl

/-! ### the attachment: holds_open's last premise (the goal 'hc' behind k_head) from a wpAny of the law's body -/
theorem attach {l : OpenLaw} {n : Nat} {q : Program} {loose : List Str} {XP : (Str → Option Value) → Heap → Prop} {YP : World → Heap → Prop} {d : DefRec} {x : Str}
    (hn : l.most = some n) (hdf : d.params.defaults = [])
    (hbind : ∀ pm cd doc v : Value, bindArgs (docDef d.name d.params d.body d.scope pm cd doc) ⟨[v], []⟩ = pure [(x, v)])
    (hx : d.scope.names.lookup x = some .local ∨ d.scope.names.lookup x = some .cell)
    (hk : d.scope.kind = .function) (hco : d.scope.isCoroutine = false) (hgen : d.scope.isGenerator = false)
    (body : ∀ (w : World) (s₀ s₁ s : Shared) (mg mb : Str → Option Value) (fa : Addr) (o : Obj) (pm cd doc : Value) (a : Addr) (vs : List Value) (ns : List Int),
      Ground q loose [] XP w s₀ mg mb s₁.heap → YP w s₁.heap →
      s₁.heap.get? fa = some o → o.data = .func (docDef d.name d.params d.body d.scope pm cd doc) → s₁.heap.CodeRec cd d.name → mg d.name = some (.ref fa) →
      s₁.heap.get? a = some { cls := .type "list", data := .seq vs.toArray } → IntsAre vs ns → ns.length ≤ n →
      s.gens = #[] → s.os = s₁.os →
      Fr s₁.heap s₁.heap.objs.size s.heap (bindL (envOfC d.name d.scope s₁.heap.objs.size fa cd).kindOf [(x, .ref a)] fun _ => none) →
      Cl s₁.heap.objs.size (cellsFrom (s₁.heap.objs.size + 1) d.scope.names []) s.heap (bindC (envOfC d.name d.scope s₁.heap.objs.size fa cd).kindOf [(x, .ref a)] fun _ => none) →
      wpAny (model l.prog w) (callerA.deeper (envOfC d.name d.scope s₁.heap.objs.size fa cd)) (execs d.body (envOfC d.name d.scope s₁.heap.objs.size fa cd))
        (fun f s' => f = .ret (.bool true) ∧ OldK s₁.heap s'.heap ∧ s'.os = s₁.os ∧ AllBare s'.gens) (fun _ _ => False) s) :
    WalkO q loose XP YP l.row.toRowW d [] (fun f vs => PySem.call f vs) := by
  intro w s₀ s₁ mg mb G Y fa o pm cd doc dV kV ho hd hcd hD hmg hg args vals as hpre hlay hrd hwl hlo
  obtain rfl : dV = .none := Dflts.none hD hdf
  obtain rfl : kV = .none := Dflts.noKw hD
  obtain ⟨a, vs, ns, rfl, rfl, hobj, hints, hlen⟩ := script_of hn hpre hwl
  refine enter_call ?_
  refine call_cells_ret (o := o) (by rw [depth_caller]; decide) ho (fd_plain hd) G.T.nolimit hcd (hbind pm cd doc (.ref a)) (fun y hy => ?_) (fun h₁ tk F X => ?_) hco hgen hk
  · obtain rfl : y = (x, Value.ref a) := List.mem_singleton.mp hy
    rcases hx with e | e
    · exact .inl e
    · exact .inr ⟨e, cellsFrom_some _ _ _ (.inl e)⟩
  · refine wpAny_mono (body w s₀ s₁ { s₁ with heap := h₁, toks := tk } mg mb fa o pm cd doc a vs ns G Y ho (fd_plain hd) hcd hmg hobj hints hlen hg rfl F X) (fun f s' hq => ?_) (fun _ _ hq => hq)
    obtain ⟨rfl, h2, h3, h4⟩ := hq
    exact ⟨.inl ⟨.bool true, .bool true, [], rfl, fun _ => rfl, .bool true, post_true l _, fun _ => ⟨List.Pairwise.nil, fun _ hm => (nomatch hm)⟩⟩, h2, h3, h4⟩

/-- the same from a codeAny of the CALL (for a layer whose function contracts speak of calls) -/
theorem attach_call {l : OpenLaw} {n : Nat} {q : Program} {loose : List Str} {XP : (Str → Option Value) → Heap → Prop} {YP : World → Heap → Prop} {d : DefRec}
    (hn : l.most = some n) (hdf : d.params.defaults = [])
    (call : ∀ (w : World) (s₀ s₁ : Shared) (mg mb : Str → Option Value) (fa : Addr) (o : Obj) (pm cd doc : Value) (a : Addr) (vs : List Value) (ns : List Int),
      Ground q loose [] XP w s₀ mg mb s₁.heap → YP w s₁.heap →
      s₁.heap.get? fa = some o → o.data = .func (docDef d.name d.params d.body d.scope pm cd doc) → s₁.heap.CodeRec cd d.name → mg d.name = some (.ref fa) →
      s₁.heap.get? a = some { cls := .type "list", data := .seq vs.toArray } → IntsAre vs ns → ns.length ≤ n → s₁.gens = #[] →
      codeAny (model l.prog w) callerA (.call (.ref fa) ⟨[.ref a], []⟩) (fun r s' => r = .ok (.ret (.bool true)) ∧ OldK s₁.heap s'.heap ∧ s'.os = s₁.os ∧ AllBare s'.gens) s₁) :
    WalkO q loose XP YP l.row.toRowW d [] (fun f vs => PySem.call f vs) := by
  intro w s₀ s₁ mg mb G Y fa o pm cd doc dV kV ho hd hcd hD hmg hg args vals as hpre hlay hrd hwl hlo
  obtain rfl : dV = .none := Dflts.none hD hdf
  obtain rfl : kV = .none := Dflts.noKw hD
  obtain ⟨a, vs, ns, rfl, rfl, hobj, hints, hlen⟩ := script_of hn hpre hwl
  refine enter_call (codeAny_mono (call w s₀ s₁ mg mb fa o pm cd doc a vs ns G Y ho (fd_plain hd) hcd hmg hobj hints hlen hg) fun r s' hq => ?_)
  obtain ⟨rfl, h2, h3, h4⟩ := hq
  exact ⟨.inl ⟨.bool true, .bool true, [], rfl, fun _ => rfl, .bool true, post_true l _, fun _ => ⟨List.Pairwise.nil, fun _ hm => (nomatch hm)⟩⟩, h2, h3, h4⟩

/-- the same where the top left finished generators (o_head chose holds_openN): nothing may have changed at all and no generator may be left -/
theorem attachN {l : OpenLaw} {n : Nat} {q : Program} {loose : List Str} {XP : (Str → Option Value) → Heap → Prop} {YP : World → Heap → Prop} {d : DefRec} {x : Str}
    (hn : l.most = some n) (hdf : d.params.defaults = [])
    (hbind : ∀ pm cd doc v : Value, bindArgs (docDef d.name d.params d.body d.scope pm cd doc) ⟨[v], []⟩ = pure [(x, v)])
    (hx : d.scope.names.lookup x = some .local ∨ d.scope.names.lookup x = some .cell)
    (hk : d.scope.kind = .function) (hco : d.scope.isCoroutine = false) (hgen : d.scope.isGenerator = false)
    (body : ∀ (w : World) (s₀ s₁ s : Shared) (mg mb : Str → Option Value) (fa : Addr) (o : Obj) (pm cd doc : Value) (a : Addr) (vs : List Value) (ns : List Int),
      Ground q loose [] XP w s₀ mg mb s₁.heap → YP w s₁.heap →
      s₁.heap.get? fa = some o → o.data = .func (docDef d.name d.params d.body d.scope pm cd doc) → s₁.heap.CodeRec cd d.name → mg d.name = some (.ref fa) →
      s₁.heap.get? a = some { cls := .type "list", data := .seq vs.toArray } → IntsAre vs ns → ns.length ≤ n →
      s.gens = #[] → s.os = s₁.os →
      Fr s₁.heap s₁.heap.objs.size s.heap (bindL (envOfC d.name d.scope s₁.heap.objs.size fa cd).kindOf [(x, .ref a)] fun _ => none) →
      Cl s₁.heap.objs.size (cellsFrom (s₁.heap.objs.size + 1) d.scope.names []) s.heap (bindC (envOfC d.name d.scope s₁.heap.objs.size fa cd).kindOf [(x, .ref a)] fun _ => none) →
      wpAny (model l.prog w) (callerA.deeper (envOfC d.name d.scope s₁.heap.objs.size fa cd)) (execs d.body (envOfC d.name d.scope s₁.heap.objs.size fa cd))
        (fun f s' => f = .ret (.bool true) ∧ (∀ b o, s₁.heap.get? b = some o → s'.heap.get? b = some o) ∧ s'.os = s₁.os ∧ s'.gens = #[]) (fun _ _ => False) s) :
    WalkN q loose XP YP l.row.toRowW d [] (fun f vs => PySem.call f vs) := by
  intro w s₀ s₁ mg mb G Y fa o pm cd doc dV kV ho hd hcd hD hmg hg args vals as hpre hlay hrd hwl hlo
  obtain rfl : dV = .none := Dflts.none hD hdf
  obtain rfl : kV = .none := Dflts.noKw hD
  obtain ⟨a, vs, ns, rfl, rfl, hobj, hints, hlen⟩ := script_of hn hpre hwl
  refine enter_callW ?_
  refine call_cells_ret (o := o) (by rw [depth_caller]; decide) ho (fd_plain hd) G.T.nolimit hcd (hbind pm cd doc (.ref a)) (fun y hy => ?_) (fun h₁ tk F X => ?_) hco hgen hk
  · obtain rfl : y = (x, Value.ref a) := List.mem_singleton.mp hy
    rcases hx with e | e
    · exact .inl e
    · exact .inr ⟨e, cellsFrom_some _ _ _ (.inl e)⟩
  · refine wpAny_mono (body w s₀ s₁ { s₁ with heap := h₁, toks := tk } mg mb fa o pm cd doc a vs ns G Y ho (fd_plain hd) hcd hmg hobj hints hlen hg rfl F X) (fun f s' hq => ?_) (fun _ _ hq => hq)
    obtain ⟨rfl, h2, h3, h4⟩ := hq
    exact ⟨.inl ⟨.bool true, .bool true, [], rfl, fun _ => rfl, .bool true, post_true l _, fun _ => ⟨List.Pairwise.nil, fun _ hm => (nomatch hm)⟩⟩, h2, h3, h4⟩

/-! ### rules over ANY heap (no ledger) from facts about the written part K: the library's own take a ledger (News) for what they write -/
section
variable {prog : Program} {w : World} {A : Around} {E : Value → Shared → Prop} {s : Shared} {K : Frag}

/-- a def of the module, or a method (qual 'C.m'), entered: the frame is the next address; cells behind it -/
theorem call_fn {R : Result → Shared → Prop} {name qual : Str} {params : Arguments} {body : List Stmt} {scope : Scope} {dV kV doc pm cdv ct oc : Value} {an od : Option Addr} {osl : Array (Option Value)} {f : Addr} {args : Args} {binds : List (Str × Value)}
    (X : K.In s.heap) (hlim : s.heap.NoLimit) (ho : K.lookup f = some ⟨oc, od, .func (fnOf name qual params body scope dV kV doc pm an cdv ct), osl⟩) (hcd : codeIn K cdv qual = true) (hroom : A.depth < recursionLimit)
    (hbind : BindsTo s (fnOf name qual params body scope dV kV doc pm an cdv ct) args binds)
    (hkind : (binds.all fun y => scope.names.lookup y.1 == some .local || scope.names.lookup y.1 == some .cell) = true)
    (h : ∀ s₁, InCallC s s.heap.objs.size (bindL (envOfC qual scope s.heap.objs.size f cdv).kindOf binds fun _ => none) (cellsFrom (s.heap.objs.size + 1) scope.names [])
        (bindC (envOfC qual scope s.heap.objs.size f cdv).kindOf binds fun _ => none) s₁ →
      wpAny (model prog w) (A.deeper (envOfC qual scope s.heap.objs.size f cdv)) (execs body (envOfC qual scope s.heap.objs.size f cdv))
        (fun fl s' => R (.ok (.ret (match fl with | .ret v => v | _ => .none))) s')
        (fun e s' => wpAny (model prog w) (A.deeper (envOfC qual scope s.heap.objs.size f cdv)) (leaving (envOfC qual scope s.heap.objs.size f cdv) e) (fun _ s'' => R (.error e) s'') (fun e' s'' => R (.error e') s'') s') s₁)
    (hco : scope.isCoroutine = false) (hgen : scope.isGenerator = false) (hk : scope.kind = .function) : codeAny (model prog w) A (.call (.ref f) args) R s := by
  refine codeAny_call_function hroom (X _ _ ho) rfl hco hgen rfl (codeRec_of X hcd) (hbind _ _ _ _ ?_)
  refine wpAny_newFunctionEnv_cells hk (kindsX hkind _) fun env he s₁ x => ?_
  subst he
  exact ⟨hlim.keeps x.toInCall.keep, codeAny_func (h s₁ x)⟩

/-- C(..): dict at size, instance at size + 1, then __init__ -/
theorem make_obj {R : Result → Shared → Prop} {C fI : Addr} {rest : List Value} {kw : List (Str × Value)}
    (X : K.In s.heap) (hm : makesIn K C = true) (hi : findIn K (.ref C) "__init__" = some (some (.ref fI))) (hf : isFn K (.ref fI) = true)
    (h : codeAny (model prog w) (A.under (.builtin "type.__call__" ⟨.ref C :: rest, kw⟩)) (.call (.ref fI) ⟨.ref (s.heap.objs.size + 1) :: rest, kw⟩) (InitBack (s.heap.objs.size + 1) R)
      { s with heap := (s.heap.push emptyDict).push (instObj C s.heap.objs.size) }) : codeAny (model prog w) A (.call (.ref C) ⟨rest, kw⟩) R s := by
  obtain ⟨hh, g, d, t, os⟩ := s
  exact make_core (makes_of X hm) (looks_findIn X hi) (fun self => bind_fn X self (beq_iff_eq.mp hf)) (.inl rfl) h

/-- x.name where the instance's dict holds the name and the class does not -/
theorem get_field {x C : Addr} {ox : Obj} {es : List DictEntry} {n : Nat} {name : Str} {expr : Bool} {v : Value} {Q : Value → Shared → Prop}
    (X : K.In s.heap) (I : PySem.W.InstAt s.heap x ox C (some (dictOf es n))) (hg : plainGet K C name = true) (hh : hasDictIn K C = true) (ha : findIn K (.ref C) name = some none)
    (hl : getL name es = some (some v)) (hv : handedIn v = true) (h : Q v { s with toks := s.toks + 1 }) : wpAny (model prog w) A (getAttr (.ref x) name expr) Q E s :=
  get_value X I (plainGet_of hg).1 (findObj_own hh ha rfl hl) hv h

/-- x.m(..): the method found in the class -/
theorem get_method {x C f : Addr} {ox : Obj} {es : List DictEntry} {n : Nat} {name : Str} {pl : Sem Bool} {Q : Value × List Value → Shared → Prop}
    (X : K.In s.heap) (I : PySem.W.InstAt s.heap x ox C (some (dictOf es n))) (hg : plainGet K C name = true) (hf : findIn K (.ref C) name = some (some (.ref f))) (ht : isFn K (.ref f) = true)
    (hl : getL name es = some none) (h : Q (.ref f, [.ref x]) s) : wpAny (model prog w) A (getMethod (.ref x) name pl) Q E s :=
  method_fn X I (plainGet_of hg).1 (plainGet_of hg).2 hf (beq_iff_eq.mp ht) (by show (lookIn name (dictOf es n)).map _ = _; rw [lookIn_dict, hl]; rfl) h

/-! the whole heap as the ledger: makes every rule that writes through a ledger a rule over any heap -/
def noObjs (h : Heap) : Heap := { h with objs := #[] }
theorem noObjs_get (h : Heap) (b : Addr) : (noObjs h).get? b = none := by
  cases e : (noObjs h).get? b with
  | none => rfl
  | some o => exact absurd (Heap.lt_size e) (Nat.not_lt_zero _)
def ledger (h : Heap) (L d : Addr) : List (Addr × Obj) := (List.range h.objs.size).filterMap fun a => if a = L ∨ a = d then none else (h.get? a).map fun o => (a, o)
theorem mem_ledger {h : Heap} {L d a : Addr} {o : Obj} : (a, o) ∈ ledger h L d ↔ a ≠ L ∧ a ≠ d ∧ h.get? a = some o := by
  unfold ledger
  rw [List.mem_filterMap]
  constructor
  · rintro ⟨b, _, e⟩
    split at e
    · cases e
    · rename_i hb
      obtain ⟨o', ho, e'⟩ := Option.map_eq_some_iff.mp e
      cases e'
      exact ⟨fun q => hb (.inl q), fun q => hb (.inr q), ho⟩
  · rintro ⟨n1, n2, ho⟩
    refine ⟨a, List.mem_range.mpr (Heap.lt_size ho), ?_⟩
    rw [if_neg (show ¬ (a = L ∨ a = d) from fun q => q.elim n1 n2), ho] <;> rfl
theorem news_ledger {h : Heap} {L d : Addr} {od : Obj} (hne : d ≠ L) (ho : h.get? d = some od) : News (noObjs h) L h ([] ++ (d, od) :: ledger h L d) := by
  rintro ⟨a, o⟩ hp
  rcases List.mem_cons.mp hp with e | hp
  · cases e
    exact ⟨ho, hne, noObjs_get _ _⟩
  · obtain ⟨n1, n2, e⟩ := mem_ledger.mp hp
    exact ⟨e, n1, noObjs_get _ _⟩
theorem fr_all {h : Heap} {L : Addr} {m : Str → Option Value} (n : h.Ns L m) : Fr (noObjs h) L h m :=
  ⟨n, fun b o e => (by rw [noObjs_get] at e; cases e), Nat.zero_le _⟩
/-- Upd of the head entry (for append_K, setItem_K ..) -/
theorem upd_ledger {h : Heap} {L d : Addr} {o o' : Obj} : Upd d o o' ((d, o) :: ledger h L d) ((d, o') :: ledger h L d) :=
  .head fun ⟨_, _⟩ hp => (mem_ledger.mp hp).2.1

/-- x.name = v over any heap: L is any namespace of the heap (the frame's, say): its map stays, its object is not told; all else but the dict stays -/
theorem set_field {x C dx L : Addr} {ox : Obj} {m : Str → Option Value} {es es' : List DictEntry} {n n' : Nat} {name : Str} {v : Value} {Q : Unit → Shared → Prop}
    (X : K.In s.heap) (I : PySem.W.InstAt s.heap x ox C (some (dictOf es n))) (hd : ox.dict = some dx) (hL : s.heap.Ns L m) (hne : dx ≠ L)
    (hs : findIn K (.ref C) "__setattr__" = some (some (.builtin "object.__setattr__"))) (hp : plainOver K C = true) (ht : takerIn K C name = some none) (hh : hasDictIn K C = true) (hl : (getL name es).isSome = true)
    (e : (putL name (PyData.keyHash w.params name) (.str name (s.toks + 1)) v es, putN name es n) = (es', n')) (hz : es'.length ≤ 1000)
    (h : ∀ h' : Heap, h'.Ns L m → h'.get? dx = some (dictOf es' n') → (∀ b o, b ≠ dx → b ≠ L → s.heap.get? b = some o → h'.get? b = some o) → Q () { s with heap := h', toks := s.toks + 2 }) :
    wpAny (model prog w) A (setAttr (.ref x) name v) Q E s := by
  obtain ⟨e1, e2⟩ := Prod.mk.inj e
  have hdx : s.heap.get? dx = some (dictOf es n) := by
    have := I.dict
    rw [hd] at this
    exact this
  refine set_plain X I hs (osa_dict (s := { s with toks := s.toks + 1 }) (h₀ := noObjs s.heap) (L := L) (m := m) (od := dictOf es n) (od' := dictOf es' n') (es := es') (n := n') (pre := []) (post := ledger s.heap L dx)
    (fr_all hL) (news_ledger hne hdx) X I hd hp ht hh hl (fun _ q => nomatch q) (fun ⟨_, _⟩ q => (mem_ledger.mp q).2.1) (by rw [putName_dict, e1, e2]) rfl hz fun h' F' N' => ?_)
  exact h h' F'.ns (N'.get (List.Mem.head _)) fun b o n1 n2 ho => N'.get (List.Mem.tail _ (mem_ledger.mpr ⟨n2, n1, ho⟩))
end
end Att

namespace L2
open PySem PySem.Spec PyProof.Rows

theorem vals_ints : ∀ {vs : List Value} {ns : List Int}, IntsAre vs ns → Vals (ns.map V.int) vs
  | _, _, .nil => .nil
  | _, _, .cons n t h => .cons ⟨t, rfl⟩ (vals_ints h)

/-- nothing is tracked but the script, known to the object (or it is an object of the module) -/
def Only (H : Hp) : Prop := ∀ b, H b = none ∨ ∃ o xs, H b = some (.frz o (.lst xs))

/-- THE HEAD: the law's promise, at the heap behind the top. F, the promise of the law's def, may use that base is part of the heap (so K.In base, base.Ns mainGlobals mg stand in Mod) -/
theorem law_call {P : Program} {w : World} {K : PySem.W.Frag} {mg mb : Str → Option Value} {CX : CXT} {k : Nat} {fa a : Addr} {fd : FuncData} {x : Str} {sp : Sp} {s₁ : Shared} {vs : List Value} {ns : List Int}
    (KX : K.In s₁.heap) (hns : s₁.heap.Ns mainGlobals mg) (hb : s₁.heap.Ns builtinsNs mb) (hbb : ∀ x : Str, x ≠ "__name__" → mb x = bootBuiltins x) (hlim : s₁.heap.NoLimit) (hg : s₁.gens = #[])
    (ha : s₁.heap.get? a = some { cls := .type "list", data := .seq vs.toArray }) (hi : IntsAre vs ns) (hl : ns.length ≤ sizeLine) (hr : Room k callerA)
    (F : ∀ base : Heap, K.In base → base.Ns mainGlobals mg → FnOk P w K mg base CX k fa fd [x] sp) (hbind : ∀ (s : Shared) (u : Value), BindsTo s fd ⟨[u], []⟩ [(x, u)])
    (hsp : ∀ H : Hp, Only H → SqL K H a (ns.map V.int) → sp [.ref a] H (fun v _ => v = .bl true) fun _ _ _ => False)
    (hCX : ∀ H e s', CX [] H s₁ (fun _ _ _ => False) e s' → False) :
    codeAny (model P w) callerA (.call (.ref fa) ⟨[.ref a], []⟩) (fun r s' => r = .ok (.ret (.bool true)) ∧ OldK s₁.heap s'.heap ∧ s'.os = s₁.os ∧ AllBare s'.gens) s₁ := by
  have rv := vals_ints hi
  have lenV := hi.length
  -- from an abstract heap in which nothing but the script may be tracked
  have core : ∀ H : Hp, Only H → SqL K H a (ns.map V.int) → HOk P w H s₁.heap → (∀ b, H b ≠ none → b = a) → (H a ≠ none → K.lookup a = none) →
      codeAny (model P w) callerA (.call (.ref fa) ⟨[.ref a], []⟩) (fun r s' => r = .ok (.ret (.bool true)) ∧ OldK s₁.heap s'.heap ∧ s'.os = s₁.os ∧ AllBare s'.gens) s₁ := by
    intro H hO hS hok hA hK
    have base_of : ∀ {b : Addr} {o : Obj}, s₁.heap.get? b = some o → H b = none → (hidT s₁.heap H).get? b = some o := fun e n => hidT_get e n
    have noA : ∀ {b : Addr} {o : Obj} {es : Array DictEntry} {ep : Nat}, s₁.heap.get? b = some o → o.data = .dict es ep → H b = none := fun {b o es ep} e d => by
      cases q : H b with
      | none => rfl
      | some u =>
        have e' : b = a := hA b (by rw [q]; simp)
        subst e'
        rw [ha] at e; cases e
        have d' : Data.seq vs.toArray _ = Data.dict es ep := d
        cases d'
    have nsK : ∀ {b : Addr} {m : Str → Option Value}, s₁.heap.Ns b m → (hidT s₁.heap H).Ns b m := fun {b m} ⟨o, es, ep, e, d, r⟩ => ⟨o, es, ep, base_of e (noA e d), d, r⟩
    have hKb : K.In (hidT s₁.heap H) := fun b o e => base_of (KX b o e) (by
      cases q : H b with
      | none => rfl
      | some u =>
        have e' : b = a := hA b (by rw [q]; simp)
        subst e'
        rw [hK (by rw [q]; simp)] at e; cases e)
    have hM : Mod K mg (hidT s₁.heap H) := ⟨hKb, nsK hns, ⟨mb, nsK hb, hbb⟩, let ⟨mc, h1, h2⟩ := hlim; ⟨mc, nsK h1, h2⟩⟩
    have e0 : Env0 P w K mg (hidT s₁.heap H) callerA [] s₁ H := ⟨rfl, hM, fun b o e => of_hidT e, Nat.le_of_eq (hidT_size _ _), trivial, fun b hb => absurd (show b ∈ ([] : List Addr) from hb) (by simp), hok, .of_eq hg⟩
    refine codeAny_mono ((F _ hKb (nsK hns)).run callerA [] s₁ H ⟨[.ref a], []⟩ [.ref a] [.ref a] _ _ hr e0 (hbind s₁ (.ref a)) (.cons rfl .nil) (hsp H hO hS)) fun r s' h => ?_
    cases r with
    | error e => exact (hCX H e s' h).elim
    | ok fl =>
      cases fl with
      | next => exact False.elim h
      | brk => exact False.elim h
      | cont => exact False.elim h
      | ret u =>
        obtain ⟨v, H', os, bare, un, hok', r', q⟩ := h
        have q' : v = .bl true := q
        subst q'
        obtain rfl : u = Value.bool true := r'
        refine ⟨rfl, OldK.of_keep fun b o e => ?_, os, bare⟩
        cases q : H b with
        | none => exact un.keep b o e q (by intro z; exact absurd (show b ∈ ([] : List Addr) from z) (by simp)) (by simp)
        | some u =>
          rcases hO b with z | ⟨ob, xs, z⟩
          · rw [q] at z; cases z
          · have z2 := un.frzs b ob _ z
            obtain ⟨e1, _⟩ := hok b _ z
            obtain ⟨e2, _⟩ := hok' b _ z2
            rw [e] at e1; cases e1
            exact e2
  cases hk : K.lookup a with
  | some o =>
    -- the script is one of the module's own objects
    have e := KX a o hk
    rw [ha] at e
    cases e
    refine core (fun _ => none) (fun _ => .inl rfl) (.inr ⟨_, vs.toArray, _, hk, rfl, rfl, rfl, by rw [List.size_toArray, lenV]; exact hl, by simpa using rv⟩) (fun b u z => by have z' : (none : Option HO) = some u := z; cases z') (fun b z => absurd rfl z) fun z => absurd rfl z
  | none =>
    refine core (fun b => if b = a then some (.frz { cls := .type "list", data := .seq vs.toArray } (.lst (ns.map V.int))) else none) (fun b => ?_) (.inl (.inr ⟨{ cls := .type "list", data := .seq vs.toArray }, if_pos rfl⟩)) (fun b u z => ?_) (fun b z => ?_) fun _ => hk
    · by_cases hb : b = a
      · exact .inr ⟨_, _, if_pos hb⟩
      · exact .inl (if_neg hb)
    · by_cases hb : b = a
      · have z' := (if_pos hb).symm.trans z
        cases z'
        subst hb
        exact ⟨ha, by rw [List.length_map]; exact hl, vs, _, rv, ha⟩
      · have z' := (if_neg hb).symm.trans z
        cases z'
    · by_cases hb : b = a
      · exact hb
      · exact absurd (if_neg hb) z
end L2

namespace L2
open PySem PySem.Spec PyProof.Rows

abbrev KOf {K : PySem.W.Frag} {h : Heap} (_ : K.In h) : PySem.W.Frag := K

/-- the goal that k_head leaves (case hc), from the law's promise. F gives the function object fd (K's own) once, then the promise over every base -/
theorem walk_of {l : PySem.W.OpenLaw} {n k : Nat} {q : Program} {loose : List Str} {XP : (Str → Option Value) → Heap → Prop} {YP : World → Heap → Prop} {d : DefRec} {K : Params → PySem.W.Frag} {CX : World → CXT} {sp : World → Sp} {x : Str}
    (hn : l.most = some n) (hn2 : n ≤ sizeLine) (hdf : d.params.defaults = []) (hr : Room k callerA)
    (hY : ∀ (w : World) (h : Heap), YP w h → (K w.params).In h)
    (F : ∀ (w : World) (mg : Str → Option Value) (fa : Addr) (h : Heap), (K w.params).In h → h.Ns mainGlobals mg → mg d.name = some (.ref fa) →
      ∃ fd : FuncData, (∀ (s : Shared) (u : Value), BindsTo s fd ⟨[u], []⟩ [(x, u)]) ∧
        ∀ base : Heap, (K w.params).In base → base.Ns mainGlobals mg → FnOk l.prog w (K w.params) mg base (CX w) k fa fd [x] (sp w))
    (hsp : ∀ (w : World) (H : Hp) (a : Addr) (ns : List Int), ns.length ≤ n → Only H → SqL (K w.params) H a (ns.map V.int) → sp w [.ref a] H (fun v _ => v = .bl true) fun _ _ _ => False)
    (hCX : ∀ (w : World) (H : Hp) (s : Shared) (e : Value) (s' : Shared), CX w [] H s (fun _ _ _ => False) e s' → False) :
    PySem.W.WalkO q loose XP YP l.row.toRowW d [] (fun f vs => PySem.call f vs) := by
  refine Att.attach_call hn hdf fun w s₀ s₁ mg mb fa o pm cd doc a vs ns G Y ho hd hcd hmg hobj hints hlen hg => ?_
  have KX := hY w _ Y
  obtain ⟨fd, hb, hF⟩ := F w mg fa _ KX G.T.g hmg
  exact law_call KX G.T.g G.T.b G.T.builtins G.T.nolimit hg hobj hints (Nat.le_trans hlen hn2) hr hF hb (fun H hO hS => hsp w H a ns hlen hO hS) fun H e s' => hCX w H s₁ e s'
/-- the same where the promise hangs on the written part alone: (sp := My.sp_law), no hole under a binder -/
theorem walk_ofK {l : PySem.W.OpenLaw} {n k : Nat} {q : Program} {loose : List Str} {XP : (Str → Option Value) → Heap → Prop} {YP : World → Heap → Prop} {d : DefRec} {K : Params → PySem.W.Frag} {CX : CXT} {sp : PySem.W.Frag → Sp} {x : Str}
    (hn : l.most = some n) (hn2 : n ≤ sizeLine) (hdf : d.params.defaults = []) (hr : Room k callerA)
    (hY : ∀ (w : World) (h : Heap), YP w h → (K w.params).In h)
    (F : ∀ (w : World) (mg : Str → Option Value) (fa : Addr) (h : Heap), (K w.params).In h → h.Ns mainGlobals mg → mg d.name = some (.ref fa) →
      ∃ fd : FuncData, (∀ (s : Shared) (u : Value), BindsTo s fd ⟨[u], []⟩ [(x, u)]) ∧
        ∀ base : Heap, (K w.params).In base → base.Ns mainGlobals mg → FnOk l.prog w (K w.params) mg base CX k fa fd [x] (sp (K w.params)))
    (hsp : ∀ (K : PySem.W.Frag) (H : Hp) (a : Addr) (ns : List Int), ns.length ≤ n → Only H → SqL K H a (ns.map V.int) → sp K [.ref a] H (fun v _ => v = .bl true) fun _ _ _ => False)
    (hCX : ∀ (H : Hp) (s : Shared) (e : Value) (s' : Shared), CX [] H s (fun _ _ _ => False) e s' → False) :
    PySem.W.WalkO q loose XP YP l.row.toRowW d [] (fun f vs => PySem.call f vs) :=
  walk_of (K := K) (CX := fun _ => CX) (sp := fun w => sp (K w.params)) hn hn2 hdf hr hY F (fun w H a ns h1 h2 h3 => hsp (K w.params) H a ns h1 h2 h3) fun _ H s e s' => hCX H s e s'
end L2

/- THE LAST THEOREM (shape; LID, My.* are yours):
   My.Adr: a structure of the addresses that your layer names (classes, functions); My.Txt K t: a structure (Prop) of the equations over K;
   My.txt_mk : {K} {implicit addresses ..} (e1 : nsIn K mainGlobals "law" = some (some (.ref f))) (e2 : K.lookup f = some ⟨oc, od, .func (fnOf "law" "law" params body scope dV kV doc pm an cdv ct), sl⟩) (e3 : codeIn K cdv "law" = true) .. : ∃ t, My.Txt K t

set_option maxRecDepth 100000 in
set_option maxHeartbeats 0 in
theorem PySem.Challenge.cw_LID_holds : PySem.Challenge.rw_LID.Holds := by
  w_on; o_law; k_head; (case hw => w_witness2)
  k_fill
  refine L2.walk_of (l := PySem.Challenge.rw_LID) (n := 63) (k := 40) (x := "script") (CX := fun w => ..) (sp := fun _ => My.sp_law) rfl (by decide) rfl ⟨rfl, by decide, by decide⟩ (fun w h Y => PySem.W.kIn_of Y) ?F ?S ?C
  case F =>
    intro w mg fa h KX G hmg
    have T : ∃ t, My.Txt (L2.KOf KX) t := by
      dsimp only [L2.KOf]                          -- K must stand as «<heap const> w.params» for k_is
      refine' My.txt_mk ?e1 ?e2 ?e3 ..
      (case e1 => PySem.W.k_is)                    -- in the order: a name -> its address -> its object -> its parts
      (case e2 => PySem.W.k_is)
      ..
    obtain ⟨t, T⟩ := T
    have e0 := hmg.symm.trans (PySem.W.mg_of KX G T.law)
    cases e0                                       -- fa is the law's own address
    exact ⟨_, fun s u => .of_eq rfl, fun base kb nb => My.law_fn T kb nb⟩     -- if «.of_eq rfl» comes too early: refine' ⟨_, ?b, fun base kb nb => My.law_fn T kb nb⟩; exact fun s u => .of_eq rfl
  case S => exact fun w H a ns hl hO hS => ..
  case C => exact ..
(the tactic k_is has no namespace: write k_is) -/

/-! SHORT WORDS over the layer: a def of the text, its body, what a loop and a test want. -/
namespace L2
open PySem PySem.Spec PyProof.Rows

/-! ### the text by places -/
/-- the j-th statement of a class's body -/
def inClass (s : Stmt) (j : Nat) : Stmt := match s with
  | .ClassDef _ _ _ body _ _ _ _ _ _ _ => body.getD j (.Pass ⟨0, 0, 0, 0⟩)
  | _ => .Pass ⟨0, 0, 0, 0⟩
def defArgs (s : Stmt) : Arguments := match s with
  | .FunctionDef _ a _ _ _ _ _ _ _ _ => a
  | _ => { posonlyargs := [], args := [], vararg := none, kwonlyargs := [], kw_defaults := [], kwarg := none, defaults := [] }
def defBody (s : Stmt) : List Stmt := match s with
  | .FunctionDef _ _ b _ _ _ _ _ _ _ => b
  | _ => []
def defScope (s : Stmt) : Scope := match s with
  | .FunctionDef _ _ _ _ _ _ sc _ _ _ => sc
  | _ => { kind := .function, names := [], isGenerator := false, isCoroutine := false }

/-! ### no exception leaves a def -/
abbrev CX0 : CXT := fun _ _ _ _ _ _ => False
abbrev E0 : XK := fun _ _ _ => False
theorem pass0 {X : Cx} : Passes CX0 X E0 := fun _ _ _ _ _ _ _ h => h.elim

/-! ### a def (or method) of the text as it stands behind the top -/
structure Fun (K : PySem.W.Frag) (x qual : Str) (st : Stmt) (f : Addr) (fd : FuncData) : Prop where
  ex : ∃ (oc : Value) (od : Option Addr) (kV doc pm : Value) (an : Option Addr) (cdv ct : Value) (osl : Array (Option Value)),
    fd = PySem.W.fnOf x qual (defArgs st) (defBody st) (defScope st) .none kV doc pm an cdv ct ∧ K.lookup f = some ⟨oc, od, .func fd, osl⟩ ∧ PySem.W.codeIn K cdv qual = true
  kp : PySem.W.keepIn K (.ref f) = true
section
variable {P : Program} {w : World} {K : PySem.W.Frag} {mg : Str → Option Value} {base : Heap}
/-- THE RULE for a def: its body as a term of rules, and the reading of that term -/
theorem Fun.ok {x qual : Str} {st : Stmt} {f : Addr} {fd : FuncData} {N ps : List Str} {k : Nat} {sp : Sp} (F : Fun K x qual st f fd) (S : FnScope N ps (defScope st)) (len : ∀ vs H Q E, sp vs H Q E → vs.length = ps.length)
    (hbody : ∀ (cdv : Value) (A : Around) (outer : List Env) (s : Shared) (H : Hp) (vs : List V) (Q : VK) (E : XK), Room k (A.deeper (envOfC qual (defScope st) s.heap.objs.size f cdv)) → sp vs H Q E →
      ∃ t, PSs (cxOf CX0 P w K mg base N qual (defScope st) f cdv A outer s H E).nox (defBody st) t ∧ t { nx := fun _ H' => Q .non H', rt := Q } (start N vs) H) : FnOk P w K mg base CX0 (k + 1) f fd ps sp := by
  obtain ⟨oc, od, kV, doc, pm, an, cdv, ct, osl, rfl, lk, hcd⟩ := F.ex
  refine fn_of lk hcd S len fun A outer s H vs Q E hr hsp => ?_
  obtain ⟨t, h, q⟩ := hbody cdv A outer s H vs Q E hr hsp
  exact ⟨t, h.nox, q⟩
/-- how its arguments bind (no defaults): h is «fun _ _ _ _ _ _ us hl => match us, hl with | [_, _], _ => rfl», one _ a parameter -/
theorem Fun.binds {x qual : Str} {st : Stmt} {f : Addr} {fd : FuncData} {ps : List Str} (F : Fun K x qual st f fd)
    (h : ∀ (kV doc pm : Value) (an : Option Addr) (cdv ct : Value) (us : List Value), us.length = ps.length → bindArgs (PySem.W.fnOf x qual (defArgs st) (defBody st) (defScope st) .none kV doc pm an cdv ct) ⟨us, []⟩ = pure (ps.zip us)) : Binds K fd ps [] := by
  obtain ⟨oc, od, kV, doc, pm, an, cdv, ct, osl, rfl, lk, hcd⟩ := F.ex
  exact .all (h kV doc pm an cdv ct)
theorem fun_mk {x qual : Str} {st : Stmt} {f : Addr} {oc : Value} {od an : Option Addr} {osl : Array (Option Value)} {kV doc pm cdv ct : Value} (l : K.lookup f = some ⟨oc, od, .func (PySem.W.fnOf x qual (defArgs st) (defBody st) (defScope st) .none kV doc pm an cdv ct), osl⟩)
    (c : PySem.W.codeIn K cdv qual = true) (k : PySem.W.keepIn K (.ref f) = true) : Fun K x qual st f (PySem.W.fnOf x qual (defArgs st) (defBody st) (defScope st) .none kV doc pm an cdv ct) := ⟨⟨oc, od, kV, doc, pm, an, cdv, ct, osl, rfl, l, c⟩, k⟩
end
theorem hu_of {A : Around} {k : Nat} (hr : Room k A) : A.units + 1 < cLine := Nat.lt_of_le_of_lt (Nat.add_le_add_left (by decide : 1 ≤ 64) _) hr.units
theorem small1000 {n : Nat} (h : n ≤ 1000) : n < sizeLine := Nat.lt_of_le_of_lt h (by decide)

/-! ### expressions in short: the name that stands in the i-th slot -/
section
variable {X : Cx}
theorem pv (i : Nat) {x : Str} {pos : Pos} (hN : X.N[i]? = some x := by rfl) (hv : Vis X.env.scope x := by first | exact Or.inl rfl | exact Or.inr (Or.inl rfl) | exact Or.inr (Or.inr rfl)) (hd : (x == ("__debug__" : Str)) = false := by decide)
    (hcd : (x == ("__classdict__" : Str)) = false := by decide) : PE X (.Name x pos) (tVar i) := pe_var hN hv hd hcd
end

/-! ### tests -/
theorem iteF {A B : Prop} (h : B) : if false = true then A else B := by
  rw [if_neg Bool.false_ne_true]
  exact h
theorem iteT {A B : Prop} (h : A) : if true = true then A else B := by
  rw [if_pos rfl]
  exact h
theorem ite2 {c A B : Prop} [Decidable c] (h1 : c → A) (h2 : ¬ c → B) : if c then A else B := by
  by_cases h : c
  · rw [if_pos h]
    exact h1 h
  · rw [if_neg h]
    exact h2 h
theorem iteNS {c A B : Prop} [Decidable c] (hc : c) (h : B) : if (!decide c) = true then A else B := by
  rw [decide_eq_true hc]
  exact iteF h

/-! ### heaps -/
/-- all that was tracked is as it was -/
def Same (H H' : Hp) : Prop := ∀ b o, H b = some o → H' b = some o
theorem Same.refl (H : Hp) : Same H H := fun _ _ h => h
theorem Same.trans {H H1 H2 : Hp} (a : Same H H1) (b : Same H1 H2) : Same H H2 := fun c o h => b c o (a c o h)
theorem Same.free {H H' : Hp} (e : Same H H') {l : Addr} (h : H' l = Option.none) : H l = Option.none := by
  cases q : H l with
  | none => rfl
  | some o =>
    rw [e l o q] at h
    cases h
theorem Same.seq {K : PySem.W.Frag} {H H' : Hp} {a : Addr} {xs : List V} (e : Same H H') (h : SqL K H a xs) : SqL K H' a xs := by
  rcases h with (h | ⟨o, h⟩) | h
  · exact .inl (.inl (e _ _ h))
  · exact .inl (.inr ⟨o, e _ _ h⟩)
  · exact .inr h

end L2

set_option Elab.async false
set_option linter.all false
set_option maxRecDepth 100000
namespace L2
open PySem PySem.Spec PyProof.Rows

/-! ### a comprehension of one clause -/
def clos (env : Env) : List (Str × NameKind) → List (Str × Addr) → List (Str × Addr)
  | [], cs => cs
  | x :: r, cs => clos env r (if (x.2 == .free) = true then (x.1, (env.cells.lookup x.1).getD 0) :: cs else cs)
theorem closureFor_eq {sc : Scope} {env : Env} (h : ∀ n, (n, NameKind.free) ∈ sc.names → ∃ c, env.cells.lookup n = some c) : closureFor sc env = pure (clos env sc.names []) := by
  have go : ∀ (l : List (Str × NameKind)) (cs : List (Str × Addr)), (∀ n, (n, NameKind.free) ∈ l → ∃ c, env.cells.lookup n = some c) →
      (forIn l cs fun (x : Str × NameKind) (r : List (Str × Addr)) =>
        if (x.snd == NameKind.free) = true then do
          let a ← cellOf env x.fst
          pure (ForInStep.yield ((x.fst, a) :: r))
        else pure (ForInStep.yield r) : Sem (List (Str × Addr))) = pure (clos env l cs) := by
    intro l
    induction l with
    | nil => intro cs _; rfl
    | cons x l ih =>
      intro cs hl
      have ih' := fun cs => ih cs fun n hn => hl n (List.mem_cons_of_mem _ hn)
      rw [List.forIn_cons]
      by_cases hk : (x.2 == NameKind.free) = true
      · obtain ⟨n, k⟩ := x
        have hk' : k = .free := by simpa using hk
        subst hk'
        obtain ⟨c, hc⟩ := hl n List.mem_cons_self
        have e : cellOf env n = pure c := by unfold cellOf; rw [hc]
        simp only [beq_self_eq_true, if_true, clos, e, hc, Option.getD_some]
        exact ih' _
      · simp only [if_neg hk, clos]
        exact ih' _
  simp only [closureFor]
  rw [go sc.names [] h]
  rfl
theorem clos_lookup {env : Env} : ∀ (l : List (Str × NameKind)) (cs : List (Str × Addr)) (x : Str) (c : Addr), (∀ n, (n, NameKind.free) ∈ l → ∃ c, env.cells.lookup n = some c) →
    (∀ y d, cs.lookup y = some d → env.cells.lookup y = some d) → (clos env l cs).lookup x = some c → env.cells.lookup x = some c
  | [], cs, x, c, _, h, e => h x c e
  | (n, k) :: l, cs, x, c, hl, h, e => by
    refine clos_lookup l _ x c (fun m hm => hl m (List.mem_cons_of_mem _ hm)) ?_ e
    intro y d q
    by_cases hk : (k == NameKind.free) = true
    · rw [if_pos hk] at q
      have hk' : k = .free := by simpa using hk
      subst hk'
      obtain ⟨c0, hc⟩ := hl n List.mem_cons_self
      rw [List.lookup_cons] at q
      cases hy : y == n with
      | true =>
        rw [hy] at q
        have : y = n := by simpa using hy
        subst this
        simp only [hc, Option.getD_some] at q
        rw [hc]; exact q
      | false => rw [hy] at q; exact h y d q
    · rw [if_neg hk] at q
      exact h y d q
theorem clos_has {env : Env} : ∀ (l : List (Str × NameKind)) (cs : List (Str × Addr)) (x : Str), ((x, NameKind.free) ∈ l ∨ ∃ c, cs.lookup x = some c) → ∃ c, (clos env l cs).lookup x = some c
  | [], cs, x, h => by
    rcases h with h | h
    · cases h
    · exact h
  | (n, k) :: l, cs, x, h => by
    refine clos_has l _ x ?_
    by_cases hx : (x, NameKind.free) ∈ l
    · exact .inl hx
    refine .inr ?_
    by_cases hk : (k == NameKind.free) = true
    · rw [if_pos hk, List.lookup_cons]
      cases hy : x == n with
      | true => exact ⟨_, rfl⟩
      | false =>
        rcases h with h | h
        · rcases List.mem_cons.mp h with e | e
          · injection e with e1 e2
            rw [e1] at hy
            simp at hy
          · exact absurd e hx
        · exact h
    · rw [if_neg hk]
      rcases h with h | h
      · rcases List.mem_cons.mp h with e | e
        · injection e with e1 e2
          rw [← e2] at hk
          simp at hk
        · exact absurd e hx
      · exact h

theorem relabel_kind {env : Env} : ∀ {names : List (Str × NameKind)} {x : Str} {k : NameKind},
    (names.map fun (n, k) => if (k == NameKind.free && env.scope.kind == .function && env.kindOf n == some .cell) then (n, NameKind.cell) else (n, k)).lookup x = some k →
    ∃ k0, (x, k0) ∈ names ∧ names.lookup x = some k0 ∧ (k = k0 ∨ (k0 = .free ∧ k = .cell))
  | [], _, _, h => by simp at h
  | (n, k0) :: r, x, k, h => by
    have ih := @relabel_kind env r x k
    rw [List.map_cons] at h
    rw [List.lookup_cons]
    by_cases hc : (k0 == NameKind.free && env.scope.kind == .function && env.kindOf n == some .cell) = true
    · have h' : List.lookup x ((n, NameKind.cell) :: List.map (fun (n, k) => if (k == NameKind.free && env.scope.kind == .function && env.kindOf n == some .cell) then (n, NameKind.cell) else (n, k)) r) = some k := by
        simpa only [if_pos hc] using h
      rw [List.lookup_cons] at h'
      cases hx : x == n with
      | true =>
        rw [hx] at h'
        have e : x = n := by simpa using hx
        subst e
        refine ⟨k0, List.mem_cons_self, rfl, .inr ⟨?_, (Option.some.inj h').symm⟩⟩
        rw [Bool.and_eq_true, Bool.and_eq_true] at hc
        simpa using hc.1.1
      | false =>
        rw [hx] at h'
        obtain ⟨k1, m1, l1, e1⟩ := ih h'
        exact ⟨k1, List.mem_cons_of_mem _ m1, l1, e1⟩
    · have h' : List.lookup x ((n, k0) :: List.map (fun (n, k) => if (k == NameKind.free && env.scope.kind == .function && env.kindOf n == some .cell) then (n, NameKind.cell) else (n, k)) r) = some k := by
        simpa only [if_neg hc] using h
      rw [List.lookup_cons] at h'
      cases hx : x == n with
      | true =>
        rw [hx] at h'
        have e : x = n := by simpa using hx
        subst e
        exact ⟨k0, List.mem_cons_self, rfl, .inl (Option.some.inj h').symm⟩
      | false =>
        rw [hx] at h'
        obtain ⟨k1, m1, l1, e1⟩ := ih h'
        exact ⟨k1, List.mem_cons_of_mem _ m1, l1, e1⟩
theorem relabel_cell {env : Env} (hk : env.scope.kind = .function) : ∀ {names : List (Str × NameKind)} {x : Str}, names.lookup x = some .free → env.kindOf x = some .cell →
    (names.map fun (n, k) => if (k == NameKind.free && env.scope.kind == .function && env.kindOf n == some .cell) then (n, NameKind.cell) else (n, k)).lookup x = some .cell
  | [], _, h, _ => by simp at h
  | (n, k0) :: r, x, h, hc => by
    have ih := @relabel_cell env hk r x
    rw [List.map_cons]
    rw [List.lookup_cons] at h
    cases hx : x == n with
    | true =>
      rw [hx] at h
      have e : x = n := by simpa using hx
      subst e
      have e0 : k0 = .free := Option.some.inj h
      subst e0
      have hp : (NameKind.free == NameKind.free && env.scope.kind == .function && env.kindOf x == some .cell) = true := by rw [hk, hc]; rfl
      simp only [if_pos hp]
      rw [List.lookup_cons, hx]
    | false =>
      rw [hx] at h
      by_cases hp : (k0 == NameKind.free && env.scope.kind == .function && env.kindOf n == some .cell) = true
      · simp only [if_pos hp]
        rw [List.lookup_cons, hx]
        exact ih h hc
      · simp only [if_neg hp]
        rw [List.lookup_cons, hx]
        exact ih h hc

/-- what of the enclosing frame a comprehension's block names: the name, its slot there -/
def Caps (osc : Scope) (N : List Str) (sc : Scope) : List (Str × Nat) → Prop
  | [] => True
  | (n, i) :: r => N[i]? = some n ∧ sc.names.lookup n = some .free ∧ osc.names.lookup n = some .cell ∧ Caps osc N sc r
theorem Caps.get {osc : Scope} {N : List Str} {sc : Scope} : ∀ {caps : List (Str × Nat)} {j : Nat} {p : Str × Nat}, Caps osc N sc caps → caps[j]? = some p →
    N[p.2]? = some p.1 ∧ sc.names.lookup p.1 = some .free ∧ osc.names.lookup p.1 = some .cell
  | [], j, p, _, e => by simp at e
  | (n, i) :: r, 0, p, h, e => by
    simp at e
    subst e
    exact ⟨h.1, h.2.1, h.2.2.1⟩
  | (n, i) :: r, j + 1, p, h, e => Caps.get (j := j) h.2.2.2 (by simpa using e)
structure CompSc (osc : Scope) (N : List Str) (sc : Scope) (x : Str) (caps : List (Str × Nat)) : Prop where
  kind : sc.kind = .function
  nocell : ∀ y ∈ sc.names, y.2 ≠ .cell
  names : ∀ y ∈ sc.names, y.2 = .local → sc.names.lookup y.1 = some .local
  loc : sc.names.lookup x = some .local
  frees : ∀ y ∈ sc.names, y.2 = .free → osc.names.lookup y.1 = some .cell
  cap : Caps osc N sc caps
  nd : (x :: caps.map (·.1)).Nodup
def capSt (caps : List (Str × Nat)) (σ : St) : St := caps.map fun p => (σ[p.2]?).join
/-- the context of a comprehension's block -/
def compCx (X : Cx) (sc : Scope) (N : List Str) (s : Shared) (H : Hp) (C : Addr) (cl : List (Str × Addr)) (ex : List Addr) : Cx where
  prog := X.prog
  w := X.w
  K := X.K
  mg := X.mg
  base := X.base
  A := X.A
  N := N
  s₀ := s
  H₀ := H
  env := compEnvC sc cl C X.env
  outer := X.stack
  stack := X.stack
  ex := ex
  fn := fun _ => false
  calm := X.calm
  pn := []
  xe := fun _ _ => False
/-- the tests of a clause -/
def PIf (X : Cx) (ifs : List Expr) (t : TT) : Prop :=
  ∀ (pins : List (Addr × Obj)) (s : Shared) (σ : St) (H : Hp) (Q : Bool → Hp → Prop), Inv X pins σ H s → t σ H Q →
    wpAny (model X.prog X.w) X.A (forIn ifs true fun c r => if r = true then do let ok ← isTrue c X.env (eval c X.env); pure (ForInStep.yield ok) else pure (ForInStep.yield r)) (TP X pins σ Q) X.xe s
def tYes : TT := fun _ H Q => Q true H
theorem pif_nil {X : Cx} : PIf X [] tYes := fun _ _ _ H _ I h => wpAny_tests_nil ⟨H, I, h⟩
theorem pif_one {X : Cx} {c : Expr} {t : TT} (h : PT X c t) : PIf X [c] t := fun pins s σ H Q I hq => wpAny_tests_one (h pins s σ H Q I hq)
/-- the block's loop: W by the turn, a measure and the heap; acc is the list that grows -/
def tComp (J : It) (caps : List (Str × Nat)) (tt : TT) (te : TE) (σ : St) (acc : Addr) (Q : VK) (H : Hp) : Prop :=
  ∃ W : Nat → Nat → Hp → Prop, (∃ m, W 0 m H) ∧ ∀ i m H, W i m H →
    (J.stop i H ∧ Q (.ref acc) H) ∨
    (J.go i H ∧ ∃ N : Hp → Prop, (∀ H', N H' → ∃ m', m' < m ∧ W (i + 1) m' H') ∧ ∀ x H', J.yld i H x H' → tt (some x :: capSt caps σ) H' fun b H2 =>
      if b = true then te (some x :: capSt caps σ) H2 fun v H3 => ∃ xs, H3 acc = some (.lst xs) ∧ xs.length < sizeLine ∧ N (upd H3 acc (.lst (xs ++ [v]))) else N H2)
def tLC (wi : TI) (caps : List (Str × Nat)) (tt : TT) (te : TE) : TE := fun σ H Q => wi σ H fun J H1 => ∀ acc, H1 acc = none → tComp J caps tt te σ acc Q (upd H1 acc (.lst []))

section
variable {X : Cx} {elt iter : Expr} {ifs : List Expr} {x : Str} {px : Pos} {sc osc : Scope} {N : List Str} {caps : List (Str × Nat)} {wi : TI} {tt : TT} {te : TE} {pos : Pos}
theorem comp_run (CS : CompSc osc N sc x caps) (hosc : X.env.scope = osc) (hN : X.N = N) (hcalm : X.calm = true) (hi : PI X (.Name x px) iter wi)
    (htt : ∀ s H C cl ex, PIf (compCx X sc (x :: caps.map (·.1)) s H C cl ex) ifs tt) (he : ∀ s H C cl ex, PE (compCx X sc (x :: caps.map (·.1)) s H C cl ex) elt te)
    {pins : List (Addr × Obj)} {s : Shared} {σ : St} {H : Hp} {Q : VK} {RR : Value → Addr → Result → Shared → Prop} (I : Inv X pins σ H s) (h : tLC wi caps tt te σ H Q)
    (hfin : ∀ acc C s' H', Inv X pins σ H' s' → FpOk X pins H' C → (∃ m, s'.heap.Ns C m) → Q (.ref acc) H' → RR (.ref acc) C (.ok .next) s') :
    wpAny (model X.prog X.w) X.A (eval iter X.env) (fun xv s₁ => wpAny (model X.prog X.w) X.A (pyIter xv) (fun it s₂ => wpAny (model X.prog X.w) X.A (newList []) (fun acc s₃ =>
      wpAny (model X.prog X.w) X.A (newFunctionEnv sc X.env.globals (clos X.env sc.names []) [] X.env.qual none .none (some X.env)) (fun cenv s₄ =>
        codeAny (model X.prog X.w) X.A (.compStart (.ListComp elt [⟨.Name x px, iter, ifs, 0⟩] sc pos) 0 it acc { cenv with scope := relabel sc X.env }) (RR acc cenv.locals) s₄) X.xe s₃) X.xe s₂) X.xe s₁) X.xe s := by
  subst hosc hN
  refine thn (hi pins s σ H _ I h) fun v s1 h1 => thn h1 fun itv s2 h2 => ?_
  obtain ⟨it, fp, tn, J, H2, e, I2, T, st2, f2, q2⟩ := h2
  subst e
  have hk : X.env.scope.kind = .function := I.ok.kind
  refine wpAny_newObj_type (wpAny_newFunctionEnv CS.nocell (by intro y hy; simp at hy) (fun h₁ hns₁ hsb₁ => ?_) CS.kind)
  dsimp only at hns₁ hsb₁ ⊢
  have I3 : Inv X pins σ (upd H2 s2.heap.objs.size (.lst [])) { s2 with heap := s2.heap.push { cls := .type "list", data := .seq ([] : List Value).toArray } } := I2.lnew (t' := s2.toks) (ys := []) (its := []) .nil (Nat.zero_le _)
  have q3 := q2 s2.heap.objs.size I2.fresh
  have accLt : s2.heap.objs.size < (s2.heap.push { cls := .type "list", dict := none, data := .seq ([] : List Value).toArray }).objs.size := by rw [Heap.size_push]; exact Nat.lt_succ_self _
  generalize hs3 : ({ s2 with heap := s2.heap.push { cls := .type "list", data := .seq ([] : List Value).toArray } } : Shared) = s3 at I3
  have hH3 : s2.heap.push { cls := .type "list", dict := none, data := .seq ([] : List Value).toArray } = s3.heap := by rw [← hs3]
  have h23 : ∀ b o, s2.heap.get? b = some o → s3.heap.get? b = some o := fun b o e => by rw [← hH3]; exact Heap.get?_push_of_some _ e
  rw [hH3] at hns₁ hsb₁ accLt ⊢
  have h34 : ∀ b o, s3.heap.get? b = some o → h₁.get? b = some o := fun b o e => hsb₁.extBut b o (Nat.ne_of_lt (Heap.lt_size e)) (Heap.get?_push_of_some _ e)
  have hcells : ∀ n, (n, NameKind.free) ∈ sc.names → ∃ c, X.env.cells.lookup n = some c := fun n hn => I.ok.has n (.inl (CS.frees (n, .free) hn rfl))
  have clL : ∀ y c, (clos X.env sc.names []).lookup y = some c → X.env.cells.lookup y = some c := fun y c e => clos_lookup sc.names [] y c hcells (fun _ _ z => by simp at z) e
  generalize hacc : s2.heap.objs.size = acc at I3 q3 accLt ⊢
  generalize hC : s3.heap.objs.size = C at hns₁ hsb₁ accLt ⊢
  obtain ⟨W, ⟨m0, w0⟩, turn⟩ := q3
  have hos : s3.os = s2.os := by rw [← hs3]
  have hgs : s3.gens = s2.gens := by rw [← hs3]
  -- the block's context
  have ok' : (compCx X sc (x :: caps.map (·.1)) s3 (upd H2 acc (.lst [])) C (clos X.env sc.names []) fp).Ok := by
    have fpd : ∀ b ∈ fp, b < s2.heap.objs.size := fun b hb => by obtain ⟨o, e, _⟩ := T.obj _ _ st2 b hb; exact Heap.lt_size e
    refine ⟨I3.ok.mod, CS.kind, I3.ok.glob, I3.ok.blt, Nat.le_of_eq hC, fun y z c e1 e2 => I3.ok.inj y z c (clL y c e1) (clL z c e2), fun y hy => ?_, fun y c hf => ?_, I3.ok.hd, I3.ok.frames, .inl rfl, fun b hb => ⟨?_, fun y c e => ?_⟩,
      I3.bs, Nat.le_trans I3.ok.bsz I3.sz, fun b o e hb => ?_, fun b hb hf => ?_, I3.stack, I3.stkFree⟩
    · have hy' : ∃ k0, (y, k0) ∈ sc.names ∧ k0 = NameKind.free := by
        rcases hy with hy | hy
        · obtain ⟨k0, m, _, e⟩ := relabel_kind hy
          rcases e with e | e
          · exact absurd e.symm (CS.nocell (y, k0) m)
          · exact ⟨k0, m, e.1⟩
        · obtain ⟨k0, m, _, e⟩ := relabel_kind hy
          rcases e with e | e
          · exact ⟨k0, m, e.symm⟩
          · exact absurd e.2 (by decide)
      obtain ⟨k0, m, rfl⟩ := hy'
      exact clos_has sc.names [] y (.inl m)
    · exact absurd (show false = true from hf) Bool.false_ne_true
    · intro z
      have z' : b = C := z
      have h1 := fpd b hb
      rw [hacc, z'] at h1
      exact Nat.lt_irrefl _ (Nat.lt_trans h1 accLt)
    · exact (f2 b hb).2.2.2.2.1 y c (clL y c e)
    · rcases (f2 b hb).2.2.2.1 with z | z
      · exact I.ok.noex b o e z
      · exact absurd (Nat.lt_of_lt_of_le (Heap.lt_size e) (Nat.le_trans I.ok.bsz z)) (Nat.lt_irrefl _)
    · rcases List.mem_cons.mp (I3.stkSub b hf) with z | z
      · exact (f2 b hb).2.1 z
      · exact (f2 b hb).2.2.1 z
  have fpd : ∀ b ∈ fp, b < s2.heap.objs.size := fun b hb => by obtain ⟨o, e, _⟩ := T.obj _ _ st2 b hb; exact Heap.lt_size e
  have stat : ∀ {H' : Hp}, (∀ b ∈ fp, H' b = none) → ∀ b ∈ fp, FpOk (compCx X sc (x :: caps.map (·.1)) s3 (upd H2 acc (.lst [])) C (clos X.env sc.names []) fp) [] H' b := fun hn b hb =>
    ⟨hn b hb, (ok'.exf b hb).1, ok'.exfs b hb, .inl hb, (ok'.exf b hb).2, fun p hp => absurd (show p ∈ ([] : List (Addr × Obj)) from hp) (by simp)⟩
  have hch : ∀ b ∈ fp, (b ∈ X.ex ∨ X.s₀.heap.objs.size ≤ b) ∧ b ≠ X.env.locals ∧ (∀ y c, X.env.cells.lookup y = some c → c ≠ b) ∧ ∀ p ∈ X.pn ++ pins, p.1 ≠ b := fun b hb =>
    ⟨(f2 b hb).2.2.2.1, (f2 b hb).2.1, (f2 b hb).2.2.2.2.1, (f2 b hb).2.2.2.2.2⟩
  have start : ∀ s4 : Shared, s4 = { s3 with heap := h₁, toks := s3.toks + ([] : List (Str × Value)).length } →
      Inv (compCx X sc (x :: caps.map (·.1)) s3 (upd H2 acc (.lst [])) C (clos X.env sc.names []) fp) [] (none :: capSt caps σ) (upd H2 acc (.lst [])) s4 := by
    rintro s4 rfl
    have I4 : Inv X pins σ (upd H2 acc (.lst [])) { s3 with heap := h₁, toks := s3.toks + ([] : List (Str × Value)).length } := I3.kept h34
    refine ⟨ok', rfl, I3.bare, Un.kept h34, ⟨_, hns₁, fun i y v e1 e2 e3 => ?_⟩, fun y c e => I4.cell y c (clL y c e), ?_, fun y c e => I4.freeC y c (clL y c e), fun p hp => absurd (show p ∈ ([] : List (Addr × Obj)) from hp) (by simp), I4.hok, ?_⟩
    · cases i with
      | zero => exact absurd (show some (none : Option V) = some (some v) from e2) (by simp)
      | succ j =>
        have e1' : (caps.map (·.1))[j]? = some y := e1
        have e2' : (capSt caps σ)[j]? = some (some v) := e2
        rw [List.getElem?_map] at e1'
        cases hp : caps[j]? with
        | none => rw [hp] at e1'; cases e1'
        | some p =>
          rw [hp] at e1'
          have ey : p.1 = y := Option.some.inj e1'
          subst ey
          unfold capSt at e2'
          rw [List.getElem?_map, hp] at e2'
          have e4 : (σ[p.2]?).join = some v := Option.some.inj e2'
          have e5 : σ[p.2]? = some (some v) := by
            cases q : σ[p.2]? with
            | none => rw [q] at e4; cases e4
            | some z => rw [q] at e4; rw [show z = some v from e4]
          obtain ⟨c1, c2, c3⟩ := CS.cap.get hp
          obtain ⟨m, hn, hl⟩ := I4.loc
          obtain ⟨u, ru, lk⟩ := hl p.2 p.1 v c1 e5 (.inr (.inl c3))
          refine ⟨u, ru, .inr ⟨.inl (relabel_cell hk c2 c3), ?_⟩⟩
          rcases lk with ⟨hk2, _⟩ | ⟨_, c, hc, hcell⟩
          · have : X.env.scope.names.lookup p.1 = some .local := hk2
            rw [c3] at this; cases this
          · obtain ⟨c', hc'⟩ := clos_has (env := X.env) sc.names [] p.1 (.inl (by
              have := PySem.mem_of_lookup c2
              exact this))
            have e6 := clL p.1 c' hc'
            rw [hc] at e6
            cases e6
            exact ⟨c, hc', hcell⟩
    · exact I3.hok.fresh (Nat.le_of_eq hC)
    · show (none :: capSt caps σ).length = (x :: caps.map (·.1)).length
      simp [capSt]
  have loop : ∀ s4 : Shared, s4 = { s3 with heap := h₁, toks := s3.toks + ([] : List (Str × Value)).length } →
      codeAny (model X.prog X.w) X.A (.compLoop (.ListComp elt [⟨.Name x px, iter, ifs, 0⟩] sc pos) 0 (.ref it) (.ref acc) (compEnvC sc (clos X.env sc.names []) C X.env)) (RR (.ref acc) C) s4 := by
    intro s4 e4
    have I4 := start s4 e4
    have tn4 : tn 0 s4.heap := T.keep 0 _ _ st2 fun b hb o e => by rw [e4]; exact h34 b o (h23 b o e)
    have fr4 : ∀ b ∈ fp, (upd H2 acc (.lst [])) b = none := fun b hb => by
      have h1 := fpd b hb
      rw [hacc] at h1
      rw [upd_ne (Nat.ne_of_lt h1)]
      exact (f2 b hb).1
    refine codeAny_loop rfl (fun n s' => ∃ i H', Inv (compCx X sc (x :: caps.map (·.1)) s3 (upd H2 acc (.lst [])) C (clos X.env sc.names []) fp) [] (none :: capSt caps σ) H' s' ∧ tn i s'.heap ∧ (∀ b ∈ fp, H' b = none) ∧ W i n H') ?_ m0 ⟨0, _, I4, tn4, fr4, w0⟩
    rintro n s5 ⟨i, H5, I5, tn5, fr5, w5⟩
    show wpAny _ X.A ((compTurn (.ListComp elt [⟨.Name x px, iter, ifs, 0⟩] sc pos) 0 (.ref it) (.ref acc) (compEnvC sc (clos X.env sc.names []) C X.env)).onRaise (fun x => do noteFrame x (compEnvC sc (clos X.env sc.names []) C X.env); theTreesLotGoes x)) _ _ s5
    refine wpAny_noted ?_
    rw [compTurn_list]
    refine wpAny_bind (wpAny_standAt (wpAny_bind ?_))
    rcases turn i n H5 w5 with ⟨stop, qn⟩ | ⟨go, N, hNN, step⟩
    · refine wpAny_mono (T.done (compCx X sc (x :: caps.map (·.1)) s3 (upd H2 acc (.lst [])) C (clos X.env sc.names []) fp) rfl rfl rfl hcalm i [] s5 (none :: capSt caps σ) H5 (fun _ _ => False) I5 (stat fr5) tn5 stop) (fun r s6 ⟨hr, I6⟩ => ?_) fun _ _ z => z.elim
      subst hr
      refine wpAny_pure (hfin acc C s6 H5 (I3.call' I6.os I6.base I6.hok I6.bare hch) (I3.fpOk (Nat.le_of_eq hC) I6.free) ?_ qn)
      obtain ⟨m, hn, _⟩ := I6.loc
      exact ⟨m, hn⟩
    · refine wpAny_mono (T.item (compCx X sc (x :: caps.map (·.1)) s3 (upd H2 acc (.lst [])) C (clos X.env sc.names []) fp) rfl rfl rfl hcalm i [] s5 (none :: capSt caps σ) H5 (fun _ _ => False) I5 (stat fr5) tn5 go) (fun r s6 ⟨u, hr, h6⟩ => ?_) fun _ _ z => z.elim
      subst hr
      refine wpAny_bind (wpAny_mono h6 (fun _ s7 ⟨xv, H7, I7, r7, y7, tn7, fr7⟩ => ?_) fun _ _ z => z.elim)
      have I7p := I7.pinned (stat fr7) (T.obj _ _ tn7)
      have P := pg_name (X := compCx X sc (x :: caps.map (fun q : Str × Nat => q.1)) s3 (upd H2 acc (.lst [])) C (clos X.env sc.names []) fp) (pos := px) (i := 0) (x := x) CS.nd rfl (.inl (lookup_relabel_local CS.loc)) (.inr (lookup_relabel_local CS.loc))
      refine wpAny_bind (wpAny_mono (P _ s7 (none :: capSt caps σ) H7 xv u (fun σ' H' => σ' = some xv :: capSt caps σ ∧ H' = H7) I7p r7 ⟨rfl, rfl⟩) (fun _ s8 ⟨σ8, H8, I8, e8, e8'⟩ => ?_) fun _ _ z => False.elim z)
      subst e8 e8'
      refine wpAny_bind (wpAny_mono (htt s3 (upd H2 acc (.lst [])) C (clos X.env sc.names []) fp _ s8 (some xv :: capSt caps σ) _ _ I8 (step xv _ y7)) (fun ok s9 ⟨H9, I9, q9⟩ => ?_) fun _ _ z => False.elim z)
      have again : ∀ {σa : St} {Ha : Hp} {sa : Shared}, Inv (compCx X sc (x :: caps.map (·.1)) s3 (upd H2 acc (.lst [])) C (clos X.env sc.names []) fp) ([] ++ pinsAt fp s7.heap) (some xv :: capSt caps σ) Ha sa → N Ha →
          ∃ m, m < n ∧ ∃ i H', Inv (compCx X sc (x :: caps.map (·.1)) s3 (upd H2 acc (.lst [])) C (clos X.env sc.names []) fp) [] (none :: capSt caps σ) H' sa ∧ tn i sa.heap ∧ (∀ b ∈ fp, H' b = none) ∧ W i m H' := fun {σa Ha sa} Ia na => by
        obtain ⟨m', hm, wa⟩ := hNN Ha na
        refine ⟨m', hm, i + 1, Ha, (Ia.unpinned).weak rfl (fun j v e => ?_), T.keep _ _ _ tn7 fun b hb o e => (Ia.pin (b, o) (List.mem_append_right _ (List.mem_append_right _ (mem_pinsAt hb e)))).1, fun b hb => ?_, wa⟩
        · cases j with
          | zero => exact absurd (show some (none : Option V) = some (some v) from e) (by simp)
          | succ j => exact e
        · obtain ⟨o, e, d⟩ := T.obj _ _ tn7 b hb
          exact (Ia.pin (b, o) (List.mem_append_right _ (List.mem_append_right _ (mem_pinsAt hb e)))).2.1
      cases ok with
      | false => exact wpAny_pure ⟨rfl, again (σa := σ) I9 q9⟩
      | true =>
        refine wpAny_bind (wpAny_bind (wpAny_mono (he s3 (upd H2 acc (.lst [])) C (clos X.env sc.names []) fp _ s9 (some xv :: capSt caps σ) H9 _ I9 q9) (fun yv s10 ⟨y, H10, I10, r10, xs, hxs, hlen, n10⟩ => ?_) fun _ _ z => False.elim z))
        have A := mt_append (X := compCx X sc (x :: caps.map (fun q : Str × Nat => q.1)) s3 (upd H2 acc (.lst [])) C (clos X.env sc.names []) fp) _ s10 _ H10 (.ref acc) [y] (.ref acc) [yv] (fun _ H' => N H') I10 rfl (.cons r10 .nil) ⟨acc, xs, y, rfl, rfl, hxs, hlen, n10⟩
        refine wpAny_bind (wpAny_mono A (fun _ s11 ⟨z, H11, I11, _, n11⟩ => wpAny_pure (wpAny_pure ⟨rfl, again (σa := σ) I11 n11⟩)) fun _ _ z => False.elim z)
  refine codeAny_compStart_list (loop _ (by rw [← hs3])) (T.self X.A 0 _ _ _ (T.keep 0 _ _ st2 fun b hb o e => h34 b o (h23 b o e)) (loop _ (by rw [← hs3])))

/-- [elt for x in iter if ..] -/
theorem pe_lc (hi : PI X (.Name x px) iter wi) (htt : ∀ s H C cl ex, PIf (compCx X sc (x :: caps.map (·.1)) s H C cl ex) ifs tt) (he : ∀ s H C cl ex, PE (compCx X sc (x :: caps.map (·.1)) s H C cl ex) elt te)
    (CS : CompSc osc N sc x caps) (hosc : X.env.scope = osc := by rfl) (hN : X.N = N := by rfl) (hcalm : X.calm = true := by rfl) (hs : ∀ x, foldedSetIterable iter X.env x = pure x := by intro _; rfl) :
    PE X (.ListComp elt [⟨.Name x px, iter, ifs, 0⟩] sc pos) (tLC wi caps tt te) := by
  intro pins s σ H Q I h
  rw [eval_ListComp]
  have hcells : ∀ n, (n, NameKind.free) ∈ sc.names → ∃ c, X.env.cells.lookup n = some c := fun n hn => I.ok.has n (.inl (by rw [show X.env.kindOf n = X.env.scope.names.lookup n from rfl, hosc]; exact CS.frees (n, .free) hn rfl))
  refine wpAny_comprehension_free (use := none) rfl hs (closureFor_eq hcells) CS.kind CS.names ?_
  refine comp_run (Q := Q) (RR := fun acc C => compPost (model X.prog X.w) X.A X.xe none (EP X pins σ Q) acc C) CS hosc hN hcalm hi htt he I h ?_
  intro acc C s' H' I' fC hm q
  obtain ⟨m, hn⟩ := hm
  refine ⟨m, hn, fun h' hsb => ?_⟩
  exact ⟨.ref acc, H', I'.turned (t' := s'.toks) (fun b o hb e => (hsb.2 b hb).trans e) fC.1 fC.2.1 fC.2.2.2.1 fC.2.2.2.2.1 fC.2.2.2.2.2, rfl, q⟩
/-- y = [elt for x in iter if ..], y a plain local: the value is stored ahead of the block's end -/
theorem ps_lc {i : Nat} {y : Str} {py spos : Pos} (hnd : X.N.Nodup) (hix : X.N[i]? = some y) (hy : X.env.scope.names.lookup y = some .local)
    (hi : PI X (.Name x px) iter wi) (htt : ∀ s H C cl ex, PIf (compCx X sc (x :: caps.map (·.1)) s H C cl ex) ifs tt) (he : ∀ s H C cl ex, PE (compCx X sc (x :: caps.map (·.1)) s H C cl ex) elt te)
    (CS : CompSc osc N sc x caps) (hosc : X.env.scope = osc := by rfl) (hN : X.N = N := by rfl) (hcalm : X.calm = true := by rfl) (hs : ∀ x, foldedSetIterable iter X.env x = pure x := by intro _; rfl)
    (hsw : swapsWith (.ListComp elt [⟨.Name x px, iter, ifs, 0⟩] sc pos) (some (.Name y py)) spos.line X.env = pure true := by rfl) :
    PS X (.Assign [.Name y py] (.ListComp elt [⟨.Name x px, iter, ifs, 0⟩] sc pos) spos) (tAsg (tLC wi caps tt te) (gName i)) := by
  intro pins s σ H D I h
  rw [exec_Assign_Name_used _ _ _ _ hsw]
  refine wpAny_bind (wpAny_standAt (wpAny_bind ?_))
  show wpAny _ X.A (do let _ ← comprehension (.ListComp elt [⟨.Name x px, iter, ifs, 0⟩] sc pos) sc X.env _ (newList []) false (eval iter X.env) (some (assign (.Name y py) X.env))) _ _ s
  have hcells : ∀ n, (n, NameKind.free) ∈ sc.names → ∃ c, X.env.cells.lookup n = some c := fun n hn => I.ok.has n (.inl (by rw [show X.env.kindOf n = X.env.scope.names.lookup n from rfl, hosc]; exact CS.frees (n, .free) hn rfl))
  refine wpAny_bind (wpAny_mono (wpAny_comprehension_free (use := some (assign (.Name y py) X.env)) (Q := fun _ s' => SP X pins D .next s') rfl hs (closureFor_eq hcells) CS.kind CS.names ?_) (fun _ s' hq => wpAny_pure (wpAny_pure hq)) fun _ _ e => e)
  refine comp_run (Q := fun v H' => gName i v σ H' D.nx) (RR := fun acc C => compPost (model X.prog X.w) X.A X.xe (some (assign (.Name y py) X.env)) (fun _ s' => SP X pins D .next s') acc C) CS hosc hN hcalm hi htt he I h ?_
  intro acc C s' H' I' fC hm q
  obtain ⟨m, hn⟩ := hm
  show wpAny _ X.A (assign (.Name y py) X.env (.ref acc)) _ _ _
  refine wpAny_assign_Name (store_ok2 (v := .ref acc) I' hnd hix (.inl hy) rfl (fun s2 I2 ha => ?_) (.inr hy))
  obtain ⟨a, hsb, ha⟩ := ha
  have hCa : C ≠ a := by
    rcases ha with z | z
    · rw [z]; exact fC.2.1
    · exact fun e => fC.2.2.2.2.1 y a z e.symm
  refine ⟨m, hn.sameBut hsb hCa, fun h' hsb' => ?_⟩
  exact ⟨_, H', I2.turned (t' := s2.toks) (fun b o hb e => (hsb'.2 b hb).trans e) fC.1 fC.2.1 fC.2.2.2.1 fC.2.2.2.2.1 fC.2.2.2.2.2, q⟩
end
end L2

set_option Elab.async false
set_option linter.all false
set_option maxRecDepth 100000
namespace L2
open PySem PySem.Spec PyProof.Rows

/-! ### a function of the text by its name; a method by its class and name -/
def FnB (K : PySem.W.Frag) (mg : Str → Option Value) (x : Str) (st : Stmt) (ps : List Str) : Prop :=
  ∃ (f : Addr) (fd : FuncData), Fun K x x st f fd ∧ mg x = some (.ref f) ∧ Binds K fd ps []
def FnG (P : Program) (w : World) (K : PySem.W.Frag) (mg : Str → Option Value) (base : Heap) (CX : CXT) (k : Nat) (x : Str) (ps : List Str) (sp : Sp) : Prop :=
  ∃ (f : Addr) (fd : FuncData), FnOk P w K mg base CX k f fd ps sp ∧ mg x = some (.ref f) ∧ PySem.W.keepIn K (.ref f) = true ∧ Binds K fd ps []
def MtB (K : PySem.W.Frag) (C : Addr) (m qual : Str) (st : Stmt) (ps : List Str) : Prop :=
  ∃ (f : Addr) (fd : FuncData), Fun K m qual st f fd ∧ Meth K C m f ∧ Binds K fd ps []
def MtG (P : Program) (w : World) (K : PySem.W.Frag) (mg : Str → Option Value) (base : Heap) (CX : CXT) (k : Nat) (C : Addr) (m : Str) (ps : List Str) (sp : Sp) : Prop :=
  ∃ (f : Addr) (fd : FuncData), FnOk P w K mg base CX k f fd ps sp ∧ Cls K C ∧ Meth K C m f ∧ Binds K fd ps []
/-- a class that is made by its name -/
structure ClB (K : PySem.W.Frag) (mg : Str → Option Value) (x : Str) (C : Addr) : Prop where
  mgC : mg x = some (.ref C)
  cl : Cls K C
  makes : PySem.W.makesIn K C = true
  kp : PySem.W.keepIn K (.ref C) = true
theorem fnb_mk {K : PySem.W.Frag} {h : Heap} {mg : Str → Option Value} {x : Str} {st : Stmt} {ps : List Str} {f : Addr} {oc : Value} {od an : Option Addr} {sl : Array (Option Value)} {kV dc pm cd ct : Value} (KX : K.In h) (G : h.Ns mainGlobals mg)
    (a : PySem.W.nsIn K mainGlobals x = some (some (.ref f))) (l : K.lookup f = some ⟨oc, od, .func (PySem.W.fnOf x x (defArgs st) (defBody st) (defScope st) .none kV dc pm an cd ct), sl⟩) (c : PySem.W.codeIn K cd x = true) (k : PySem.W.keepIn K (.ref f) = true)
    (hb : ∀ (kV doc pm : Value) (an : Option Addr) (cdv ct : Value) (us : List Value), us.length = ps.length → bindArgs (PySem.W.fnOf x x (defArgs st) (defBody st) (defScope st) .none kV doc pm an cdv ct) ⟨us, []⟩ = pure (ps.zip us)) : FnB K mg x st ps :=
  ⟨f, _, fun_mk l c k, PySem.W.mg_of KX G a, (fun_mk l c k).binds hb⟩
theorem mtb_mk {K : PySem.W.Frag} {C : Addr} {m qual : Str} {st : Stmt} {ps : List Str} {f : Addr} {oc : Value} {od an : Option Addr} {sl : Array (Option Value)} {kV dc pm cd ct : Value}
    (a : PySem.W.findIn K (.ref C) m = some (some (.ref f))) (i : PySem.W.isFn K (.ref f) = true) (l : K.lookup f = some ⟨oc, od, .func (PySem.W.fnOf m qual (defArgs st) (defBody st) (defScope st) .none kV dc pm an cd ct), sl⟩) (c : PySem.W.codeIn K cd qual = true) (k : PySem.W.keepIn K (.ref f) = true)
    (hb : ∀ (kV doc pm : Value) (an : Option Addr) (cdv ct : Value) (us : List Value), us.length = ps.length → bindArgs (PySem.W.fnOf m qual (defArgs st) (defBody st) (defScope st) .none kV doc pm an cdv ct) ⟨us, []⟩ = pure (ps.zip us)) : MtB K C m qual st ps :=
  ⟨f, _, fun_mk l c k, ⟨a, i, k⟩, (fun_mk l c k).binds hb⟩
theorem clb_mk {K : PySem.W.Frag} {h : Heap} {mg : Str → Option Value} {x : Str} {C : Addr} (KX : K.In h) (G : h.Ns mainGlobals mg) (a : PySem.W.nsIn K mainGlobals x = some (some (.ref C)))
    (pg : PySem.W.plainGet K C Str.empty = true) (hd : PySem.W.hasDictIn K C = true) (po : PySem.W.plainOver K C = true) (sa : PySem.W.findIn K (.ref C) "__setattr__" = some (some (.builtin "object.__setattr__")))
    (mk : PySem.W.makesIn K C = true) (kc : PySem.W.keepIn K (.ref C) = true) : ClB K mg x C := ⟨PySem.W.mg_of KX G a, ⟨pg, hd, po, sa⟩, mk, kc⟩

section
variable {P : Program} {w : World} {K : PySem.W.Frag} {mg : Str → Option Value} {base : Heap} {k : Nat} {sp : Sp}
/-- a def's promise from its body -/
theorem FnB.ok {x : Str} {st : Stmt} {N ps : List Str} (B : FnB K mg x st ps) (S : FnScope N ps (defScope st)) (len : ∀ vs H Q E, sp vs H Q E → vs.length = ps.length)
    (hbody : ∀ (f : Addr) (cdv : Value) (A : Around) (outer : List Env) (s : Shared) (H : Hp) (vs : List V) (Q : VK) (E : XK), Room k (A.deeper (envOfC x (defScope st) s.heap.objs.size f cdv)) → sp vs H Q E →
      ∃ t, PSs (cxOf CX0 P w K mg base N x (defScope st) f cdv A outer s H E).nox (defBody st) t ∧ t { nx := fun _ H' => Q .non H', rt := Q } (start N vs) H) : FnG P w K mg base CX0 (k + 1) x ps sp := by
  obtain ⟨f, fd, F, m, b⟩ := B
  exact ⟨f, fd, F.ok S len fun cdv A outer s H vs Q E hr hs => hbody f cdv A outer s H vs Q E hr hs, m, F.kp, b⟩
theorem MtB.ok {C : Addr} {m qual : Str} {st : Stmt} {N ps : List Str} (B : MtB K C m qual st ps) (cl : Cls K C) (S : FnScope N ps (defScope st)) (len : ∀ vs H Q E, sp vs H Q E → vs.length = ps.length)
    (hbody : ∀ (f : Addr) (cdv : Value) (A : Around) (outer : List Env) (s : Shared) (H : Hp) (vs : List V) (Q : VK) (E : XK), Room k (A.deeper (envOfC qual (defScope st) s.heap.objs.size f cdv)) → sp vs H Q E →
      ∃ t, PSs (cxOf CX0 P w K mg base N qual (defScope st) f cdv A outer s H E).nox (defBody st) t ∧ t { nx := fun _ H' => Q .non H', rt := Q } (start N vs) H) : MtG P w K mg base CX0 (k + 1) C m ps sp := by
  obtain ⟨f, fd, F, mt, b⟩ := B
  exact ⟨f, fd, F.ok S len fun cdv A outer s H vs Q E hr hs => hbody f cdv A outer s H vs Q E hr hs, cl, mt, b⟩
theorem FnG.mono {CX : CXT} {j : Nat} {x : Str} {ps : List Str} (G : FnG P w K mg base CX j x ps sp) (h : j ≤ k) : FnG P w K mg base CX k x ps sp := by
  obtain ⟨f, fd, F, r⟩ := G
  exact ⟨f, fd, F.mono h, r⟩
theorem MtG.mono {CX : CXT} {j : Nat} {C : Addr} {m : Str} {ps : List Str} (G : MtG P w K mg base CX j C m ps sp) (h : j ≤ k) : MtG P w K mg base CX k C m ps sp := by
  obtain ⟨f, fd, F, r⟩ := G
  exact ⟨f, fd, F.mono h, r⟩
end

section
variable {X : Cx} {CX : CXT} {k j : Nat} {C : Addr} {ps : List Str} {sp : Sp} {E : XK} {x m : Str} {p pos apos : Pos} {e o : Expr} {es : List Expr} {ta : TE} {t : TA}
/-- f(e, ..) of the text -/
theorem pe_g (G : FnG X.prog X.w X.K X.mg X.base CX j x ps sp) (hr : Room k X.A) (hx : Passes CX X E) (ha : PA X (e :: es) t) (hjk : j ≤ k := by decide) (hg : Gl X x := by rfl) (hdb : (x == ("__debug__" : Str)) = false := by decide)
    (he : starEach (e :: es) X.env = (false, eval e X.env) :: starEach es X.env := by rfl) (hpl : (backTo pos (starEach es X.env)).any (·.1) = false := by rfl) : PE X (.Call (.Name x p) (e :: es) [] pos) (tCall sp [] E t) := by
  obtain ⟨f, fd, F, hm, kp, b⟩ := G
  exact pe_call F (hr.mono hjk) hg hm kp b .nil hx ha hdb he hpl
/-- o.m(e, ..) of the text -/
theorem pe_m {pl : Sem Bool} (ho : PE X o ta) (G : MtG X.prog X.w X.K X.mg X.base CX j C m ps sp) (hr : Room k X.A) (hx : Passes CX X E) (ha : PA X (e :: es) t) (hjk : j ≤ k := by decide)
    (hst : starEach (e :: es) X.env = (false, eval e X.env) :: starEach es X.env := by rfl) (hpl : (backTo pos (starEach es X.env)).any (·.1) = false := by rfl)
    (ht : eval (.Call (.Attribute o m apos) (e :: es) [] pos) X.env = (do
      let ov ← eval o X.env
      standAt apos.atName
      let (f, first) ← holding [ov] (getMethod ov m pl)
      callWith pos f first (backTo pos (starEach (e :: es) X.env)) (backToKw pos (keywordEach [] X.env))) := by rfl) :
    PE X (.Call (.Attribute o m apos) (e :: es) [] pos) (tMeth C m sp [] E ta t) := by
  obtain ⟨f, fd, F, c, hm, b⟩ := G
  exact pe_meth ho c hm F (hr.mono hjk) b .nil hx ha hst hpl ht
/-- o.m() of the text -/
theorem pe_m0 {pl : Sem Bool} (ho : PE X o ta) (G : MtG X.prog X.w X.K X.mg X.base CX j C m ps sp) (hr : Room k X.A) (hx : Passes CX X E) (hjk : j ≤ k := by decide)
    (ht : eval (.Call (.Attribute o m apos) [] [] pos) X.env = (do
      let ov ← eval o X.env
      standAt apos.atName
      let (f, first) ← holding [ov] (getMethod ov m pl)
      callWith pos f first (backTo pos (starEach [] X.env)) (backToKw pos (keywordEach [] X.env))) := by rfl) :
    PE X (.Call (.Attribute o m apos) [] [] pos) (tMeth C m sp [] E ta tNil) := by
  obtain ⟨f, fd, F, c, hm, b⟩ := G
  exact pe_meth0 ho c hm F (hr.mono hjk) b .nil hx ht
/-- C(e, ..) -/
theorem pe_mk (B : ClB X.K X.mg x C) (G : MtG X.prog X.w X.K X.mg X.base CX j C "__init__" ps sp) (hr : Room (k + 1) X.A) (hx : Passes CX X E) (ha : PA X (e :: es) t) (hjk : j ≤ k := by decide) (hg : Gl X x := by rfl) (hdb : (x == ("__debug__" : Str)) = false := by decide)
    (he : starEach (e :: es) X.env = (false, eval e X.env) :: starEach es X.env := by rfl) (hpl : (backTo pos (starEach es X.env)).any (·.1) = false := by rfl) :
    PE X (.Call (.Name x p) (e :: es) [] pos) (tMake C sp [] E t) := by
  obtain ⟨f, fd, F, c, hm, b⟩ := G
  exact pe_make ⟨B.makes, hm.at_, hm.fn, B.kp⟩ (F.mono hjk) hr hg B.mgC b .nil hx ha hdb he hpl
end

/-! ### isinstance -/
/-- the value that a class stands for -/
def clsV : V → Option Value
  | .ty n => some (.type n)
  | .ref a => some (.ref a)
  | _ => none
theorem clsV_of {c : V} {u z : Value} (h : clsV c = some z) (r : RelV c u) : u = z := by
  cases c with
  | ty n => cases r; exact Option.some.inj h
  | ref a => cases r; exact Option.some.inj h
  | _ => cases h
def rIsi (K : PySem.W.Frag) : List V → Hp → VK → Prop := fun xs H Q => ∃ x c t z b, xs = [x, c] ∧ TyOf K H x t ∧ clsV c = some z ∧ PySem.W.kitOne K t z = some b ∧ Q (.bl b) H
theorem call_isi {X : Cx} : CallR X (.builtin "isinstance") (rIsi X.K) := by
  intro pins s σ H xs us Q I r h
  obtain ⟨x, c, t, z, b, rfl, ty, hz, e, q⟩ := h
  obtain ⟨u, v, rfl, ru, rv⟩ := r.two
  have e2 := clsV_of hz rv
  subst e2
  exact isinst_ok I ru ty e fun tk => ⟨.bl b, H, I.tok tk, rfl, q⟩
theorem boot_isi : bootBuiltins "isinstance" = some (.builtin "isinstance") := by decide +kernel
/-- isinstance(e, c) -/
theorem pe_isi {X : Cx} {e c : Expr} {te tc : TE} {p pos : Pos} (hm : X.mg "isinstance" = none) (he : PE X e te) (hc : PE X c tc) (hg : Gl X "isinstance" := by rfl)
    (hs : starEach [e, c] X.env = (false, eval e X.env) :: starEach [c] X.env := by rfl) (hs2 : starEach [c] X.env = (false, eval c X.env) :: starEach [] X.env := by rfl) (hpl : (backTo pos (starEach [c] X.env)).any (·.1) = false := by rfl) :
    PE X (.Call (.Name "isinstance" p) [e, c] [] pos) (tCB (rIsi X.K) (tCons te (tCons tc tNil))) :=
  pe_callB call_isi hg hm boot_isi (pa_cons he (pa_cons hc pa_nil hs2) hs) (by decide) (by decide) hs hpl

/-! ### lists compared, flat items -/
def eqVs : List V → List V → Bool
  | [], [] => true
  | x :: xs, y :: ys => eqV x y && eqVs xs ys
  | _, _ => false
theorem eqVs_len : ∀ {xs ys : List V}, xs.length ≠ ys.length → eqVs xs ys = false
  | [], [], h => absurd rfl h
  | [], _ :: _, _ => rfl
  | _ :: _, [], _ => rfl
  | x :: xs, y :: ys, h => by
    have := eqVs_len (xs := xs) (ys := ys) (by simpa using h)
    simp [eqVs, this]
def eqAtN (xs ys : List V) (j : Nat) : Bool := match xs[j]?, ys[j]? with
  | some x, some y => eqV x y
  | _, _ => false
theorem eqVs_all : ∀ {xs ys : List V}, xs.length = ys.length → (List.range xs.length).all (eqAtN xs ys) = eqVs xs ys
  | [], [], _ => rfl
  | [], _ :: _, h => by simp at h
  | _ :: _, [], h => by simp at h
  | x :: xs, y :: ys, h => by
    have ih := eqVs_all (xs := xs) (ys := ys) (by simpa using h)
    have e : (List.range (x :: xs).length).all (eqAtN (x :: xs) (y :: ys)) = (eqV x y && (List.range xs.length).all (eqAtN xs ys)) := by
      rw [List.length_cons, List.range_succ_eq_map, List.all_cons, List.all_map]
      rfl
    rw [e, ih]
    rfl
theorem eqVs_ints : ∀ {xs ys : List Int}, eqVs (xs.map V.int) (ys.map V.int) = decide (xs = ys)
  | [], [] => rfl
  | [], _ :: _ => by simp [eqVs]
  | _ :: _, [] => by simp [eqVs]
  | x :: xs, y :: ys => by
    have ih := eqVs_ints (xs := xs) (ys := ys)
    simp only [List.map_cons, eqVs, ih, eqV]
    rw [Bool.eq_iff_iff]
    simp
theorem eqVs_bls : ∀ {xs ys : List Bool}, eqVs (xs.map V.bl) (ys.map V.bl) = decide (xs = ys)
  | [], [] => rfl
  | [], _ :: _ => by simp [eqVs]
  | _ :: _, [] => by simp [eqVs]
  | x :: xs, y :: ys => by
    have ih := eqVs_bls (xs := xs) (ys := ys)
    simp only [List.map_cons, eqVs, ih, eqV]
    rw [Bool.eq_iff_iff]
    simp
theorem all_flat_ints (xs : List Int) : (xs.map V.int).all flatV = true := by simp [flatV]
theorem all_flat_bls (xs : List Bool) : (xs.map V.bl).all flatV = true := by simp [flatV]
section
variable {X : Cx}
theorem rcAt_lists {A : Around} {pins : List (Addr × Obj)} {σ : St} {H : Hp} {s : Shared} {a b : Addr} {xs ys : List V} (I : Inv X pins σ H s) (ha : SqL X.K H a xs) (hb : SqL X.K H b ys) (fx : xs.all flatV = true) (fy : ys.all flatV = true) (hu : A.units < cLine) :
    SeqAt.RcAt A s (.ref a) (.ref b) (eqVs xs ys) := by
  obtain ⟨its, r, pl, hz⟩ := I.list ha
  obtain ⟨its', r', pl', hz'⟩ := I.list hb
  have hl := r.length
  have hl' := r'.length
  by_cases e : xs.length = ys.length
  · rw [← eqVs_all e]
    have h := SeqAt.RcAt.lists (A := A) (e := eqAtN xs ys) pl.isList pl'.isList (by simp; omega) hu (fun j h1 h2 => by
      have hj : j < xs.length := by simp at h1; omega
      have hj' : j < ys.length := by simp at h2; omega
      obtain ⟨u, hu1, ru⟩ := r.get (i := j) (x := xs[j]) (by simp [hj])
      obtain ⟨u', hu1', ru'⟩ := r'.get (i := j) (x := ys[j]) (by simp [hj'])
      have e1 : its.toArray[j] = u := by
        have : its[j]? = some its[j] := by simp
        rw [hu1] at this
        simpa using (Option.some.inj this).symm
      have e2 : its'.toArray[j] = u' := by
        have : its'[j]? = some its'[j] := by simp
        rw [hu1'] at this
        simpa using (Option.some.inj this).symm
      rw [e1, e2]
      have e3 : eqAtN xs ys j = eqV xs[j] ys[j] := by
        unfold eqAtN
        simp [hj, hj']
      rw [e3]
      exact eqAt_V ru ru' (by have := List.all_eq_true.mp fx xs[j] (List.getElem_mem hj); exact this) (by have := List.all_eq_true.mp fy ys[j] (List.getElem_mem hj'); exact this))
    have e4 : its.toArray.size = xs.length := by simp; omega
    rw [e4] at h
    exact h
  · rw [eqVs_len e]
    exact SeqAt.RcAt.lists_lengths pl.isList pl'.isList (by simp; omega) hu
def rEqL (K : PySem.W.Frag) (neg : Bool) : R2 := fun x y H Q => ∃ a b xs ys, x = .ref a ∧ y = .ref b ∧ SqL K H a xs ∧ SqL K H b ys ∧ xs.all flatV = true ∧ ys.all flatV = true ∧ Q (.bl (if neg then !eqVs xs ys else eqVs xs ys)) H
theorem op_eqL (hu : X.A.units < cLine) : OpR X (compareOp .Eq) (rEqL X.K false) := by
  intro pins s σ H x y v u Q I rx ry h
  obtain ⟨a, b, xs, ys, rfl, rfl, ha, hb, fx, fy, q⟩ := h
  cases rx
  cases ry
  exact rcAt_lists I ha hb fx fy hu X.prog X.w X.xe _ ⟨.bl _, H, I, rfl, q⟩
end
/-- // by a positive number of any usual size -/
theorem op_fdivB {X : Cx} : OpR X (binaryOp .FloorDiv) (rI (fun _ j => 0 < j ∧ j < 2 ^ 200) fun i j => .int (i / j)) := opI fun i j _ _ _ _ _ hc q => by
  have h1 : (0 : Int) < j := hc.1
  have h2 : j < 2 ^ 200 := hc.2
  refine floordiv_int (by omega) (by rw [Int.fdiv_eq_ediv_of_nonneg i (by omega)]; exact q) (.inl (PyProof.noPylong_of_log2 ?_))
  have h3 : j.natAbs < 2 ^ 200 := by omega
  have h4 : j.natAbs ≠ 0 := by omega
  have := (Nat.log2_lt h4).mpr h3
  omega
end L2

set_option Elab.async false
set_option linter.all false
set_option maxRecDepth 100000
namespace L2
open PySem PySem.Spec PyProof.Rows

/-- a statement by what is wanted behind it: its ways meet in R -/
def tCut (t : TS) : TS := fun D σ H => ∃ R : St → Hp → Prop, t { D with nx := R } σ H ∧ ∀ σ' H', R σ' H' → D.nx σ' H'
theorem ps_cut {X : Cx} {st : Stmt} {t : TS} (h : PS X st t) : PS X st (tCut t) := by
  intro pins s σ H D I hq
  obtain ⟨R, hq, hR⟩ := hq
  refine thn (h pins s σ H _ I hq) fun f s' q => ?_
  cases f with
  | next => obtain ⟨σ', H', I', q⟩ := q; exact ⟨σ', H', I', hR _ _ q⟩
  | brk => exact q
  | cont => exact q
  | ret u => exact q

/-! ### the same rules with the written part named (inside a comprehension's block) -/
section
variable {X : Cx} {K : PySem.W.Frag}
theorem ix_listK (h : X.K = K := by rfl) : IxR X (rIxL K) := h ▸ ix_list
theorem ix_tupK (h : X.K = K := by rfl) : IxR X (rIxT K) := h ▸ ix_tup
theorem call_len_seqK (h : X.K = K := by rfl) : CallR X (.builtin "len") (fun xs H Q => ∃ p ys, xs = [.ref p] ∧ (SqL K H p ys ∨ SqT K H p ys) ∧ Q (.int ys.length) H) := h ▸ call_len_seq
theorem op_in_seqK (h : X.K = K := by rfl) : OpR X (compareOp .In) (rIn K false) := h ▸ op_in_seq
theorem op_notIn_seqK (h : X.K = K := by rfl) : OpR X (compareOp .NotIn) (rIn K true) := h ▸ op_notIn_seq
end

/-- a comprehension over a range whose tests and elements leave the heap as it is -/
theorem lc_range {lo : Int} {n : Nat} {caps : List (Str × Nat)} {tt : TT} {te : TE} {σ : St} {acc : Addr} {Q : VK} {H : Hp} (p : Nat → Bool) (f : Nat → V) (hn : n ≤ 1000)
    (ht : ∀ i, i < n → ∀ (L : List V) (R : Bool → Hp → Prop), R (p i) (upd H acc (.lst L)) → tt (some (.int (lo + i)) :: capSt caps σ) (upd H acc (.lst L)) R)
    (he : ∀ i, i < n → p i = true → ∀ (L : List V) (R : VK), R (f i) (upd H acc (.lst L)) → te (some (.int (lo + i)) :: capSt caps σ) (upd H acc (.lst L)) R)
    (hq : Q (.ref acc) (upd H acc (.lst (((List.range n).filter p).map f)))) : tComp (Itr lo n) caps tt te σ acc Q (upd H acc (.lst [])) := by
  refine ⟨fun i m H' => m = n - i ∧ i ≤ n ∧ H' = upd H acc (.lst (((List.range i).filter p).map f)), ⟨n, rfl, Nat.zero_le _, rfl⟩, ?_⟩
  rintro i m H' ⟨rfl, hi, rfl⟩
  by_cases hlt : i < n
  · refine .inr ⟨hlt, fun H' => H' = upd H acc (.lst (((List.range (i + 1)).filter p).map f)), fun H' e => ⟨n - (i + 1), by omega, rfl, hlt, e⟩, fun x H' y => ?_⟩
    obtain ⟨e, y⟩ := y
    subst e y
    refine ht i hlt _ _ ?_
    cases hp : p i with
    | true =>
      refine iteT (he i hlt hp _ _ ⟨_, upd_same, ?_, ?_⟩)
      · have h1 : (((List.range i).filter p).map f).length ≤ i := by
          rw [List.length_map]
          have := List.length_filter_le p (List.range i)
          rw [List.length_range] at this
          exact this
        exact small1000 (by omega)
      · rw [upd_upd, List.range_succ, List.filter_append, List.map_append]
        simp [hp]
    | false =>
      refine iteF ?_
      rw [List.range_succ, List.filter_append, List.map_append]
      simp [hp]
  · have e : i = n := by omega
    subst e
    exact .inl ⟨Nat.le_refl _, hq⟩
end L2

set_option Elab.async false
set_option linter.all false
set_option maxRecDepth 100000
namespace L2
open PySem PySem.Spec PyProof.Rows

/-! ### records of ours that turned; an object that lies there already is tracked -/
section
variable {X : Cx} {pins : List (Addr × Obj)} {σ : St} {H : Hp} {s : Shared} {h' : Heap}
theorem Inv.turnedL {t' : Nat} {ch : List Addr} (I : Inv X pins σ H s) (k : ∀ b o, b ∉ ch → s.heap.get? b = some o → h'.get? b = some o) (hf : ∀ b ∈ ch, FpOk X pins H b) :
    Inv X pins σ H { s with heap := h', toks := t' } := by
  have nch : ∀ b u, H b = some u → b ∉ ch := fun b u e z => by rw [(hf b z).1] at e; cases e
  refine I.step (g' := s.gens) (d' := s.drawn) (ch := ch) (fun b hb => ⟨(hf b hb).2.2.2.1, (hf b hb).2.1, (hf b hb).2.2.2.2.1, (hf b hb).2.2.2.2.2⟩) (fun b o _ _ hc e _ => k b o hc e) (fun b o _ _ hc e _ => ⟨o.slots, k b o hc e⟩) (fun _ _ _ _ n => n)
    (fun b o hc e => ⟨o, k b o hc e⟩) (fun _ _ e => e) (fun _ _ _ e => e) (fun b ps e => ⟨#[], by rw [e]; simp⟩) (fun m hm => ?_) (fun b u e => ?_) I.bare
  · obtain ⟨o, es, ep, ho, r⟩ := hm
    exact ⟨o, es, ep, k _ o (fun z => (hf _ z).2.1 rfl) ho, r⟩
  · refine (I.hok b u e).stay (fun c v hc q => k c v ?_ q) (fun _ q => q) fun _ _ q => q
    rcases hc with z | z
    · rw [z]; exact nch b u e
    · exact nch c _ z
theorem Inv.track {T : Addr} {o : HO} (I : Inv X pins σ H s) (f : FpOk X pins H T) (hsz : X.s₀.heap.objs.size ≤ T) (new : ObjOk X.prog X.w (upd H T o) s.heap T o) : Inv X pins σ (upd H T o) s := by
  have ne : ∀ b u, H b = some u → b ≠ T := fun b u e z => by rw [z, f.1] at e; cases e
  have fr : ∀ b, H b = none → b ≠ T → (upd H T o) b = none := fun b n hb => by rw [upd_ne hb]; exact n
  refine ⟨I.ok, I.os, I.bare, ⟨I.base.keep, I.base.slot, fun b ob e n hx => fr b (I.base.free b ob e n hx) (Nat.ne_of_lt (Nat.lt_of_lt_of_le (Heap.lt_size e) hsz)), I.base.there, fun b xs e => ?_, fun b ob xs e => ?_, fun b ps e => ?_⟩,
    I.loc, I.cell, fr _ I.free (Ne.symm f.2.1), fun x c e => fr c (I.freeC x c e) (f.2.2.2.2.1 x c e), fun p hp => ?_, fun b u e => ?_, I.len⟩
  · have := I.base.tups b xs e
    rw [upd_ne (ne b _ this)]; exact this
  · have := I.base.frzs b ob xs e
    rw [upd_ne (ne b _ this)]; exact this
  · obtain ⟨more, e1⟩ := I.base.tbls b ps e
    exact ⟨more, by rw [upd_ne (ne b _ e1)]; exact e1⟩
  · obtain ⟨a, b, c, d, e⟩ := I.pin p hp
    exact ⟨a, fr _ b (f.2.2.2.2.2 p hp), c, d, e⟩
  · by_cases hb : b = T
    · subst hb; rw [upd_same] at e; cases e; exact new
    · rw [upd_ne hb] at e
      exact (I.hok b u e).stay (fun _ _ _ q => q) (fun c q => by rw [upd_ne (ne c _ q)]; exact q) fun c xs q => by rw [upd_ne (ne c _ q)]; exact q
end

/-! ### for x in reversed(xs) -/
/-- the list at a (it has n items, the body leaves it), from the last one on -/
def Itv (K : PySem.W.Frag) (a : Addr) (n : Nat) : It :=
  ⟨fun i H => ∃ xs, SqL K H a xs ∧ xs.length = n ∧ i < n, fun i H x H' => H' = H ∧ ∀ xs, SqL K H a xs → xs[n - 1 - i]? = some x, fun i H => n ≤ i⟩
theorem turn_rev {P : Program} {w : World} {K : PySem.W.Frag} {tg : Expr} (a it : Addr) (n : Nat) : Turn P w K tg (Itv K a n) [it] it (fun i h => i ≤ n ∧ h.IsRevIter it a ((n : Int) - 1 - (i : Int))) where
  mem := by simp
  obj := fun i h st b hb => by
    have e : b = it := by simpa using hb
    subst e
    obtain ⟨_, o, e, c, d⟩ := st
    exact ⟨o, e, fun v z => by rw [d] at z; cases z⟩
  keep := fun i h h' st k => ⟨st.1, st.2.at fun o e => k it (by simp) o e⟩
  item := by
    intro X hP hw hK hc i pins s σ H E I hf st hg
    subst hP hw hK
    obtain ⟨xs, hq, hn, hi⟩ := hg
    obtain ⟨its, rv, p, hz⟩ := I.list hq
    have hl := rv.length
    have hj : n - 1 - i < xs.length := by omega
    have hx : xs[n - 1 - i]? = some xs[n - 1 - i] := List.getElem?_eq_getElem hj
    obtain ⟨u, hu, ru⟩ := rv.get hx
    obtain ⟨f0, f1, f2, f3, f4, f5⟩ := hf it (by simp)
    have e1 : (n : Int) - 1 - (i : Int) = ((n - 1 - i : Nat) : Int) := by omega
    have st2 := st.2
    rw [e1] at st2
    refine wpAny_pyNext_rev_item st2 p.isList (x := u) (by simpa using hu) fun h' st' sb => ?_
    have I1 : Inv X pins σ H { s with heap := h' } := I.turned (t' := s.toks) (fun b o hb e => (sb.2 b hb).trans e) f0 f1 f3 f4 f5
    have e2 : ((n - 1 - i : Nat) : Int) - 1 = (n : Int) - 1 - ((i + 1 : Nat) : Int) := by omega
    rw [e2] at st'
    obtain ⟨o, e, c, d⟩ := id st'
    exact ⟨u, rfl, go_of (s := { s with heap := h' }) e c d (by decide) ⟨_, H, I1, ru, ⟨rfl, fun ys hy => by rw [I.list_inj hy hq]; exact hx⟩, ⟨hi, st'⟩, fun b hb => (hf b hb).1⟩⟩
  done := by
    intro X hP hw hK hc i pins s σ H E I hf st hg
    subst hP hw hK
    obtain ⟨f0, f1, f2, f3, f4, f5⟩ := hf it (by simp)
    have hi : n ≤ i := hg
    have e1 : (n : Int) - 1 - (i : Int) = -1 := by have := st.1; omega
    have st2 := st.2
    rw [e1] at st2
    exact wpAny_pyNext_rev_end (I.ok.hd hc) st2 fun h' eb => ⟨rfl, I.turned (t' := s.toks) (fun b o hb e => eb b o hb e) f0 f1 f3 f4 f5⟩
  self := fun _ _ _ _ _ st h => wpAny_pyIter_revIter st.2 h
def iRev (K : PySem.W.Frag) (ta : TA) : TI := fun σ H R => ta σ H fun vs H1 => ∃ a xs, vs = [.ref a] ∧ SqL K H1 a xs ∧ R (Itv K a xs.length) H1
theorem boot_reversed : bootBuiltins "reversed" = some (.type "reversed") := by decide +kernel
theorem pi_rev {X : Cx} {tg a : Expr} {ta : TA} {p pos : Pos} (hm : X.mg "reversed" = none) (ha : PA X [a] ta) (hg : Gl X "reversed" := by rfl) (hs : starEach [a] X.env = [(false, eval a X.env)] := by rfl) : PI X tg (.Call (.Name "reversed" p) [a] [] pos) (iRev X.K ta) := by
  intro pins s σ H R I h
  refine Call_ (ld_blt I hg hm boot_reversed (PyProof.Rows.callWith_type1 (thn (ha pos pins s σ H _ I h) fun us s1 ⟨vs, H1, I1, r1, q1⟩ => ?_) hs rfl))
  obtain ⟨l, xs, e, hq, q⟩ := q1
  subst e
  obtain ⟨u, rfl, ru⟩ := r1.one
  cases ru
  obtain ⟨its, rv, pl, hz⟩ := I1.list hq
  have hl := rv.length
  refine call_reversed_list pl.isList ?_
  have I2 : Inv X pins σ H1 { s1 with heap := s1.heap.push (revObj l ((its.toArray.size : Int) - 1)) } := I1.kept (t' := s1.toks) fun b o e => Heap.get?_push_of_some _ e
  have st : ({ s1 with heap := s1.heap.push (revObj l ((its.toArray.size : Int) - 1)) } : Shared).heap.IsRevIter s1.heap.objs.size l ((xs.length : Int) - 1 - ((0 : Nat) : Int)) := by
    refine ⟨_, Heap.get?_push_size _ rfl, rfl, ?_⟩
    have e : ((its.toArray.size : Nat) : Int) - 1 = (xs.length : Int) - 1 - ((0 : Nat) : Int) := by
      rw [List.size_toArray]
      omega
    show Data.fields #[.ref l, rawInt ((its.toArray.size : Int) - 1)] = Data.fields #[.ref l, rawInt ((xs.length : Int) - 1 - ((0 : Nat) : Int))]
    rw [e]
  refine wpAny_pyIter_revIter st ?_
  refine ⟨s1.heap.objs.size, [s1.heap.objs.size], _, _, H1, rfl, I2, turn_rev l _ xs.length, ⟨Nat.zero_le _, st⟩, fun b hb => ?_, q⟩
  have e : b = s1.heap.objs.size := by simpa using hb
  subst e
  exact I1.fpOk (Nat.le_refl _) (I1.hok.fresh (Nat.le_refl _))
theorem for_rev {K : PySem.W.Frag} {a : Addr} {xs : List V} {g : TG} {tb : TS} {D : Ends} {σ : St} {H : Hp} (Pv : Nat → St → Hp → Prop) (h0 : Pv 0 σ H) (hl : ∀ i σ H, i ≤ xs.length → Pv i σ H → SqL K H a xs)
    (hs : ∀ i x σ H, i < xs.length → xs[xs.length - 1 - i]? = some x → Pv i σ H → g x σ H fun σ2 H2 => tb { D with nx := Pv (i + 1), ct := Pv (i + 1), bk := D.nx } σ2 H2) (hd : ∀ σ H, Pv xs.length σ H → D.nx σ H) :
    ∃ W : Nat → Nat → St → Hp → Prop, (∃ m, W 0 m σ H) ∧ ∀ i m σ H, W i m σ H →
      ((Itv K a xs.length).stop i H ∧ D.nx σ H) ∨ ((Itv K a xs.length).go i H ∧ ∃ N : St → Hp → Prop, (∀ σ' H', N σ' H' → ∃ m', m' < m ∧ W (i + 1) m' σ' H') ∧ ∀ x H', (Itv K a xs.length).yld i H x H' → g x σ H' fun σ2 H2 => tb { D with nx := N, ct := N, bk := D.nx } σ2 H2) := by
  refine ⟨fun i m σ H => m = xs.length - i ∧ i ≤ xs.length ∧ Pv i σ H, ⟨xs.length, by simp, Nat.zero_le _, h0⟩, ?_⟩
  rintro i m σ H ⟨rfl, hi, p⟩
  have q := hl i σ H hi p
  by_cases hlt : i < xs.length
  · refine .inr ⟨⟨xs, q, rfl, hlt⟩, Pv (i + 1), fun σ' H' p' => ⟨xs.length - (i + 1), by omega, rfl, hlt, p'⟩, fun x H' y => ?_⟩
    obtain ⟨e, y⟩ := y
    subst e
    exact hs i x σ _ hlt (y xs q) p
  · have e : i = xs.length := by omega
    subst e
    exact .inl ⟨Nat.le_refl _, hd σ H p⟩

/-! ### for x, y in zip(xs, ys): two lists -/
def Itz (K : PySem.W.Frag) (a b : Addr) : It :=
  ⟨fun i H => ∃ xs ys x y, SqL K H a xs ∧ SqL K H b ys ∧ xs[i]? = some x ∧ ys[i]? = some y,
   fun i H v H' => ∃ T, v = .ref T ∧ H T = none ∧ ∀ xs ys, SqL K H a xs → SqL K H b ys → ∃ x y, xs[i]? = some x ∧ ys[i]? = some y ∧ H' = upd H T (.tup [x, y]),
   fun i H => ∃ xs ys, SqL K H a xs ∧ SqL K H b ys ∧ (xs[i]? = none ∨ ys[i]? = none)⟩
theorem turn_zip {P : Program} {w : World} {K : PySem.W.Frag} {es : List Expr} {tk : Nat} {tp : Pos} (z TI TO i1 i2 a b : Addr) (hD : (TI ≠ z ∧ TO ≠ z ∧ i1 ≠ z ∧ i2 ≠ z ∧ TI ≠ TO ∧ TI ≠ i1 ∧ TI ≠ i2 ∧ TO ≠ i1 ∧ TO ≠ i2 ∧ i1 ≠ i2)) :
    Turn P w K (.Tuple es tk tp) (Itz K a b) [z, TI, TO, i1, i2] z (fun i h => IsZip h z TI TO .none ∧ IsPair h TI (.ref i1) (.ref i2) ∧ (∃ x y, IsPair h TO x y) ∧ h.IsListIter i1 a i ∧ h.IsListIter i2 b i) where
  mem := by simp
  obj := fun i h st c hc => by
    obtain ⟨hz, hTI, ⟨x, y, hTO⟩, ⟨o1, e1, _, d1⟩, ⟨o2, e2, _, d2⟩⟩ := st
    simp only [List.mem_cons, List.not_mem_nil, or_false] at hc
    rcases hc with rfl | rfl | rfl | rfl | rfl
    · exact ⟨_, hz, fun v q => by cases q⟩
    · exact ⟨_, hTI, fun v q => by cases q⟩
    · exact ⟨_, hTO, fun v q => by cases q⟩
    · exact ⟨_, e1, fun v q => by rw [d1] at q; cases q⟩
    · exact ⟨_, e2, fun v q => by rw [d2] at q; cases q⟩
  keep := fun i h h' st k => by
    obtain ⟨hz, hTI, ⟨x, y, hTO⟩, h1, h2⟩ := st
    exact ⟨k z (by simp) _ hz, k TI (by simp) _ hTI, ⟨x, y, k TO (by simp) _ hTO⟩, h1.at fun o e => k i1 (by simp) o e, h2.at fun o e => k i2 (by simp) o e⟩
  item := by
    intro X hP hw hK hc i pins s σ H E I hf st hg
    subst hP hw hK
    obtain ⟨xs, ys, x, y, hqa, hqb, hx, hy⟩ := hg
    obtain ⟨its, rv, p, hz1⟩ := I.list hqa
    obtain ⟨its', rv', p', hz2⟩ := I.list hqb
    obtain ⟨u, hu, ru⟩ := rv.get hx
    obtain ⟨u', hu', ru'⟩ := rv'.get hy
    obtain ⟨hz, hTI, ⟨x0, y0, hTO⟩, h1, h2⟩ := st
    obtain ⟨d1, d2, d3, d4, d5, d6, d7, d8, d9, d10⟩ := hD
    have fz := hf z (by simp)
    have fTO := hf TO (by simp)
    have f1 := hf i1 (by simp)
    have f2 := hf i2 (by simp)
    -- the lists stand apart from the iterator's own objects
    have apart : ∀ {c : Addr} {vs : Array Value}, s.heap.IsList c vs → c ≠ z ∧ c ≠ TO ∧ c ≠ i1 ∧ c ≠ i2 := fun {c vs} ⟨o, e, cc, _⟩ => by
      refine ⟨fun q => ?_, fun q => ?_, fun q => ?_, fun q => ?_⟩
      · subst q; rw [hz] at e; cases e; injection cc with q2; exact absurd q2 (by decide)
      · subst q; rw [hTO] at e; cases e; injection cc with q2; exact absurd q2 (by decide)
      · subst q; obtain ⟨o1, e1, c1, _⟩ := h1; rw [e1] at e; cases e; rw [c1] at cc; injection cc with q2; exact absurd q2 (by decide)
      · subst q; obtain ⟨o1, e1, c1, _⟩ := h2; rw [e1] at e; cases e; rw [c1] at cc; injection cc with q2; exact absurd q2 (by decide)
    obtain ⟨a1, a2, a3, a4⟩ := apart p.isList
    obtain ⟨b1, b2, b3, b4⟩ := apart p'.isList
    have D : ZipApart z TI TO i1 i2 a b := ⟨d1, d2, d3, d4, d5, d6, d7, d8, d9, d10, a1, a2, a3, a4, b1, b2, b3, b4⟩
    refine wpAny_pyNext_zip_item D hz hTI hTO h1 h2 p.isList p'.isList (x := u) (y := u') (by simpa using hu) (by simpa using hu') fun h' g1 g2 g3 g4 g5 g6 gk => ?_
    refine ⟨_, rfl, wpAny_letOwnedTupleGo_zip g1 fun h'' hz'' hs'' => ?_⟩
    have Tz : s.heap.objs.size ≠ z := Nat.ne_of_gt (Heap.lt_size hz)
    have kk : ∀ c o, c ∉ [z, TO, i1, i2] → s.heap.get? c = some o → h''.get? c = some o := fun c o hc e => by
      simp only [List.mem_cons, List.not_mem_nil, or_false, not_or] at hc
      exact hs''.extBut c o hc.1 (gk c o hc.1 hc.2.1 hc.2.2.1 hc.2.2.2 e)
    have hch : ∀ c ∈ [z, TO, i1, i2], FpOk X pins H c := fun c hc => hf c (by simp at hc ⊢; rcases hc with q | q | q | q <;> simp [q])
    have hTO'' : IsPair h'' TO u u' := hs''.extBut _ _ d2 g2
    have g3'' := g3.extBut hs''.extBut d3
    have g4'' := g4.extBut hs''.extBut d4
    have I1 : Inv X pins σ H { s with heap := h'' } := I.turnedL (t' := s.toks) kk hch
    have fT : FpOk X pins H s.heap.objs.size := I.fpOk (Nat.le_refl _) I.fresh
    have hT'' : IsPair h'' s.heap.objs.size u u' := hs''.extBut _ _ Tz g5
    have I2 : Inv X pins σ (upd H s.heap.objs.size (.tup [x, y])) { s with heap := h'' } := I1.track fT I.sz ⟨by show 2 ≤ sizeLine; decide, [u, u'], .cons ru (.cons ru' .nil), _, hT'', rfl, _, rfl⟩
    refine ⟨.ref s.heap.objs.size, _, I2, rfl, ⟨_, rfl, I.fresh, fun xs' ys' hxs' hys' => ⟨x, y, ?_, ?_, rfl⟩⟩, ⟨hz'', hs''.extBut _ _ d1 (gk _ _ d1 d5 d6 d7 hTI), ⟨_, _, hTO''⟩, g3'', g4''⟩, fun c hc => ?_⟩
    · rw [I.list_inj hxs' hqa]; exact hx
    · rw [I.list_inj hys' hqb]; exact hy
    · have hlt : c < s.heap.objs.size := by
        simp only [List.mem_cons, List.not_mem_nil, or_false] at hc
        rcases hc with rfl | rfl | rfl | rfl | rfl
        · exact Heap.lt_size hz
        · exact Heap.lt_size hTI
        · exact Heap.lt_size hTO
        · obtain ⟨o, e, _⟩ := h1; exact Heap.lt_size e
        · obtain ⟨o, e, _⟩ := h2; exact Heap.lt_size e
      rw [upd_ne (Nat.ne_of_lt hlt)]
      exact (hf c hc).1
  done := by
    intro X hP hw hK hc i pins s σ H E I hf st hg
    subst hP hw hK
    obtain ⟨xs, ys, hqa, hqb, hend⟩ := hg
    obtain ⟨its, rv, p, hz1⟩ := I.list hqa
    obtain ⟨its', rv', p', hz2⟩ := I.list hqb
    obtain ⟨hz, hTI, ⟨x0, y0, hTO⟩, h1, h2⟩ := st
    obtain ⟨d1, d2, d3, d4, d5, d6, d7, d8, d9, d10⟩ := hD
    have apart : ∀ {c : Addr} {vs : Array Value}, s.heap.IsList c vs → c ≠ z ∧ c ≠ TO ∧ c ≠ i1 ∧ c ≠ i2 := fun {c vs} ⟨o, e, cc, _⟩ => by
      refine ⟨fun q => ?_, fun q => ?_, fun q => ?_, fun q => ?_⟩
      · subst q; rw [hz] at e; cases e; injection cc with q2; exact absurd q2 (by decide)
      · subst q; rw [hTO] at e; cases e; injection cc with q2; exact absurd q2 (by decide)
      · subst q; obtain ⟨o1, e1, c1, _⟩ := h1; rw [e1] at e; cases e; rw [c1] at cc; injection cc with q2; exact absurd q2 (by decide)
      · subst q; obtain ⟨o1, e1, c1, _⟩ := h2; rw [e1] at e; cases e; rw [c1] at cc; injection cc with q2; exact absurd q2 (by decide)
    obtain ⟨a1, a2, a3, a4⟩ := apart p.isList
    obtain ⟨b1, b2, b3, b4⟩ := apart p'.isList
    have D : ZipApart z TI TO i1 i2 a b := ⟨d1, d2, d3, d4, d5, d6, d7, d8, d9, d10, a1, a2, a3, a4, b1, b2, b3, b4⟩
    have he : its.toArray[i]? = none ∨ its'.toArray[i]? = none := by
      rcases hend with q | q
      · exact .inl (by simpa using rv.none_of q)
      · exact .inr (by simpa using rv'.none_of q)
    refine wpAny_pyNext_zip_end (I.ok.hd hc) D hz hTI hTO h1 h2 p.isList p'.isList he fun h' gk => ⟨rfl, I.turnedL (t' := s.toks) (ch := [z, TO, i1, i2]) (fun c o hc e => ?_) fun c hc => hf c (by simp at hc ⊢; rcases hc with q | q | q | q <;> simp [q])⟩
    simp only [List.mem_cons, List.not_mem_nil, or_false, not_or] at hc
    exact gk c o hc.1 hc.2.1 hc.2.2.1 hc.2.2.2 e
  self := fun _ _ _ _ _ st h => wpAny_pyIter_zip st.1 h

def iZip (K : PySem.W.Frag) (ta : TA) : TI := fun σ H R => ta σ H fun vs H1 => ∃ a b xs ys, vs = [.ref a, .ref b] ∧ SqL K H1 a xs ∧ SqL K H1 b ys ∧ R (Itz K a b) H1
theorem boot_zip : bootBuiltins "zip" = some (.type "zip") := by decide +kernel
theorem pi_zip {X : Cx} {es : List Expr} {tk : Nat} {tp : Pos} {a b : Expr} {ta : TA} {p pos : Pos} (hm : X.mg "zip" = none) (ha : PA X [a, b] ta) (hg : Gl X "zip" := by rfl) (hs : starEach [a, b] X.env = [(false, eval a X.env), (false, eval b X.env)] := by rfl) (hs2 : starEach [b] X.env = [(false, eval b X.env)] := by rfl) :
    PI X (.Tuple es tk tp) (.Call (.Name "zip" p) [a, b] [] pos) (iZip X.K ta) := by
  intro pins s σ H R I h
  refine Call_ (ld_blt I hg hm boot_zip (PyProof.Rows.callWith_type1 (thn (ha pos pins s σ H _ I h) fun us s1 ⟨vs, H1, I1, r1, q1⟩ => ?_) (by rw [hs, hs2]) (by rw [hs2]; rfl)))
  obtain ⟨l1, l2, xs, ys, e, hqa, hqb, q⟩ := q1
  subst e
  obtain ⟨u, v, rfl, ru, rv⟩ := r1.two
  cases ru
  cases rv
  obtain ⟨its, r, pl, hz⟩ := I1.list hqa
  obtain ⟨its', r', pl', hz'⟩ := I1.list hqb
  refine call_zip_2 pl.isList pl'.isList fun h' z1 z2 z3 z4 z5 z6 zk => ?_
  refine wpAny_pyIter_zip (s := { s1 with heap := h' }) z1 ?_
  have I2 : Inv X pins σ H1 { s1 with heap := h' } := I1.kept (t' := s1.toks) zk
  refine ⟨_, _, _, _, H1, rfl, I2, turn_zip _ _ _ _ _ l1 l2 ((show ∀ n : Nat, (n + 2 ≠ n + 4 ∧ n + 3 ≠ n + 4 ∧ n ≠ n + 4 ∧ n + 1 ≠ n + 4 ∧ n + 2 ≠ n + 3 ∧ n + 2 ≠ n ∧ n + 2 ≠ n + 1 ∧ n + 3 ≠ n ∧ n + 3 ≠ n + 1 ∧ n ≠ n + 1) by intro n; omega) s1.heap.objs.size), ⟨z1, z2, ⟨_, _, z3⟩, z4, z5⟩, fun c hc => ?_, q⟩
  have hle : s1.heap.objs.size ≤ c := by
    simp only [List.mem_cons, List.not_mem_nil, or_false] at hc
    rcases hc with rfl | rfl | rfl | rfl | rfl
    · exact Nat.le_add_right _ _
    · exact Nat.le_add_right _ _
    · exact Nat.le_add_right _ _
    · exact Nat.le_refl _
    · exact Nat.le_add_right _ _
  exact I1.fpOk hle (I1.hok.fresh hle)
/-- over two lists of one length, which the body leaves as they are -/
theorem for_zip {K : PySem.W.Frag} {a b : Addr} {xs ys : List V} {g : TG} {tb : TS} {D : Ends} {σ : St} {H : Hp} (hlen : xs.length = ys.length) (Pv : Nat → St → Hp → Prop) (h0 : Pv 0 σ H) (hl : ∀ i σ H, i ≤ xs.length → Pv i σ H → SqL K H a xs ∧ SqL K H b ys)
    (hs : ∀ i x y T σ H, xs[i]? = some x → ys[i]? = some y → H T = none → Pv i σ H → g (.ref T) σ (upd H T (.tup [x, y])) fun σ2 H2 => tb { D with nx := Pv (i + 1), ct := Pv (i + 1), bk := D.nx } σ2 H2) (hd : ∀ σ H, Pv xs.length σ H → D.nx σ H) :
    ∃ W : Nat → Nat → St → Hp → Prop, (∃ m, W 0 m σ H) ∧ ∀ i m σ H, W i m σ H →
      ((Itz K a b).stop i H ∧ D.nx σ H) ∨ ((Itz K a b).go i H ∧ ∃ N : St → Hp → Prop, (∀ σ' H', N σ' H' → ∃ m', m' < m ∧ W (i + 1) m' σ' H') ∧ ∀ x H', (Itz K a b).yld i H x H' → g x σ H' fun σ2 H2 => tb { D with nx := N, ct := N, bk := D.nx } σ2 H2) := by
  refine ⟨fun i m σ H => m = xs.length - i ∧ i ≤ xs.length ∧ Pv i σ H, ⟨xs.length, by simp, Nat.zero_le _, h0⟩, ?_⟩
  rintro i m σ H ⟨rfl, hi, p⟩
  obtain ⟨qa, qb⟩ := hl i σ H hi p
  by_cases hlt : i < xs.length
  · have hlt' : i < ys.length := by omega
    refine .inr ⟨⟨xs, ys, xs[i], ys[i], qa, qb, by simp [hlt], by simp [hlt']⟩, Pv (i + 1), fun σ' H' p' => ⟨xs.length - (i + 1), by omega, rfl, hlt, p'⟩, fun v H' y => ?_⟩
    obtain ⟨T, rfl, hT, k⟩ := y
    obtain ⟨x, y, hx, hy, rfl⟩ := k xs ys qa qb
    exact hs i x y T σ H hx hy hT p
  · have e : i = xs.length := by omega
    subst e
    exact .inl ⟨⟨xs, ys, qa, qb, .inl (by simp)⟩, hd σ H p⟩

/-! ### lists compared, whatever the items -/
def eqBy (e : V → V → Bool) : List V → List V → Bool
  | [], [] => true
  | x :: xs, y :: ys => e x y && eqBy e xs ys
  | _, _ => false
theorem eqBy_len {e : V → V → Bool} : ∀ {xs ys : List V}, xs.length ≠ ys.length → eqBy e xs ys = false
  | [], [], h => absurd rfl h
  | [], _ :: _, _ => rfl
  | _ :: _, [], _ => rfl
  | x :: xs, y :: ys, h => by
    have := eqBy_len (e := e) (xs := xs) (ys := ys) (by simpa using h)
    simp [eqBy, this]
def eqByN (e : V → V → Bool) (xs ys : List V) (j : Nat) : Bool := match xs[j]?, ys[j]? with
  | some x, some y => e x y
  | _, _ => false
theorem eqBy_all {e : V → V → Bool} : ∀ {xs ys : List V}, xs.length = ys.length → (List.range xs.length).all (eqByN e xs ys) = eqBy e xs ys
  | [], [], _ => rfl
  | [], _ :: _, h => by simp at h
  | _ :: _, [], h => by simp at h
  | x :: xs, y :: ys, h => by
    have ih := eqBy_all (e := e) (xs := xs) (ys := ys) (by simpa using h)
    have e1 : (List.range (x :: xs).length).all (eqByN e (x :: xs) (y :: ys)) = (e x y && (List.range xs.length).all (eqByN e xs ys)) := by
      rw [List.length_cons, List.range_succ_eq_map, List.all_cons, List.all_map]
      rfl
    rw [e1, ih]
    rfl
theorem eqBy_eqV : ∀ xs ys : List V, eqBy eqV xs ys = eqVs xs ys
  | [], [] => rfl
  | [], _ :: _ => rfl
  | _ :: _, [] => rfl
  | x :: xs, y :: ys => by simp only [eqBy, eqVs, eqBy_eqV xs ys]
section
variable {X : Cx} {A : Around} {pins : List (Addr × Obj)} {σ : St} {H : Hp} {s : Shared} {a b : Addr} {xs ys : List V} {e : V → V → Bool}
theorem items_eq (I : Inv X pins σ H s) (ha : SqL X.K H a xs) (hb : SqL X.K H b ys) (he : ∀ x ∈ xs, ∀ y ∈ ys, ∀ u v, RelV x u → RelV y v → SeqAt.EqAt A s u v (e x y)) :
    ∃ its its' : Array Value, s.heap.IsList a its ∧ s.heap.IsList b its' ∧ its.size = xs.length ∧ its'.size = ys.length ∧ ∀ j (h1 : j < its.size) (h2 : j < its'.size), SeqAt.EqAt A s its[j] its'[j] (eqByN e xs ys j) := by
  obtain ⟨its, r, pl, hz⟩ := I.list ha
  obtain ⟨its', r', pl', hz'⟩ := I.list hb
  have hl := r.length
  have hl' := r'.length
  refine ⟨_, _, pl.isList, pl'.isList, by rw [List.size_toArray]; omega, by rw [List.size_toArray]; omega, fun j h1 h2 => ?_⟩
  have hj : j < xs.length := by rw [List.size_toArray] at h1; omega
  have hj' : j < ys.length := by rw [List.size_toArray] at h2; omega
  obtain ⟨u, hu1, ru⟩ := r.get (i := j) (x := xs[j]) (by simp [hj])
  obtain ⟨u', hu1', ru'⟩ := r'.get (i := j) (x := ys[j]) (by simp [hj'])
  have e1 : its.toArray[j] = u := by
    have : its[j]? = some its[j] := by simp
    rw [hu1] at this
    simpa using (Option.some.inj this).symm
  have e2 : its'.toArray[j] = u' := by
    have : its'[j]? = some its'[j] := by simp
    rw [hu1'] at this
    simpa using (Option.some.inj this).symm
  rw [e1, e2]
  have e3 : eqByN e xs ys j = e xs[j] ys[j] := by
    unfold eqByN
    simp [hj, hj']
  rw [e3]
  exact he _ (List.getElem_mem hj) _ (List.getElem_mem hj') u u' ru ru'
theorem rc_lists (I : Inv X pins σ H s) (ha : SqL X.K H a xs) (hb : SqL X.K H b ys) (he : ∀ x ∈ xs, ∀ y ∈ ys, ∀ u v, RelV x u → RelV y v → SeqAt.EqAt A.in1 s u v (e x y)) (hu : A.units < cLine) : SeqAt.RcAt A s (.ref a) (.ref b) (eqBy e xs ys) := by
  obtain ⟨its, its', h1, h2, n1, n2, hh⟩ := items_eq I ha hb he
  by_cases q : xs.length = ys.length
  · have h := SeqAt.RcAt.lists (A := A) (e := eqByN e xs ys) h1 h2 (by omega) hu hh
    rw [n1, eqBy_all q] at h
    exact h
  · rw [eqBy_len q]
    exact SeqAt.RcAt.lists_lengths h1 h2 (by simp; omega) hu
theorem rcNe_lists (I : Inv X pins σ H s) (ha : SqL X.K H a xs) (hb : SqL X.K H b ys) (he : ∀ x ∈ xs, ∀ y ∈ ys, ∀ u v, RelV x u → RelV y v → SeqAt.EqAt A.in1 s u v (e x y)) (hu : A.units < cLine) : SeqAt.RcNeAt A s (.ref a) (.ref b) (!eqBy e xs ys) := by
  obtain ⟨its, its', h1, h2, n1, n2, hh⟩ := items_eq I ha hb he
  by_cases q : xs.length = ys.length
  · have h := SeqAt.RcNeAt.lists (A := A) (e := eqByN e xs ys) h1 h2 (by omega) hu hh
    rw [n1, eqBy_all q] at h
    exact h
  · rw [eqBy_len q]
    exact SeqAt.RcNeAt.lists_lengths h1 h2 (by simp; omega) hu
theorem flat_eqAt (fx : xs.all flatV = true) (fy : ys.all flatV = true) : ∀ x ∈ xs, ∀ y ∈ ys, ∀ u v, RelV x u → RelV y v → SeqAt.EqAt A s u v (eqV x y) := fun x hx y hy u v ru rv =>
  eqAt_V ru rv (List.all_eq_true.mp fx x hx) (List.all_eq_true.mp fy y hy)
/-- != of two flat lists -/
theorem op_neL (hu : X.A.units < cLine) : OpR X (compareOp .NotEq) (rEqL X.K true) := by
  intro pins s σ H x y v u Q I rx ry h
  obtain ⟨a, b, xs, ys, rfl, rfl, ha, hb, fx, fy, q⟩ := h
  cases rx
  cases ry
  have h1 := rcNe_lists (A := X.A) I ha hb (flat_eqAt fx fy) hu
  rw [eqBy_eqV] at h1
  exact h1 X.prog X.w X.xe _ ⟨.bl _, H, I, rfl, q⟩
/-- lists of lists of flat items -/
def Flat2 (K : PySem.W.Frag) (H : Hp) (xs : List V) (ls : List (List V)) : Prop := Paired (fun (x : V) (l : List V) => ∃ p, x = .ref p ∧ SqL K H p l ∧ l.all flatV = true) xs ls
def eqLL : List (List V) → List (List V) → Bool
  | [], [] => true
  | x :: xs, y :: ys => eqVs x y && eqLL xs ys
  | _, _ => false
theorem eqVs_self : ∀ {xs : List V}, xs.all flatV = true → eqVs xs xs = true
  | [], _ => rfl
  | x :: xs, h => by
    rw [List.all_cons, Bool.and_eq_true] at h
    simp only [eqVs, eqVs_self h.2, Bool.and_true]
    cases x <;> first | rfl | exact absurd (show false = true from h.1) Bool.false_ne_true | simp [eqV]
end
/-! ### range(n) as a value, list(range(n)) -/
section
variable {X : Cx}
def tRng (ta : TA) : TE := fun σ H Q => ta σ H fun vs H1 => ∃ j : Int, vs = [.int j] ∧ ∀ p, H1 p = none → Q (.ref p) (upd H1 p (.rng 0 j))
theorem pe_range {a : Expr} {ta : TA} {p pos : Pos} (hm : X.mg "range" = none) (ha : PA X [a] ta) (hg : Gl X "range" := by rfl) (hs : starEach [a] X.env = [(false, eval a X.env)] := by rfl) : PE X (.Call (.Name "range" p) [a] [] pos) (tRng ta) := by
  intro pins s σ H Q I h
  refine Call_ (ld_blt I hg hm boot_range (PyProof.Rows.callWith_type1 (thn (ha pos pins s σ H _ I h) fun us s1 ⟨vs, H1, I1, r1, q1⟩ => ?_) hs rfl))
  obtain ⟨j, e, q⟩ := q1
  subst e
  obtain ⟨u, rfl, t, rfl⟩ := r1.one
  refine call_range_1 ⟨.ref s1.heap.objs.size, _, I1.laid (o := .rng 0 j) (fun b o e => Heap.get?_push_of_some _ e) (Nat.le_refl _) ?_, rfl, q _ I1.fresh⟩
  exact ⟨_, _, _, Heap.get?_push_size _ rfl⟩
def rListRng : List V → Hp → VK → Prop := fun xs H Q => ∃ (p : Addr) (n : Nat), xs = [.ref p] ∧ H p = some (.rng 0 n) ∧ n ≤ 1000 ∧ ∀ l, H l = none → Q (.ref l) (upd H l (.lst ((List.range n).map fun (i : Nat) => V.int (i : Int))))
theorem vals_by {f : Nat → V} : ∀ {n : Nat} {us : List Value}, us.length = n → (∀ j u, us[j]? = some u → RelV (f j) u) → Vals ((List.range n).map f) us := by
  intro n
  induction n with
  | zero => intro us h _; rw [List.length_eq_zero_iff.mp h]; exact .nil
  | succ n ih =>
    intro us h k
    have hne : us ≠ [] := fun z => by rw [z] at h; simp at h
    have e0 : us = us.dropLast ++ [us.getLast hne] := (List.dropLast_concat_getLast hne).symm
    have hl : us.dropLast.length = n := by rw [List.length_dropLast, h]; rfl
    rw [List.range_succ, List.map_append, e0]
    refine Vals.append (ih hl fun j u hj => ?_) (.cons ?_ .nil)
    · refine k j u ?_
      have hjl := (List.getElem?_eq_some_iff.mp hj).1
      rw [e0, List.getElem?_append_left hjl]
      exact hj
    · refine k n _ ?_
      conv => lhs; rw [e0]
      rw [List.getElem?_append_right (by omega), hl, Nat.sub_self]
      rfl
theorem call_list_rng (hc : X.calm = true) : CallR X (.type "list") rListRng := by
  intro pins s σ H xs us Q I r h
  obtain ⟨p, n, rfl, hp, hn, q⟩ := h
  obtain ⟨u, rfl, ru⟩ := r.one
  cases ru
  obtain ⟨t, u, v, e⟩ := I.hok p _ hp
  refine call_list_range (n := n) (I.ok.hd hc) (show IsRange s.heap p 0 n 1 t u v from e) (small_one (by omega) (by omega) (by omega) (by omega)) (by rw [rangeSize_one]; split <;> omega) (by omega) fun h' tk acc' c' hk hS hi => ?_
  refine ⟨.ref s.heap.objs.size, _, I.laid (o := .lst ((List.range n).map fun (i : Nat) => V.int (i : Int))) hk (Nat.le_refl _) ⟨?_, acc'.toList, c', ?_, by simpa using hS⟩, rfl, q _ I.fresh⟩
  · rw [List.length_map, List.length_range]
    exact Nat.le_of_lt (small1000 hn)
  · refine vals_by (by rw [Array.length_toList]; exact hi.1) fun j w hj => ?_
    obtain ⟨t', e'⟩ := hi.2 j w (by simpa using hj)
    exact ⟨t', by rw [e']; simp⟩
/-! ### sorted of ints -/
def rSorted (K : PySem.W.Frag) : List V → Hp → VK → Prop := fun xs H Q => ∃ (a : Addr) (ns : List Int), xs = [.ref a] ∧ SqL K H a (ns.map V.int) ∧ ns.length < 64 ∧ ∀ (l : Addr) (ns' : List Int), H l = none → ns'.Perm ns → ns'.Pairwise (· ≤ ·) → Q (.ref l) (upd H l (.lst (ns'.map V.int)))
theorem boot_sorted : bootBuiltins "sorted" = some (.builtin "sorted") := by decide +kernel
theorem call_sorted : CallR X (.builtin "sorted") (rSorted X.K) := by
  intro pins s σ H xs us Q I r h
  obtain ⟨a, ns, rfl, ha, hn, q⟩ := h
  obtain ⟨u, rfl, ru⟩ := r.one
  cases ru
  obtain ⟨its, rv, pl, hz⟩ := I.list ha
  have hl := rv.length
  rw [List.length_map] at hl
  refine sorted_ints pl.isList (intsAre_of rv) (by omega) fun out ns' a1 a2 a3 => ?_
  obtain ⟨e, he⟩ := sortedAll_at s.heap its out
  have hf : H (s.heap.objs.size + 1) = none := I.hok.fresh (Nat.le_succ _)
  refine ⟨.ref (s.heap.objs.size + 1), _, I.laid (t' := s.toks) (o := .lst (ns'.map V.int)) (fun _ _ => sortedAll_old) (Nat.le_succ _) ⟨?_, out.toList, e, vals_ints a1, ?_⟩, rfl, q _ ns' hf a2 a3⟩
  · rw [List.length_map, a2.length_eq]
    exact Nat.le_of_lt (small1000 (by omega))
  · rw [he]
/-! ### xs[::-1] -/
def tRev (K : PySem.W.Frag) (te : TE) : TE := fun σ H Q => te σ H fun x H1 => ∃ a xs, x = .ref a ∧ SqL K H1 a xs ∧ ∀ p, H1 p = none → Q (.ref p) (upd H1 p (.lst xs.reverse))
theorem pe_rev {e : Expr} {te : TE} {p1 p2 p3 pos : Pos} {j : Nat} (he : PE X e te) (hm : evalPart (some (.UnaryOp .USub (.Constant (.int 1) j p1) p2)) X.env = eval (.UnaryOp .USub (.Constant (.int 1) j p1) p2) X.env := by rfl) :
    PE X (.Subscript e (.Slice none none (some (.UnaryOp .USub (.Constant (.int 1) j p1) p2)) p3) pos) (tRev X.K te) := by
  intro pins s σ H Q I h
  refine Subscript_ (thn (he pins s σ H _ I h) fun v s1 ⟨x, H1, I1, r1, a, xs, ex, hq, q1⟩ => ?_)
  subst ex
  cases r1
  refine wpAny_Slice ?_
  rw [evalPart_none]
  refine wpAny_pure (wpAny_pure ?_)
  rw [hm]
  refine thn (pe_un (un_neg (X := X)) pe_int pins s1 σ H1 (fun v H2 => v = .int (-1) ∧ H2 = H1) I1 ⟨1, rfl, rfl, rfl⟩) fun vk s2 ⟨k, H2, I2, rk, ek, eH⟩ => ?_
  subst ek eH
  obtain ⟨t, rfl⟩ := rk
  obtain ⟨its, rv, pl, hz⟩ := I2.list hq
  have hl := rv.length
  have I4 : Inv X pins σ H2 { s2 with heap := s2.heap.push { cls := .type "slice", data := .fields #[.none, .none, .int (-1) t] } } := I2.kept (t' := s2.toks) fun b ob q => Heap.get?_push_of_some _ q
  have pl4 := I4.list hq
  obtain ⟨its4, rv4, pl4, hz4⟩ := pl4
  have hl4 := rv4.length
  show wpAny (model X.prog X.w) X.A (subscriptTail e _ (.ref a) (.ref s2.heap.objs.size)) (EP X pins σ Q) X.xe { s2 with heap := s2.heap.push { cls := .type "slice", data := .fields #[.none, .none, .int (-1) t] } }
  refine tail_any (ops := [.ref a, .ref s2.heap.objs.size]) pl4.isList.typeIs slot_list_getitem.lookup ?_ (by with_unfolding_all rfl)
  refine wpAny_getItem_list_slice pl4.isList (Heap.IsSliceOf.new ..) .none .none (.int (-1) t) (by decide) ?_ (by rw [List.size_toArray]; omega)
  rw [PySem.W.krv_pick]
  refine ⟨.ref _, _, I4.laid (t' := s2.toks) (o := .lst xs.reverse) (fun b ob q => Heap.get?_push_of_some _ q) (Nat.le_refl _) ?_, rfl, q1 _ I4.fresh⟩
  exact ⟨by rw [List.length_reverse]; exact hz4, _, 0, rv4.reverse, Heap.get?_push_size _ rfl⟩
/-! ### xs.insert(i, x) -/
def rInsert : V → List V → Hp → VK → Prop := fun x vs H Q => ∃ (l : Addr) (xs : List V) (i : Nat) (y : V), x = .ref l ∧ vs = [.int i, y] ∧ H l = some (.lst xs) ∧ i ≤ xs.length ∧ xs.length < sizeLine ∧ Q .non (upd H l (.lst (xs.take i ++ y :: xs.drop i)))
theorem mt_insert : MtM X "list.insert" rInsert := by
  intro pins s σ H x vs v us Q I rx rv h
  obtain ⟨l, xs, i, y, rfl, rfl, hH, hi, hz, q⟩ := h
  cases rx
  obtain ⟨u, w, rfl, ru, rw'⟩ := rv.two
  obtain ⟨t, rfl⟩ := ru
  obtain ⟨z, its, n, r, hl, e⟩ := I.lstM hH
  have key : ∀ x0 : Int, x0 = (i : Int) → wpAny (model X.prog X.w) X.A (call (.builtin "list.insert") (.ref l :: [.int x0 t, w])) (EP X pins σ Q) X.xe s := by
    intro x0 hx0
    have hb1 : -(2 ^ 63) ≤ x0 := by omega
    have hb2 : x0 < 2 ^ 63 := by
      have h63 := line63
      omega
    have hfit : ¬ (!Builtin.List.listFitsIndex x0) = true := by
      rw [fitsIndex_both hb1 hb2]
      exact Bool.false_ne_true
    have hsz : its.toArray.size ≤ sizeLine := by rw [List.size_toArray]; omega
    refine call_meets F.slot_list_insert ⟨_, e, rfl⟩ F.entry_list_insert (F.args_list_insert_3 _ _ _) (AutoSeq1.list_insert_list_int_val_1 l its.toArray n x0 t w hfit hsz) ⟨e, ?_⟩
    refine ⟨.non, _, I.lset (its' := its.take i ++ w :: its.drop i) hH e ?_ (Vals.append (r.take i) (.cons rw' (r.drop i))) ?_, rfl, q⟩
    · have hk : (if x0 < 0 then (x0 + (its.toArray.size : Int)).toNat else min x0.toNat its.toArray.size) = i := by
        rw [if_neg (by omega), List.size_toArray]
        omega
      show (its.toArray.extract 0 (if x0 < 0 then (x0 + (its.toArray.size : Int)).toNat else min x0.toNat its.toArray.size)).push w ++ its.toArray.extract (if x0 < 0 then (x0 + (its.toArray.size : Int)).toNat else min x0.toNat its.toArray.size) = _
      rw [hk]
      apply Array.toList_inj.mp
      simp
      exact List.take_of_length_le (by simp)
    · rw [List.length_append, List.length_cons, List.length_take, List.length_drop]
      omega
  exact key _ rfl
end
end L2

set_option Elab.async false
set_option linter.all false
set_option maxRecDepth 100000
namespace L2
open PySem PySem.Spec PyProof.Rows
/-- no global hides these built-ins -/
structure Bs (mg : Str → Option Value) : Prop where
  rng : mg "range" = none
  len : mg "len" = none
  isi : mg "isinstance" = none
  lst : mg "list" = none
  int : mg "int" = none
  bool : mg "bool" = none
  zip : mg "zip" = none
  srt : mg "sorted" = none
  abs : mg "abs" = none
  max : mg "max" = none
  rev : mg "reversed" = none
  tup : mg "tuple" = none
  min : mg "min" = none
  enu : mg "enumerate" = none
section
variable {X : Cx}
/-- the built-in classes as values -/
theorem pe_list (B : Bs X.mg) {pos : Pos} (hg : Gl X "list" := by rfl) : PE X (.Name "list" pos) (tC (.ty "list")) := pe_bltn hg B.lst (by decide +kernel) rfl
theorem pe_intT (B : Bs X.mg) {pos : Pos} (hg : Gl X "int" := by rfl) : PE X (.Name "int" pos) (tC (.ty "int")) := pe_bltn hg B.int (by decide +kernel) rfl
theorem pe_boolT (B : Bs X.mg) {pos : Pos} (hg : Gl X "bool" := by rfl) : PE X (.Name "bool" pos) (tC (.ty "bool")) := pe_bltn hg B.bool (by decide +kernel) rfl
/-- len(e) of a list or tuple -/
theorem pe_len {K : PySem.W.Frag} (B : Bs X.mg) {e : Expr} {te : TE} {p pos : Pos} (he : PE X e te) (hK : X.K = K := by rfl) (hg : Gl X "len" := by rfl) (hs : starEach [e] X.env = (false, eval e X.env) :: starEach [] X.env := by rfl) (hpl : (backTo pos (starEach [] X.env)).any (·.1) = false := by rfl) :
    PE X (.Call (.Name "len" p) [e] [] pos) (tCB (fun xs H Q => ∃ p ys, xs = [.ref p] ∧ (SqL K H p ys ∨ SqT K H p ys) ∧ Q (.int ys.length) H) (tCons te tNil)) :=
  pe_callB (call_len_seqK hK) hg B.len PySem.boot_len (pa_cons he pa_nil hs) (by decide) (by decide) hs hpl
/-- xs[i] -/
theorem pe_at {K : PySem.W.Frag} {a b : Expr} {ta tb : TE} {pos : Pos} (ha : PE X a ta) (hb : PE X b tb) (hs : PlainIx b := by exact fun _ _ => rfl) (hK : X.K = K := by rfl) : PE X (.Subscript a b pos) (tOp (rIxL K) ta tb) := pe_ix (ix_listK hK) ha hb hs
theorem pe_tat {K : PySem.W.Frag} {a b : Expr} {ta tb : TE} {pos : Pos} (ha : PE X a ta) (hb : PE X b tb) (hs : PlainIx b := by exact fun _ _ => rfl) (hK : X.K = K := by rfl) : PE X (.Subscript a b pos) (tOp (rIxT K) ta tb) := pe_ix (ix_tupK hK) ha hb hs
end
theorem ite_d {c A B : Prop} [Decidable c] (h1 : c → A) (h2 : ¬ c → B) : if decide c = true then A else B := by
  by_cases h : c
  · rw [if_pos (decide_eq_true h)]
    exact h1 h
  · rw [if_neg (by simp [h])]
    exact h2 h
theorem ite_n {c A B : Prop} [Decidable c] (h1 : ¬ c → A) (h2 : c → B) : if (!decide c) = true then A else B := by
  by_cases h : c
  · rw [if_neg (by simp [h])]
    exact h2 h
  · rw [if_pos (by simp [h])]
    exact h1 h
theorem iteP {c A B : Prop} [Decidable c] (h : c) (a : A) : if decide c = true then A else B := ite_d (fun _ => a) fun n => absurd h n
theorem iteN {c A B : Prop} [Decidable c] (h : ¬ c) (b : B) : if decide c = true then A else B := ite_d (fun p => absurd p h) fun _ => b
theorem vint {i j : Int} (h : V.int i = V.int j) : i = j := by injection h
theorem Same.lay {H H' : Hp} {l : Addr} {o : HO} (s : Same H H') (h : H' l = none) : Same H (upd H' l o) := fun b u e => by rw [upd_ne (ne_of_none (s b u e) h)]; exact s b u e
theorem Same.layS {H : Hp} {l : Addr} {o : HO} (h : H l = none) : Same H (upd H l o) := (Same.refl H).lay h
/-- an object that is not among those of H may be changed -/
theorem Same.layN {H H' : Hp} {l : Addr} {o : HO} (s : Same H H') (h : H l = none) : Same H (upd H' l o) := fun b u e => by rw [upd_ne (ne_of_none e h)]; exact s b u e
theorem Same.seqT {K : PySem.W.Frag} {H H' : Hp} {a : Addr} {xs : List V} (e : Same H H') (h : SqT K H a xs) : SqT K H' a xs := by
  rcases h with (h | ⟨o, h⟩) | h
  · exact .inl (.inl (e _ _ h))
  · exact .inl (.inr ⟨o, e _ _ h⟩)
  · exact .inr h
/-- a comprehension over a range; tests and elements may lay new things -/
theorem lc_rangeG {lo : Int} {n : Nat} {caps : List (Str × Nat)} {tt : TT} {te : TE} {σ : St} {acc : Addr} {Q : VK} {H : Hp} (hacc : H acc = none) (p : Nat → Bool) (f : Nat → V) (hn : n ≤ 1000)
    (ht : ∀ i, i < n → ∀ (H' : Hp) (R : Bool → Hp → Prop), Same H H' → (∀ H'', Same H' H'' → R (p i) H'') → tt (some (.int (lo + i)) :: capSt caps σ) H' R)
    (he : ∀ i, i < n → p i = true → ∀ (H' : Hp) (R : VK), Same H H' → (∀ H'', Same H' H'' → R (f i) H'') → te (some (.int (lo + i)) :: capSt caps σ) H' R)
    (hq : ∀ H', Same H H' → H' acc = some (.lst (((List.range n).filter p).map f)) → Q (.ref acc) H') : tComp (Itr lo n) caps tt te σ acc Q (upd H acc (.lst [])) := by
  refine ⟨fun i m H' => m = n - i ∧ i ≤ n ∧ Same H H' ∧ H' acc = some (.lst (((List.range i).filter p).map f)), ⟨n, rfl, Nat.zero_le _, Same.layS hacc, upd_same⟩, ?_⟩
  rintro i m H' ⟨rfl, hi, s1, e1⟩
  by_cases hlt : i < n
  · refine .inr ⟨hlt, fun H' => Same H H' ∧ H' acc = some (.lst (((List.range (i + 1)).filter p).map f)), fun H' e => ⟨n - (i + 1), by omega, rfl, hlt, e.1, e.2⟩, fun x H' y => ?_⟩
    obtain ⟨e, y⟩ := y
    subst e y
    refine ht i hlt _ _ s1 fun H2 s2 => ?_
    cases hp : p i with
    | true =>
      refine iteT (he i hlt hp _ _ (s1.trans s2) fun H3 s3 => ⟨_, s3 _ _ (s2 _ _ e1), ?_, ((s1.trans s2).trans s3).layN hacc, ?_⟩)
      · have h1 : (((List.range i).filter p).map f).length ≤ i := by
          rw [List.length_map]
          have := List.length_filter_le p (List.range i)
          rw [List.length_range] at this
          exact this
        exact small1000 (by omega)
      · rw [upd_same, List.range_succ, List.filter_append, List.map_append]
        simp [hp]
    | false =>
      refine iteF ⟨s1.trans s2, ?_⟩
      rw [s2 _ _ e1, List.range_succ, List.filter_append, List.map_append]
      simp [hp]
  · have e : i = n := by omega
    subst e
    exact .inl ⟨Nat.le_refl _, hq _ s1 e1⟩
/-- .. over a list that stays -/
theorem lc_listG {K : PySem.W.Frag} {a : Addr} {xs : List V} {caps : List (Str × Nat)} {tt : TT} {te : TE} {σ : St} {acc : Addr} {Q : VK} {H : Hp} (hacc : H acc = none) (ha : SqL K H a xs) (hn : xs.length ≤ 1000) (p : V → Bool) (f : V → V)
    (ht : ∀ x, x ∈ xs → ∀ (H' : Hp) (R : Bool → Hp → Prop), Same H H' → (∀ H'', Same H' H'' → R (p x) H'') → tt (some x :: capSt caps σ) H' R)
    (he : ∀ x, x ∈ xs → p x = true → ∀ (H' : Hp) (R : VK), Same H H' → (∀ H'', Same H' H'' → R (f x) H'') → te (some x :: capSt caps σ) H' R)
    (hq : ∀ H', Same H H' → H' acc = some (.lst ((xs.filter p).map f)) → Q (.ref acc) H') : tComp (Itl K a) caps tt te σ acc Q (upd H acc (.lst [])) := by
  refine ⟨fun i m H' => m = xs.length - i ∧ i ≤ xs.length ∧ Same H H' ∧ H' acc = some (.lst (((xs.take i).filter p).map f)), ⟨xs.length, rfl, Nat.zero_le _, Same.layS hacc, upd_same⟩, ?_⟩
  rintro i m H' ⟨rfl, hi, s1, e1⟩
  have hsq := s1.seq ha
  by_cases hlt : i < xs.length
  · have hx : xs[i]? = some xs[i] := List.getElem?_eq_getElem hlt
    refine .inr ⟨⟨xs, xs[i], hsq, hx⟩, fun H' => Same H H' ∧ H' acc = some (.lst (((xs.take (i + 1)).filter p).map f)), fun H' e => ⟨xs.length - (i + 1), by omega, rfl, hlt, e.1, e.2⟩, fun x H' y => ?_⟩
    obtain ⟨e, y⟩ := y
    have hy := y xs hsq
    rw [hx] at hy
    cases hy
    subst e
    have hmem : xs[i] ∈ xs := List.getElem_mem hlt
    have et : xs.take (i + 1) = xs.take i ++ [xs[i]] := by rw [List.take_append_getElem]
    refine ht _ hmem _ _ s1 fun H2 s2 => ?_
    cases hp : p xs[i] with
    | true =>
      refine iteT (he _ hmem hp _ _ (s1.trans s2) fun H3 s3 => ⟨_, s3 _ _ (s2 _ _ e1), ?_, ((s1.trans s2).trans s3).layN hacc, ?_⟩)
      · have h1 : (((xs.take i).filter p).map f).length ≤ i := by
          rw [List.length_map]
          have := List.length_filter_le p (xs.take i)
          rw [List.length_take] at this
          omega
        exact small1000 (by omega)
      · rw [upd_same, et, List.filter_append, List.map_append]
        simp [hp]
    | false =>
      refine iteF ⟨s1.trans s2, ?_⟩
      rw [s2 _ _ e1, et, List.filter_append, List.map_append]
      simp [hp]
  · have e : i = xs.length := by omega
    subst e
    rw [List.take_length] at e1
    exact .inl ⟨⟨xs, hsq, Nat.le_refl _⟩, hq _ s1 e1⟩
end L2

set_option Elab.async false
set_option linter.all false
set_option maxRecDepth 100000
namespace L2
open PySem PySem.Spec PyProof.Rows
/-! ### for k in range(a, b, -1) -/
def Itd (lo : Int) (n : Nat) : It := ⟨fun i _ => i < n, fun i H x H' => H' = H ∧ x = .int (lo - i), fun i _ => n ≤ i⟩
theorem turn_down {P : Program} {w : World} {K : PySem.W.Frag} {tg : Expr} (it : Addr) (lo : Int) (n : Nat) : Turn P w K tg (Itd lo n) [it] it (fun i h => IsRangeIter h it (lo + (i : Nat) * (-1)) ((n : Int) - (i : Nat)) (-1)) where
  mem := by simp
  obj := fun i h st b hb => by
    have e : b = it := by simpa using hb
    subst e
    exact ⟨_, st, fun v z => by
      have z' : Data.fields _ = Data.cell v := z
      cases z'⟩
  keep := fun i h h' st k => k it (by simp) _ st
  item := by
    intro X hP hw hK hc i pins s σ H E I hf st hg
    subst hP hw hK
    obtain ⟨f0, f1, f2, f3, f4, f5⟩ := hf it (by simp)
    have W := Walks.range (prog := X.prog) (w := X.w) (I.ok.hd hc) it lo (-1) n
    refine W.item i s _ _ hg st fun v h' tk hv st' kk => ?_
    obtain ⟨t, rfl⟩ := hv
    have I1 : Inv X pins σ H { s with heap := h', toks := tk } := I.turned (fun b o hb e => kk b o (by simpa using hb) e) f0 f1 f3 f4 f5
    refine ⟨_, rfl, go_of (s := { s with heap := h', toks := tk }) (n := "range_iterator") st' rfl rfl (by decide) ⟨.int (lo - i), H, I1, ⟨t, ?_⟩, ⟨rfl, rfl⟩, st', fun b hb => (hf b hb).1⟩⟩
    congr 1
    omega
  done := by
    intro X hP hw hK hc i pins s σ H E I hf st hg
    subst hP hw hK
    obtain ⟨f0, f1, f2, f3, f4, f5⟩ := hf it (by simp)
    exact wpAny_pyNext_range_end (I.ok.hd hc) st (by have : n ≤ i := hg; omega) fun h' eb => ⟨rfl, I.turned (t' := s.toks) (fun b o hb e => eb b o hb e) f0 f1 f3 f4 f5⟩
  self := fun _ _ _ _ _ st h => wpAny_pyIter_rangeiter st h
section
variable {X : Cx} {tg : Expr}
theorem range_itD {pins : List (Addr × Obj)} {σ : St} {H : Hp} {s : Shared} {R : It → Hp → Prop} {E : Value → Shared → Prop} {lo hi : Int} {t u v : Tok} {tk : Nat} (I : Inv X pins σ H s) (h1 : -(2 ^ 62) ≤ lo) (h2 : lo < 2 ^ 62) (h3 : -(2 ^ 62) ≤ hi) (h4 : hi < 2 ^ 62)
    (q : R (Itd lo (lo - hi).toNat) H) : wpAny (model X.prog X.w) X.A (pyIter (.ref s.heap.objs.size)) (PIE X pins σ tg R) E { s with heap := s.heap.push { cls := .type "range", data := .fields #[.int lo t, .int hi u, .int (-1) v] }, toks := tk } := by
  refine wpAny_pyIter_range (IsRange.new ..) (PySem.W.small_down h1 h2 h3 h4) ?_
  have I1 : Inv X pins σ H { s with heap := s.heap.push { cls := .type "range", data := .fields #[.int lo t, .int hi u, .int (-1) v] }, toks := tk } := I.kept fun b o e => Heap.get?_push_of_some _ e
  refine ⟨(s.heap.push { cls := .type "range", data := .fields #[.int lo t, .int hi u, .int (-1) v] }).objs.size, [(s.heap.push { cls := .type "range", data := .fields #[.int lo t, .int hi u, .int (-1) v] }).objs.size], _, _, H, rfl,
    I1.kept (t' := tk) fun b o e => Heap.get?_push_of_some _ e, turn_down _ lo (lo - hi).toNat, ?_, fun b hb => ?_, q⟩
  · have e1 : lo + ((0 : Nat) : Int) * (-1) = lo := by simp
    have e2 : (((lo - hi).toNat : Nat) : Int) - ((0 : Nat) : Int) = Builtin.Range.rangeSize lo hi (-1) := by rw [PySem.W.rangeSize_downNat]; simp
    show IsRangeIter _ _ (lo + ((0 : Nat) : Int) * (-1)) ((((lo - hi).toNat : Nat) : Int) - ((0 : Nat) : Int)) (-1)
    rw [e1, e2]
    exact Heap.get?_push_size _ rfl
  · have e : b = (s.heap.push { cls := .type "range", data := .fields #[.int lo t, .int hi u, .int (-1) v] }).objs.size := by simpa using hb
    subst e
    exact I1.fpOk (Nat.le_refl _) (I1.hok.fresh (Nat.le_refl _))
def iRngD (ta : TA) : TI := fun σ H R => ta σ H fun vs H1 => ∃ i j : Int, vs = [.int i, .int j, .int (-1)] ∧ (-(2 ^ 62) ≤ i ∧ i < 2 ^ 62 ∧ -(2 ^ 62) ≤ j ∧ j < 2 ^ 62) ∧ R (Itd i (i - j).toNat) H1
theorem pi_range3 {a b c : Expr} {ta : TA} {p pos : Pos} (hg : Gl X "range") (hm : X.mg "range" = none) (ha : PA X [a, b, c] ta) (hs : starEach [a, b, c] X.env = (false, eval a X.env) :: starEach [b, c] X.env := by rfl) (hpl : (backTo pos (starEach [b, c] X.env)).any (·.1) = false := by rfl) :
    PI X tg (.Call (.Name "range" p) [a, b, c] [] pos) (iRngD ta) := by
  intro pins s σ H R I h
  refine Call_ (ld_blt I hg hm boot_range (PyProof.Rows.callWith_type1 (thn (ha pos pins s σ H _ I h) fun us s1 ⟨vs, H1, I1, r1, q1⟩ => ?_) hs hpl))
  obtain ⟨i, j, e, ⟨q1, q2, q3, q4⟩, q⟩ := q1
  subst e
  cases r1 with
  | cons r rr =>
    cases rr with
    | cons r' rr =>
      cases rr with
      | cons r'' rr =>
        cases rr
        obtain ⟨t, rfl⟩ := r
        obtain ⟨t', rfl⟩ := r'
        obtain ⟨t'', rfl⟩ := r''
        exact call_range_3 (by decide) (range_itD I1 q1 q2 q3 q4 q) (.inl (PyProof.noPylong_of_log2 (by decide +kernel)))
end
theorem for_down {lo : Int} {n : Nat} {g : TG} {tb : TS} {D : Ends} {σ : St} {H : Hp} (Pv : Nat → St → Hp → Prop) (h0 : Pv 0 σ H)
    (hs : ∀ i σ H, i < n → Pv i σ H → g (.int (lo - i)) σ H fun σ2 H2 => tb { D with nx := Pv (i + 1), ct := Pv (i + 1), bk := D.nx } σ2 H2) (hd : ∀ σ H, Pv n σ H → D.nx σ H) :
    ∃ W : Nat → Nat → St → Hp → Prop, (∃ m, W 0 m σ H) ∧ ∀ i m σ H, W i m σ H →
      ((Itd lo n).stop i H ∧ D.nx σ H) ∨ ((Itd lo n).go i H ∧ ∃ N : St → Hp → Prop, (∀ σ' H', N σ' H' → ∃ m', m' < m ∧ W (i + 1) m' σ' H') ∧ ∀ x H', (Itd lo n).yld i H x H' → g x σ H' fun σ2 H2 => tb { D with nx := N, ct := N, bk := D.nx } σ2 H2) := by
  refine ⟨fun i m σ H => m = n - i ∧ i ≤ n ∧ Pv i σ H, ⟨n, by simp, Nat.zero_le _, h0⟩, ?_⟩
  rintro i m σ H ⟨rfl, hi, p⟩
  by_cases hlt : i < n
  · refine .inr ⟨hlt, Pv (i + 1), fun σ' H' p' => ⟨n - (i + 1), by omega, rfl, hlt, p'⟩, fun x H' y => ?_⟩
    obtain ⟨e, y⟩ := y
    subst e y
    exact hs i σ _ hlt p
  · have e : i = n := by omega
    subst e
    exact .inl ⟨Nat.le_refl _, hd σ H p⟩
/-! ### for i, x in enumerate(xs) -/
def Ite (K : PySem.W.Frag) (a : Addr) : It :=
  ⟨fun i H => ∃ xs x, SqL K H a xs ∧ xs[i]? = some x,
   fun i H v H' => ∃ T, v = .ref T ∧ H T = none ∧ ∀ xs, SqL K H a xs → ∃ x, xs[i]? = some x ∧ H' = upd H T (.tup [.int (i : Int), x]),
   fun i H => ∃ xs, SqL K H a xs ∧ xs[i]? = none⟩
theorem turn_enum {P : Program} {w : World} {K : PySem.W.Frag} {es : List Expr} {tk : Nat} {tp : Pos} (e it a : Addr) (hne : e ≠ it) :
    Turn P w K (.Tuple es tk tp) (Ite K a) [e, it] e (fun i h => (∃ old, IsEnum h e it ((i : Nat) : Int) old) ∧ h.IsListIter it a i) where
  mem := by simp
  obj := fun i h st c hc => by
    obtain ⟨⟨old, he⟩, ⟨o1, e1, _, d1⟩⟩ := st
    simp only [List.mem_cons, List.not_mem_nil, or_false] at hc
    rcases hc with rfl | rfl
    · exact ⟨_, he, fun v q => by cases q⟩
    · exact ⟨_, e1, fun v q => by rw [d1] at q; cases q⟩
  keep := fun i h h' st k => by
    obtain ⟨⟨old, he⟩, h1⟩ := st
    exact ⟨⟨old, k e (by simp) _ he⟩, h1.at fun o e => k it (by simp) o e⟩
  item := by
    intro X hP hw hK hc i pins s σ H E I hf st hg
    subst hP hw hK
    obtain ⟨xs, x, hqa, hx⟩ := hg
    obtain ⟨its, rv, p, hz1⟩ := I.list hqa
    obtain ⟨u, hu, ru⟩ := rv.get hx
    obtain ⟨⟨old, he⟩, h1⟩ := st
    refine wpAny_pyNext_enum_item he h1 p.isList (x := u) (by simpa using hu) hne fun h' heo hit htup hsz hk => ?_
    refine ⟨_, rfl, wpAny_letOwnedTupleGo_enum heo fun h'' he'' hs'' => ?_⟩
    have Tz : s.heap.objs.size ≠ e := Nat.ne_of_gt (Heap.lt_size he)
    have Ti : s.heap.objs.size ≠ it := by
      obtain ⟨o, eo, _⟩ := h1
      exact Nat.ne_of_gt (Heap.lt_size eo)
    have kk : ∀ c o, c ∉ [e, it] → s.heap.get? c = some o → h''.get? c = some o := fun c o hc q => by
      simp only [List.mem_cons, List.not_mem_nil, or_false, not_or] at hc
      exact hs''.extBut c o hc.1 (hk c o hc.1 hc.2 q)
    have I1 : Inv X pins σ H { s with heap := h'', toks := s.toks + 1 } := I.turnedL (t' := s.toks + 1) kk hf
    have fT : FpOk X pins H s.heap.objs.size := I.fpOk (Nat.le_refl _) I.fresh
    have hT'' : h''.get? s.heap.objs.size = some { cls := .type "tuple", data := .seq #[.int i s.toks, u] } := hs''.extBut _ _ Tz htup
    have I2 : Inv X pins σ (upd H s.heap.objs.size (.tup [.int (i : Int), x])) { s with heap := h'', toks := s.toks + 1 } := I1.track fT I.sz ⟨by show 2 ≤ sizeLine; decide, [.int i s.toks, u], .cons ⟨_, rfl⟩ (.cons ru .nil), _, hT'', rfl, _, rfl⟩
    refine ⟨.ref s.heap.objs.size, _, I2, rfl, ⟨_, rfl, I.fresh, fun xs' hxs' => ⟨x, ?_, rfl⟩⟩, ⟨⟨u, ?_⟩, hit.extBut hs''.extBut hne.symm⟩, fun c hc => ?_⟩
    · rw [I.list_inj hxs' hqa]; exact hx
    · have e2 : ((i + 1 : Nat) : Int) = (i : Int) + 1 := by omega
      rw [e2]
      exact he''
    · have hlt : c < s.heap.objs.size := by
        simp only [List.mem_cons, List.not_mem_nil, or_false] at hc
        rcases hc with rfl | rfl
        · exact Heap.lt_size he
        · obtain ⟨o, eo, _⟩ := h1; exact Heap.lt_size eo
      rw [upd_ne (Nat.ne_of_lt hlt)]
      exact (hf c hc).1
  done := by
    intro X hP hw hK hc i pins s σ H E I hf st hg
    subst hP hw hK
    obtain ⟨xs, hqa, hend⟩ := hg
    obtain ⟨its, rv, p, hz1⟩ := I.list hqa
    obtain ⟨⟨old, he⟩, h1⟩ := st
    refine wpAny_pyNext_enum_end (I.ok.hd hc) he h1 p.isList (by simpa using rv.none_of hend) fun h' gk => ⟨rfl, I.turnedL (t' := s.toks) (ch := [e, it]) (fun c o hc q => ?_) hf⟩
    simp only [List.mem_cons, List.not_mem_nil, or_false, not_or] at hc
    exact gk c o hc.2 q
  self := fun _ _ _ _ _ st h => by
    obtain ⟨⟨old, he⟩, _⟩ := st
    exact wpAny_pyIter_enum he h
def iEnum (K : PySem.W.Frag) (ta : TA) : TI := fun σ H R => ta σ H fun vs H1 => ∃ a xs, vs = [.ref a] ∧ SqL K H1 a xs ∧ R (Ite K a) H1
theorem pi_enum {X : Cx} {es : List Expr} {tk : Nat} {tp : Pos} {a : Expr} {ta : TA} {p pos : Pos} (hm : X.mg "enumerate" = none) (ha : PA X [a] ta) (hg : Gl X "enumerate" := by rfl) (hs : starEach [a] X.env = [(false, eval a X.env)] := by rfl) :
    PI X (.Tuple es tk tp) (.Call (.Name "enumerate" p) [a] [] pos) (iEnum X.K ta) := by
  intro pins s σ H R I h
  refine Call_ (ld_blt I hg hm boot_enumerate (PyProof.Rows.callWith_type1 (thn (ha pos pins s σ H _ I h) fun us s1 ⟨vs, H1, I1, r1, q1⟩ => ?_) hs rfl))
  obtain ⟨l, xs, e, hqa, q⟩ := q1
  subst e
  obtain ⟨u, rfl, ru⟩ := r1.one
  cases ru
  obtain ⟨its, r, pl, hz⟩ := I1.list hqa
  refine call_enumerate_list pl.isList fun h' z1 z2 z3 zk => ?_
  refine wpAny_pyIter_enum (s := { s1 with heap := h' }) z1 ?_
  have I2 : Inv X pins σ H1 { s1 with heap := h' } := I1.kept (t' := s1.toks) zk
  refine ⟨_, _, _, _, H1, rfl, I2, turn_enum _ _ l (Nat.succ_ne_self _), ⟨⟨_, z1⟩, z2⟩, fun c hc => ?_, q⟩
  have hle : s1.heap.objs.size ≤ c := by
    simp only [List.mem_cons, List.not_mem_nil, or_false] at hc
    rcases hc with rfl | rfl
    · exact Nat.le_succ _
    · exact Nat.le_refl _
  exact I1.fpOk hle (I1.hok.fresh hle)
theorem for_enum {K : PySem.W.Frag} {a : Addr} {xs : List V} {g : TG} {tb : TS} {D : Ends} {σ : St} {H : Hp} (Pv : Nat → St → Hp → Prop) (h0 : Pv 0 σ H) (hl : ∀ i σ H, i ≤ xs.length → Pv i σ H → SqL K H a xs)
    (hs : ∀ i x T σ H, xs[i]? = some x → H T = none → Pv i σ H → g (.ref T) σ (upd H T (.tup [.int (i : Int), x])) fun σ2 H2 => tb { D with nx := Pv (i + 1), ct := Pv (i + 1), bk := D.nx } σ2 H2) (hd : ∀ σ H, Pv xs.length σ H → D.nx σ H) :
    ∃ W : Nat → Nat → St → Hp → Prop, (∃ m, W 0 m σ H) ∧ ∀ i m σ H, W i m σ H →
      ((Ite K a).stop i H ∧ D.nx σ H) ∨ ((Ite K a).go i H ∧ ∃ N : St → Hp → Prop, (∀ σ' H', N σ' H' → ∃ m', m' < m ∧ W (i + 1) m' σ' H') ∧ ∀ x H', (Ite K a).yld i H x H' → g x σ H' fun σ2 H2 => tb { D with nx := N, ct := N, bk := D.nx } σ2 H2) := by
  refine ⟨fun i m σ H => m = xs.length - i ∧ i ≤ xs.length ∧ Pv i σ H, ⟨xs.length, by simp, Nat.zero_le _, h0⟩, ?_⟩
  rintro i m σ H ⟨rfl, hi, p⟩
  have qa := hl i σ H hi p
  by_cases hlt : i < xs.length
  · refine .inr ⟨⟨xs, xs[i], qa, by simp [hlt]⟩, Pv (i + 1), fun σ' H' p' => ⟨xs.length - (i + 1), by omega, rfl, hlt, p'⟩, fun v H' y => ?_⟩
    obtain ⟨T, rfl, hT, k⟩ := y
    obtain ⟨x, hx, rfl⟩ := k xs qa
    exact hs i x T σ H hx hT p
  · have e : i = xs.length := by omega
    subst e
    exact .inl ⟨⟨xs, qa, by simp⟩, hd σ H p⟩
/-! ### xs.index(k), ints -/
section
variable {X : Cx}
def isI (k : Int) : Value → Bool
  | .int a _ => a == k
  | _ => false
theorem valsI_at {ns : List Int} {its : List Value} (r : Vals (ns.map V.int) its) : ∀ (j : Nat) (u : Value), its[j]? = some u → ∃ t a, ns[j]? = some a ∧ u = .int a t := by
  intro j u hu
  have hl := r.length
  have hj : j < its.length := (List.getElem?_eq_some_iff.mp hu).1
  have hj' : j < ns.length := by rw [List.length_map] at hl; omega
  have h1 : (ns.map V.int)[j]? = some (V.int ns[j]) := by rw [List.getElem?_map, List.getElem?_eq_getElem hj']; rfl
  obtain ⟨u', hu', ru⟩ := r.get h1
  rw [hu] at hu'
  cases hu'
  obtain ⟨t, rfl⟩ := ru
  exact ⟨t, ns[j], List.getElem?_eq_getElem hj', rfl⟩
def rIndex : V → List V → Hp → VK → Prop := fun x vs H Q => ∃ (l : Addr) (ns : List Int) (k : Int), x = .ref l ∧ vs = [.int k] ∧ H l = some (.lst (ns.map V.int)) ∧ k ∈ ns ∧ Q (.int ((ns.idxOf k : Nat) : Int)) H
theorem mt_index : MtM X "list.index" rIndex := by
  intro pins s σ H x vs v us Q I rx rv h
  obtain ⟨l, ns, k, rfl, rfl, hH, hk, q⟩ := h
  cases rx
  obtain ⟨u, rfl, ru⟩ := rv.one
  obtain ⟨t, rfl⟩ := ru
  obtain ⟨z, its, n, r, hl, e⟩ := I.lstM hH
  have hi := valsI_at r
  have hj : ns.idxOf k < ns.length := List.idxOf_lt_length_of_mem hk
  have hl' : ns.length = its.length := by rw [List.length_map] at hl; exact hl
  have h63 := line63
  rw [List.length_map] at z
  refine call_meets F.slot_list_index ⟨_, e, rfl⟩ F.entry_list_index (F.args_list_index_2 _ _)
    (MeetsSeq.list_index l its.toArray n (.int k t) (isI k) (fun y hy => ?_) (ns.idxOf k) (by simp; omega) (by omega) ?_ (fun m hm hlt => ?_)) ⟨e, ?_⟩
  · obtain ⟨j, hj2, rfl⟩ := List.getElem_of_mem (by simpa using hy : y ∈ its)
    obtain ⟨t', a, _, e2⟩ := hi j _ (List.getElem?_eq_getElem hj2)
    rw [e2]
    exact MeetsSeq.EqGives.int a k t' t
  · obtain ⟨t', a, ha, e2⟩ := hi (ns.idxOf k) (its[ns.idxOf k]'(by omega)) (List.getElem?_eq_getElem (by omega))
    show isI k its[ns.idxOf k] = true
    rw [e2]
    rw [List.getElem?_eq_getElem hj] at ha
    cases ha
    show (ns[ns.idxOf k] == k) = true
    rw [List.getElem_idxOf hj]
    exact beq_self_eq_true k
  · have hm' : m < its.length := by simpa using hm
    obtain ⟨t', a, ha, e2⟩ := hi m (its[m]) (List.getElem?_eq_getElem hm')
    show isI k its[m] = false
    rw [e2]
    show (a == k) = false
    have hm2 : m < ns.length := by omega
    rw [List.getElem?_eq_getElem hm2] at ha
    cases ha
    have := List.not_of_lt_findIdx (p := (· == k)) (xs := ns) (i := m) hlt
    simpa using this
  · exact ⟨.int _, H, I.tok _, ⟨_, rfl⟩, q⟩
end
/-! ### != of two lists of lists whose contents are alike -/
section
variable {X : Cx}
def ctOf (H : Hp) (p : Addr) : List V := match H p with
  | some (.lst xs) => xs
  | _ => []
theorem ctOf_eq {H : Hp} {p : Addr} {xs : List V} (h : H p = some (.lst xs)) : ctOf H p = xs := by
  unfold ctOf
  rw [h]
def eqCt (ct : Addr → List V) : V → V → Bool
  | .ref p, .ref q => eqVs (ct p) (ct q)
  | _, _ => false
theorem eqBy_ct {ct : Addr → List V} : ∀ {ps qs : List Addr}, ps.map ct = qs.map ct → (∀ p ∈ ps, (ct p).all flatV = true) → eqBy (eqCt ct) (ps.map V.ref) (qs.map V.ref) = true
  | [], [], _, _ => rfl
  | [], _ :: _, h, _ => by cases h
  | _ :: _, [], h, _ => by cases h
  | p :: ps, q :: qs, h, f => by
    rw [List.map_cons, List.map_cons, List.cons.injEq] at h
    have ih := eqBy_ct h.2 fun p hp => f p (List.mem_cons_of_mem _ hp)
    show (eqVs (ct p) (ct q) && eqBy (eqCt ct) (ps.map V.ref) (qs.map V.ref)) = true
    rw [ih, ← h.1, eqVs_self (f p List.mem_cons_self)]
    rfl
def rNeLL (K : PySem.W.Frag) : R2 := fun x y H Q => ∃ (a b : Addr) (ps qs : List Addr) (ct : Addr → List V), x = .ref a ∧ y = .ref b ∧ SqL K H a (ps.map V.ref) ∧ SqL K H b (qs.map V.ref) ∧ (∀ p, p ∈ ps ∨ p ∈ qs → SqL K H p (ct p) ∧ (ct p).all flatV = true) ∧ ps.map ct = qs.map ct ∧ Q (.bl false) H
theorem op_neLL (hu : X.A.units + 1 < cLine) : OpR X (compareOp .NotEq) (rNeLL X.K) := by
  intro pins s σ H x y v u Q I rx ry h
  obtain ⟨a, b, ps, qs, ct, rfl, rfl, ha, hb, hc, he, q⟩ := h
  cases rx
  cases ry
  have h1 := rcNe_lists (A := X.A) (e := eqCt ct) I ha hb (fun x hx y hy u v ru rv => by
    obtain ⟨p, hp, rfl⟩ := List.mem_map.mp hx
    obtain ⟨r, hr, rfl⟩ := List.mem_map.mp hy
    cases ru
    cases rv
    obtain ⟨sp, fp⟩ := hc p (.inl hp)
    obtain ⟨sr, fr⟩ := hc r (.inr hr)
    show SeqAt.EqAt X.A.in1 s (.ref p) (.ref r) (eqVs (ct p) (ct r))
    by_cases e : p = r
    · subst e
      rw [eqVs_self fp]
      exact SeqAt.EqAt.same _
    · have h2 := rc_lists (A := X.A.in1) I sp sr (flat_eqAt fp fr) hu
      rw [eqBy_eqV] at h2
      exact SeqAt.EqAt.of_refs e h2) (by omega)
  rw [eqBy_ct he fun p hp => (hc p (.inl hp)).2] at h1
  exact h1 X.prog X.w X.xe _ ⟨.bl _, H, I, rfl, q⟩
end
end L2

set_option Elab.async false
set_option linter.all false
set_option maxRecDepth 100000
namespace L2
open PySem PySem.Spec PyProof.Rows
/-! ### an error on its way: its object (its context stays empty), its trace, what stays below it -/
def ErrAt (h : Heap) (e : Addr) (C tb : Value) : Prop := ∃ (oe : Obj) (vs : Array Value), h.get? e = some oe ∧ (oe.cls = C ∧ oe.dict = none) ∧ oe.data = .fields vs ∧ vs[1]? = some tb ∧ vs[2]? = some .none
def TbAt (h B : Heap) (e T : Addr) (fl : Value) : Prop := B.get? T = none ∧ T ≠ e ∧ ∃ (oT : Obj) (ts : Array Value), h.get? T = some oT ∧ oT.data = .fields ts ∧ ts[3]? = some fl
def Fly (B : Heap) (l : List Env) (e : Addr) (C fl : Value) (h : Heap) : Prop := B.StaysIn h ∧ B.get? e = none ∧ h.FunFrames B l ∧ ∃ T, ErrAt h e C (.ref T) ∧ TbAt h B e T fl
theorem dict_mapF (f : Array Value → Array Value) (o : Obj) : (Obj.mapFields f o).dict = o.dict := by
  unfold Obj.mapFields
  split <;> rfl
section
variable {M : Model} {A : Around} {E : Value → Shared → Prop} {s : Shared}
theorem ErrAt.data {h : Heap} {e : Addr} {C tb : Value} (x : ErrAt h e C tb) {b : Addr} {o : Obj} (hb : h.get? b = some o) (hn : ∀ vs, o.data ≠ .fields vs) : b ≠ e := by
  obtain ⟨oe, vs, he, _, hd, _⟩ := x
  intro q
  subst q
  rw [he] at hb
  cases hb
  exact hn vs hd
theorem entry_run {B : Heap} {env : Env} {outer : List Env} {L e : Addr} {C tb head : Value} {nx : Bool} {Q : Unit → Shared → Prop} (hfr : A.frames = some (env :: outer)) (hf : env.frame = some L)
    (kb : B.StaysIn s.heap) (ne : B.get? e = none) (fr : s.heap.FunFrames B (env :: outer)) (x : ErrAt s.heap e C tb)
    (hQ : ∀ h', Fly B (env :: outer) e C (rawInt L) h' → s.heap.UpToSlots h' → Q () { s with heap := h' }) :
    wpAny M A (do let a ← frameOf env; let pl ← entryPlaceOf L nx; let b ← EntryCells.newEntry head a .none (rawInt L) .none pl; setField (.ref e) 1 b) Q E s := by
  obtain ⟨oe, vs, he, hc, hd, h1, h2⟩ := id x
  have hz : 1 < vs.size := (Array.getElem?_eq_some_iff.mp h1).1
  have enf : e ∉ (env :: outer).filterMap (·.frame) := fun hm => by
    obtain ⟨_, o, ho, hn⟩ := fr.mem hm
    exact x.data ho hn rfl
  refine wpAny_bind (wpAny_frameOf_fun hfr fr hf fun g hg => wpAny_bind (wpAny_entryPlaceOf fun pl hpl => ?_))
  unfold EntryCells.newEntry newFields
  refine wpAny_bind (wpAny_newObj_type ?_ (hpl.sizeOk5 _ _ _ _ _))
  have eg : g.get? e = some oe := (hg.2.1 e enf).trans he
  have bg : B.StaysIn g := fun b o hb => (hg.2.1 b fun hm => by rw [(fr.mem hm).1] at hb; cases hb).trans (kb b o hb)
  have nT : g.objs.size ≠ e := Nat.ne_of_gt (Heap.lt_size eg)
  refine wpAny_setField (Heap.get?_push_of_some _ eg) hd hz (hQ _ ?_ ?_)
  · refine ⟨fun b o hb => ?_, ne, fr.of_keeps fun b o hb hn => ?_, g.objs.size, ⟨_, _, Heap.get?_update_self _ (Heap.get?_push_of_some _ eg) (Obj.isFreed_of_fields (Obj.data_mapFields hd _)), ⟨(Obj.cls_mapFields _ _).trans hc.1, (dict_mapF _ _).trans hc.2⟩, Obj.data_mapFields hd _, by simp [hz], ?_⟩, bg.fresh, nT, _, _, (Heap.get?_update_other _ _ (Ne.symm nT)).trans (Heap.get?_push_size g rfl), rfl, ?_⟩
    · rw [Heap.get?_update_other _ _ (fun q => by rw [← q, ne] at hb; cases hb)]
      exact Heap.get?_push_of_some _ (bg b o hb)
    · obtain ⟨sl, hs⟩ := hg.2.2 b o hb
      refine ⟨{ o with slots := sl }, ?_, rfl⟩
      rw [Heap.get?_update_other _ _ (Ne.symm (x.data hb hn))]
      exact Heap.get?_push_of_some _ hs
    · rw [Array.getElem?_setIfInBounds_ne (by decide)]
      exact h2
    · first
        | (simp; done)
        | (rcases hpl with rfl | ⟨_, _, _, _, _, _, _, rfl⟩ <;> simp)
  · intro b o hb hn
    obtain ⟨sl, hs⟩ := hg.2.2 b o hb
    refine ⟨sl, ?_⟩
    rw [Heap.get?_update_other _ _ (Ne.symm (x.data hb hn))]
    exact Heap.get?_push_of_some _ hs
/-- the trace's flag is set -/
theorem flag_keep {B : Heap} {l : List Env} {e T : Addr} {C fl f2 : Value} {h : Heap} (kb : B.StaysIn h) (ne : B.get? e = none) (fr : h.FunFrames B l) (x : ErrAt h e C (.ref T)) (t : TbAt h B e T fl) :
    Fly B l e C f2 (h.update T (Obj.mapFields (·.setIfInBounds 3 f2))) ∧ h.UpToSlots (h.update T (Obj.mapFields (·.setIfInBounds 3 f2))) ∧ ErrAt (h.update T (Obj.mapFields (·.setIfInBounds 3 f2))) e C (.ref T) := by
  obtain ⟨nT, hTe, oT, ts, hT, hdT, h3⟩ := t
  have hz : 3 < ts.size := (Array.getElem?_eq_some_iff.mp h3).1
  have oth : ∀ b o, b ≠ T → h.get? b = some o → (h.update T (Obj.mapFields (·.setIfInBounds 3 f2))).get? b = some o := fun b o hb q => (Heap.get?_update_other _ _ (Ne.symm hb)).trans q
  have rec_ : ∀ b o, h.get? b = some o → (∀ vs, o.data ≠ .fields vs) → b ≠ T := fun b o hb hn q => by
    subst q
    rw [hT] at hb
    cases hb
    exact hn ts hdT
  obtain ⟨oe, vs, he, hc, hd, h1, h2⟩ := x
  have x' : ErrAt (h.update T (Obj.mapFields (·.setIfInBounds 3 f2))) e C (.ref T) := ⟨oe, vs, oth e oe (Ne.symm hTe) he, hc, hd, h1, h2⟩
  exact ⟨⟨fun b o hb => oth b o (fun q => by rw [q, nT] at hb; cases hb) (kb b o hb), ne, fr.of_keeps fun b o hb hn => ⟨o, oth b o (rec_ b o hb hn) hb, rfl⟩, T, x', nT, hTe, _, _, Heap.get?_update_self _ hT (Obj.isFreed_of_fields (Obj.data_mapFields hdT _)), Obj.data_mapFields hdT _, by simp [hz]⟩,
    fun b o hb hn => ⟨o.slots, oth b o (rec_ b o hb hn) hb⟩, x'⟩
theorem note_new {B : Heap} {env : Env} {outer : List Env} {L e : Addr} {C : Value} {Q : Unit → Shared → Prop} (hfr : A.frames = some (env :: outer)) (hf : env.frame = some L)
    (kb : B.StaysIn s.heap) (ne : B.get? e = none) (fr : s.heap.FunFrames B (env :: outer)) (x : ErrAt s.heap e C .none)
    (hQ : ∀ h', Fly B (env :: outer) e C (rawInt L) h' → s.heap.UpToSlots h' → Q () { s with heap := h' }) : wpAny M A (noteFrame (.ref e) env) Q E s := by
  obtain ⟨oe, vs, he, hc, hd, h1, h2⟩ := id x
  unfold noteFrame
  simp only [hf]
  refine wpAny_bind (wpAny_field he hd h1 ?_)
  rw [if_neg (by decide)]
  exact entry_run hfr hf kb ne fr x hQ
theorem note_on {B : Heap} {env : Env} {outer : List Env} {L e : Addr} {C : Value} {Q : Unit → Shared → Prop} (hfr : A.frames = some (env :: outer)) (hf : env.frame = some L) (x : Fly B (env :: outer) e C .none s.heap)
    (hQ : ∀ h', Fly B (env :: outer) e C (rawInt L) h' → s.heap.UpToSlots h' → Q () { s with heap := h' }) : wpAny M A (noteFrame (.ref e) env) Q E s := by
  obtain ⟨kb, ne, fr, T, x, t⟩ := x
  obtain ⟨oe, vs, he, hc, hd, h1, h2⟩ := id x
  obtain ⟨nT, hTe, oT, ts, hT, hdT, h3⟩ := id t
  unfold noteFrame
  simp only [hf]
  refine wpAny_bind (wpAny_field he hd h1 ?_)
  rw [if_pos (show (Value.ref T != Value.none) = true from by simp)]
  refine wpAny_bind (wpAny_field hT hdT h3 ?_)
  rw [if_neg (show ¬ ((Value.none == rawInt L) = true) from by simp [rawInt])]
  obtain ⟨k, u, x'⟩ := flag_keep (f2 := .none) kb ne fr x t
  refine wpAny_bind (wpAny_setField hT hdT (Array.getElem?_eq_some_iff.mp h3).1 ?_)
  exact entry_run (s := { s with heap := s.heap.update T (Obj.mapFields (·.setIfInBounds 3 Value.none)) }) hfr hf k.1 k.2.1 k.2.2.1 x' fun h' f g => hQ h' f (u.trans g)
theorem land_run {B : Heap} {l : List Env} {e : Addr} {C fl : Value} {Q : Unit → Shared → Prop} (x : Fly B l e C fl s.heap)
    (hQ : ∀ h', Fly B l e C .none h' → s.heap.UpToSlots h' → Q () { s with heap := h' }) : wpAny M A (setFlight (.ref e) none) Q E s := by
  obtain ⟨kb, ne, fr, T, x, t⟩ := x
  obtain ⟨oe, vs, he, hc, hd, h1, h2⟩ := id x
  obtain ⟨nT, hTe, oT, ts, hT, hdT, h3⟩ := id t
  unfold setFlight
  refine wpAny_bind (wpAny_field he hd h1 ?_)
  rw [if_pos (show (Value.ref T != Value.none) = true from by simp)]
  obtain ⟨k, u, x'⟩ := flag_keep (f2 := .none) kb ne fr x t
  exact wpAny_setField hT hdT (Array.getElem?_eq_some_iff.mp h3).1 (hQ _ k u)
theorem Fly.pop {B : Heap} {env : Env} {outer : List Env} {e : Addr} {C fl : Value} {h : Heap} (x : Fly B (env :: outer) e C fl h) : Fly B outer e C fl h := ⟨x.1, x.2.1, x.2.2.1.2.2, x.2.2.2⟩
theorem leave_new {B : Heap} {env : Env} {outer : List Env} {L e : Addr} {C : Value} {Q : Unit → Shared → Prop} (hfr : A.frames = some (env :: outer)) (hf : env.frame = some L)
    (kb : B.StaysIn s.heap) (ne : B.get? e = none) (fr : s.heap.FunFrames B (env :: outer)) (x : ErrAt s.heap e C .none)
    (hQ : ∀ h', Fly B (env :: outer) e C .none h' → s.heap.UpToSlots h' → Q () { s with heap := h' }) : wpAny M A (leaving env (.ref e)) Q E s := by
  unfold leaving
  refine wpAny_bind (note_new hfr hf kb ne fr x fun h' f u => ?_)
  exact land_run (s := { s with heap := h' }) f fun h2 f2 u2 => hQ h2 f2 (u.trans u2)
theorem leave_on {B : Heap} {env : Env} {outer : List Env} {L e : Addr} {C : Value} {Q : Unit → Shared → Prop} (hfr : A.frames = some (env :: outer)) (hf : env.frame = some L) (x : Fly B (env :: outer) e C .none s.heap)
    (hQ : ∀ h', Fly B (env :: outer) e C .none h' → s.heap.UpToSlots h' → Q () { s with heap := h' }) : wpAny M A (leaving env (.ref e)) Q E s := by
  unfold leaving
  refine wpAny_bind (note_on hfr hf x fun h' f u => ?_)
  exact land_run (s := { s with heap := h' }) f fun h2 f2 u2 => hQ h2 f2 (u.trans u2)
end
end L2

set_option Elab.async false
set_option linter.all false
set_option maxRecDepth 100000
namespace L2
open PySem PySem.Spec PyProof.Rows
/-! ### an error that leaves a def -/
def CX1 (P : Program) (w : World) : CXT := fun outer H s E e s' => ∃ (a C : Addr) (H' : Hp) (B : Heap), e = .ref a ∧ s'.os = s.os ∧ AllBare s'.gens ∧ Un (frs outer) [] H H' s.heap s'.heap ∧ HOk P w H' s'.heap ∧ H' a = none ∧
  Fly B outer a (.ref C) .none s'.heap ∧ (∀ b u, H' b = some u → ∃ o, B.get? b = some o) ∧ (∀ b o, s.heap.get? b = some o → b ∉ frs outer → ∃ o', B.get? b = some o') ∧ E (.ref C) none H'
theorem ObjOk.have {P : Program} {w : World} {H : Hp} {h : Heap} {a : Addr} {o : HO} (x : ObjOk P w H h a o) : ∃ ob, h.get? a = some ob := by
  cases o with
  | lst xs => obtain ⟨_, _, _, _, e⟩ := x; exact ⟨_, e⟩
  | tup xs => obtain ⟨_, _, _, _, e, _⟩ := x; exact ⟨_, e⟩
  | dK kvs => obtain ⟨_, _, _, _, o, _, _, e, _⟩ := x; exact ⟨_, e⟩
  | dT kvs => obtain ⟨_, _, _, _, o, _, _, e, _⟩ := x; exact ⟨_, e⟩
  | set S n => obtain ⟨o, _, _, _, e, _⟩ := x; exact ⟨_, e⟩
  | ins C dx fs => obtain ⟨_, _, _, e, _⟩ := x; exact ⟨_, e⟩
  | own y => exact x
  | xd fs => obtain ⟨_, ⟨_, _, _, e, _⟩, _⟩ := x; exact ⟨_, e⟩
  | rng lo hi => obtain ⟨_, _, _, e⟩ := x; exact ⟨_, e⟩
  | frz ob u => exact ⟨_, x.1⟩
  | tbl ps => exact ⟨_, (show h.get? a = some _ from x)⟩
  | met f y => exact ⟨_, (show h.get? a = some _ from x)⟩
  | ext φ => exact x.2.1
section
variable {P : Program} {w : World} {B h h' : Heap} {H H0 : Hp} {h0 : Heap} {fs : List Addr}
/-- what is tracked stays tracked while an error goes on -/
theorem hok_on (ok : HOk P w H h) (kb : B.StaysIn h) (kb' : B.StaysIn h') (ct : ∀ b u, H b = some u → ∃ o, B.get? b = some o) : HOk P w H h' := fun a o e =>
  (ok a o e).stay (fun b u hb q => by
    have ht : ∃ v, H b = some v := by
      rcases hb with rfl | hb
      · exact ⟨_, e⟩
      · exact ⟨_, hb⟩
    obtain ⟨v, hv⟩ := ht
    obtain ⟨o2, h2⟩ := ct b v hv
    have := kb b o2 h2
    rw [q] at this
    cases this
    exact kb' b u h2) (fun _ q => q) fun _ _ q => q
theorem un_on (u : Un fs [] H0 H h0 h) (kb : B.StaysIn h) (kb' : B.StaysIn h') (cu : ∀ b o, h0.get? b = some o → b ∉ fs → ∃ o', B.get? b = some o') (up : h.UpToSlots h') (nf : ∀ b ∈ fs, ∃ o, h.get? b = some o ∧ ∀ vs, o.data ≠ .fields vs) : Un fs [] H0 H h0 h' where
  keep := fun b o q n hb hx => by
    have h1 := u.keep b o q n hb hx
    obtain ⟨o2, h2⟩ := cu b o q hb
    have := kb b o2 h2
    rw [h1] at this
    cases this
    exact kb' b o h2
  slot := fun b o q n hb hx => by
    obtain ⟨sl, h1⟩ := u.slot b o q n hb hx
    obtain ⟨o2, h2, hn⟩ := nf b hb
    rw [h1] at h2
    cases h2
    obtain ⟨sl2, h3⟩ := up b _ h1 hn
    exact ⟨sl2, h3⟩
  free := u.free
  there := fun b o q hx => by
    by_cases hb : b ∈ fs
    · obtain ⟨o2, h2, hn⟩ := nf b hb
      obtain ⟨sl2, h3⟩ := up b _ h2 hn
      exact ⟨_, h3⟩
    · obtain ⟨o2, h2⟩ := cu b o q hb
      exact ⟨o2, kb' b o2 h2⟩
  tups := u.tups
  frzs := u.frzs
  tbls := u.tbls
end
section
variable {P : Program} {w : World} {K : PySem.W.Frag} {mg : Str → Option Value} {base B h' : Heap} {N : List Str} {qual : Str} {scope : Scope} {f a C : Addr} {cd : Value} {A : Around} {outer : List Env} {s s1 : Shared} {H H' : Hp} {E : XK} {pins : List (Addr × Obj)} {σ : St}
theorem cx1_after (J : Inv (cxOf (CX1 P w) P w K mg base N qual scope f cd A outer s H E) pins σ H' s1) (kb : B.StaysIn s1.heap) (ct : ∀ b u, H' b = some u → ∃ o, B.get? b = some o)
    (cu : ∀ b o, s.heap.get? b = some o → b ∉ frs outer → ∃ o', B.get? b = some o') (na : H' a = none) (fl : Fly B (envOfC qual scope s.heap.objs.size f cd :: outer) a (.ref C) .none h') (up : s1.heap.UpToSlots h') (e : E (.ref C) none H') :
    CX1 P w outer H s E (.ref a) { s1 with heap := h' } :=
  ⟨a, C, H', B, rfl, J.os, J.bare, un_on J.base kb fl.1 cu up (fun b hb => (J.funs.mem hb).2), hok_on J.hok kb fl.1 ct, na, fl.pop, ct, cu, e⟩
/-- an error of a callee goes on -/
theorem pass1 : Passes (CX1 P w) (cxOf (CX1 P w) P w K mg base N qual scope f cd A outer s H E) E := by
  intro pins σ H1 s1 e s' I h
  obtain ⟨a, C, H', B, rfl, os, bare, un, hok, na, fl, ct, cu, hE⟩ := h
  have J : Inv (cxOf (CX1 P w) P w K mg base N qual scope f cd A outer s H E) pins σ H' s' := I.call' os un hok bare fun b z => absurd z (by simp)
  refine leave_on (outer := outer) I.ok.frames rfl fl fun h' f2 up => cx1_after J fl.1 ct (fun b o q hb => ?_) na f2 up hE
  obtain ⟨o1, q1⟩ := I.base.there b o q (by intro z; cases z)
  refine cu b o1 q1 fun z => ?_
  rcases List.mem_cons.mp (I.stkSub b z) with rfl | z
  · exact absurd (Nat.lt_of_lt_of_le (Heap.lt_size q) I.ok.above) (Nat.lt_irrefl _)
  · exact hb z
/-- an error is made here -/
theorem made1 {s2 : Shared} {args : List Value} (I : Inv (cxOf (CX1 P w) P w K mg base N qual scope f cd A outer s H E) pins σ H' s1) (hs : s2 = { s1 with heap := s2.heap }) (m : Heap.MadeExcOf s1.heap s2.heap a (.ref C) args) (e : E (.ref C) none H') :
    (cxOf (CX1 P w) P w K mg base N qual scope f cd A outer s H E).xe (.ref a) s2 := by
  obtain ⟨h2, g2, d2, t2, o2⟩ := s2
  cases hs
  obtain ⟨t, he, _⟩ := m.there
  have hB : ∀ {b o}, (PySem.W.hideAll s1.heap (frs (envOfC qual scope s.heap.objs.size f cd :: outer))).get? b = some o → s1.heap.get? b = some o := fun h => PySem.W.of_hideAll _ h
  have kb : (PySem.W.hideAll s1.heap (frs (envOfC qual scope s.heap.objs.size f cd :: outer))).StaysIn h2 := fun b o h => m.keeps b o (hB h)
  have na : H' a = none := by
    cases q : H' a with
    | none => rfl
    | some u =>
      obtain ⟨ob, h⟩ := (I.hok a u q).have
      rw [m.new] at h
      cases h
  have J : Inv (cxOf (CX1 P w) P w K mg base N qual scope f cd A outer s H E) pins σ H' { s1 with heap := h2 } := I.call' (ch := []) rfl (Un.kept m.keeps) (I.hok.kept m.keeps) I.bare fun b z => by cases z
  have nb : (PySem.W.hideAll s1.heap (frs (envOfC qual scope s.heap.objs.size f cd :: outer))).get? a = none := by
    cases q : (PySem.W.hideAll s1.heap (frs (envOfC qual scope s.heap.objs.size f cd :: outer))).get? a with
    | none => rfl
    | some o =>
      have := hB q
      rw [m.new] at this
      cases this
  have fr : h2.FunFrames (PySem.W.hideAll s1.heap (frs (envOfC qual scope s.heap.objs.size f cd :: outer))) (envOfC qual scope s.heap.objs.size f cd :: outer) := by
    have f1 := PySem.W.funFrames_hide (as := frs (envOfC qual scope s.heap.objs.size f cd :: outer)) (show s1.heap.FunFrames base (envOfC qual scope s.heap.objs.size f cd :: outer) from I.stack) (fun env he b hb => List.mem_filterMap.mpr ⟨env, he, hb⟩)
    exact f1.of_keeps fun b o hb _ => ⟨o, m.keeps b o hb, rfl⟩
  refine leave_new (outer := outer) (B := PySem.W.hideAll s1.heap (frs (envOfC qual scope s.heap.objs.size f cd :: outer))) (s := { s1 with heap := h2 }) I.ok.frames rfl kb nb fr ⟨_, _, he, ⟨rfl, rfl⟩, rfl, rfl, rfl⟩ fun h' f2 up => ?_
  refine cx1_after J kb (fun b u q => ?_) (fun b o q hb => ?_) na f2 up e
  · obtain ⟨ob, h⟩ := (I.hok b u q).have
    refine ⟨ob, PySem.W.hideAll_get _ h fun z => ?_⟩
    have := I.stkFree b z
    rw [q] at this
    cases this
  · obtain ⟨o1, q1⟩ := I.base.there b o q (by intro z; cases z)
    refine ⟨o1, PySem.W.hideAll_get _ q1 fun z => ?_⟩
    rcases List.mem_cons.mp (I.stkSub b z) with rfl | z
    · exact absurd (Nat.lt_of_lt_of_le (Heap.lt_size q) I.ok.above) (Nat.lt_irrefl _)
    · exact hb z
end
/-! ### raise -/
abbrev mroV : List Value := [.type "ValueError", .type "Exception", .type "BaseException", .type "object"]
abbrev ErrC (K : PySem.W.Frag) (mg : Str → Option Value) (base : Heap) (x : Str) (C : Addr) : Prop := OwnCls x C mroV "ValueError.__new__" mg base
def tRaise (C : Addr) (E : XK) (ta : TA) : TS := fun _ σ H => ta σ H fun vs H1 => vs.length = 1 ∧ E (.ref C) none H1
def Makes (X : Cx) (E : XK) : Prop := ∀ (C a : Addr) (pins : List (Addr × Obj)) (σ : St) (H : Hp) (s s2 : Shared) (args : List Value), Inv X pins σ H s → s2 = { s with heap := s2.heap } → Heap.MadeExcOf s.heap s2.heap a (.ref C) args → E (.ref C) none H → X.xe (.ref a) s2
theorem ps_raise {X : Cx} {C : Addr} {E : XK} {x : Str} {e : Expr} {ta : TA} {np cpos pos : Pos} (hx : Makes X E) (O : ErrC X.K X.mg X.base x C) (hg : Gl X x) (ha : PA X [e] ta) (hh : X.calm = true := by rfl) (hd : (x == ("__debug__" : Str)) = false := by decide)
    (hs : starEach [e] X.env = [(false, eval e X.env)] := by rfl) : PS X (.Raise (some (.Call (.Name x np) [e] [] cpos)) none pos) (tRaise C E ta) := by
  intro pins s σ H D I h
  obtain ⟨hm, bm, ns, nm, qn, bs, hdct, sn, sub, ab, col, dd, k0, k1, k2, k3, k5, mN, hC, hN, hi, hT⟩ := O
  refine wpAny_Raise_call_subT (C := C) (nm := nm) (q := qn) (N := ns) (bs := bs) (bm := bm) (hdct := hdct) (sn := sn) (sub := sub) (ab := ab) (col := col) (dd := dd) (k0 := k0) (k1 := k1) (k2 := k2) (k3 := k3) (k5 := k5) F.excBase_ValueError (hT.hasType (by decide)) (I.ok.hd hh) (by rw [hs]; rfl) hi (ld_glob I hg hm ⟨rfl, ?_⟩ hd)
  have hp := ha cpos pins s σ H _ I h
  rw [hs] at hp ⊢
  refine PySem.Calls.evalArgs_plain (wpAny_mono hp (fun us s1 ⟨vs, H1, I1, r, l, q⟩ => ?_) fun _ _ z => z)
  refine ⟨rfl, ?_, I1.bk _ _ hC, hN.keeps I1.bk, hT.keeps I1.bk, fun h' a m => hx C a pins σ H1 s1 _ _ I1 rfl m q⟩
  rw [← r.length, l]
  decide
end L2

set_option Elab.async false
set_option linter.all false
set_option maxRecDepth 100000
namespace L2
open PySem PySem.Spec PyProof.Rows
/-! ### the words of an error: an f-string whose text is not looked at -/
abbrev TF := St → Hp → (Hp → Prop) → Prop
def PF (X : Cx) (es : List Expr) (n : Nat) (t : TF) : Prop := ∀ (pins : List (Addr × Obj)) (s : Shared) (σ : St) (H : Hp) (Q : Hp → Prop) (acc : Str), Inv X pins σ H s → t σ H Q → acc.length + n ≤ sizeLine →
  Joins (model X.prog X.w) X.A X.xe (evalEach es X.env) acc (fun out s' => out.length ≤ sizeLine ∧ ∃ H', Inv X pins σ H' s' ∧ Q H') s
section
variable {X : Cx} {es : List Expr} {n : Nat} {t : TF}
theorem pf_nil : PF X [] 0 (fun _ H Q => Q H) := fun pins s σ H Q acc I h hz => ⟨hz, H, I, h⟩
theorem pf_str {x : Str} {j pos} (hr : PF X es n t) : PF X (.Constant (.str x) j pos :: es) (x.length + n) t := by
  intro pins s σ H Q acc I h hz
  refine Calls.Constant_str ⟨x, _, rfl, ?_, hr pins _ σ H Q (acc ++ x) (I.tok _) h ?_⟩
  · rw [strLen_append]
    omega
  · rw [strLen_append]
    omega
theorem pf_int {e : Expr} {te : TE} {pos : Pos} (he : PE X e te) (hr : PF X es n t) : PF X (.FormattedValue e (-1) none pos :: es) (1921 + n) (fun σ H Q => te σ H fun v H1 => ∃ i : Int, v = .int i ∧ i.natAbs.log2 < 1920 ∧ t σ H1 Q) := by
  intro pins s σ H Q acc I h hz
  show wpAny _ _ (eval (.FormattedValue e (-1) none pos) X.env) _ _ s
  refine wpAny_FormattedValue_plain (wpAny_mono (he pins s σ H _ I h) (fun u s1 ⟨v, H1, I1, rv, i, ev, hd, q⟩ => ?_) fun _ _ z => z)
  subst ev
  obtain ⟨tk, rfl⟩ := rv
  have hl : (Str.ofString (toString i)).length ≤ 1921 := by
    rw [PySem.ofString_length]
    exact int_text_length_le (k := 1920) (by decide) hd
  refine wpAny_formatField_int hd ⟨_, _, rfl, ?_, hr pins _ σ H1 Q _ (I1.tok _) q ?_⟩
  · rw [strLen_append]
    omega
  · rw [strLen_append]
    omega
def tFmt (t : TF) : TE := fun σ H Q => t σ H fun H1 => ∀ x : Str, Q (.str x) H1
theorem pe_fmt {v₁ v₂ : Expr} {rest : List Expr} {pos : Pos} (h : PF X (v₁ :: v₂ :: rest) n t) (hz : n ≤ 10000000 := by decide) : PE X (.JoinedStr (v₁ :: v₂ :: rest) pos) (tFmt t) := by
  intro pins s σ H Q I q
  have hj := h pins s σ H _ Str.empty I q (by
    have : (Str.empty).length = 0 := rfl
    rw [this]
    have : sizeLine = 16777216 := by decide
    omega)
  refine wpAny_JoinedStr ?_
  have mono : ∀ (l : List (Sem Value)) (acc : Str) (s : Shared), Joins (model X.prog X.w) X.A X.xe l acc (fun out s' => out.length ≤ sizeLine ∧ ∃ H', Inv X pins σ H' s' ∧ ∀ x : Str, Q (.str x) H') s →
      Joins (model X.prog X.w) X.A X.xe l acc (fun out s1 => out.length ≤ sizeLine ∧ EP X pins σ Q (.str out s1.toks) { s1 with toks := s1.toks + 1 }) s := by
    intro l
    induction l with
    | nil =>
      rintro acc s ⟨hz, H', I', q'⟩
      exact ⟨hz, .str acc, H', I'.tok _, ⟨_, rfl⟩, q' acc⟩
    | cons a r ih =>
      intro acc s hh
      refine wpAny_mono hh (fun v s1 h1 => ?_) fun _ _ z => z
      obtain ⟨y, tk, e, hz, hr⟩ := h1
      exact ⟨y, tk, e, hz, ih _ _ hr⟩
  exact mono _ _ _ hj
end
end L2

set_option Elab.async false
set_option linter.all false
set_option maxRecDepth 100000
namespace L2
open PySem PySem.Spec PyProof.Rows
/-! ### isinstance of a caught error -/
structure ErrK (K : PySem.W.Frag) (C : Addr) : Prop where
  cl : (PySem.W.clsIn K C).isSome = true
  ga : PySem.W.findIn K (.ref C) "__getattribute__" = some (some (.builtin "BaseException.__getattribute__"))
  gh : PySem.W.findIn K (.ref C) "__getattr__" = some none
  ca : PySem.W.findIn K (.ref C) "__class__" = some (some (.builtin "object.__class__"))
  sp : PySem.W.specialIn K (.builtin "object.__class__") "__get__" = some (some (.builtin "getset_descriptor.__get__"))
  tk : PySem.W.takesIn K (.builtin "object.__class__") = some true
  sb : PySem.W.subIn K (.ref C) (.type "BaseException") = some true
  ob : PySem.W.mroIn K C (.type "object") = some true
section
variable {K : PySem.W.Frag} {C x : Addr} {ox : Obj}
theorem find_err (k : ErrK K C) : PySem.W.findObj K C none "__class__" = some (.bind (.builtin "getset_descriptor.__get__") (.builtin "object.__class__")) := by
  obtain ⟨cd, hc⟩ := Option.isSome_iff_exists.mp k.cl
  unfold PySem.W.findObj
  rw [hc, Option.bind_some, k.ca, Option.bind_some]
  simp only [k.sp, k.tk, Option.bind_some]
theorem class_err {prog : Program} {w : World} {A : Around} {E : Value → Shared → Prop} {s : Shared} {Q : Option Value → Shared → Prop} (k : ErrK K C) (X : K.In s.heap) (I : PySem.W.InstAt s.heap x ox C none) (h : Q (some (.ref C)) { s with toks := s.toks + 1 }) :
    wpAny (model prog w) A (getAttr? (.ref x) "__class__") Q E s := by
  obtain ⟨hh, g, d, t, os⟩ := s
  have L0 := I.type (M := model prog w)
  have L1 := PySem.W.looks_findIn (M := model prog w) X k.ga
  have L2 := PySem.W.looks_findIn (M := model prog w) X k.gh
  have L3 := PySem.W.looks_find (M := model prog w) X I (find_err k)
  have L4 : PySem.W.Looks (model prog w) hh (isInstance (.ref x) (.type "BaseException")) true := L0.andThen (PySem.W.looks_subIn X k.sb)
  unfold getAttr? getAttrBy? getAttrBy
  refine wpAny_bind (wpAny_mkText (wpAny_bind (wpAny_attempt (wpAny_holding (wpAny_bind (L0.at (wpAny_bind (L1.at ?_))))))))
  show wpAny _ _ (getAttrByItsOwn _ _ _ _ _ _) _ _ _
  unfold getAttrByItsOwn
  refine wpAny_bind (m := hookBefore (.ref C)) (L2.at ?_)
  refine wpAny_bind (wpAny_attempt (wpAny_holding ?_))
  show wpAny _ _ (boundAndCalled (.builtin "BaseException.__getattribute__") (.ref x) _) _ _ _
  unfold boundAndCalled
  rw [F.excAttr_ValueError.ga.bind (.ref x)]
  refine wpAny_bind (wpAny_pure (wpAny_call (codeAny_call_builtin F.excAttr_ValueError.ga.plain F.entry_bexc_ga ?_)))
  have hk : builtinKind "BaseException.__getattribute__" = some .slot := by decide +kernel
  have hsplit : splitId "BaseException.__getattribute__" = some ("BaseException", "__getattribute__") := by decide +kernel
  have ha := F.args_bexc_ga (.ref x) (.str "__class__" t)
  have mid : ∀ (A : Around), wpAny (model prog w) A (Builtin.«object.__getattribute__» ⟨[.ref x, .str "__class__" t], []⟩) (fun f s' => f = .done (.ret (.ref C)) ∧ s' = ⟨hh, g, d, t + 1, os⟩) (fun _ _ => False) ⟨hh, g, d, t + 1, os⟩ := by
    intro A
    unfold Builtin.«object.__getattribute__»
    refine wpAny_bind (wpAny_pure ?_)
    refine wpAny_bind (wpAny_pure ?_)
    refine wpAny_bind (L0.at ?_)
    refine wpAny_bind (L3.at ?_)
    show wpAny _ _ (Builtin.ObjectAttr.bindTo (.builtin "getset_descriptor.__get__") (.builtin "object.__class__") (.ref x) (.ref C)) _ _ _
    unfold Builtin.ObjectAttr.bindTo
    dsimp only
    refine wpAny_bind (wpAny_holding (wpAny_call (PySem.W.class_get (s := ⟨hh, g, d, t + 1, os⟩) (ox := ox) (od := none) X I k.ob ?_)))
    exact wpAny_pure ⟨rfl, rfl⟩
  simp only [checkBuiltinCall, hk, hsplit]
  show wpAny _ _ (isInstance (.ref x) (.type "BaseException") >>= _) _ _ _
  refine wpAny_bind (L4.at ?_)
  simp only [Bool.not_true, Bool.false_eq_true, if_false]
  unfold argsOk at ha
  refine wpAny_of_eq ha ?_
  refine wpAny_mono (mid _) (fun f s' z => ?_) fun _ _ z => z.elim
  obtain ⟨rfl, rfl⟩ := z
  exact PySem.W.handed_on rfl (wpAny_pure h)
theorem kitx_err (k : ErrK K C) : PySem.W.KitX K (.ref x) (.ref C) (fun h => ∃ ox, PySem.W.InstAt h x ox C none) where
  ty := fun _ _ _ ⟨_, I⟩ => I.type
  it := fun _ _ X _ => by
    obtain ⟨cd, hc⟩ := Option.isSome_iff_exists.mp k.cl
    unfold PySem.W.clsIn at hc
    split at hc
    · rename_i ho
      intro A' Q' E' s' kk q
      unfold isType loadHead
      exact wpAny_bind (wpAny_loadPart (kk _ _ (X _ _ ho)) (wpAny_pure q))
    · cases hc
  ne := fun h tp dd its n sl X htp => by
    obtain ⟨cd, hc⟩ := Option.isSome_iff_exists.mp k.cl
    refine Bool.eq_false_iff.mpr fun q => ?_
    have e : C = tp := Value.ref.inj (beq_iff_eq.mp q)
    subst e
    unfold PySem.W.clsIn at hc
    split at hc
    · rename_i ho
      have z := (X _ _ ho).symm.trans htp
      cases z
    · cases hc
  ca := fun X ⟨_, I⟩ q => class_err k X I q
end
end L2

set_option Elab.async false
set_option linter.all false
set_option maxRecDepth 100000
namespace L2
open PySem PySem.Spec PyProof.Rows
/-! ### a caught error, tracked -/
def ErrO (C b : Addr) : HO := .ext fun h => ∃ (oe : Obj) (vs : Array Value), h.get? b = some oe ∧ oe.cls = .ref C ∧ oe.dict = none ∧ oe.data = .fields vs ∧ vs[2]? = some .none
theorem errO_ok {P : Program} {w : World} {H : Hp} {h : Heap} {C b : Addr} {tb : Value} (x : ErrAt h b (.ref C) tb) : ObjOk P w H h b (ErrO C b) := by
  obtain ⟨oe, vs, he, hc, hd, h1, h2⟩ := x
  refine ⟨⟨oe, vs, he, hc.1, hc.2, hd, h2⟩, ⟨oe, he⟩, fun a c z k => ?_⟩
  obtain ⟨o, ws, e, r⟩ := z
  exact ⟨o, ws, k _ e, r⟩
theorem errO_at {P : Program} {w : World} {H : Hp} {h : Heap} {C b : Addr} (ok : HOk P w H h) (e : H b = some (ErrO C b)) : ∃ (oe : Obj) (vs : Array Value), h.get? b = some oe ∧ oe.cls = .ref C ∧ oe.dict = none ∧ oe.data = .fields vs ∧ vs[2]? = some .none := (ok b _ e).1
def rIsiE (K : PySem.W.Frag) : List V → Hp → VK → Prop := fun xs H Q => ∃ (a C : Addr) (c : V) (z : Value) (b : Bool), xs = [.ref a, c] ∧ H a = some (ErrO C a) ∧ ErrK K C ∧ clsV c = some z ∧ PySem.W.kitOne K (.ref C) z = some b ∧ Q (.bl b) H
theorem call_isiE {X : Cx} {K : PySem.W.Frag} (hK : X.K = K) : CallR X (.builtin "isinstance") (rIsiE K) := by
  subst hK
  intro pins s σ H xs us Q I r h
  obtain ⟨a, C, c, z, b, rfl, ha, k, hz, e, q⟩ := h
  obtain ⟨u, v, rfl, ru, rv⟩ := r.two
  have e2 := clsV_of hz rv
  subst e2
  cases (show u = Value.ref a from ru)
  obtain ⟨oe, vs, he, hc, hdi, hd, _⟩ := errO_at I.hok ha
  refine PySem.W.kia_one (kitx_err k) I.kIn ⟨oe, he, hc, ?_, ?_⟩ e (fun z => nomatch z) fun tk => ⟨.bl b, H, I.tok tk, rfl, q⟩
  · unfold PySem.W.notCls
    rw [hd]
  · rw [hdi]
    trivial
theorem pe_isiE {X : Cx} {K : PySem.W.Frag} {e c : Expr} {te tc : TE} {p pos : Pos} (hm : X.mg "isinstance" = none) (he : PE X e te) (hc : PE X c tc) (hg : Gl X "isinstance" := by rfl) (hK : X.K = K := by rfl)
    (hs : starEach [e, c] X.env = (false, eval e X.env) :: starEach [c] X.env := by rfl) (hs2 : starEach [c] X.env = (false, eval c X.env) :: starEach [] X.env := by rfl) (hpl : (backTo pos (starEach [c] X.env)).any (·.1) = false := by rfl) :
    PE X (.Call (.Name "isinstance" p) [e, c] [] pos) (tCB (rIsiE K) (tCons te (tCons tc tNil))) :=
  pe_callB (call_isiE hK) hg hm boot_isi (pa_cons he (pa_cons hc pa_nil hs2) hs) (by decide) (by decide) hs hpl
/-! ### raised where another error is being handled -/
theorem entry_unchain : entryFor table "proto.unchain" = some Builtin.«proto.unchain» := entryFor_of_tree (by kernel_rfl)
section
variable {prog : Program} {w : World} {A : Around} {E : Value → Shared → Prop} {s : Shared}
theorem raise_h {α : Type} {e b : Addr} {oe ob : Obj} {vs ws : Array Value} {Q : α → Shared → Prop} (hh : A.handled = some (.ref b)) (hne : b ≠ e) (he : s.heap.get? e = some oe) (hd : oe.data = .fields vs) (h2e : 2 < vs.size)
    (hb : s.heap.get? b = some ob) (hdb : ob.data = .fields ws) (h2 : ws[2]? = some .none) (hE : E (.ref e) { s with heap := s.heap.update e (Obj.mapFields (·.setIfInBounds 2 (.ref b))) }) :
    wpAny (model prog w) A (raiseNew (.ref e) : Sem α) Q E s := by
  unfold raiseNew
  refine wpAny_bind (wpAny_handled ?_)
  rw [hh]
  dsimp only
  rw [if_pos (show (Value.ref b != Value.ref e) = true from by simp [hne])]
  refine wpAny_bind (wpAny_holding (runValue_entry entry_unchain ?_))
  unfold Builtin.«proto.unchain»
  dsimp only
  refine wpAny_bind (wpAny_field hb hdb h2 ?_)
  rw [if_pos (show (Value.none == Value.none) = true from rfl)]
  refine wpAny_bind (wpAny_pure (wpAny_pure ⟨_, rfl, ?_⟩))
  refine wpAny_bind ?_
  unfold updateField
  refine wpAny_bind (wpAny_load he ?_)
  rw [hd]
  dsimp only
  rw [if_pos h2e]
  exact wpAny_update he (wpAny_throw hE)
theorem next_range_endH {it b : Addr} {ob : Obj} {ws : Array Value} {x left step : Int} {Q : Option Value → Shared → Prop} (hh : A.handled = some (.ref b)) (hb : s.heap.get? b = some ob) (hdb : ob.data = .fields ws) (h2 : ws[2]? = some .none)
    (hit : IsRangeIter s.heap it x left step) (hleft : left ≤ 0) (hQ : ∀ h', Heap.ExtBut it s.heap h' → Q none { s with heap := h' }) : wpAny (model prog w) A (pyNext (.ref it)) Q E s := by
  have hT : s.TypeIs (.ref it) "range_iterator" := ⟨_, hit, rfl⟩
  have nb : b ≠ s.heap.objs.size + 1 := Nat.ne_of_lt (Nat.lt_succ_of_lt (Heap.lt_size hb))
  unfold pyNext
  refine wpAny_bind (wpAny_attempt (wpAny_callSpecial?_slot (name := Str.ofString "__next__") hT F.slot_range_iterator_next (wpAny_call_entry F.slot_range_iterator_next hT F.entry_range_iterator_next ?_ (F.args_range_iterator_next_1 _))))
  show wpAny _ _ (do let v ← field (.ref it) 0; _) _ _ s
  refine wpAny_bind (wpAny_field (x := rawInt x) hit rfl rfl ?_)
  show wpAny _ _ (do let v ← field (.ref it) 1; _) _ _ s
  refine wpAny_bind (wpAny_field (x := rawInt left) hit rfl rfl ?_)
  show wpAny _ _ (do let v ← field (.ref it) 2; _) _ _ s
  refine wpAny_bind (wpAny_field (x := rawInt step) hit rfl rfl ?_)
  show wpAny _ _ (if left ≤ 0 then _ else _) _ _ s
  rw [if_pos hleft]
  refine wpAny_bind (wpAny_rule (wpAny_bind ?_))
  show wpAny _ _ (do let e ← newExc (.type "StopIteration") []; _) _ _ _
  refine wpAny_bind ?_
  simp only [newExc, newTuple]
  refine wpAny_bind (wpAny_newObj_type ?_ (by size_fits))
  refine wpAny_bind (m := firstArgMember _ _) (wpAny_of_eq (a := Value.none) (by first | rfl | (simp only [firstArgMember]; rfl)) ?_)
  refine wpAny_newObj_type ?_ (by size_fits)
  have e1 : b ≠ (s.heap.push { cls := .type "tuple", data := .seq ([] : List Value).toArray }).objs.size := by
    rw [Heap.size_push]
    exact nb
  refine raise_h (show _ = some (Value.ref b) from hh) e1 (Heap.get?_push_size _ rfl) rfl (by show 2 < 6; decide) (Heap.get?_push_of_some _ (Heap.get?_push_of_some _ hb)) hdb h2 ?_
  have g1 := Heap.get?_push_size (s.heap.push { cls := .type "tuple", data := .seq ([] : List Value).toArray }) (o := { cls := .type "StopIteration", data := .fields (#[.ref s.heap.objs.size, .none, .none, .none, .bool false, .none] ++ ownMembersOf (.type "StopIteration") []) }) rfl
  refine wpAny_bind (wpAny_isInstance (T := "StopIteration") (b := true) ⟨_, Heap.get?_update_self _ g1 rfl, rfl⟩ isSubtype_stop ?_)
  refine wpAny_pure (hQ _ fun c o hc e => ?_)
  have nc : (s.heap.push { cls := .type "tuple", data := .seq ([] : List Value).toArray }).objs.size ≠ c := by
    rw [Heap.size_push]
    exact Nat.ne_of_gt (Nat.lt_succ_of_lt (Heap.lt_size e))
  exact (Heap.get?_update_other _ _ nc).trans (Heap.get?_push_of_some _ (Heap.get?_push_of_some _ e))
theorem next_list_endH {it l b : Addr} {i : Nat} {ob : Obj} {ws items : Array Value} {Q : Option Value → Shared → Prop} (hh : A.handled = some (.ref b)) (hb : s.heap.get? b = some ob) (hdb : ob.data = .fields ws) (h2 : ws[2]? = some .none) (hbi : b ≠ it)
    (hit : s.heap.IsListIter it l i) (hl : s.heap.IsList l items) (hx : items[i]? = none) (hQ : ∀ h', Heap.ExtBut it s.heap h' → Q none { s with heap := h' }) : wpAny (model prog w) A (pyNext (.ref it)) Q E s := by
  obtain ⟨o, ho, hc, hd⟩ := id hit
  obtain ⟨ol, hol, _, nl, hdl⟩ := hl
  unfold pyNext
  refine wpAny_bind (wpAny_attempt (wpAny_callSpecial?_slot (name := Str.ofString "__next__") hit.typeIs slot_listiter_next (wpAny_call_entry slot_listiter_next hit.typeIs entry_listiter_next ?_ (args_listiter_next _))))
  show wpAny _ _ (do let v ← field (.ref it) 0; _) _ _ s
  refine wpAny_bind (wpAny_field (x := .ref l) ho hd rfl ?_)
  show wpAny _ _ (if (Value.ref l == Value.none) = true then _ else _) _ _ s
  rw [if_neg (fun z => by cases z)]
  show wpAny _ _ (do let v ← field (.ref it) 1; _) _ _ s
  refine wpAny_bind (wpAny_field (x := .int i 0) ho hd rfl ?_)
  show wpAny _ _ (do let v ← seqItems? (.ref l); _) _ _ s
  refine wpAny_bind (wpAny_seqItems hol hdl ?_)
  simp only [Int.toNat_natCast, hx]
  refine wpAny_bind (wpAny_rule (wpAny_bind (wpAny_setField ho hd (by simp) ?_)))
  show wpAny _ _ (do let e ← newExc (.type "StopIteration") []; _) _ _ _
  refine wpAny_bind ?_
  simp only [newExc, newTuple]
  refine wpAny_bind (wpAny_newObj_type ?_ (by size_fits))
  refine wpAny_bind (m := firstArgMember _ _) (wpAny_of_eq (a := Value.none) (by first | rfl | (simp only [firstArgMember]; rfl)) ?_)
  refine wpAny_newObj_type ?_ (by size_fits)
  have hu : ∀ c oc, c ≠ it → s.heap.get? c = some oc → (s.heap.update it (Obj.mapFields (·.setIfInBounds 0 Value.none))).get? c = some oc := fun c oc nc e => (Heap.get?_update_other _ _ (Ne.symm nc)).trans e
  have hb1 := hu b ob hbi hb
  have e1 : b ≠ ((s.heap.update it (Obj.mapFields (·.setIfInBounds 0 Value.none))).push { cls := .type "tuple", data := .seq ([] : List Value).toArray }).objs.size := by
    rw [Heap.size_push]
    exact Nat.ne_of_lt (Nat.lt_succ_of_lt (Heap.lt_size hb1))
  refine raise_h (show _ = some (Value.ref b) from hh) e1 (Heap.get?_push_size _ rfl) rfl (by show 2 < 6; decide) (Heap.get?_push_of_some _ (Heap.get?_push_of_some _ hb1)) hdb h2 ?_
  have g1 := Heap.get?_push_size ((s.heap.update it (Obj.mapFields (·.setIfInBounds 0 Value.none))).push { cls := .type "tuple", data := .seq ([] : List Value).toArray }) (o := { cls := .type "StopIteration", data := .fields (#[.ref (s.heap.update it (Obj.mapFields (·.setIfInBounds 0 Value.none))).objs.size, .none, .none, .none, .bool false, .none] ++ ownMembersOf (.type "StopIteration") []) }) rfl
  refine wpAny_bind (wpAny_isInstance (T := "StopIteration") (b := true) ⟨_, Heap.get?_update_self _ g1 rfl, rfl⟩ isSubtype_stop ?_)
  refine wpAny_pure (hQ _ fun c o hc e => ?_)
  have e' := hu c o hc e
  have nc : ((s.heap.update it (Obj.mapFields (·.setIfInBounds 0 Value.none))).push { cls := .type "tuple", data := .seq ([] : List Value).toArray }).objs.size ≠ c := by
    rw [Heap.size_push]
    exact Nat.ne_of_gt (Nat.lt_succ_of_lt (Heap.lt_size e'))
  exact (Heap.get?_update_other _ _ nc).trans (Heap.get?_push_of_some _ (Heap.get?_push_of_some _ e'))
end
end L2

set_option Elab.async false
set_option linter.all false
set_option maxRecDepth 100000
namespace L2
open PySem PySem.Spec PyProof.Rows
/-! ### walking where an error is being handled -/
structure TurnH (b : Addr) (P : Program) (w : World) (K : PySem.W.Frag) (tg : Expr) (J : It) (fp : List Addr) (it : Addr) (tn : Nat → Heap → Prop) : Prop where
  obj : ∀ i h, tn i h → ∀ c ∈ fp, ∃ o, h.get? c = some o ∧ ∀ v, o.data ≠ .cell v
  keep : ∀ i h h', tn i h → (∀ c ∈ fp, ∀ o, h.get? c = some o → h'.get? c = some o) → tn i h'
  item : ∀ (X : Cx), X.prog = P → X.w = w → X.K = K → X.A.handled = some (.ref b) → ∀ (i : Nat) (pins : List (Addr × Obj)) (s : Shared) (σ : St) (H : Hp) (E : Value → Shared → Prop), Inv X pins σ H s → (∀ c ∈ fp, FpOk X pins H c) → tn i s.heap → J.go i H →
    wpAny (model P w) X.A (pyNext (.ref it)) (fun r s1 => ∃ u, r = some u ∧ wpAny (model P w) X.A (letOwnedTupleGo tg (.ref it) u) (fun _ s2 => ∃ x H', Inv X pins σ H' s2 ∧ RelV x u ∧ J.yld i H x H' ∧ tn (i + 1) s2.heap ∧ ∀ c ∈ fp, H' c = none) E s1) E s
  done : ∀ (X : Cx), X.prog = P → X.w = w → X.K = K → X.A.handled = some (.ref b) → ∀ (i : Nat) (pins : List (Addr × Obj)) (s : Shared) (σ : St) (H : Hp) (E : Value → Shared → Prop), Inv X pins σ H s → (∀ c ∈ fp, FpOk X pins H c) → tn i s.heap → J.stop i H → (∃ C, H b = some (ErrO C b)) →
    wpAny (model P w) X.A (pyNext (.ref it)) (fun r s1 => r = none ∧ Inv X pins σ H s1) E s
  self : ∀ (A : Around) (i : Nat) (s : Shared) (Q : Value → Shared → Prop) (E : Value → Shared → Prop), tn i s.heap → Q (.ref it) s → wpAny (model P w) A (pyIter (.ref it)) Q E s
theorem turnH_list {b : Addr} {P : Program} {w : World} {K : PySem.W.Frag} {tg : Expr} (a it : Addr) : TurnH b P w K tg (Itl K a) [it] it (fun i h => h.IsListIter it a i) := by
  have T := turn_list (P := P) (w := w) (K := K) (tg := tg) a it
  refine ⟨T.obj, T.keep, ?_, ?_, T.self⟩
  · intro X hP hw hK hh i pins s σ H E I hf st hg
    subst hP hw hK
    obtain ⟨xs, x, hq, hx⟩ := hg
    obtain ⟨its, rv, p, hz⟩ := I.list hq
    obtain ⟨u, hu, ru⟩ := rv.get hx
    have ff := hf it (List.mem_singleton.mpr rfl)
    refine wpAny_pyNext_list_item (x := u) st p.isList (by simpa using hu) fun h' st' sb => ⟨u, rfl, ?_⟩
    obtain ⟨o, e, c, d⟩ := id st'
    refine go_of (s := { s with heap := h' }) e c d (by decide) ⟨x, H, I.turned (t' := s.toks) (fun c o hc e => (sb.2 c hc).trans e) ff.1 ff.2.1 ff.2.2.2.1 ff.2.2.2.2.1 ff.2.2.2.2.2, ru, ⟨rfl, fun ys hy => ?_⟩, st', fun c hc => (hf c hc).1⟩
    rw [I.list_inj hy hq]
    exact hx
  · intro X hP hw hK hh i pins s σ H E I hf st hg er
    subst hP hw hK
    obtain ⟨C, er⟩ := er
    obtain ⟨xs, hq, hx⟩ := hg
    obtain ⟨its, rv, p, hz⟩ := I.list hq
    obtain ⟨oe, vs, he, _, _, hd, h2⟩ := errO_at I.hok er
    have ff := hf it (List.mem_singleton.mpr rfl)
    have hl := rv.length
    refine next_list_endH hh he hd h2 (fun z => by rw [z, ff.1] at er; cases er) st p.isList (by simp; omega) fun h' eb => ⟨rfl, I.turned (t' := s.toks) (fun c o hc e => eb c o hc e) ff.1 ff.2.1 ff.2.2.2.1 ff.2.2.2.2.1 ff.2.2.2.2.2⟩
theorem turnH_range {b : Addr} {P : Program} {w : World} {K : PySem.W.Frag} {tg : Expr} (it : Addr) (lo : Int) (n : Nat) : TurnH b P w K tg (Itr lo n) [it] it (fun i h => IsRangeIter h it (lo + (i : Nat) * 1) ((n : Int) - (i : Nat)) 1) := by
  have T := turn_range (P := P) (w := w) (K := K) (tg := tg) it lo n
  refine ⟨T.obj, T.keep, ?_, ?_, T.self⟩
  · intro X hP hw hK hh i pins s σ H E I hf st hg
    subst hP hw hK
    have ff := hf it (List.mem_singleton.mpr rfl)
    have hg' : i < n := hg
    refine wpAny_pyNext_range_item st (by omega) fun h' st' sb => ⟨_, rfl, ?_⟩
    have st2 : IsRangeIter h' it (lo + ((i + 1 : Nat) : Int) * 1) ((n : Int) - ((i + 1 : Nat) : Int)) 1 := by
      have e1 : lo + ((i + 1 : Nat) : Int) * 1 = lo + (i : Int) * 1 + 1 := by omega
      have e2 : (n : Int) - ((i + 1 : Nat) : Int) = (n : Int) - (i : Int) - 1 := by omega
      rw [e1, e2]
      exact st'
    refine go_of (s := { s with heap := h', toks := s.toks + 1 }) (n := "range_iterator") st' rfl rfl (by decide) ⟨.int (lo + i), H, I.turned (fun c o hc e => (sb.2 c hc).trans e) ff.1 ff.2.1 ff.2.2.2.1 ff.2.2.2.2.1 ff.2.2.2.2.2, ⟨s.toks, ?_⟩, ⟨rfl, rfl⟩, st2, fun c hc => (hf c hc).1⟩
    rw [Int.mul_one]
  · intro X hP hw hK hh i pins s σ H E I hf st hg er
    subst hP hw hK
    obtain ⟨C, er⟩ := er
    obtain ⟨oe, vs, he, _, _, hd, h2⟩ := errO_at I.hok er
    have ff := hf it (List.mem_singleton.mpr rfl)
    have hg' : n ≤ i := hg
    exact next_range_endH hh he hd h2 st (by omega) fun h' eb => ⟨rfl, I.turned (t' := s.toks) (fun c o hc e => eb c o hc e) ff.1 ff.2.1 ff.2.2.2.1 ff.2.2.2.2.1 ff.2.2.2.2.2⟩
def PIH (b : Addr) (X : Cx) (tg iter : Expr) (wi : TI) : Prop := ∀ (pins : List (Addr × Obj)) (s : Shared) (σ : St) (H : Hp) (R : It → Hp → Prop), Inv X pins σ H s → wi σ H R →
  wpAny (model X.prog X.w) X.A (eval iter X.env) (fun v s1 => wpAny (model X.prog X.w) X.A (pyIter v) (fun itv s2 => ∃ (it : Addr) (fp : List Addr) (tn : Nat → Heap → Prop) (J : It) (H' : Hp), itv = .ref it ∧ Inv X pins σ H' s2 ∧ TurnH b X.prog X.w X.K tg J fp it tn ∧ tn 0 s2.heap ∧ (∀ c ∈ fp, FpOk X pins H' c) ∧ R J H') X.xe s1) X.xe s
section
variable {X : Cx} {tg : Expr} {b : Addr}
theorem piH_list {l : Expr} {tl : TE} (hl : PE X l tl) : PIH b X tg l (iList X.K tl) := by
  intro pins s σ H R I h
  refine thn (hl pins s σ H _ I h) fun v s1 ⟨x, H1, I1, r1, q1⟩ => ?_
  obtain ⟨a, e, ⟨xs, hq⟩, q⟩ := q1
  subst e
  cases r1
  obtain ⟨its, rv, p, hz⟩ := I1.list hq
  refine wpAny_pyIter_list p.isList ⟨s1.heap.objs.size, [s1.heap.objs.size], _, _, H1, rfl, I1.kept (t' := s1.toks) (fun c o e => Heap.get?_push_of_some _ e), turnH_list a _, ⟨_, Heap.get?_push_size _ rfl, rfl, rfl⟩, fun c hc => ?_, q⟩
  cases List.mem_singleton.mp hc
  exact I1.fpOk (Nat.le_refl _) (I1.hok.fresh (Nat.le_refl _))
theorem piH_range {a : Expr} {ta : TA} {p pos : Pos} (hg : Gl X "range") (hm : X.mg "range" = none) (ha : PA X [a] ta) (hs : starEach [a] X.env = [(false, eval a X.env)] := by rfl) : PIH b X tg (.Call (.Name "range" p) [a] [] pos) (iRng1 ta) := by
  intro pins s σ H R I h
  refine Call_ (ld_blt I hg hm boot_range (PyProof.Rows.callWith_type1 (thn (ha pos pins s σ H _ I h) fun us s1 ⟨vs, H1, I1, r1, j, e, q1, q2, q⟩ => ?_) hs rfl))
  subst e
  obtain ⟨u, rfl, t, rfl⟩ := r1.one
  refine call_range_1 (wpAny_pyIter_range (IsRange.new ..) (small_one (by omega) (by omega) q1 q2) ?_)
  have hI : ∀ (o1 o2 : Obj) (tk : Nat), Inv X pins σ H1 { s1 with heap := (s1.heap.push o1).push o2, toks := tk } := fun o1 o2 tk => I1.kept fun c o e => Heap.get?_push_of_some _ (Heap.get?_push_of_some _ e)
  refine ⟨_, [_], _, _, H1, rfl, hI _ _ _, turnH_range _ 0 j.toNat, ?_, fun c hc => ?_, q⟩
  · have e1 : (0 : Int) + ((0 : Nat) : Int) * 1 = 0 := by omega
    have e2 : ((j.toNat : Nat) : Int) - ((0 : Nat) : Int) = Builtin.Range.rangeSize 0 j 1 := by
      rw [rangeSize_one]
      split <;> omega
    show IsRangeIter _ _ ((0 : Int) + ((0 : Nat) : Int) * 1) (((j.toNat : Nat) : Int) - ((0 : Nat) : Int)) 1
    rw [e1, e2]
    exact Heap.get?_push_size _ rfl
  · cases List.mem_singleton.mp hc
    exact I1.fpOk (by rw [Heap.size_push]; exact Nat.le_succ _) (I1.hok.fresh (by rw [Heap.size_push]; exact Nat.le_succ _))
def tCompH (b : Addr) (J : It) (caps : List (Str × Nat)) (tt : TT) (te : TE) (σ : St) (acc : Addr) (Q : VK) (H : Hp) : Prop :=
  ∃ W : Nat → Nat → Hp → Prop, (∃ m, W 0 m H) ∧ ∀ i m H, W i m H → (∃ C, H b = some (ErrO C b)) ∧
    ((J.stop i H ∧ Q (.ref acc) H) ∨
    (J.go i H ∧ ∃ N : Hp → Prop, (∀ H', N H' → ∃ m', m' < m ∧ W (i + 1) m' H') ∧ ∀ x H', J.yld i H x H' → tt (some x :: capSt caps σ) H' fun b H2 =>
      if b = true then te (some x :: capSt caps σ) H2 fun v H3 => ∃ xs, H3 acc = some (.lst xs) ∧ xs.length < sizeLine ∧ N (upd H3 acc (.lst (xs ++ [v]))) else N H2))
def tLCH (b : Addr) (wi : TI) (caps : List (Str × Nat)) (tt : TT) (te : TE) : TE := fun σ H Q => wi σ H fun J H1 => ∀ acc, H1 acc = none → tCompH b J caps tt te σ acc Q (upd H1 acc (.lst []))
end
section
variable {X : Cx} {elt iter : Expr} {ifs : List Expr} {x : Str} {px : Pos} {sc osc : Scope} {N : List Str} {caps : List (Str × Nat)} {wi : TI} {tt : TT} {te : TE} {pos : Pos} {eb : Addr}
theorem comp_runH (CS : CompSc osc N sc x caps) (hosc : X.env.scope = osc) (hN : X.N = N) (hh : X.A.handled = some (.ref eb)) (hi : PIH eb X (.Name x px) iter wi)
    (htt : ∀ s H C cl ex, PIf (compCx X sc (x :: caps.map (·.1)) s H C cl ex) ifs tt) (he : ∀ s H C cl ex, PE (compCx X sc (x :: caps.map (·.1)) s H C cl ex) elt te)
    {pins : List (Addr × Obj)} {s : Shared} {σ : St} {H : Hp} {Q : VK} {RR : Value → Addr → Result → Shared → Prop} (I : Inv X pins σ H s) (h : tLCH eb wi caps tt te σ H Q)
    (hfin : ∀ acc C s' H', Inv X pins σ H' s' → FpOk X pins H' C → (∃ m, s'.heap.Ns C m) → Q (.ref acc) H' → RR (.ref acc) C (.ok .next) s') :
    wpAny (model X.prog X.w) X.A (eval iter X.env) (fun xv s₁ => wpAny (model X.prog X.w) X.A (pyIter xv) (fun it s₂ => wpAny (model X.prog X.w) X.A (newList []) (fun acc s₃ =>
      wpAny (model X.prog X.w) X.A (newFunctionEnv sc X.env.globals (clos X.env sc.names []) [] X.env.qual none .none (some X.env)) (fun cenv s₄ =>
        codeAny (model X.prog X.w) X.A (.compStart (.ListComp elt [⟨.Name x px, iter, ifs, 0⟩] sc pos) 0 it acc { cenv with scope := relabel sc X.env }) (RR acc cenv.locals) s₄) X.xe s₃) X.xe s₂) X.xe s₁) X.xe s := by
  subst hosc hN
  refine thn (hi pins s σ H _ I h) fun v s1 h1 => thn h1 fun itv s2 h2 => ?_
  obtain ⟨it, fp, tn, J, H2, e, I2, T, st2, f2, q2⟩ := h2
  subst e
  have hk : X.env.scope.kind = .function := I.ok.kind
  refine wpAny_newObj_type (wpAny_newFunctionEnv CS.nocell (by intro y hy; simp at hy) (fun h₁ hns₁ hsb₁ => ?_) CS.kind)
  dsimp only at hns₁ hsb₁ ⊢
  have I3 : Inv X pins σ (upd H2 s2.heap.objs.size (.lst [])) { s2 with heap := s2.heap.push { cls := .type "list", data := .seq ([] : List Value).toArray } } := I2.lnew (t' := s2.toks) (ys := []) (its := []) .nil (Nat.zero_le _)
  have q3 := q2 s2.heap.objs.size I2.fresh
  have accLt : s2.heap.objs.size < (s2.heap.push { cls := .type "list", dict := none, data := .seq ([] : List Value).toArray }).objs.size := by rw [Heap.size_push]; exact Nat.lt_succ_self _
  generalize hs3 : ({ s2 with heap := s2.heap.push { cls := .type "list", data := .seq ([] : List Value).toArray } } : Shared) = s3 at I3
  have hH3 : s2.heap.push { cls := .type "list", dict := none, data := .seq ([] : List Value).toArray } = s3.heap := by rw [← hs3]
  have h23 : ∀ b o, s2.heap.get? b = some o → s3.heap.get? b = some o := fun b o e => by rw [← hH3]; exact Heap.get?_push_of_some _ e
  rw [hH3] at hns₁ hsb₁ accLt ⊢
  have h34 : ∀ b o, s3.heap.get? b = some o → h₁.get? b = some o := fun b o e => hsb₁.extBut b o (Nat.ne_of_lt (Heap.lt_size e)) (Heap.get?_push_of_some _ e)
  have hcells : ∀ n, (n, NameKind.free) ∈ sc.names → ∃ c, X.env.cells.lookup n = some c := fun n hn => I.ok.has n (.inl (CS.frees (n, .free) hn rfl))
  have clL : ∀ y c, (clos X.env sc.names []).lookup y = some c → X.env.cells.lookup y = some c := fun y c e => clos_lookup sc.names [] y c hcells (fun _ _ z => by simp at z) e
  generalize hacc : s2.heap.objs.size = acc at I3 q3 accLt ⊢
  generalize hC : s3.heap.objs.size = C at hns₁ hsb₁ accLt ⊢
  obtain ⟨W, ⟨m0, w0⟩, turn⟩ := q3
  have hos : s3.os = s2.os := by rw [← hs3]
  have hgs : s3.gens = s2.gens := by rw [← hs3]
  -- the block's context
  have ok' : (compCx X sc (x :: caps.map (·.1)) s3 (upd H2 acc (.lst [])) C (clos X.env sc.names []) fp).Ok := by
    have fpd : ∀ b ∈ fp, b < s2.heap.objs.size := fun b hb => by obtain ⟨o, e, _⟩ := T.obj _ _ st2 b hb; exact Heap.lt_size e
    refine ⟨I3.ok.mod, CS.kind, I3.ok.glob, I3.ok.blt, Nat.le_of_eq hC, fun y z c e1 e2 => I3.ok.inj y z c (clL y c e1) (clL z c e2), fun y hy => ?_, fun y c hf => ?_, I3.ok.hd, I3.ok.frames, .inl rfl, fun b hb => ⟨?_, fun y c e => ?_⟩,
      I3.bs, Nat.le_trans I3.ok.bsz I3.sz, fun b o e hb => ?_, fun b hb hf => ?_, I3.stack, I3.stkFree⟩
    · have hy' : ∃ k0, (y, k0) ∈ sc.names ∧ k0 = NameKind.free := by
        rcases hy with hy | hy
        · obtain ⟨k0, m, _, e⟩ := relabel_kind hy
          rcases e with e | e
          · exact absurd e.symm (CS.nocell (y, k0) m)
          · exact ⟨k0, m, e.1⟩
        · obtain ⟨k0, m, _, e⟩ := relabel_kind hy
          rcases e with e | e
          · exact ⟨k0, m, e.symm⟩
          · exact absurd e.2 (by decide)
      obtain ⟨k0, m, rfl⟩ := hy'
      exact clos_has sc.names [] y (.inl m)
    · exact absurd (show false = true from hf) Bool.false_ne_true
    · intro z
      have z' : b = C := z
      have h1 := fpd b hb
      rw [hacc, z'] at h1
      exact Nat.lt_irrefl _ (Nat.lt_trans h1 accLt)
    · exact (f2 b hb).2.2.2.2.1 y c (clL y c e)
    · rcases (f2 b hb).2.2.2.1 with z | z
      · exact I.ok.noex b o e z
      · exact absurd (Nat.lt_of_lt_of_le (Heap.lt_size e) (Nat.le_trans I.ok.bsz z)) (Nat.lt_irrefl _)
    · rcases List.mem_cons.mp (I3.stkSub b hf) with z | z
      · exact (f2 b hb).2.1 z
      · exact (f2 b hb).2.2.1 z
  have fpd : ∀ b ∈ fp, b < s2.heap.objs.size := fun b hb => by obtain ⟨o, e, _⟩ := T.obj _ _ st2 b hb; exact Heap.lt_size e
  have stat : ∀ {H' : Hp}, (∀ b ∈ fp, H' b = none) → ∀ b ∈ fp, FpOk (compCx X sc (x :: caps.map (·.1)) s3 (upd H2 acc (.lst [])) C (clos X.env sc.names []) fp) [] H' b := fun hn b hb =>
    ⟨hn b hb, (ok'.exf b hb).1, ok'.exfs b hb, .inl hb, (ok'.exf b hb).2, fun p hp => absurd (show p ∈ ([] : List (Addr × Obj)) from hp) (by simp)⟩
  have hch : ∀ b ∈ fp, (b ∈ X.ex ∨ X.s₀.heap.objs.size ≤ b) ∧ b ≠ X.env.locals ∧ (∀ y c, X.env.cells.lookup y = some c → c ≠ b) ∧ ∀ p ∈ X.pn ++ pins, p.1 ≠ b := fun b hb =>
    ⟨(f2 b hb).2.2.2.1, (f2 b hb).2.1, (f2 b hb).2.2.2.2.1, (f2 b hb).2.2.2.2.2⟩
  have start : ∀ s4 : Shared, s4 = { s3 with heap := h₁, toks := s3.toks + ([] : List (Str × Value)).length } →
      Inv (compCx X sc (x :: caps.map (·.1)) s3 (upd H2 acc (.lst [])) C (clos X.env sc.names []) fp) [] (none :: capSt caps σ) (upd H2 acc (.lst [])) s4 := by
    rintro s4 rfl
    have I4 : Inv X pins σ (upd H2 acc (.lst [])) { s3 with heap := h₁, toks := s3.toks + ([] : List (Str × Value)).length } := I3.kept h34
    refine ⟨ok', rfl, I3.bare, Un.kept h34, ⟨_, hns₁, fun i y v e1 e2 e3 => ?_⟩, fun y c e => I4.cell y c (clL y c e), ?_, fun y c e => I4.freeC y c (clL y c e), fun p hp => absurd (show p ∈ ([] : List (Addr × Obj)) from hp) (by simp), I4.hok, ?_⟩
    · cases i with
      | zero => exact absurd (show some (none : Option V) = some (some v) from e2) (by simp)
      | succ j =>
        have e1' : (caps.map (·.1))[j]? = some y := e1
        have e2' : (capSt caps σ)[j]? = some (some v) := e2
        rw [List.getElem?_map] at e1'
        cases hp : caps[j]? with
        | none => rw [hp] at e1'; cases e1'
        | some p =>
          rw [hp] at e1'
          have ey : p.1 = y := Option.some.inj e1'
          subst ey
          unfold capSt at e2'
          rw [List.getElem?_map, hp] at e2'
          have e4 : (σ[p.2]?).join = some v := Option.some.inj e2'
          have e5 : σ[p.2]? = some (some v) := by
            cases q : σ[p.2]? with
            | none => rw [q] at e4; cases e4
            | some z => rw [q] at e4; rw [show z = some v from e4]
          obtain ⟨c1, c2, c3⟩ := CS.cap.get hp
          obtain ⟨m, hn, hl⟩ := I4.loc
          obtain ⟨u, ru, lk⟩ := hl p.2 p.1 v c1 e5 (.inr (.inl c3))
          refine ⟨u, ru, .inr ⟨.inl (relabel_cell hk c2 c3), ?_⟩⟩
          rcases lk with ⟨hk2, _⟩ | ⟨_, c, hc, hcell⟩
          · have : X.env.scope.names.lookup p.1 = some .local := hk2
            rw [c3] at this; cases this
          · obtain ⟨c', hc'⟩ := clos_has (env := X.env) sc.names [] p.1 (.inl (by
              have := PySem.mem_of_lookup c2
              exact this))
            have e6 := clL p.1 c' hc'
            rw [hc] at e6
            cases e6
            exact ⟨c, hc', hcell⟩
    · exact I3.hok.fresh (Nat.le_of_eq hC)
    · show (none :: capSt caps σ).length = (x :: caps.map (·.1)).length
      simp [capSt]
  have loop : ∀ s4 : Shared, s4 = { s3 with heap := h₁, toks := s3.toks + ([] : List (Str × Value)).length } →
      codeAny (model X.prog X.w) X.A (.compLoop (.ListComp elt [⟨.Name x px, iter, ifs, 0⟩] sc pos) 0 (.ref it) (.ref acc) (compEnvC sc (clos X.env sc.names []) C X.env)) (RR (.ref acc) C) s4 := by
    intro s4 e4
    have I4 := start s4 e4
    have tn4 : tn 0 s4.heap := T.keep 0 _ _ st2 fun b hb o e => by rw [e4]; exact h34 b o (h23 b o e)
    have fr4 : ∀ b ∈ fp, (upd H2 acc (.lst [])) b = none := fun b hb => by
      have h1 := fpd b hb
      rw [hacc] at h1
      rw [upd_ne (Nat.ne_of_lt h1)]
      exact (f2 b hb).1
    refine codeAny_loop rfl (fun n s' => ∃ i H', Inv (compCx X sc (x :: caps.map (·.1)) s3 (upd H2 acc (.lst [])) C (clos X.env sc.names []) fp) [] (none :: capSt caps σ) H' s' ∧ tn i s'.heap ∧ (∀ b ∈ fp, H' b = none) ∧ W i n H') ?_ m0 ⟨0, _, I4, tn4, fr4, w0⟩
    rintro n s5 ⟨i, H5, I5, tn5, fr5, w5⟩
    show wpAny _ X.A ((compTurn (.ListComp elt [⟨.Name x px, iter, ifs, 0⟩] sc pos) 0 (.ref it) (.ref acc) (compEnvC sc (clos X.env sc.names []) C X.env)).onRaise (fun x => do noteFrame x (compEnvC sc (clos X.env sc.names []) C X.env); theTreesLotGoes x)) _ _ s5
    refine wpAny_noted ?_
    rw [compTurn_list]
    refine wpAny_bind (wpAny_standAt (wpAny_bind ?_))
    obtain ⟨er, turn5⟩ := turn i n H5 w5
    rcases turn5 with ⟨stop, qn⟩ | ⟨go, N, hNN, step⟩
    · refine wpAny_mono (T.done (compCx X sc (x :: caps.map (·.1)) s3 (upd H2 acc (.lst [])) C (clos X.env sc.names []) fp) rfl rfl rfl hh i [] s5 (none :: capSt caps σ) H5 (fun _ _ => False) I5 (stat fr5) tn5 stop er) (fun r s6 ⟨hr, I6⟩ => ?_) fun _ _ z => z.elim
      subst hr
      refine wpAny_pure (hfin acc C s6 H5 (I3.call' I6.os I6.base I6.hok I6.bare hch) (I3.fpOk (Nat.le_of_eq hC) I6.free) ?_ qn)
      obtain ⟨m, hn, _⟩ := I6.loc
      exact ⟨m, hn⟩
    · refine wpAny_mono (T.item (compCx X sc (x :: caps.map (·.1)) s3 (upd H2 acc (.lst [])) C (clos X.env sc.names []) fp) rfl rfl rfl hh i [] s5 (none :: capSt caps σ) H5 (fun _ _ => False) I5 (stat fr5) tn5 go) (fun r s6 ⟨u, hr, h6⟩ => ?_) fun _ _ z => z.elim
      subst hr
      refine wpAny_bind (wpAny_mono h6 (fun _ s7 ⟨xv, H7, I7, r7, y7, tn7, fr7⟩ => ?_) fun _ _ z => z.elim)
      have I7p := I7.pinned (stat fr7) (T.obj _ _ tn7)
      have P := pg_name (X := compCx X sc (x :: caps.map (fun q : Str × Nat => q.1)) s3 (upd H2 acc (.lst [])) C (clos X.env sc.names []) fp) (pos := px) (i := 0) (x := x) CS.nd rfl (.inl (lookup_relabel_local CS.loc)) (.inr (lookup_relabel_local CS.loc))
      refine wpAny_bind (wpAny_mono (P _ s7 (none :: capSt caps σ) H7 xv u (fun σ' H' => σ' = some xv :: capSt caps σ ∧ H' = H7) I7p r7 ⟨rfl, rfl⟩) (fun _ s8 ⟨σ8, H8, I8, e8, e8'⟩ => ?_) fun _ _ z => False.elim z)
      subst e8 e8'
      refine wpAny_bind (wpAny_mono (htt s3 (upd H2 acc (.lst [])) C (clos X.env sc.names []) fp _ s8 (some xv :: capSt caps σ) _ _ I8 (step xv _ y7)) (fun ok s9 ⟨H9, I9, q9⟩ => ?_) fun _ _ z => False.elim z)
      have again : ∀ {σa : St} {Ha : Hp} {sa : Shared}, Inv (compCx X sc (x :: caps.map (·.1)) s3 (upd H2 acc (.lst [])) C (clos X.env sc.names []) fp) ([] ++ pinsAt fp s7.heap) (some xv :: capSt caps σ) Ha sa → N Ha →
          ∃ m, m < n ∧ ∃ i H', Inv (compCx X sc (x :: caps.map (·.1)) s3 (upd H2 acc (.lst [])) C (clos X.env sc.names []) fp) [] (none :: capSt caps σ) H' sa ∧ tn i sa.heap ∧ (∀ b ∈ fp, H' b = none) ∧ W i m H' := fun {σa Ha sa} Ia na => by
        obtain ⟨m', hm, wa⟩ := hNN Ha na
        refine ⟨m', hm, i + 1, Ha, (Ia.unpinned).weak rfl (fun j v e => ?_), T.keep _ _ _ tn7 fun b hb o e => (Ia.pin (b, o) (List.mem_append_right _ (List.mem_append_right _ (mem_pinsAt hb e)))).1, fun b hb => ?_, wa⟩
        · cases j with
          | zero => exact absurd (show some (none : Option V) = some (some v) from e) (by simp)
          | succ j => exact e
        · obtain ⟨o, e, d⟩ := T.obj _ _ tn7 b hb
          exact (Ia.pin (b, o) (List.mem_append_right _ (List.mem_append_right _ (mem_pinsAt hb e)))).2.1
      cases ok with
      | false => exact wpAny_pure ⟨rfl, again (σa := σ) I9 q9⟩
      | true =>
        refine wpAny_bind (wpAny_bind (wpAny_mono (he s3 (upd H2 acc (.lst [])) C (clos X.env sc.names []) fp _ s9 (some xv :: capSt caps σ) H9 _ I9 q9) (fun yv s10 ⟨y, H10, I10, r10, xs, hxs, hlen, n10⟩ => ?_) fun _ _ z => False.elim z))
        have A := mt_append (X := compCx X sc (x :: caps.map (fun q : Str × Nat => q.1)) s3 (upd H2 acc (.lst [])) C (clos X.env sc.names []) fp) _ s10 _ H10 (.ref acc) [y] (.ref acc) [yv] (fun _ H' => N H') I10 rfl (.cons r10 .nil) ⟨acc, xs, y, rfl, rfl, hxs, hlen, n10⟩
        refine wpAny_bind (wpAny_mono A (fun _ s11 ⟨z, H11, I11, _, n11⟩ => wpAny_pure (wpAny_pure ⟨rfl, again (σa := σ) I11 n11⟩)) fun _ _ z => False.elim z)
  refine codeAny_compStart_list (loop _ (by rw [← hs3])) (T.self X.A 0 _ _ _ (T.keep 0 _ _ st2 fun b hb o e => h34 b o (h23 b o e)) (loop _ (by rw [← hs3])))

/-- [elt for x in iter if ..] -/
theorem pe_lcH (hi : PIH eb X (.Name x px) iter wi) (htt : ∀ s H C cl ex, PIf (compCx X sc (x :: caps.map (·.1)) s H C cl ex) ifs tt) (he : ∀ s H C cl ex, PE (compCx X sc (x :: caps.map (·.1)) s H C cl ex) elt te)
    (CS : CompSc osc N sc x caps) (hh : X.A.handled = some (.ref eb)) (hosc : X.env.scope = osc := by rfl) (hN : X.N = N := by rfl) (hs : ∀ x, foldedSetIterable iter X.env x = pure x := by intro _; rfl) :
    PE X (.ListComp elt [⟨.Name x px, iter, ifs, 0⟩] sc pos) (tLCH eb wi caps tt te) := by
  intro pins s σ H Q I h
  rw [eval_ListComp]
  have hcells : ∀ n, (n, NameKind.free) ∈ sc.names → ∃ c, X.env.cells.lookup n = some c := fun n hn => I.ok.has n (.inl (by rw [show X.env.kindOf n = X.env.scope.names.lookup n from rfl, hosc]; exact CS.frees (n, .free) hn rfl))
  refine wpAny_comprehension_free (use := none) rfl hs (closureFor_eq hcells) CS.kind CS.names ?_
  refine comp_runH (Q := Q) (RR := fun acc C => compPost (model X.prog X.w) X.A X.xe none (EP X pins σ Q) acc C) CS hosc hN hh hi htt he I h ?_
  intro acc C s' H' I' fC hm q
  obtain ⟨m, hn⟩ := hm
  refine ⟨m, hn, fun h' hsb => ?_⟩
  exact ⟨.ref acc, H', I'.turned (t' := s'.toks) (fun b o hb e => (hsb.2 b hb).trans e) fC.1 fC.2.1 fC.2.2.2.1 fC.2.2.2.2.1 fC.2.2.2.2.2, rfl, q⟩
end
end L2

set_option Elab.async false
set_option linter.all false
set_option maxRecDepth 100000
namespace L2
open PySem PySem.Spec PyProof.Rows
/-! ### try .. except C as e -/
abbrev Cx.bear (X : Cx) (pn : List (Addr × Obj)) : Cx := { X with pn := pn }
abbrev Cx.tryC (X : Cx) (pn : List (Addr × Obj)) (E : XK) : Cx := { X with pn := pn, xe := fun e s' => ∃ pins σ H s, Inv (X.bear pn) pins σ H s ∧ CX1 X.prog X.w X.stack H s E e s' }
abbrev Cx.hand (X : Cx) (a : Addr) : Cx := { X with A := X.A.mark (some (.ref a)), calm := false, xe := fun _ _ => False }
section
variable {X : Cx} {pins : List (Addr × Obj)} {σ : St} {H : Hp} {s : Shared}
theorem Cx.Ok.bear (ok : X.Ok) (pn : List (Addr × Obj)) : (X.bear pn).Ok := ⟨ok.mod, ok.kind, ok.glob, ok.blt, ok.above, ok.inj, ok.has, ok.cab, ok.hd, ok.frames, ok.stk, ok.exf, ok.bs, ok.bsz, ok.noex, ok.exfs, ok.funs, ok.frf⟩
theorem Cx.Ok.unbear {pn : List (Addr × Obj)} (ok : (X.bear pn).Ok) : X.Ok := ⟨ok.mod, ok.kind, ok.glob, ok.blt, ok.above, ok.inj, ok.has, ok.cab, ok.hd, ok.frames, ok.stk, ok.exf, ok.bs, ok.bsz, ok.noex, ok.exfs, ok.funs, ok.frf⟩
theorem Cx.Ok.hand (ok : X.Ok) (a : Addr) : (X.hand a).Ok := ⟨ok.mod, ok.kind, ok.glob, ok.blt, ok.above, ok.inj, ok.has, ok.cab, (fun z => by cases z), ok.frames, ok.stk, ok.exf, ok.bs, ok.bsz, ok.noex, ok.exfs, ok.funs, ok.frf⟩
theorem Inv.bear (I : Inv X pins σ H s) : Inv (X.bear (X.pn ++ pins)) [] σ H s := ⟨I.ok.bear _, I.os, I.bare, I.base, I.loc, I.cell, I.free, I.freeC, fun p hp => I.pin p (by rw [List.append_nil] at hp; exact hp), I.hok, I.len⟩
theorem Inv.unbear {pn : List (Addr × Obj)} {ps : List (Addr × Obj)} (I : Inv (X.bear pn) ps σ H s) (h : pn = X.pn ++ pins) : Inv X pins σ H s := ⟨I.ok.unbear, I.os, I.bare, I.base, I.loc, I.cell, I.free, I.freeC, fun p hp => I.pin p (List.mem_append_left _ (by rw [h]; exact hp)), I.hok, I.len⟩
theorem Inv.tryC {pn : List (Addr × Obj)} (I : Inv (X.bear pn) pins σ H s) (E : XK) : Inv (X.tryC pn E) pins σ H s := I.wish _
theorem Inv.untryC {pn : List (Addr × Obj)} {E : XK} (I : Inv (X.tryC pn E) pins σ H s) : Inv (X.bear pn) pins σ H s := Inv.unwish (X := X.bear pn) I
theorem Inv.hand (I : Inv X pins σ H s) (a : Addr) : Inv (X.hand a) pins σ H s := ⟨I.ok.hand a, I.os, I.bare, I.base, I.loc, I.cell, I.free, I.freeC, I.pin, I.hok, I.len⟩
theorem Inv.unhand {a : Addr} (I : Inv (X.hand a) pins σ H s) (ok : X.Ok) : Inv X pins σ H s := ⟨ok, I.os, I.bare, I.base, I.loc, I.cell, I.free, I.freeC, I.pin, I.hok, I.len⟩
theorem passT {pn : List (Addr × Obj)} {E : XK} : Passes (CX1 X.prog X.w) (X.tryC pn E) E := fun pins σ H s _ _ I h => ⟨pins, σ, H, s, I.untryC, h⟩
/-- a name that goes takes what is known of the names with it -/
theorem Inv.gone {h' : Heap} {m' : Str → Option Value} {t' : Nat} (I : Inv X pins σ H s) (hn : h'.Ns X.env.locals m') (sb : Heap.SameBut X.env.locals s.heap h') : Inv X pins (List.replicate X.N.length none) H { s with heap := h', toks := t' } := by
  have neL : ∀ b o, X.s₀.heap.get? b = some o → b ≠ X.env.locals := fun b o e => Nat.ne_of_lt (Nat.lt_of_lt_of_le (Heap.lt_size e) I.ok.above)
  refine ⟨I.ok, I.os, I.bare, ⟨fun b o e n hb hx => (sb.2 b (neL b o e)).trans (I.base.keep b o e n hb hx), fun b o e n hb hx => ?_, I.base.free, fun b o e hx => ?_, I.base.tups, I.base.frzs, I.base.tbls⟩, ⟨m', hn, fun i x v _ e2 _ => ?_⟩, fun x c e => ?_, I.free, I.freeC, fun p hp => ?_, fun a o e => ?_, by simp⟩
  · obtain ⟨sl, e1⟩ := I.base.slot b o e n hb hx
    exact ⟨sl, (sb.2 b (neL b o e)).trans e1⟩
  · obtain ⟨o1, e1⟩ := I.base.there b o e hx
    exact ⟨o1, (sb.2 b (neL b o e)).trans e1⟩
  · rw [List.getElem?_replicate] at e2
    split at e2 <;> cases e2
  · obtain ⟨v, z⟩ := I.cell x c e
    exact ⟨v, z.sameBut sb (I.cne x c e)⟩
  · obtain ⟨e, n, ne, nf, d⟩ := I.pin p hp
    exact ⟨(sb.2 p.1 ne).trans e, n, ne, nf, d⟩
  · refine (I.hok a o e).stay (fun b u hb q => (sb.2 b fun z => ?_).trans q) (fun _ q => q) fun _ _ q => q
    rcases hb with rfl | hb
    · rw [z, I.free] at e
      cases e
    · rw [z, I.free] at hb
      cases hb
/-- where an error has landed: it is tracked -/
theorem Inv.landed {H1 H' : Hp} {s0 s1 : Shared} {a C : Addr} {B h' : Heap} {f1 : Value} (J : Inv X pins σ H1 s0) (os : s1.os = s0.os) (bare : AllBare s1.gens) (un : Un (frs X.stack) [] H1 H' s0.heap s1.heap) (hok : HOk X.prog X.w H' s1.heap) (na : H' a = none)
    (fl : Fly B X.stack a (.ref C) f1 s1.heap) (ct : ∀ b u, H' b = some u → ∃ o, B.get? b = some o) (cu : ∀ b o, s0.heap.get? b = some o → b ∉ frs X.stack → ∃ o', B.get? b = some o') {f2 : Value} (fl2 : Fly B X.stack a (.ref C) f2 h') (up : s1.heap.UpToSlots h') :
    Inv X pins σ (upd H' a (ErrO C a)) { s1 with heap := h' } := by
  obtain ⟨T, x, t⟩ := fl2.2.2.2
  have nf : a ∉ frs X.stack := fun z => by
    obtain ⟨_, o, ho, hd⟩ := fl2.2.2.1.mem z
    exact x.data ho hd rfl
  have n0 : s0.heap.get? a = none := by
    cases q : s0.heap.get? a with
    | none => rfl
    | some o =>
      obtain ⟨o2, h2⟩ := cu a o q nf
      rw [fl2.2.1] at h2
      cases h2
  have u2 := un_on un fl.1 fl2.1 cu up (fun b hb => (fl.2.2.1.mem hb).2)
  have k2 := hok_on hok fl.1 fl2.1 ct
  have ne : ∀ b u, H' b = some u → b ≠ a := fun b u e => ne_of_none e na
  refine J.call' (ch := []) (s' := { s1 with heap := h' }) os ⟨u2.keep, u2.slot, fun b o q n hx => ?_, u2.there, fun b xs q => ?_, fun b o u q => ?_, fun b ps q => ?_⟩ (fun b u e => ?_) bare (fun b z => by cases z)
  · rw [upd_ne (fun z => by rw [z, n0] at q; cases q)]
    exact u2.free b o q n hx
  · have := u2.tups b xs q
    rw [upd_ne (ne b _ this)]
    exact this
  · have := u2.frzs b o u q
    rw [upd_ne (ne b _ this)]
    exact this
  · obtain ⟨more, h⟩ := u2.tbls b ps q
    exact ⟨more, by rw [upd_ne (ne b _ h)]; exact h⟩
  · by_cases hb : b = a
    · subst hb
      rw [upd_same] at e
      cases e
      exact errO_ok x
    · rw [upd_ne hb] at e
      exact (k2 b u e).stay (fun _ _ _ q => q) (fun c q => by rw [upd_ne (ne c _ q)]; exact q) fun c xs q => by rw [upd_ne (ne c _ q)]; exact q
end
def tTry (K : PySem.W.Frag) (N i : Nat) (C0 : Addr) (tb : XK → TS) (th : Addr → TS) : TS := fun D σ H =>
  tb (fun c _ H' => ∃ C, c = .ref C ∧ PySem.W.exmOne K (.ref C) (.ref C0) = some true ∧ ∀ (a : Addr) (σ' : St), σ'.length = N → H' a = none → th a { nx := fun _ _ => False, rt := D.rt, bk := fun _ _ => False, ct := fun _ _ => False } (σ'.set i (some (.ref a))) (upd H' a (ErrO C a))) D σ H
theorem ps_try {X : Cx} {body : List Stmt} {b₀ : Stmt} {suite : List Stmt} {n x : Str} {i : Nat} {C0 : Addr} {tb : XK → TS} {th : Addr → TS} {np hpos pos : Pos} {L : Addr} (hb : ∀ pn E, PSs (X.tryC pn E) body (tb E)) (hh : ∀ a, PSs (X.hand a) (b₀ :: suite) (th a))
    (hN : X.N.Nodup) (hi : X.N[i]? = some n) (hl : X.env.scope.names.lookup n = some .local) (hm : X.mg x = some (.ref C0)) (hst : X.stack = X.env :: X.outer := by rfl) (hfr : X.env.frame = some L := by rfl) (hg : Gl X x := by rfl) (hd : (x == ("__debug__" : Str)) = false := by decide) :
    PS X (.Try body [.ExceptHandler (some (.Name x np)) (some n) (b₀ :: suite) hpos] [] [] pos) (tTry X.K X.N.length i C0 tb th) := by
  intro pins s σ H D I h
  refine wpAny_Try_except (wpAny_mono (hb (X.pn ++ pins) _ [] s σ H D (I.bear.tryC _) h) (fun f s1 q => ?_) (fun e s1 q => ?_))
  · cases f with
    | next =>
      obtain ⟨σ', H', J, q⟩ := q
      exact wpAny_execs_nil ⟨σ', H', J.untryC.unbear rfl, q⟩
    | ret v =>
      obtain ⟨x, σ', H', J, r, q⟩ := q
      exact ⟨x, σ', H', J.untryC.unbear rfl, r, q⟩
    | brk =>
      obtain ⟨σ', H', J, q⟩ := q
      exact ⟨σ', H', J.untryC.unbear rfl, q⟩
    | cont =>
      obtain ⟨σ', H', J, q⟩ := q
      exact ⟨σ', H', J.untryC.unbear rfl, q⟩
  · obtain ⟨ps, σ', H1, s0, J, a, C, H', B, rfl, os, bare, un, hok, na, fl, ct, cu, C', eC, hx, hth⟩ := q
    cases eC
    have J : Inv X pins σ' H1 s0 := J.unbear rfl
    have fr : X.A.frames = some (X.env :: X.outer) := by rw [← hst]; exact I.ok.frames
    rw [hst] at fl
    refine note_on fr hfr fl fun h1 f1 u1 => land_run (s := { s1 with heap := h1 }) f1 fun h2 f2 u2 => ?_
    rw [← hst] at fl f1 f2
    have up := u1.trans u2
    have I2 := (J.landed os bare un hok na fl ct cu f2 up).hand a
    refine wpAny_handleBy_cons (codeAny_handlers_test (ld_glob (X := X.hand a) I2 hg hm ?_ hd)) (by intro q; cases q)
    have ee := errO_at I2.hok upd_same
    obtain ⟨oe, vs, he, hc, _⟩ := ee
    have LT : PySem.W.Looks (model X.prog X.w) h2 (typeOf (.ref a)) (.ref C) := hc ▸ (PySem.W.Looks.ld he).andThen .now
    refine (PySem.W.exm_one I2.kIn LT hx).here ?_
    refine codeAny_handlers_suite_as (land_run (s := { s1 with heap := h2 }) f2 fun h3 f3 u3 => ?_)
    have I3 := (J.landed os bare un hok na fl ct cu f3 (up.trans u3)).hand a
    refine store_ok (X := X.hand a) (v := .ref a) I3 hN hi (.inl hl) rfl (fun s4 I4 => ?_) (.inr hl)
    refine wpAny_mono (hh a pins s4 _ _ _ I4 (hth a σ' J.len na)) (fun f s5 q5 => ?_) fun _ _ z => False.elim z
    cases f with
    | ret v =>
      obtain ⟨x5, σ5, H5, I5, r5, q5⟩ := q5
      obtain ⟨m5, hn5, _⟩ := id I5.loc
      refine wpAny_nameGoes hl hn5 (by rw [I.ok.kind]; rfl) fun h6 m6 hn6 sb => ?_
      exact ⟨x5, _, H5, (I5.unhand I.ok).gone hn6 sb, r5, q5⟩
    | next =>
      obtain ⟨_, _, _, z⟩ := q5
      exact z.elim
    | brk =>
      obtain ⟨_, _, _, z⟩ := q5
      exact z.elim
    | cont =>
      obtain ⟨_, _, _, z⟩ := q5
      exact z.elim
end L2

set_option Elab.async false
set_option linter.all false
set_option maxRecDepth 100000
namespace L2
open PySem PySem.Spec PyProof.Rows
/-! ### defs that raise or let an error pass -/
section
variable {P : Program} {w : World} {K : PySem.W.Frag} {mg : Str → Option Value} {base : Heap} {k : Nat} {sp : Sp}
theorem Fun.okE {x qual : Str} {st : Stmt} {f : Addr} {fd : FuncData} {N ps : List Str} (F : Fun K x qual st f fd) (S : FnScope N ps (defScope st)) (len : ∀ vs H Q E, sp vs H Q E → vs.length = ps.length)
    (hbody : ∀ (cdv : Value) (A : Around) (outer : List Env) (s : Shared) (H : Hp) (vs : List V) (Q : VK) (E : XK), Room k (A.deeper (envOfC qual (defScope st) s.heap.objs.size f cdv)) → sp vs H Q E →
      ∃ t, PSs (cxOf (CX1 P w) P w K mg base N qual (defScope st) f cdv A outer s H E) (defBody st) t ∧ t { nx := fun _ H' => Q .non H', rt := Q } (start N vs) H) : FnOk P w K mg base (CX1 P w) (k + 1) f fd ps sp := by
  obtain ⟨oc, od, kV, doc, pm, an, cdv, ct, osl, rfl, lk, hcd⟩ := F.ex
  exact fn_of lk hcd S len fun A outer s H vs Q E hr hsp => hbody cdv A outer s H vs Q E hr hsp
theorem FnB.okE {x : Str} {st : Stmt} {N ps : List Str} (B : FnB K mg x st ps) (S : FnScope N ps (defScope st)) (len : ∀ vs H Q E, sp vs H Q E → vs.length = ps.length)
    (hbody : ∀ (f : Addr) (cdv : Value) (A : Around) (outer : List Env) (s : Shared) (H : Hp) (vs : List V) (Q : VK) (E : XK), Room k (A.deeper (envOfC x (defScope st) s.heap.objs.size f cdv)) → sp vs H Q E →
      ∃ t, PSs (cxOf (CX1 P w) P w K mg base N x (defScope st) f cdv A outer s H E) (defBody st) t ∧ t { nx := fun _ H' => Q .non H', rt := Q } (start N vs) H) : FnG P w K mg base (CX1 P w) (k + 1) x ps sp := by
  obtain ⟨f, fd, F, m, b⟩ := B
  exact ⟨f, fd, F.okE S len fun cdv A outer s H vs Q E hr hs => hbody f cdv A outer s H vs Q E hr hs, m, F.kp, b⟩
theorem MtB.okE {C : Addr} {m qual : Str} {st : Stmt} {N ps : List Str} (B : MtB K C m qual st ps) (cl : Cls K C) (S : FnScope N ps (defScope st)) (len : ∀ vs H Q E, sp vs H Q E → vs.length = ps.length)
    (hbody : ∀ (f : Addr) (cdv : Value) (A : Around) (outer : List Env) (s : Shared) (H : Hp) (vs : List V) (Q : VK) (E : XK), Room k (A.deeper (envOfC qual (defScope st) s.heap.objs.size f cdv)) → sp vs H Q E →
      ∃ t, PSs (cxOf (CX1 P w) P w K mg base N qual (defScope st) f cdv A outer s H E) (defBody st) t ∧ t { nx := fun _ H' => Q .non H', rt := Q } (start N vs) H) : MtG P w K mg base (CX1 P w) (k + 1) C m ps sp := by
  obtain ⟨f, fd, F, mt, b⟩ := B
  exact ⟨f, fd, F.okE S len fun cdv A outer s H vs Q E hr hs => hbody f cdv A outer s H vs Q E hr hs, cl, mt, b⟩
end
section
variable {P : Program} {w : World} {K : PySem.W.Frag} {mg : Str → Option Value} {base : Heap} {N : List Str} {qual : Str} {scope : Scope} {f : Addr} {cd : Value} {A : Around} {outer : List Env} {s : Shared} {H : Hp} {E : XK}
theorem makes1 : Makes (cxOf (CX1 P w) P w K mg base N qual scope f cd A outer s H E) E := fun _ _ _ _ _ _ _ _ I hs m e => made1 I hs m e
end
/-! ### defs that are called while an error is handled -/
structure RoomH (k : Nat) (A : Around) : Prop where
  dp : A.depth + 3 * k + 5 < recursionLimit
  un : A.units + 16 * k + 200 < cLine
theorem Room.hand {k : Nat} {A : Around} (r : Room k A) (v : Value) : RoomH k (A.mark (some v)) := ⟨r.dp, r.un⟩
theorem RoomH.mono {j k : Nat} {A : Around} (r : RoomH k A) (h : j ≤ k) : RoomH j A := ⟨by have := r.dp; omega, by have := r.un; omega⟩
theorem RoomH.deeper {k : Nat} {A : Around} (r : RoomH (k + 1) A) (env : Env) : RoomH k (A.deeper env) :=
  ⟨by have := r.dp; show A.depth + 1 + 3 * k + 5 < _; omega, by have := r.un; show A.units + 3 + 16 * k + 200 < _; omega⟩
theorem RoomH.units0 {k : Nat} {A : Around} (r : RoomH k A) : A.units < cLine := by have := r.un; omega
structure FnOkH (P : Program) (w : World) (K : PySem.W.Frag) (mg : Str → Option Value) (base : Heap) (k : Nat) (f : Addr) (fd : FuncData) (ps : List Str) (sp : Addr → Sp) : Prop where
  len : ∀ b vs H Q E, sp b vs H Q E → vs.length = ps.length
  run : ∀ (b : Addr) (A : Around) (outer : List Env) (s : Shared) (H : Hp) (args : Args) (us : List Value) (vs : List V) (Q : VK) (E : XK), RoomH k A → A.handled = some (.ref b) → Env0 P w K mg base A outer s H → BindsTo s fd args (ps.zip us) → Vals vs us → sp b vs H Q E →
    codeAny (model P w) A (.call (.ref f) args) (CR CX0 outer P w H s Q E) s
def FnGH (P : Program) (w : World) (K : PySem.W.Frag) (mg : Str → Option Value) (base : Heap) (k : Nat) (x : Str) (ps : List Str) (sp : Addr → Sp) : Prop :=
  ∃ (f : Addr) (fd : FuncData), FnOkH P w K mg base k f fd ps sp ∧ mg x = some (.ref f) ∧ PySem.W.keepIn K (.ref f) = true ∧ Binds K fd ps []
abbrev Cx.uncalm (X : Cx) : Cx := { X with calm := false, xe := fun _ _ => False }
section
variable {P : Program} {w : World} {K : PySem.W.Frag} {mg : Str → Option Value} {base : Heap} {k : Nat} {sp : Addr → Sp}
theorem Fun.okH {x qual : Str} {st : Stmt} {f : Addr} {fd : FuncData} {N ps : List Str} (F : Fun K x qual st f fd) (S : FnScope N ps (defScope st)) (len : ∀ b vs H Q E, sp b vs H Q E → vs.length = ps.length)
    (hbody : ∀ (b : Addr) (cdv : Value) (A : Around) (outer : List Env) (s : Shared) (H : Hp) (vs : List V) (Q : VK) (E : XK), RoomH k (A.deeper (envOfC qual (defScope st) s.heap.objs.size f cdv)) → A.handled = some (.ref b) → sp b vs H Q E →
      ∃ t, PSs (cxOf CX0 P w K mg base N qual (defScope st) f cdv A outer s H E).uncalm (defBody st) t ∧ t { nx := fun _ H' => Q .non H', rt := Q } (start N vs) H) : FnOkH P w K mg base (k + 1) f fd ps sp := by
  obtain ⟨oc, od, kV, doc, pm, an, cdv, ct, osl, rfl, lk, hcd⟩ := F.ex
  refine ⟨len, fun b A outer s H args us vs Q E hr hh e0 hb r hsp => ?_⟩
  have hl := len _ _ _ _ _ hsp
  have kk : ∀ c o, base.get? c = some o → s.heap.get? c = some o := fun c o e => (e0.bs c o e).1
  have KX : K.In s.heap := e0.mod.kin.keeps kk
  have hkind : ∀ y ∈ ps.zip us, (defScope st).names.lookup y.1 = some .local ∨ ((defScope st).names.lookup y.1 = some .cell ∧ ((cellsFrom (s.heap.objs.size + 1) (defScope st).names []).lookup y.1).isSome = true) := fun ⟨n, v⟩ hy => by
    rcases S.par n (List.of_mem_zip hy).1 with q | q
    · exact .inl q
    · exact .inr ⟨q, PySem.W.cellsFrom_some _ _ _ (.inl q)⟩
  have hdp : A.depth < recursionLimit := by have := hr.dp; omega
  refine codeAny_call_function hdp (KX _ _ lk) rfl S.co S.gen rfl (PySem.W.codeRec_of KX hcd) (hb _ _ _ _ (wpAny_newFunctionEnv_cells S.kind hkind fun env he s1 x => ?_))
  subst he
  refine ⟨(e0.mod.nolimit.keeps kk).keeps x.toInCall.keep, codeAny_func ?_⟩
  obtain ⟨t, ht, hq⟩ := hbody b cdv A outer s H vs Q E (hr.deeper _) hh hsp
  have e1 : Env0 P w K mg base { A with handled := none } outer s H := ⟨e0.frames, e0.mod, e0.bs, e0.bsz, e0.funs, e0.frf, e0.hok, e0.bare⟩
  have I0 : Inv (cxOf CX0 P w K mg base N qual (defScope st) f cdv { A with handled := none } outer s H E) [] (start N vs) H s1 := inv_start S rfl e1 hl r x
  have ok := I0.ok
  have I : Inv (cxOf CX0 P w K mg base N qual (defScope st) f cdv A outer s H E).uncalm [] (start N vs) H s1 :=
    ⟨⟨ok.mod, ok.kind, ok.glob, ok.blt, ok.above, ok.inj, ok.has, ok.cab, (fun z => by cases z), Around.frames_deeper e0.frames, ok.stk, ok.exf, ok.bs, ok.bsz, ok.noex, ok.exfs, ok.funs, ok.frf⟩, I0.os, I0.bare, I0.base, I0.loc, I0.cell, I0.free, I0.freeC, I0.pin, I0.hok, I0.len⟩
  refine wpAny_mono (ht [] s1 (start N vs) H _ I hq) (fun fl s2 hs => ?_) fun e s2 z => False.elim z
  cases fl with
  | ret u =>
    obtain ⟨v, σ2, H2, J, rv, q⟩ := hs
    exact ⟨v, H2, J.os, J.bare, J.base, J.hok, rv, q⟩
  | next =>
    obtain ⟨σ2, H2, J, q⟩ := hs
    exact ⟨V.non, H2, J.os, J.bare, J.base, J.hok, rfl, q⟩
  | brk =>
    obtain ⟨_, _, _, q⟩ := hs
    exact False.elim q
  | cont =>
    obtain ⟨_, _, _, q⟩ := hs
    exact False.elim q
theorem FnB.okH {x : Str} {st : Stmt} {N ps : List Str} (B : FnB K mg x st ps) (S : FnScope N ps (defScope st)) (len : ∀ b vs H Q E, sp b vs H Q E → vs.length = ps.length)
    (hbody : ∀ (b f : Addr) (cdv : Value) (A : Around) (outer : List Env) (s : Shared) (H : Hp) (vs : List V) (Q : VK) (E : XK), RoomH k (A.deeper (envOfC x (defScope st) s.heap.objs.size f cdv)) → A.handled = some (.ref b) → sp b vs H Q E →
      ∃ t, PSs (cxOf CX0 P w K mg base N x (defScope st) f cdv A outer s H E).uncalm (defBody st) t ∧ t { nx := fun _ H' => Q .non H', rt := Q } (start N vs) H) : FnGH P w K mg base (k + 1) x ps sp := by
  obtain ⟨f, fd, F, m, b⟩ := B
  exact ⟨f, fd, F.okH S len fun b cdv A outer s H vs Q E hr hh hs => hbody b f cdv A outer s H vs Q E hr hh hs, m, F.kp, b⟩
end
section
variable {X : Cx} {j k : Nat} {x : Str} {ps : List Str} {sp : Addr → Sp} {b : Addr} {E : XK} {e : Expr} {es : List Expr} {t : TA} {p pos : Pos}
theorem pe_gH (G : FnGH X.prog X.w X.K X.mg X.base j x ps sp) (hr : RoomH k X.A) (hh : X.A.handled = some (.ref b)) (ha : PA X (e :: es) t) (hjk : j ≤ k := by decide) (hg : Gl X x := by rfl) (hdb : (x == ("__debug__" : Str)) = false := by decide)
    (he : starEach (e :: es) X.env = (false, eval e X.env) :: starEach es X.env := by rfl) (hpl : (backTo pos (starEach es X.env)).any (·.1) = false := by rfl) : PE X (.Call (.Name x p) (e :: es) [] pos) (tCall (sp b) [] E0 t) := by
  obtain ⟨f, fd, F, hm, kp, hb⟩ := G
  intro pins s σ H Q I h
  refine wpAny_Call_Name_kw (ld_glob I hg hm ?_ hdb)
  refine PySem.W.callWith_K (h₀ := X.base) I.ok.mod.kin kp (thn (ha pos pins s σ H _ I h) fun us s1 ⟨vs, H1, I1, r, q⟩ => ⟨I1.kIn, ?_⟩) he hpl
  have q' : sp b vs H1 Q E0 := by
    have : vs ++ [] = vs := List.append_nil vs
    rw [← this]
    exact q
  have hl : us.length = ps.length := by rw [← r.length]; exact F.len _ _ _ _ _ q'
  refine wpAny_call (codeAny_mono (F.run b X.A X.stack s1 H1 ⟨us, []⟩ us vs Q E0 (hr.mono hjk) hh I1.env0 (by simpa using hb s1 us I1.kIn (by simpa using hl)) r q') fun r s2 hq => ?_)
  cases r with
  | error e => exact hq.elim
  | ok fl =>
    cases fl with
    | ret u => exact I1.after hq
    | next => exact False.elim hq
    | brk => exact False.elim hq
    | cont => exact False.elim hq
end
/-! ### a list made over a range while an error is handled -/
theorem lc_rangeH {b : Addr} {lo : Int} {n : Nat} {caps : List (Str × Nat)} {te : TE} {σ : St} {acc : Addr} {Q : VK} {H : Hp} {C : Addr} (hacc : H acc = none) (hb : H b = some (ErrO C b)) (f : Nat → V) (hn : n ≤ 1000)
    (he : ∀ i, i < n → ∀ (H' : Hp) (R : VK), Same H H' → (∀ H'', Same H' H'' → R (f i) H'') → te (some (.int (lo + (i : Int))) :: capSt caps σ) H' R)
    (hq : ∀ H', Same H H' → H' acc = some (.lst ((List.range n).map f)) → Q (.ref acc) H') : tCompH b (Itr lo n) caps tYes te σ acc Q (upd H acc (.lst [])) := by
  refine ⟨fun i m H' => m = n - i ∧ i ≤ n ∧ Same H H' ∧ H' acc = some (.lst ((List.range i).map f)), ⟨n, rfl, Nat.zero_le _, Same.layS hacc, upd_same⟩, ?_⟩
  rintro i m H' ⟨rfl, hi, s1, e1⟩
  refine ⟨⟨C, s1 _ _ hb⟩, ?_⟩
  by_cases hlt : i < n
  · refine .inr ⟨hlt, fun H' => Same H H' ∧ H' acc = some (.lst ((List.range (i + 1)).map f)), fun H' e => ⟨n - (i + 1), by omega, rfl, hlt, e.1, e.2⟩, fun x H' y => ?_⟩
    obtain ⟨e, y⟩ := y
    subst e y
    unfold tYes
    dsimp only
    rw [if_pos rfl]
    refine he i hlt _ _ s1 fun H2 s2 => ?_
    refine ⟨_, s2 _ _ e1, ?_, (s1.trans s2).layN hacc, ?_⟩
    · rw [List.length_map, List.length_range]
      exact small1000 (by omega)
    · rw [upd_same, List.range_succ, List.map_append]
      rfl
  · have e : i = n := by omega
    subst e
    exact .inl ⟨Nat.le_refl _, hq _ s1 e1⟩
end L2

set_option Elab.async false
set_option linter.all false
set_option maxRecDepth 100000
namespace L2
open PySem PySem.Spec PyProof.Rows
theorem exc_obj {K : PySem.W.Frag} {h : Heap} {C : Addr} {bmB : List Value} {newId : String} (X : K.In h) (q : PySem.W.excIn K C bmB newId = true) :
    ∃ bm N nm qn bs hdct sn sub ab col dd k0 k1 k2 k3 k5 mN, h.get? C = some (excClassObj nm qn C N bs bm hdct sn sub ab col dd k0 k1 k2 k3 k5 newId) ∧ h.Ns N mN ∧ mN "__init__" = none ∧ OwnTail h bmB bm := by
  unfold PySem.W.excIn at q
  split at q
  case h_2 => cases q
  case h_1 dd cd sl ho =>
    split at q
    case h_2 => cases q
    case h_1 C1 bm k0 k1 k2 k3 n k5 hm hs =>
      rw [Bool.and_eq_true, Bool.and_eq_true, Bool.and_eq_true, Bool.and_eq_true, Bool.and_eq_true, beq_iff_eq, beq_iff_eq, beq_iff_eq, Bool.not_eq_true'] at q
      obtain ⟨⟨⟨⟨⟨e1, e2⟩, hdel⟩, ht⟩, hok⟩, hni⟩ := q
      subst e1 e2
      cases sl with
      | mk l =>
        cases cd with
        | mk nm bs mro ns qn hd sn sub ab col del =>
          dsimp only at hm hs hdel hok hni
          subst hm hdel hs
          exact ⟨bm, ns, nm, qn, bs, hd, sn, sub, ab, col, dd, k0, k1, k2, k3, k5, _, X _ _ ho, .of_isNs (PySem.W.isNs_of_in X hok), PySem.W.nsMap_none_of_in X hok hni, PySem.W.tail_of_in X ht⟩
/-- an error's class of the text, of the six the j-th -/
structure ErrT (K : PySem.W.Frag) (mg : Str → Option Value) (x : Str) (C CE : Addr) (Cs : List Addr) (j : Nat) : Prop where
  mgC : mg x = some (.ref C)
  exc : PySem.W.excIn K C mroV "ValueError.__new__" = true
  ek : ErrK K C
  caught : PySem.W.exmOne K (.ref C) (.ref CE) = some true
  is : ∀ k c, Cs[k]? = some c → PySem.W.kitOne K (.ref C) (.ref c) = some (decide (k = j))
  val : PySem.W.kitOne K (.ref C) (.type "ValueError") = some true
theorem ErrT.errC {K : PySem.W.Frag} {mg : Str → Option Value} {base : Heap} {x : Str} {C CE : Addr} {Cs : List Addr} {j : Nat} (e : ErrT K mg x C CE Cs j) (KX : K.In base) : ErrC K mg base x C := ⟨e.mgC, exc_obj KX e.exc⟩
theorem ps_raiseT {X : Cx} {C CE : Addr} {Cs : List Addr} {j : Nat} {E : XK} {x : Str} {e : Expr} {ta : TA} {np cpos pos : Pos} (hx : Makes X E) (O : ErrT X.K X.mg x C CE Cs j) (ha : PA X [e] ta) (hg : Gl X x := by rfl) (hh : X.calm = true := by rfl) (hd : (x == ("__debug__" : Str)) = false := by decide)
    (hs : starEach [e] X.env = [(false, eval e X.env)] := by rfl) : PS X (.Raise (some (.Call (.Name x np) [e] [] cpos)) none pos) (tRaise C E ta) :=
  fun pins s σ H D I h => ps_raise (pos := pos) hx (O.errC I.ok.mod.kin) hg ha hh hd hs pins s σ H D I h
theorem exm_mk {K : PySem.W.Frag} {C CE : Addr} {cd : ClassData} (h0 : PySem.W.subIn K (.ref CE) (.type "BaseException") = some true) (h1 : PySem.W.clsIn K CE = some cd) (h2 : PySem.W.typeIn K (.ref CE) = some (.type "type")) (h3 : PySem.W.subIn K (.ref C) (.ref CE) = some true) :
    PySem.W.exmOne K (.ref C) (.ref CE) = some true := by
  unfold PySem.W.exmOne
  rw [h0, if_pos (show (some true == some true) = true by decide)]
  show (if ((PySem.W.clsIn K CE).isSome && PySem.W.typeIn K (.ref CE) == some (.type "type")) = true then PySem.W.subIn K (.ref C) (.ref CE) else none) = _
  rw [h1, h2, h3]
  simp
theorem val_mk {K : PySem.W.Frag} {C : Addr} (h : PySem.W.subIn K (.ref C) (.type "ValueError") = some true) : PySem.W.kitOne K (.ref C) (.type "ValueError") = some true := by
  unfold PySem.W.kitOne
  rw [if_neg (by intro z; cases beq_iff_eq.mp z)]
  show (if PySem.W.kitMeta "ValueError" = true then PySem.W.subIn K (.ref C) (.type "ValueError") else none) = _
  rw [if_pos (by decide +kernel), h]
theorem log_small {z : Int} (h : z.natAbs < 10 ^ 31) : z.natAbs.log2 < 1920 := by
  by_cases h0 : z.natAbs = 0
  · rw [h0]
    decide
  · rw [Nat.log2_lt h0]
    exact Nat.lt_of_lt_of_le h (Nat.le_trans (show 10 ^ 31 ≤ 2 ^ 128 by decide) (Nat.pow_le_pow_right (by decide) (by decide)))
theorem set_at {σ : St} {i : Nat} {v : V} {n : Nat} (hl : σ.length = n) (hi : i < n) : (σ.set i (some v))[i]? = some (some v) := List.getElem?_set_self (by omega)
theorem six_mk {K : PySem.W.Frag} {C c0 c1 c2 c3 c4 c5 : Addr} {j : Nat} (h0 : PySem.W.kitOne K (.ref C) (.ref c0) = some (decide (0 = j))) (h1 : PySem.W.kitOne K (.ref C) (.ref c1) = some (decide (1 = j))) (h2 : PySem.W.kitOne K (.ref C) (.ref c2) = some (decide (2 = j)))
    (h3 : PySem.W.kitOne K (.ref C) (.ref c3) = some (decide (3 = j))) (h4 : PySem.W.kitOne K (.ref C) (.ref c4) = some (decide (4 = j))) (h5 : PySem.W.kitOne K (.ref C) (.ref c5) = some (decide (5 = j))) :
    ∀ (k : Nat) (c : Addr), [c0, c1, c2, c3, c4, c5][k]? = some c → PySem.W.kitOne K (.ref C) (.ref c) = some (decide (k = j)) := by
  intro k c h
  match k, h with
  | 0, h => cases h; exact h0
  | 1, h => cases h; exact h1
  | 2, h => cases h; exact h2
  | 3, h => cases h; exact h3
  | 4, h => cases h; exact h4
  | 5, h => cases h; exact h5
  | n + 6, h => cases h
end L2

set_option Elab.async false
set_option linter.all false
set_option maxRecDepth 100000
namespace L2
open PySem PySem.Spec PyProof.Rows
/-! ### the words of a flat list: whatever they are -/
theorem textFrom_le (m : Nat) : ∀ (ts : List Str) (k : Nat) (acc : Str), (∀ t ∈ ts, t.length ≤ m) → (textFrom k acc ts).length ≤ acc.length + ts.length * (m + 2)
  | [], k, acc, _ => by
    show acc.length ≤ acc.length + 0 * (m + 2)
    omega
  | t :: r, k, acc, h => by
    have h1 := textFrom_le m r (k + 1) (acc ++ (if k > 0 then ", " else "" : String) ++ t) fun u hu => h u (List.mem_cons_of_mem _ hu)
    have h2 := h t List.mem_cons_self
    have e : (acc ++ (if k > 0 then ", " else "" : String) ++ t).length ≤ acc.length + 2 + t.length := by
      rw [strLen_append, strLen_append]
      split
      · exact Nat.le_refl _
      · show acc.length + 0 + t.length ≤ _
        omega
    show (textFrom (k + 1) _ r).length ≤ acc.length + (r.length + 1) * (m + 2)
    rw [Nat.succ_mul]
    omega
theorem listText_le {m : Nat} {ts : List Str} (h : ∀ t ∈ ts, t.length ≤ m) : (listText ts).length ≤ ts.length * (m + 2) + 2 := by
  unfold listText
  rw [strLen_append]
  have h1 := textFrom_le m ts 0 "[" h
  have e1 : (("[" : String) : Str).length = 1 := rfl
  have e2 : (("]" : String) : Str).length = 1 := rfl
  omega
section
variable {prog : Program} {w : World} {A : Around} {E : Value → Shared → Prop} {s : Shared}
theorem repr_list {a : Addr} {oa : Obj} {its : List Value} {n : Nat} {Q : Value → Shared → Prop} (ha : s.heap.get? a = some oa) (hca : oa.cls = .type "list") (hda : oa.data = .seq its.toArray n) (hl : its.length ≤ 1000) (hr : ∀ v ∈ its, ∃ t : Str, ReprIs prog w v t ∧ t.length ≤ 1921) (hu : A.units + 8 < cLine)
    (hQ : ∀ (x : Str) (h' : Heap) (u tk : Nat), x.length ≤ 2000000 → (∀ b o, s.heap.get? b = some o → h'.get? b = some o) → Q (.str x u) { s with heap := h', toks := tk }) : wpAny (model prog w) A (pyReprObj (.ref a)) Q E s := by
  have hT : s.TypeIs (.ref a) "list" := ⟨_, ha, hca⟩
  refine wpAny_pyReprObj_slot (by omega) hT F.slot_list_repr.toG (wpAny_call (codeAny_call_builtin F.slot_list_repr.plain F.entry_list_repr (F.slot_list_repr.check _ _ _ _ _ _ _ _ hT (F.args_list_repr_1 _) ?_)))
  have hts : ∃ ts : List Str, ts.length = its.toArray.size ∧ (∀ (i : Nat) (x : Value), its.toArray[i]? = some x → ∃ t, ts[i]? = some t ∧ ReprIs prog w x t) ∧ ∀ t ∈ ts, t.length ≤ 1921 := by
    clear ha hca hda hT hQ hl
    induction its with
    | nil => exact ⟨[], rfl, fun i x h => by simp at h, fun t h => by cases h⟩
    | cons v r ih =>
      obtain ⟨t, ht, hz⟩ := hr v List.mem_cons_self
      obtain ⟨ts, h1, h2, h3⟩ := ih fun x hx => hr x (List.mem_cons_of_mem _ hx)
      refine ⟨t :: ts, by simpa using h1, fun i x h => ?_, fun u hu => ?_⟩
      · cases i with
        | zero =>
          simp at h
          subst h
          exact ⟨t, rfl, ht⟩
        | succ i => exact h2 i x (by simpa using h)
      · rcases List.mem_cons.mp hu with rfl | hu
        · exact hz
        · exact h3 u hu
  obtain ⟨ts, hlen, hT2, hsm⟩ := hts
  have hll := listText_le hsm
  have hlt : ts.length ≤ 1000 := by
    rw [hlen]
    simpa using hl
  have hbig : (listText ts).length ≤ 2000000 := by omega
  have hsl : sizeLine = 16777216 := by decide
  show wpAny _ _ (Builtin.listReprAt 0 ⟨[.ref a], []⟩) _ _ s
  unfold Builtin.listReprAt
  refine wpAny_bind (wpAny_pure ?_)
  show wpAny _ _ (Builtin.List.listItems (.ref a) >>= _) _ _ s
  have hli : ∀ (A' : Around) (E' : Value → Shared → Prop) (Q' : Array Value → Shared → Prop), Q' its.toArray s → wpAny (model prog w) A' (Builtin.List.listItems (.ref a)) Q' E' s := fun A' E' Q' hq => by
    unfold Builtin.List.listItems
    exact wpAny_bind (wpAny_seqItems ha hda (wpAny_pure hq))
  refine wpAny_bind (hli _ _ _ ?_)
  by_cases he : its.toArray.isEmpty = true
  · rw [if_pos he]
    exact wpAny_bind (wpAny_rule (wpAny_bind (wpAny_mkStr (wpAny_pure ⟨_, _, rfl, hQ _ _ _ _ (by show 2 ≤ 2000000; decide) fun _ _ z => z⟩) (by show 2 ≤ sizeLine; decide))))
  · rw [if_neg he]
    refine wpAny_bind (wpAny_stack fun st _ _ _ => ?_)
    dsimp only
    split
    · exact wpAny_bind (wpAny_rule (wpAny_bind (wpAny_mkStr (wpAny_pure ⟨_, _, rfl, hQ _ _ _ _ (by show 5 ≤ 2000000; decide) fun _ _ z => z⟩) (by show 5 ≤ sizeLine; decide))))
    · refine wpAny_bind (m := newList []) (wpAny_newObj_type (wpAny_pure ⟨F.quiet_list_repr_loop _, ?_⟩))
      refine codeAny_list_repr_start (P := s.heap.objs.size) (Nat.ne_of_lt (Heap.lt_size ha)) hlen hT2 (Heap.get?_push_of_some _ ha) hda (Heap.get?_push_size _ rfl) (fun h' u tk hk => ⟨_, _, rfl, hQ _ _ _ _ hbig fun b o e => hk b o (Nat.ne_of_lt (Heap.lt_size e)) (Heap.get?_push_of_some _ e)⟩) (by omega)
end
/-! ### in an f-string -/
def FlatR : V → Prop
  | .int i => i.natAbs.log2 < 1920
  | .bl _ => True
  | _ => False
theorem FlatR.is {prog : Program} {w : World} {x : V} {v : Value} (h : FlatR x) (r : RelV x v) : ∃ t : Str, ReprIs prog w v t ∧ t.length ≤ 1921 := by
  cases x with
  | int i =>
    obtain ⟨t, rfl⟩ := (show ∃ t, v = Value.int i t from r)
    refine ⟨_, ReprIs.int t h, ?_⟩
    rw [PySem.ofString_length]
    exact int_text_length_le (k := 1920) (by decide) h
  | bl b =>
    cases (show v = Value.bool b from r)
    refine ⟨_, ReprIs.bool b, ?_⟩
    cases b <;> decide
  | _ => exact h.elim
section
variable {X : Cx} {es : List Expr} {n : Nat} {t : TF}
theorem pf_repr {K : PySem.W.Frag} {e : Expr} {te : TE} {pos : Pos} {k : Nat} (hr0 : Room k X.A) (he : PE X e te) (hr : PF X es n t) (hK : X.K = K := by rfl) :
    PF X (.FormattedValue e 114 none pos :: es) (2000000 + n) (fun σ H Q => te σ H fun v H1 => ∃ a xs, v = .ref a ∧ SqL K H1 a xs ∧ xs.length ≤ 1000 ∧ (∀ x ∈ xs, FlatR x) ∧ t σ H1 Q) := by
  subst hK
  intro pins s σ H Q acc I h hz
  show wpAny _ _ (eval (.FormattedValue e 114 none pos) X.env) _ _ s
  refine wpAny_FormattedValue_repr (wpAny_mono (he pins s σ H _ I h) (fun u s1 ⟨v, H1, I1, rv, a, xs, ev, hq, hl, hf, q⟩ => ?_) fun _ _ z => z)
  subst ev
  cases rv
  obtain ⟨its, rvs, p, hzz⟩ := I1.list hq
  have hlen := rvs.length
  have hun := hr0.units
  obtain ⟨oa, m, hp, hca, _, hda⟩ := p
  refine repr_list (n := m) hp hca hda (by omega) (fun v hv => ?_) (by omega) fun x h' u tk hx hk => ?_
  · obtain ⟨i, hi⟩ := List.mem_iff_getElem?.mp hv
    have hix : i < xs.length := by
      have := (List.getElem?_eq_some_iff.mp hi).1
      omega
    obtain ⟨v2, h2, r2⟩ := rvs.get (List.getElem?_eq_getElem hix)
    rw [hi] at h2
    cases h2
    exact (hf _ (List.getElem_mem hix)).is r2
  · have I2 : Inv X pins σ H1 { s1 with heap := h', toks := tk } := I1.kept hk
    have hsl : sizeLine = 16777216 := by decide
    refine wpAny_formatField_str ⟨x, _, rfl, ?_, hr pins _ σ H1 Q _ I2 q ?_⟩ ⟨x, _, rfl, ?_, hr pins _ σ H1 Q _ (I2.tok _) q ?_⟩ (by omega) <;> (rw [strLen_append]; omega)
end
end L2

set_option Elab.async false
set_option linter.all false
set_option maxRecDepth 100000
namespace L2
open PySem PySem.Spec PyProof.Rows
/-! ### a for in a handler -/
def tForH (b : Addr) (wi : TI) (g : TG) (tb : TS) : TS := fun D σ H => wi σ H fun J H1 => ∃ W : Nat → Nat → St → Hp → Prop, (∃ m, W 0 m σ H1) ∧ ∀ i m σ H, W i m σ H →
  (J.stop i H ∧ (∃ C, H b = some (ErrO C b)) ∧ D.nx σ H) ∨ (J.go i H ∧ ∃ N : St → Hp → Prop, (∀ σ' H', N σ' H' → ∃ m', m' < m ∧ W (i + 1) m' σ' H') ∧ ∀ x H', J.yld i H x H' → g x σ H' fun σ2 H2 => tb { D with nx := N, ct := N, bk := D.nx } σ2 H2)
theorem ps_forH {X : Cx} {tg iter : Expr} {b : Addr} {body : List Stmt} {wi : TI} {g : TG} {tb : TS} {pos : Pos} (hp : PassesOwn (model X.prog X.w) X.A X.env X.xe) (hh : X.A.handled = some (.ref b)) (hi : PIH b X tg iter wi) (hg : PG X tg g) (hb : PSs X body tb)
    (hs : ∀ x, foldedSetIterable iter X.env x = pure x := by intro _; rfl) : PS X (.For tg iter body [] pos) (tForH b wi g tb) := by
  intro pins s σ H D I h
  refine wpAny_For (thn (hi pins s σ H _ I h) fun v s1 h1 => thn h1 fun itv s2 ⟨it, fp, tn, J, H2, e, I2, T, st2, f2, W, ⟨m0, w0⟩, turn⟩ => ?_) hs
  subst e
  have fpk : ∀ {H' : Hp}, (∀ c ∈ fp, H' c = none) → ∀ c ∈ fp, FpOk X pins H' c := fun hn c hc => ⟨hn c hc, (f2 c hc).2⟩
  refine codeAny_forLoop_any (fun n s' => ∃ i σ' H', Inv X pins σ' H' s' ∧ tn i s'.heap ∧ (∀ c ∈ fp, H' c = none) ∧ W i n σ' H') ?_ m0 ⟨0, σ, H2, I2, st2, fun c hc => (f2 c hc).1, w0⟩
  rintro n s3 ⟨i, σ3, H3, I3, st3, fr3, w3⟩
  rcases turn i n σ3 H3 w3 with ⟨stop, er, qn⟩ | ⟨go, N, hN, step⟩
  · refine wpAny_passesOwn hp (thn (T.done X rfl rfl rfl hh i pins s3 σ3 H3 X.xe I3 (fpk fr3) st3 stop er) fun r s4 ⟨hr, I4⟩ => ?_)
    subst hr
    exact wpAny_execs_nil ⟨σ3, H3, I4, qn⟩
  · refine wpAny_passesOwn hp (thn (T.item X rfl rfl rfl hh i pins s3 σ3 H3 X.xe I3 (fpk fr3) st3 go) fun r s4 ⟨u, hr, h4⟩ => ?_)
    subst hr
    refine wpAny_passesOwn hp (thn h4 fun _ s5 ⟨x, H5, I5, r5, y5, st5, fr5⟩ => ?_)
    have J5 := I5.pinned (fpk fr5) (T.obj _ _ st5)
    refine wpAny_passesOwn hp (thn (hg _ s5 σ3 H5 x u _ J5 r5 (step x H5 y5)) fun _ s6 ⟨σ6, H6, I6, q6⟩ => ?_)
    refine wpAny_passesOwn hp (thn (hb _ s6 σ6 H6 _ I6 q6) fun f s7 q7 => ?_)
    have pinK : ∀ {σ7 : St} {H7 : Hp}, Inv X (pins ++ pinsAt fp s5.heap) σ7 H7 s7 → ∀ c ∈ fp, ∀ o, s5.heap.get? c = some o → s7.heap.get? c = some o ∧ H7 c = none := fun I7 c hc o e => by
      have := I7.pin (c, o) (List.mem_append_right _ (List.mem_append_right _ (mem_pinsAt hc e)))
      exact ⟨this.1, this.2.1⟩
    have again : ∀ {σ7 : St} {H7 : Hp}, Inv X (pins ++ pinsAt fp s5.heap) σ7 H7 s7 → N σ7 H7 → ∃ m, m < n ∧ ∃ i σ' H', Inv X pins σ' H' s7 ∧ tn i s7.heap ∧ (∀ c ∈ fp, H' c = none) ∧ W i m σ' H' := fun {σ7 H7} I7 n7 => by
      obtain ⟨m', hm, w7⟩ := hN σ7 H7 n7
      refine ⟨m', hm, i + 1, σ7, H7, I7.unpinned, T.keep _ _ _ st5 fun c hc o e => (pinK I7 c hc o e).1, fun c hc => ?_, w7⟩
      obtain ⟨o, e, _⟩ := T.obj _ _ st5 c hc
      exact (pinK I7 c hc o e).2
    cases f with
    | next => obtain ⟨σ7, H7, I7, n7⟩ := q7; exact again I7 n7
    | cont => obtain ⟨σ7, H7, I7, n7⟩ := q7; exact again I7 n7
    | brk => obtain ⟨σ7, H7, I7, q7⟩ := q7; exact ⟨σ7, H7, I7.unpinned, q7⟩
    | ret v => obtain ⟨x7, σ7, H7, I7, r7, q7⟩ := q7; exact ⟨x7, σ7, H7, I7.unpinned, r7, q7⟩
/-- over a list that the body leaves as it is; the loop need not come to its end -/
theorem for_listH {K : PySem.W.Frag} {b a : Addr} {xs : List V} {g : TG} {tb : TS} {D : Ends} {σ : St} {H : Hp} (Pv : Nat → St → Hp → Prop) (h0 : Pv 0 σ H) (hl : ∀ i σ H, i ≤ xs.length → Pv i σ H → SqL K H a xs)
    (hs : ∀ i x σ H, xs[i]? = some x → Pv i σ H → g x σ H fun σ2 H2 => tb { D with nx := Pv (i + 1), ct := Pv (i + 1), bk := D.nx } σ2 H2) (hd : ∀ σ H, Pv xs.length σ H → (∃ C, H b = some (ErrO C b)) ∧ D.nx σ H) :
    ∃ W : Nat → Nat → St → Hp → Prop, (∃ m, W 0 m σ H) ∧ ∀ i m σ H, W i m σ H →
      ((Itl K a).stop i H ∧ (∃ C, H b = some (ErrO C b)) ∧ D.nx σ H) ∨ ((Itl K a).go i H ∧ ∃ N : St → Hp → Prop, (∀ σ' H', N σ' H' → ∃ m', m' < m ∧ W (i + 1) m' σ' H') ∧ ∀ x H', (Itl K a).yld i H x H' → g x σ H' fun σ2 H2 => tb { D with nx := N, ct := N, bk := D.nx } σ2 H2) := by
  refine ⟨fun i m σ H => m = xs.length - i ∧ i ≤ xs.length ∧ Pv i σ H, ⟨xs.length, rfl, Nat.zero_le _, h0⟩, ?_⟩
  rintro i m σ H ⟨rfl, hi, p⟩
  have sq := hl i σ H hi p
  by_cases hlt : i < xs.length
  · refine .inr ⟨⟨xs, xs[i], sq, List.getElem?_eq_getElem hlt⟩, Pv (i + 1), fun σ' H' p' => ⟨xs.length - (i + 1), by omega, rfl, hlt, p'⟩, fun x H' y => ?_⟩
    obtain ⟨e, y⟩ := y
    subst e
    exact hs i x σ _ (y xs sq) p
  · have e : i = xs.length := by omega
    subst e
    exact .inl ⟨⟨xs, sq, Nat.le_refl _⟩, hd σ H p⟩
end L2

set_option Elab.async false
set_option linter.all false
set_option maxRecDepth 100000
namespace L2
open PySem PySem.Spec PyProof.Rows
/-! ### a raise in a loop -/
section
variable {M : Model} {A : Around} {E : Value → Shared → Prop} {s : Shared}
theorem note_same {B : Heap} {env : Env} {l : List Env} {L e : Addr} {C : Value} {Q : Unit → Shared → Prop} (hf : env.frame = some L) (x : Fly B l e C (rawInt L) s.heap) (hQ : Q () s) : wpAny M A (noteFrame (.ref e) env) Q E s := by
  obtain ⟨kb, ne, fr, T, x, t⟩ := x
  obtain ⟨oe, vs, he, hc, hd, h1, h2⟩ := id x
  obtain ⟨nT, hTe, oT, ts, hT, hdT, h3⟩ := id t
  unfold noteFrame
  simp only [hf]
  refine wpAny_bind (wpAny_field he hd h1 ?_)
  rw [if_pos (show (Value.ref T != Value.none) = true from by simp)]
  refine wpAny_bind (wpAny_field hT hdT h3 ?_)
  rw [if_pos (beq_self_eq_true _)]
  exact wpAny_pure hQ
theorem back_run {B : Heap} {env : Env} {l : List Env} {L e : Addr} {C fl : Value} {EE : Value → Shared → Prop} (hf : env.frame = some L) (x : Fly B l e C fl s.heap)
    (hQ : ∀ h', Fly B l e C (rawInt L) h' → s.heap.UpToSlots h' → EE (.ref e) { s with heap := h' }) : cameBackBy M A env EE (.ref e) s := by
  obtain ⟨kb, ne, fr, T, x, t⟩ := x
  obtain ⟨oe, vs, he, hc, hd, h1, h2⟩ := id x
  obtain ⟨nT, hTe, oT, ts, hT, hdT, h3⟩ := id t
  unfold cameBackBy
  refine wpAny_bind (wpAny_field he hd h1 ?_)
  rw [if_neg (show ¬ ((Value.ref T == Value.none) = true) from by simp)]
  rw [hf]
  show wpAny M A (setFlight (.ref e) (some L)) _ _ _
  unfold setFlight
  refine wpAny_bind (wpAny_field he hd h1 ?_)
  rw [if_pos (show (Value.ref T != Value.none) = true from by simp)]
  obtain ⟨k, u, x'⟩ := flag_keep (f2 := rawInt L) kb ne fr x t
  exact wpAny_setField hT hdT (Array.getElem?_eq_some_iff.mp h3).1 (hQ _ k u)
end
def RawR (X : Cx) (E : XK) (e : Value) (s' : Shared) : Prop := ∃ (a C L : Addr) (pins : List (Addr × Obj)) (σ : St) (H' : Hp) (s1 : Shared) (B h' : Heap), e = .ref a ∧ s' = { s1 with heap := h' } ∧ X.env.frame = some L ∧ Inv X pins σ H' s1 ∧ B.StaysIn s1.heap ∧ (∀ b u, H' b = some u → ∃ o, B.get? b = some o) ∧
  (∀ b o, X.s₀.heap.get? b = some o → b ∉ frs X.outer → ∃ o', B.get? b = some o') ∧ H' a = none ∧ s1.heap.UpToSlots h' ∧ E (.ref C) none H' ∧
  ((B.StaysIn h' ∧ B.get? a = none ∧ h'.FunFrames B (X.env :: X.outer) ∧ ErrAt h' a (.ref C) .none) ∨ Fly B (X.env :: X.outer) a (.ref C) (rawInt L) h')
theorem Heap.upRefl (h : Heap) : h.UpToSlots h := fun b o hb _ => ⟨o.slots, hb⟩
section
variable {P : Program} {w : World} {K : PySem.W.Frag} {mg : Str → Option Value} {base : Heap} {N : List Str} {qual : Str} {scope : Scope} {f : Addr} {cd : Value} {A : Around} {outer : List Env} {s : Shared} {H : Hp} {E : XK}
theorem rawOwn : PassesOwn (model P w) ((cxOf (CX1 P w) P w K mg base N qual scope f cd A outer s H E).wish (RawR (cxOf (CX1 P w) P w K mg base N qual scope f cd A outer s H E) E)).A ((cxOf (CX1 P w) P w K mg base N qual scope f cd A outer s H E).wish (RawR (cxOf (CX1 P w) P w K mg base N qual scope f cd A outer s H E) E)).env
    ((cxOf (CX1 P w) P w K mg base N qual scope f cd A outer s H E).wish (RawR (cxOf (CX1 P w) P w K mg base N qual scope f cd A outer s H E) E)).xe := by
  rintro e s' ⟨a, C, L, pins, σ, H', s1, B, h', rfl, rfl, hL, I, kb, ct, cu, na, up, hE, hh⟩
  unfold notedBy
  rcases hh with ⟨kb2, ne, fr, x⟩ | fl
  · refine note_new (s := { s1 with heap := h' }) (L := L) I.ok.frames hL kb2 ne fr x fun h2 f2 u2 => ?_
    refine back_run (s := { s1 with heap := h2 }) hL f2 fun h3 f3 u3 => ?_
    exact ⟨a, C, L, pins, σ, H', s1, B, h3, rfl, rfl, hL, I, kb, ct, cu, na, up.trans (u2.trans u3), hE, .inr f3⟩
  · refine note_same (s := { s1 with heap := h' }) hL fl ?_
    refine back_run (s := { s1 with heap := h' }) hL fl fun h3 f3 u3 => ?_
    exact ⟨a, C, L, pins, σ, H', s1, B, h3, rfl, rfl, hL, I, kb, ct, cu, na, up.trans u3, hE, .inr f3⟩
theorem rawMakes : Makes ((cxOf (CX1 P w) P w K mg base N qual scope f cd A outer s H E).wish (RawR (cxOf (CX1 P w) P w K mg base N qual scope f cd A outer s H E) E)) E := by
  intro C a pins σ H' s1 s2 args I0 hs m e
  have I : Inv (cxOf (CX1 P w) P w K mg base N qual scope f cd A outer s H E) pins σ H' s1 := I0.unwish
  obtain ⟨h2, g2, d2, t2, o2⟩ := s2
  cases hs
  obtain ⟨t, he, _⟩ := m.there
  have hB : ∀ {b o}, (PySem.W.hideAll s1.heap (frs (envOfC qual scope s.heap.objs.size f cd :: outer))).get? b = some o → s1.heap.get? b = some o := fun h => PySem.W.of_hideAll _ h
  have kb : (PySem.W.hideAll s1.heap (frs (envOfC qual scope s.heap.objs.size f cd :: outer))).StaysIn h2 := fun b o h => m.keeps b o (hB h)
  have na : H' a = none := by
    cases q : H' a with
    | none => rfl
    | some u =>
      obtain ⟨ob, h⟩ := (I.hok a u q).have
      rw [m.new] at h
      cases h
  have J : Inv (cxOf (CX1 P w) P w K mg base N qual scope f cd A outer s H E) pins σ H' { s1 with heap := h2 } := I.call' (ch := []) rfl (Un.kept m.keeps) (I.hok.kept m.keeps) I.bare fun b z => by cases z
  have nb : (PySem.W.hideAll s1.heap (frs (envOfC qual scope s.heap.objs.size f cd :: outer))).get? a = none := by
    cases q : (PySem.W.hideAll s1.heap (frs (envOfC qual scope s.heap.objs.size f cd :: outer))).get? a with
    | none => rfl
    | some o =>
      have := hB q
      rw [m.new] at this
      cases this
  have fr : h2.FunFrames (PySem.W.hideAll s1.heap (frs (envOfC qual scope s.heap.objs.size f cd :: outer))) (envOfC qual scope s.heap.objs.size f cd :: outer) := by
    have f1 := PySem.W.funFrames_hide (as := frs (envOfC qual scope s.heap.objs.size f cd :: outer)) (show s1.heap.FunFrames base (envOfC qual scope s.heap.objs.size f cd :: outer) from I.stack) (fun env he b hb => List.mem_filterMap.mpr ⟨env, he, hb⟩)
    exact f1.of_keeps fun b o hb _ => ⟨o, m.keeps b o hb, rfl⟩
  refine ⟨a, C, _, pins, σ, H', { s1 with heap := h2 }, _, h2, rfl, rfl, rfl, J, kb, fun b u q => ?_, fun b o q hb => ?_, na, Heap.upRefl _, e, .inl ⟨kb, nb, fr, _, _, he, ⟨rfl, rfl⟩, rfl, rfl, rfl⟩⟩
  · obtain ⟨ob, h⟩ := (I.hok b u q).have
    refine ⟨ob, PySem.W.hideAll_get _ h fun z => ?_⟩
    have := I.stkFree b z
    rw [q] at this
    cases this
  · obtain ⟨o1, q1⟩ := I.base.there b o q (by intro z; cases z)
    refine ⟨o1, PySem.W.hideAll_get _ q1 fun z => ?_⟩
    rcases List.mem_cons.mp (I.stkSub b z) with rfl | z
    · exact absurd (Nat.lt_of_lt_of_le (Heap.lt_size q) I.ok.above) (Nat.lt_irrefl _)
    · exact hb z
theorem ps_raw {st : Stmt} {t : TS} (h : PS ((cxOf (CX1 P w) P w K mg base N qual scope f cd A outer s H E).wish (RawR (cxOf (CX1 P w) P w K mg base N qual scope f cd A outer s H E) E)) st t) : PS (cxOf (CX1 P w) P w K mg base N qual scope f cd A outer s H E) st t := by
  intro pins0 s0 σ0 H0 D I0 hq
  refine wpAny_mono (h pins0 s0 σ0 H0 D (I0.wish _) hq) (fun _ _ q => q.unwish) ?_
  rintro e s' ⟨a, C, L, pins, σ, H', s1, B, h', rfl, rfl, hL, I, kb, ct, cu, na, up, hE, hh⟩
  rcases hh with ⟨kb2, ne, fr, x⟩ | fl
  · exact leave_new (outer := outer) (B := B) (s := { s1 with heap := h' }) I.ok.frames rfl kb2 ne fr x fun h2 f2 u2 => cx1_after (s1 := s1) I kb ct cu na f2 (up.trans u2) hE
  · show wpAny _ _ (leaving _ _) _ _ _
    unfold leaving
    refine wpAny_bind (note_same (s := { s1 with heap := h' }) hL fl ?_)
    exact land_run (s := { s1 with heap := h' }) fl fun h2 f2 u2 => cx1_after (s1 := s1) I kb ct cu na f2 (up.trans u2) hE
end
/-! ### a try whose error leaves the names as they were -/
abbrev Cx.tryK (X : Cx) (pn : List (Addr × Obj)) (E : XK) (σ : St) : Cx := { X with pn := pn, xe := fun e s' => ∃ pins H s, Inv (X.bear pn) pins σ H s ∧ CX1 X.prog X.w X.stack H s E e s' }
theorem Inv.tryK {X : Cx} {pins : List (Addr × Obj)} {σ σ0 : St} {H : Hp} {s : Shared} {pn : List (Addr × Obj)} (I : Inv (X.bear pn) pins σ H s) (E : XK) : Inv (X.tryK pn E σ0) pins σ H s := I.wish _
theorem Inv.untryK {X : Cx} {pins : List (Addr × Obj)} {σ σ0 : St} {H : Hp} {s : Shared} {pn : List (Addr × Obj)} {E : XK} (I : Inv (X.tryK pn E σ0) pins σ H s) : Inv (X.bear pn) pins σ H s := Inv.unwish (X := X.bear pn) I
def tCallS (σ0 : St) (sp : Sp) (E : XK) (t : TA) : TE := fun σ H Q => σ = σ0 ∧ tCall sp [] E t σ H Q
theorem pe_gK {X : Cx} {pn : List (Addr × Obj)} {E : XK} {σ0 : St} {j k : Nat} {x : Str} {ps : List Str} {sp : Sp} {e : Expr} {es : List Expr} {t : TA} {p pos : Pos} (G : FnG X.prog X.w X.K X.mg X.base (CX1 X.prog X.w) j x ps sp) (hr : Room k X.A) (ha : PA (X.tryK pn E σ0) (e :: es) t) (hjk : j ≤ k := by decide) (hg : Gl (X.tryK pn E σ0) x := by rfl) (hdb : (x == ("__debug__" : Str)) = false := by decide)
    (he : starEach (e :: es) X.env = (false, eval e X.env) :: starEach es X.env := by rfl) (hpl : (backTo pos (starEach es X.env)).any (·.1) = false := by rfl) : PE (X.tryK pn E σ0) (.Call (.Name x p) (e :: es) [] pos) (tCallS σ0 sp E t) := by
  obtain ⟨f, fd, F, hm, kp, hb⟩ := G
  intro pins s σ H Q I h
  obtain ⟨rfl, h⟩ := h
  refine wpAny_Call_Name_kw (ld_glob I hg hm ?_ hdb)
  refine PySem.W.callWith_K (h₀ := X.base) I.ok.mod.kin kp (thn (ha pos pins s σ H _ I h) fun us s1 ⟨vs, H1, I1, r, q⟩ => ⟨I1.kIn, ?_⟩) he hpl
  have q' : sp vs H1 Q E := by
    have : vs ++ [] = vs := List.append_nil vs
    rw [← this]
    exact q
  have hl : us.length = ps.length := by rw [← r.length]; exact F.len _ _ _ _ q'
  refine wpAny_call (codeAny_mono (F.run X.A X.stack s1 H1 ⟨us, []⟩ us vs Q E (hr.mono hjk) I1.env0 (by simpa using hb s1 us I1.kIn (by simpa using hl)) r q') fun r s2 hq => ?_)
  cases r with
  | error e => exact ⟨pins, H1, s1, I1.untryK, hq⟩
  | ok fl =>
    cases fl with
    | ret u => exact I1.after hq
    | next => exact False.elim hq
    | brk => exact False.elim hq
    | cont => exact False.elim hq
def tTryK (K : PySem.W.Frag) (i : Nat) (C0 : Addr) (tb : XK → St → TS) (th : Addr → TS) : TS := fun D σ H =>
  tb (fun c _ H' => ∃ C, c = .ref C ∧ PySem.W.exmOne K (.ref C) (.ref C0) = some true ∧ ∀ (a : Addr), H' a = none → th a { nx := fun _ _ => False, rt := D.rt, bk := fun _ _ => False, ct := fun _ _ => False } (σ.set i (some (.ref a))) (upd H' a (ErrO C a))) σ D σ H
theorem ps_tryK {X : Cx} {body : List Stmt} {b₀ : Stmt} {suite : List Stmt} {n x : Str} {i : Nat} {C0 : Addr} {tb : XK → St → TS} {th : Addr → TS} {np hpos pos : Pos} {L : Addr} (hb : ∀ pn E σ0, PSs (X.tryK pn E σ0) body (tb E σ0)) (hh : ∀ a, PSs (X.hand a) (b₀ :: suite) (th a))
    (hN : X.N.Nodup) (hi : X.N[i]? = some n) (hl : X.env.scope.names.lookup n = some .local) (hm : X.mg x = some (.ref C0)) (hst : X.stack = X.env :: X.outer := by rfl) (hfr : X.env.frame = some L := by rfl) (hg : Gl X x := by rfl) (hd : (x == ("__debug__" : Str)) = false := by decide) :
    PS X (.Try body [.ExceptHandler (some (.Name x np)) (some n) (b₀ :: suite) hpos] [] [] pos) (tTryK X.K i C0 tb th) := by
  intro pins s σ H D I h
  refine wpAny_Try_except (wpAny_mono (hb (X.pn ++ pins) _ σ [] s σ H D (I.bear.tryK _) h) (fun f s1 q => ?_) (fun e s1 q => ?_))
  · cases f with
    | next =>
      obtain ⟨σ', H', J, q⟩ := q
      exact wpAny_execs_nil ⟨σ', H', J.untryK.unbear rfl, q⟩
    | ret v =>
      obtain ⟨x, σ', H', J, r, q⟩ := q
      exact ⟨x, σ', H', J.untryK.unbear rfl, r, q⟩
    | brk =>
      obtain ⟨σ', H', J, q⟩ := q
      exact ⟨σ', H', J.untryK.unbear rfl, q⟩
    | cont =>
      obtain ⟨σ', H', J, q⟩ := q
      exact ⟨σ', H', J.untryK.unbear rfl, q⟩
  · obtain ⟨ps, H1, s0, J, a, C, H', B, rfl, os, bare, un, hok, na, fl, ct, cu, C', eC, hx, hth⟩ := q
    cases eC
    have J : Inv X pins σ H1 s0 := J.unbear rfl
    have fr : X.A.frames = some (X.env :: X.outer) := by rw [← hst]; exact I.ok.frames
    rw [hst] at fl
    refine note_on fr hfr fl fun h1 f1 u1 => land_run (s := { s1 with heap := h1 }) f1 fun h2 f2 u2 => ?_
    rw [← hst] at fl f1 f2
    have up := u1.trans u2
    have I2 := (J.landed os bare un hok na fl ct cu f2 up).hand a
    refine wpAny_handleBy_cons (codeAny_handlers_test (ld_glob (X := X.hand a) I2 hg hm ?_ hd)) (by intro q; cases q)
    have ee := errO_at I2.hok upd_same
    obtain ⟨oe, vs, he, hc, _⟩ := ee
    have LT : PySem.W.Looks (model X.prog X.w) h2 (typeOf (.ref a)) (.ref C) := hc ▸ (PySem.W.Looks.ld he).andThen .now
    refine (PySem.W.exm_one I2.kIn LT hx).here ?_
    refine codeAny_handlers_suite_as (land_run (s := { s1 with heap := h2 }) f2 fun h3 f3 u3 => ?_)
    have I3 := (J.landed os bare un hok na fl ct cu f3 (up.trans u3)).hand a
    refine store_ok (X := X.hand a) (v := .ref a) I3 hN hi (.inl hl) rfl (fun s4 I4 => ?_) (.inr hl)
    refine wpAny_mono (hh a pins s4 _ _ _ I4 (hth a na)) (fun f s5 q5 => ?_) fun _ _ z => False.elim z
    cases f with
    | ret v =>
      obtain ⟨x5, σ5, H5, I5, r5, q5⟩ := q5
      obtain ⟨m5, hn5, _⟩ := id I5.loc
      refine wpAny_nameGoes hl hn5 (by rw [I.ok.kind]; rfl) fun h6 m6 hn6 sb => ?_
      exact ⟨x5, _, H5, (I5.unhand I.ok).gone hn6 sb, r5, q5⟩
    | next =>
      obtain ⟨_, _, _, z⟩ := q5
      exact z.elim
    | brk =>
      obtain ⟨_, _, _, z⟩ := q5
      exact z.elim
    | cont =>
      obtain ⟨_, _, _, z⟩ := q5
      exact z.elim
/-- a list made over a list while an error is handled -/
theorem lc_listH {K : PySem.W.Frag} {a b C : Addr} {xs : List V} {caps : List (Str × Nat)} {tt : TT} {te : TE} {σ : St} {acc : Addr} {Q : VK} {H : Hp} (hacc : H acc = none) (hb : H b = some (ErrO C b)) (ha : SqL K H a xs) (hn : xs.length ≤ 1000) (p : V → Bool) (f : V → V)
    (ht : ∀ x, x ∈ xs → ∀ (H' : Hp) (R : Bool → Hp → Prop), Same H H' → (∀ H'', Same H' H'' → R (p x) H'') → tt (some x :: capSt caps σ) H' R)
    (he : ∀ x, x ∈ xs → p x = true → ∀ (H' : Hp) (R : VK), Same H H' → (∀ H'', Same H' H'' → R (f x) H'') → te (some x :: capSt caps σ) H' R)
    (hq : ∀ H', Same H H' → H' acc = some (.lst ((xs.filter p).map f)) → Q (.ref acc) H') : tCompH b (Itl K a) caps tt te σ acc Q (upd H acc (.lst [])) := by
  refine ⟨fun i m H' => m = xs.length - i ∧ i ≤ xs.length ∧ Same H H' ∧ H' acc = some (.lst (((xs.take i).filter p).map f)), ⟨xs.length, rfl, Nat.zero_le _, Same.layS hacc, upd_same⟩, ?_⟩
  rintro i m H' ⟨rfl, hi, s1, e1⟩
  refine ⟨⟨C, s1 _ _ hb⟩, ?_⟩
  have hsq := s1.seq ha
  by_cases hlt : i < xs.length
  · have hx : xs[i]? = some xs[i] := List.getElem?_eq_getElem hlt
    refine .inr ⟨⟨xs, xs[i], hsq, hx⟩, fun H' => Same H H' ∧ H' acc = some (.lst (((xs.take (i + 1)).filter p).map f)), fun H' e => ⟨xs.length - (i + 1), by omega, rfl, hlt, e.1, e.2⟩, fun x H' y => ?_⟩
    obtain ⟨e, y⟩ := y
    have hy := y xs hsq
    rw [hx] at hy
    cases hy
    subst e
    have hmem : xs[i] ∈ xs := List.getElem_mem hlt
    have et : xs.take (i + 1) = xs.take i ++ [xs[i]] := by rw [List.take_append_getElem]
    refine ht _ hmem _ _ s1 fun H2 s2 => ?_
    cases hp : p xs[i] with
    | true =>
      refine iteT (he _ hmem hp _ _ (s1.trans s2) fun H3 s3 => ⟨_, s3 _ _ (s2 _ _ e1), ?_, ((s1.trans s2).trans s3).layN hacc, ?_⟩)
      · have h1 : (((xs.take i).filter p).map f).length ≤ i := by
          rw [List.length_map]
          have := List.length_filter_le p (xs.take i)
          rw [List.length_take] at this
          omega
        exact small1000 (by omega)
      · rw [upd_same, et, List.filter_append, List.map_append]
        simp [hp]
    | false =>
      refine iteF ⟨s1.trans s2, ?_⟩
      rw [s2 _ _ e1, et, List.filter_append, List.map_append]
      simp [hp]
  · have e : i = xs.length := by omega
    subst e
    rw [List.take_length] at e1
    exact .inl ⟨⟨xs, hsq, Nat.le_refl _⟩, hq _ s1 e1⟩
end L2

namespace Sw
/-- the j-th switch of the thing with the number n -/
def gb (n j : Nat) : Nat := (n / 2 ^ j + n / 2 ^ (j + 1)) % 2
def gray (k n : Nat) : List Int := (List.range k).map fun j => ((gb n j : Nat) : Int)

theorem xor_mod2 (x y : Nat) : (x ^^^ y) % 2 = (x + y) % 2 := by
  have h := @Nat.xor_mod_two_eq_one x y
  rcases Nat.mod_two_eq_zero_or_one x with a | a <;> rcases Nat.mod_two_eq_zero_or_one y with b | b <;> rcases Nat.mod_two_eq_zero_or_one (x ^^^ y) with c | c <;> first | omega | (exfalso; simp [a, b, c] at h)
theorem xor_and (x y : Nat) : x + y = (x ^^^ y) + 2 * (x &&& y) := by
  induction x using Nat.strongRecOn generalizing y with
  | ind x ih =>
    by_cases h : x = 0
    · subst h; simp
    · have h1 := ih (x / 2) (by omega) (y / 2)
      have h2 : (x ^^^ y) / 2 = x / 2 ^^^ y / 2 := Nat.xor_div_two
      have h3 : (x &&& y) / 2 = x / 2 &&& y / 2 := Nat.and_div_two
      have h4 : (x ^^^ y) % 2 = (x + y) % 2 := xor_mod2 x y
      have h5 : (x &&& y) % 2 = (x % 2) * (y % 2) := by
        rcases Nat.mod_two_eq_zero_or_one x with a | a <;> rcases Nat.mod_two_eq_zero_or_one y with b | b <;> rw [a, b]
        · have := @Nat.and_mod_two_eq_one x y; omega
        · have := @Nat.and_mod_two_eq_one x y; omega
        · have := @Nat.and_mod_two_eq_one x y; omega
        · exact Nat.and_mod_two_eq_one.mpr ⟨a, b⟩
      rw [← h2, ← h3] at h1
      rcases Nat.mod_two_eq_zero_or_one x with a | a <;> rcases Nat.mod_two_eq_zero_or_one y with b | b <;> rw [a, b] at h5 <;> omega

theorem xor_bit (n j : Nat) : (n ^^^ (n / 2)) / 2 ^ j % 2 = gb n j := by
  rw [Nat.xor_div_two_pow, xor_mod2, gb, Nat.div_div_eq_div_mul, Nat.pow_succ, Nat.mul_comm (2 ^ j) 2]

theorem gb_lt (n j : Nat) : gb n j < 2 := Nat.mod_lt _ (by decide)
theorem gray_length (k n : Nat) : (gray k n).length = k := by simp [gray]

/-! one step on -/
theorem div_succ (n d : Nat) (hd : 0 < d) : (n + 1) / d = n / d + (if d ∣ n + 1 then 1 else 0) := by
  by_cases h : d ∣ n + 1
  · rw [if_pos h]
    obtain ⟨q, hq⟩ := h
    have hq0 : 0 < q := by
      rcases Nat.eq_zero_or_pos q with z | z
      · subst z; simp at hq
      · exact z
    rw [hq, Nat.mul_div_cancel_left _ hd]
    have : n = d * (q - 1) + (d - 1) := by
      have e : d * q = d * (q - 1) + d := by
        obtain ⟨p, rfl⟩ : ∃ p, q = p + 1 := ⟨q - 1, by omega⟩
        simp [Nat.mul_add]
      omega
    rw [this, Nat.mul_add_div hd, Nat.div_eq_of_lt (by omega)]
    omega
  · rw [if_neg h]
    have h1 : (n + 1) % d ≠ 0 := fun e => h (Nat.dvd_of_mod_eq_zero e)
    have h2 := Nat.div_add_mod (n + 1) d
    have h3 := Nat.mod_lt (n + 1) hd
    have e : n = d * ((n + 1) / d) + ((n + 1) % d - 1) := by omega
    have h4 : (n + 1) % d - 1 < d := by omega
    have h5 : (d * ((n + 1) / d) + ((n + 1) % d - 1)) / d = (n + 1) / d := by
      rw [Nat.mul_add_div hd, Nat.div_eq_of_lt h4, Nat.add_zero]
    rw [← e] at h5
    omega
theorem pow_dvd_mono {a b m : Nat} (h : a ≤ b) (hd : 2 ^ b ∣ m) : 2 ^ a ∣ m := Nat.dvd_trans (Nat.pow_dvd_pow 2 h) hd
/-- the place at which n and n + 1 differ -/
theorem gb_ne_succ (n j : Nat) : gb n j ≠ gb (n + 1) j ↔ (2 ^ j ∣ n + 1 ∧ ¬ 2 ^ (j + 1) ∣ n + 1) := by
  have hp : 0 < 2 ^ j := Nat.pow_pos (by decide)
  have hp' : 0 < 2 ^ (j + 1) := Nat.pow_pos (by decide)
  have hm : 2 ^ (j + 1) ∣ n + 1 → 2 ^ j ∣ n + 1 := pow_dvd_mono (Nat.le_succ j)
  unfold gb
  rw [div_succ n _ hp, div_succ n _ hp']
  by_cases h1 : 2 ^ j ∣ n + 1 <;> by_cases h2 : 2 ^ (j + 1) ∣ n + 1
  · simp only [if_pos h1, if_pos h2]; constructor
    · intro h; exfalso; omega
    · intro h; exact absurd h2 h.2
  · simp only [if_pos h1, if_neg h2]; constructor
    · intro _; exact ⟨h1, h2⟩
    · intro _; omega
  · exact absurd (hm h2) h1
  · simp only [if_neg h1, if_neg h2]; constructor
    · intro h; exfalso; omega
    · intro h; exact absurd h.1 h1
theorem dvd_unique {m a b : Nat} (ha : 2 ^ a ∣ m) (ha' : ¬ 2 ^ (a + 1) ∣ m) (hb : 2 ^ b ∣ m) (hb' : ¬ 2 ^ (b + 1) ∣ m) : a = b := by
  rcases Nat.lt_trichotomy a b with h | h | h
  · exact absurd (pow_dvd_mono h hb) ha'
  · exact h
  · exact absurd (pow_dvd_mono h ha) hb'
/-- from the last number (2^k - 1) to nought -/
theorem gb_last {k j : Nat} (hj : j < k) : gb (2 ^ k - 1) j ≠ gb 0 j ↔ j + 1 = k := by
  have e0 : gb 0 j = 0 := by simp [gb]
  have hk : ∀ i, i ≤ k → (2 ^ k - 1) / 2 ^ i = 2 ^ (k - i) - 1 := fun i hi => by
    have hp : 0 < 2 ^ i := Nat.pow_pos (by decide)
    have hq : 0 < 2 ^ (k - i) := Nat.pow_pos (by decide)
    have e : 2 ^ k = 2 ^ i * 2 ^ (k - i) := by rw [← Nat.pow_add]; congr 1; omega
    have e2 : 2 ^ i * 2 ^ (k - i) = 2 ^ i * (2 ^ (k - i) - 1) + 2 ^ i := by
      obtain ⟨p, hp⟩ : ∃ p, 2 ^ (k - i) = p + 1 := ⟨2 ^ (k - i) - 1, by omega⟩
      rw [hp]; simp [Nat.mul_add]
    have e3 : 2 ^ k - 1 = 2 ^ i * (2 ^ (k - i) - 1) + (2 ^ i - 1) := by omega
    rw [e3, Nat.mul_add_div hp, Nat.div_eq_of_lt (by omega)]
    omega
  rw [e0]
  unfold gb
  rw [hk j (by omega), hk (j + 1) (by omega)]
  have h2 : 2 ^ (k - j) = 2 * 2 ^ (k - (j + 1)) := by
    rw [show k - j = (k - (j + 1)) + 1 by omega, Nat.pow_succ, Nat.mul_comm]
  have h3 : 0 < 2 ^ (k - (j + 1)) := Nat.pow_pos (by decide)
  constructor
  · intro h
    refine Classical.byContradiction fun hne => h ?_
    obtain ⟨d, hd⟩ : ∃ d, k - (j + 1) = d + 1 := ⟨k - (j + 1) - 1, by omega⟩
    have h4 : 2 ^ (k - (j + 1)) = 2 * 2 ^ d := by rw [hd, Nat.pow_succ, Nat.mul_comm]
    have h5 : 0 < 2 ^ d := Nat.pow_pos (by decide)
    omega
  · intro h
    have h4 : k - (j + 1) = 0 := by omega
    rw [h4] at h2 ⊢
    omega
/-- what changed tells -/
structure Place (k n p : Nat) : Prop where
  lt : p < k
  dvd : 2 ^ p ∣ n + 1
  stop : ¬ 2 ^ (p + 1) ∣ n + 1 ∨ p + 1 = k
theorem place_iff {k n p j : Nat} (P : Place k n p) (hn : n < 2 ^ k) (hj : j < k) : gb n j ≠ gb ((n + 1) % 2 ^ k) j ↔ j = p := by
  by_cases hl : n + 1 = 2 ^ k
  · rw [hl, Nat.mod_self, show n = 2 ^ k - 1 by omega, gb_last hj]
    have hp : p + 1 = k := by
      rcases P.stop with h | h
      · exact absurd (by rw [hl]; exact Nat.pow_dvd_pow 2 (by have := P.lt; omega)) h
      · exact h
    omega
  · rw [Nat.mod_eq_of_lt (by omega), gb_ne_succ]
    have hstop : ¬ 2 ^ (p + 1) ∣ n + 1 := by
      rcases P.stop with h | h
      · exact h
      · intro hd
        rw [h] at hd
        have := Nat.le_of_dvd (by omega) hd
        omega
    constructor
    · rintro ⟨h1, h2⟩
      exact dvd_unique h1 h2 P.dvd hstop
    · rintro rfl
      exact ⟨P.dvd, hstop⟩
theorem filter_one {k p : Nat} (hp : p < k) (q : Nat → Bool) (hq : ∀ j, j < k → (q j = true ↔ j = p)) : (List.range k).filter q = [p] := by
  induction k with
  | zero => omega
  | succ k ih =>
    rw [List.range_succ, List.filter_append]
    by_cases h : p = k
    · subst h
      have h1 : (List.range p).filter q = [] := by
        rw [List.filter_eq_nil_iff]
        intro a ha hqa
        have hl := List.mem_range.mp ha
        have := (hq a (by omega)).mp hqa
        omega
      have h2 : q p = true := (hq p (by omega)).mpr rfl
      simp [h1, h2]
    · have h2 : ¬ q k = true := fun hqk => h ((hq k (by omega)).mp hqk).symm
      rw [ih (by omega) fun j hj => hq j (by omega)]
      simp [h2]
/-- the loop of changed: place and rest -/
structure Going (k n p : Nat) (r : Int) : Prop where
  lt : p < k
  rest : r = ((n / 2 ^ p : Nat) : Int)
  dvd : 2 ^ p ∣ n + 1
theorem going0 {k n : Nat} (hk : 0 < k) : Going k n 0 (n : Int) := ⟨hk, by simp, by simp⟩
theorem going_even {n p : Nat} (hd : 2 ^ p ∣ n + 1) : 2 ^ (p + 1) ∣ n + 1 ↔ n / 2 ^ p % 2 = 1 := by
  have hp : 0 < 2 ^ p := Nat.pow_pos (by decide)
  have e := div_succ n (2 ^ p) hp
  rw [if_pos hd] at e
  obtain ⟨q, hq⟩ := hd
  rw [hq, Nat.mul_div_cancel_left _ hp] at e
  rw [hq, Nat.pow_succ, Nat.mul_dvd_mul_iff_left hp]
  omega
theorem going_next {k n p : Nat} {r : Int} (G : Going k n p r) (h1 : r % 2 = 1) (h2 : p + 1 < k) : Going k n (p + 1) (r / 2) := by
  obtain ⟨a, rfl, c⟩ := G
  refine ⟨h2, ?_, (going_even c).mpr (by omega)⟩
  rw [Nat.pow_succ, ← Nat.div_div_eq_div_mul]
  omega
theorem going_done {k n p : Nat} {r : Int} (G : Going k n p r) (h : ¬ (r % 2 = 1 ∧ p + 1 < k)) : Place k n p := by
  obtain ⟨a, rfl, c⟩ := G
  refine ⟨a, c, ?_⟩
  by_cases h1 : p + 1 = k
  · exact .inr h1
  · refine .inl fun hd => h ⟨?_, by omega⟩
    have := (going_even c).mp hd
    omega
end Sw
namespace Sw
/-! the same things as lists of natural numbers, and back -/
def thg (k n : Nat) : List Nat := (List.range k).map (gb n)
def num (t : List Nat) : Nat := t.foldr (fun b acc => acc * 2 + (acc % 2 + b) % 2) 0
structure Is (k : Nat) (t : List Nat) : Prop where
  len : t.length = k
  bits : ∀ x ∈ t, x < 2
theorem gray_thg (k n : Nat) : gray k n = (thg k n).map fun (x : Nat) => (x : Int) := by simp [gray, thg]
theorem gb_succ (n j : Nat) : gb n (j + 1) = gb (n / 2) j := by
  unfold gb
  rw [Nat.div_div_eq_div_mul, Nat.div_div_eq_div_mul, Nat.mul_comm 2 (2 ^ j), Nat.mul_comm 2 (2 ^ (j + 1)), ← Nat.pow_succ, ← Nat.pow_succ]
theorem thg_succ (k n : Nat) : thg (k + 1) n = gb n 0 :: thg k (n / 2) := by
  unfold thg
  rw [List.range_succ_eq_map, List.map_cons, List.map_map]
  congr 1
  refine List.map_congr_left fun j _ => ?_
  exact gb_succ n j
theorem gb_0 (n : Nat) : gb n 0 = (n + n / 2) % 2 := by simp [gb]
theorem thg_is (k n : Nat) : Is k (thg k n) := ⟨by simp [thg], fun x hx => by
  obtain ⟨j, _, rfl⟩ := List.mem_map.mp hx
  exact gb_lt n j⟩
theorem num_thg : ∀ {k n : Nat}, n < 2 ^ k → num (thg k n) = n
  | 0, n, h => by simp [thg, num] at h ⊢; omega
  | k + 1, n, h => by
    rw [thg_succ]
    show num (thg k (n / 2)) * 2 + (num (thg k (n / 2)) % 2 + gb n 0) % 2 = n
    rw [num_thg (k := k) (n := n / 2) (by rw [Nat.pow_succ] at h; omega), gb_0]
    omega
theorem num_lt : ∀ {k : Nat} {t : List Nat}, Is k t → num t < 2 ^ k
  | 0, [], _ => by simp [num]
  | 0, _ :: _, h => by have := h.len; simp at this
  | k + 1, [], h => by have := h.len; simp at this
  | k + 1, b :: t, h => by
    have ih := num_lt (k := k) (t := t) ⟨by simpa using h.len, fun x hx => h.bits x (List.mem_cons_of_mem _ hx)⟩
    show num t * 2 + (num t % 2 + b) % 2 < 2 ^ (k + 1)
    rw [Nat.pow_succ]
    omega
theorem thg_num : ∀ {k : Nat} {t : List Nat}, Is k t → thg k (num t) = t
  | 0, [], _ => rfl
  | 0, _ :: _, h => by have := h.len; simp at this
  | k + 1, [], h => by have := h.len; simp at this
  | k + 1, b :: t, h => by
    have ih := thg_num (k := k) (t := t) ⟨by simpa using h.len, fun x hx => h.bits x (List.mem_cons_of_mem _ hx)⟩
    have hb := h.bits b List.mem_cons_self
    have e : num (b :: t) = num t * 2 + (num t % 2 + b) % 2 := rfl
    rw [thg_succ, gb_0]
    have e1 : num (b :: t) / 2 = num t := by rw [e]; omega
    rw [e1, ih]
    congr 1
    rw [e]
    omega
/-- the things by those of one switch less -/
theorem thg_low {k n : Nat} (h : n < 2 ^ k) : thg (k + 1) n = thg k n ++ [0] := by
  unfold thg
  rw [List.range_succ, List.map_append]
  congr 1
  show [gb n k] = [0]
  unfold gb
  rw [Nat.div_eq_of_lt h, Nat.div_eq_of_lt (by rw [Nat.pow_succ]; omega)]
theorem rev_div {k j n : Nat} (hj : j ≤ k) (h : n < 2 ^ k) : (2 ^ k - 1 - n) / 2 ^ j = 2 ^ (k - j) - 1 - n / 2 ^ j := by
  have hp : 0 < 2 ^ j := Nat.pow_pos (by decide)
  have e : 2 ^ k = 2 ^ j * 2 ^ (k - j) := by rw [← Nat.pow_add]; congr 1; omega
  have h1 := Nat.div_add_mod n (2 ^ j)
  have h2 := Nat.mod_lt n hp
  have h3 : n / 2 ^ j < 2 ^ (k - j) := Nat.div_lt_of_lt_mul (by rw [← e]; exact h)
  have h4 : 2 ^ j * 2 ^ (k - j) = 2 ^ j * (2 ^ (k - j) - 1 - n / 2 ^ j) + 2 ^ j * (n / 2 ^ j) + 2 ^ j := by
    rw [← Nat.mul_add]
    have : 2 ^ (k - j) = (2 ^ (k - j) - 1 - n / 2 ^ j + n / 2 ^ j) + 1 := by omega
    conv => lhs; rw [this]
    rw [Nat.mul_add, Nat.mul_one]
  have e3 : 2 ^ k - 1 - n = 2 ^ j * (2 ^ (k - j) - 1 - n / 2 ^ j) + (2 ^ j - 1 - n % 2 ^ j) := by omega
  rw [e3, Nat.mul_add_div hp, Nat.div_eq_of_lt (show 2 ^ j - 1 - n % 2 ^ j < 2 ^ j by omega), Nat.add_zero]
theorem thg_high {k n : Nat} (h1 : 2 ^ k ≤ n) (h2 : n < 2 ^ (k + 1)) : thg (k + 1) n = thg k (2 ^ (k + 1) - 1 - n) ++ [1] := by
  unfold thg
  rw [List.range_succ, List.map_append]
  congr 1
  · refine List.map_congr_left fun j hj => ?_
    have hj' := List.mem_range.mp hj
    unfold gb
    rw [rev_div (by omega) h2, rev_div (by omega) h2]
    have a1 : n / 2 ^ j < 2 ^ (k + 1 - j) := Nat.div_lt_of_lt_mul (by rw [← Nat.pow_add]; rw [show j + (k + 1 - j) = k + 1 by omega]; exact h2)
    have a2 : n / 2 ^ (j + 1) < 2 ^ (k + 1 - (j + 1)) := Nat.div_lt_of_lt_mul (by rw [← Nat.pow_add]; rw [show j + 1 + (k + 1 - (j + 1)) = k + 1 by omega]; exact h2)
    obtain ⟨d, hd⟩ : ∃ d, k + 1 - (j + 1) = d + 1 := ⟨k - j - 1, by omega⟩
    have b2 : 2 ^ (k + 1 - (j + 1)) = 2 * 2 ^ d := by rw [hd, Nat.pow_succ, Nat.mul_comm]
    have b1 : 2 ^ (k + 1 - j) = 2 * 2 ^ (d + 1) := by rw [show k + 1 - j = (d + 1) + 1 by omega, Nat.pow_succ 2 (d + 1), Nat.mul_comm]
    omega
  · show [gb n k] = [1]
    unfold gb
    have e1 : n / 2 ^ k = 1 := by
      have hp : 0 < 2 ^ k := Nat.pow_pos (by decide)
      have : n = 2 ^ k * 1 + (n - 2 ^ k) := by omega
      rw [this, Nat.mul_add_div hp, Nat.div_eq_of_lt (by rw [Nat.pow_succ] at h2; omega)]
    rw [e1, Nat.div_eq_of_lt h2]
end Sw

namespace Wh
/-- how many things of the sizes (the last size first) -/
def cnt : List Nat → Nat
  | [] => 1
  | b :: r => b * cnt r
/-- there or back -/
def flip (v c i : Nat) : Nat := if v % 2 = 0 then i else c - 1 - i
def thg : List Nat → Nat → List Nat
  | [], _ => []
  | _ :: r, n => thg r (flip (n / cnt r) (cnt r) (n % cnt r)) ++ [n / cnt r]
/-- the number of a thing (both with the last one first) -/
def num : List Nat → List Nat → Nat
  | b :: r, v :: t => v * cnt r + flip v (cnt r) (num r t)
  | _, _ => 0
/-- a thing, the last one first -/
def Is : List Nat → List Nat → Prop
  | [], [] => True
  | b :: r, v :: t => v < b ∧ Is r t
  | _, _ => False
def Pos (rs : List Nat) : Prop := ∀ b ∈ rs, 0 < b
theorem Pos.tail {b : Nat} {r : List Nat} (h : Pos (b :: r)) : Pos r := fun x hx => h x (List.mem_cons_of_mem _ hx)
theorem Pos.head {b : Nat} {r : List Nat} (h : Pos (b :: r)) : 0 < b := h b List.mem_cons_self
theorem cnt_pos : ∀ {rs : List Nat}, Pos rs → 0 < cnt rs
  | [], _ => Nat.one_pos
  | _ :: _, h => Nat.mul_pos h.head (cnt_pos h.tail)
theorem flip_lt {v c i : Nat} (h : i < c) : flip v c i < c := by unfold flip; split <;> omega
theorem flip_flip {v c i : Nat} (h : i < c) : flip v c (flip v c i) = i := by unfold flip; split <;> omega
theorem thg_length : ∀ (rs : List Nat) (n : Nat), (thg rs n).length = rs.length
  | [], _ => rfl
  | _ :: r, n => by simp [thg, thg_length r]
theorem split {c b n : Nat} (hc : 0 < c) (h : n < b * c) : n / c < b ∧ n % c < c ∧ n = (n / c) * c + n % c :=
  ⟨Nat.div_lt_of_lt_mul (by rw [Nat.mul_comm]; exact h), Nat.mod_lt _ hc, by have := Nat.div_add_mod n c; rw [Nat.mul_comm] at this; exact this.symm⟩
theorem thg_is : ∀ {rs : List Nat} {n : Nat}, Pos rs → n < cnt rs → Is rs (thg rs n).reverse
  | [], _, _, _ => trivial
  | b :: r, n, hp, hn => by
    have hc := cnt_pos hp.tail
    obtain ⟨h1, h2, _⟩ := split hc hn
    simp only [thg, List.reverse_append, List.reverse_cons, List.reverse_nil, List.nil_append, List.singleton_append]
    exact ⟨h1, thg_is hp.tail (flip_lt h2)⟩
theorem num_lt : ∀ {rs t : List Nat}, Pos rs → Is rs t → num rs t < cnt rs
  | [], [], _, _ => Nat.one_pos
  | b :: r, v :: t, hp, h => by
    have h1 := flip_lt (v := v) (num_lt hp.tail h.2)
    have h2 : v + 1 ≤ b := h.1
    have h3 := Nat.mul_le_mul_right (cnt r) h2
    rw [Nat.add_mul, Nat.one_mul] at h3
    simp only [num, cnt]
    omega
  | [], _ :: _, _, h => h.elim
  | _ :: _, [], _, h => h.elim
theorem num_thg : ∀ {rs : List Nat} {n : Nat}, Pos rs → n < cnt rs → num rs (thg rs n).reverse = n
  | [], n, _, hn => by simp only [cnt] at hn; simp [thg, num]; omega
  | b :: r, n, hp, hn => by
    have hc := cnt_pos hp.tail
    obtain ⟨h1, h2, h3⟩ := split hc hn
    simp only [thg, List.reverse_append, List.reverse_cons, List.reverse_nil, List.nil_append, List.singleton_append, num]
    rw [num_thg hp.tail (flip_lt h2), flip_flip h2]
    exact h3.symm
theorem thg_num : ∀ {rs t : List Nat}, Pos rs → Is rs t → thg rs (num rs t) = t.reverse
  | [], [], _, _ => rfl
  | b :: r, v :: t, hp, h => by
    have hc := cnt_pos hp.tail
    have h1 := num_lt hp.tail h.2
    have h2 := flip_lt (v := v) h1
    have e1 : (v * cnt r + flip v (cnt r) (num r t)) / cnt r = v := by
      rw [Nat.mul_comm, Nat.mul_add_div hc, Nat.div_eq_of_lt h2, Nat.add_zero]
    have e2 : (v * cnt r + flip v (cnt r) (num r t)) % cnt r = flip v (cnt r) (num r t) := by
      rw [Nat.mul_comm, Nat.mul_add_mod, Nat.mod_eq_of_lt h2]
    simp only [num, thg, e1, e2, flip_flip h1, thg_num hp.tail h.2, List.reverse_cons]
  | [], _ :: _, _, h => h.elim
  | _ :: _, [], _, h => h.elim

/-- they differ at one place, by one -/
def By1 (l m : List Nat) : Prop := ∃ A x y B, l = A ++ x :: B ∧ m = A ++ y :: B ∧ (y = x + 1 ∨ x = y + 1)
theorem By1.symm {l m : List Nat} (h : By1 l m) : By1 m l := by
  obtain ⟨A, x, y, B, h1, h2, h3⟩ := h
  exact ⟨A, y, x, B, h2, h1, h3.symm⟩
theorem By1.snoc {l m : List Nat} (h : By1 l m) (v : Nat) : By1 (l ++ [v]) (m ++ [v]) := by
  obtain ⟨A, x, y, B, h1, h2, h3⟩ := h
  exact ⟨A, x, y, B ++ [v], by rw [h1]; simp, by rw [h2]; simp, h3⟩
theorem div_mod_succ {c n : Nat} (hc : 0 < c) : (n % c + 1 < c → (n + 1) / c = n / c ∧ (n + 1) % c = n % c + 1) ∧ (n % c + 1 = c → (n + 1) / c = n / c + 1 ∧ (n + 1) % c = 0) := by
  have h := Nat.div_add_mod n c
  constructor
  · intro h1
    have e : n + 1 = c * (n / c) + (n % c + 1) := by omega
    constructor
    · rw [e, Nat.mul_add_div hc, Nat.div_eq_of_lt h1, Nat.add_zero]
    · rw [e, Nat.mul_add_mod, Nat.mod_eq_of_lt h1]
  · intro h1
    have e : n + 1 = c * (n / c + 1) := by rw [Nat.mul_add]; omega
    constructor
    · rw [e, Nat.mul_div_cancel_left _ hc]
    · rw [e, Nat.mul_mod_right]
theorem by1_next : ∀ {rs : List Nat} {n : Nat}, Pos rs → n + 1 < cnt rs → By1 (thg rs n) (thg rs (n + 1))
  | [], n, _, h => by simp [cnt] at h
  | b :: r, n, hp, h => by
    have hc := cnt_pos hp.tail
    obtain ⟨k1, k2⟩ := div_mod_succ (n := n) hc
    have hm := Nat.mod_lt n hc
    by_cases h1 : n % cnt r + 1 < cnt r
    · obtain ⟨e1, e2⟩ := k1 h1
      simp only [thg, e1, e2]
      refine By1.snoc ?_ _
      unfold flip
      by_cases hv : n / cnt r % 2 = 0
      · rw [if_pos hv, if_pos hv]
        exact by1_next hp.tail h1
      · rw [if_neg hv, if_neg hv]
        have e3 : cnt r - 1 - n % cnt r = (cnt r - 1 - (n % cnt r + 1)) + 1 := by omega
        rw [e3]
        exact (by1_next hp.tail (by omega)).symm
    · have h2 : n % cnt r + 1 = cnt r := by omega
      obtain ⟨e1, e2⟩ := k2 h2
      simp only [thg, e1, e2]
      have e3 : flip (n / cnt r) (cnt r) (n % cnt r) = flip (n / cnt r + 1) (cnt r) 0 := by
        unfold flip
        by_cases hv : n / cnt r % 2 = 0
        · rw [if_pos hv, if_neg (by omega)]; omega
        · rw [if_neg hv, if_pos (by omega)]; omega
      rw [e3]
      exact ⟨_, n / cnt r, n / cnt r + 1, [], rfl, rfl, .inl rfl⟩
end Wh

namespace Ord
def fac : Nat → Nat
  | 0 => 1
  | m + 1 => (m + 1) * fac m
/-- the place that the last number m comes to in the order of the number q, i turns on -/
def plc (q m i : Nat) : Nat := if q % 2 = 0 then m - i else i
def ins (l : List Nat) (p x : Nat) : List Nat := l.take p ++ x :: l.drop p
def thg : Nat → Nat → List Nat
  | 0, _ => []
  | m + 1, n => ins (thg m (n / (m + 1))) (plc (n / (m + 1)) m (n % (m + 1))) m
def num : Nat → List Nat → Nat
  | 0, _ => 0
  | m + 1, t => num m (t.eraseIdx (t.idxOf m)) * (m + 1) + plc (num m (t.eraseIdx (t.idxOf m))) m (t.idxOf m)
def Is (m : Nat) (t : List Nat) : Prop := t.Perm (List.range m)
theorem fac_pos : ∀ m, 0 < fac m
  | 0 => Nat.one_pos
  | m + 1 => Nat.mul_pos (Nat.succ_pos m) (fac_pos m)
theorem plc_le {q m i : Nat} (h : i ≤ m) : plc q m i ≤ m := by unfold plc; split <;> omega
theorem plc_plc {q m i : Nat} (h : i ≤ m) : plc q m (plc q m i) = i := by unfold plc; split <;> omega
theorem ins_perm (l : List Nat) (p x : Nat) : (ins l p x).Perm (x :: l) := by
  unfold ins
  have h := List.perm_middle (a := x) (l₁ := l.take p) (l₂ := l.drop p)
  rw [List.take_append_drop] at h
  exact h
theorem thg_is : ∀ (m n : Nat), Is m (thg m n)
  | 0, _ => List.Perm.refl _
  | m + 1, n => by
    refine (ins_perm _ _ _).trans ?_
    rw [List.range_succ]
    exact ((thg_is m _).cons m).trans (by
      have h := List.perm_append_comm (l₁ := [m]) (l₂ := List.range m)
      exact h)
theorem Is.length {m : Nat} {t : List Nat} (h : Is m t) : t.length = m := by
  have := List.Perm.length_eq h
  rw [List.length_range] at this
  exact this
theorem thg_length (m n : Nat) : (thg m n).length = m := (thg_is m n).length
theorem Is.lt {m : Nat} {t : List Nat} (h : Is m t) {x : Nat} (hx : x ∈ t) : x < m := List.mem_range.mp ((List.Perm.mem_iff h).mp hx)
theorem Is.has {m : Nat} {t : List Nat} (h : Is m t) {x : Nat} (hx : x < m) : x ∈ t := (List.Perm.mem_iff h).mpr (List.mem_range.mpr hx)
theorem Is.nodup {m : Nat} {t : List Nat} (h : Is m t) : t.Nodup := (List.Perm.nodup_iff h).mpr List.nodup_range
theorem ins_idx : ∀ {l : List Nat} {p x : Nat}, x ∉ l → p ≤ l.length → (ins l p x).idxOf x = p
  | l, 0, x, _, _ => by simp [ins]
  | [], p + 1, _, _, h => by simp at h
  | y :: l, p + 1, x, hx, h => by
    have hne : y ≠ x := fun e => hx (by simp [e])
    have ih := ins_idx (l := l) (p := p) (x := x) (fun z => hx (List.mem_cons_of_mem _ z)) (by simpa using h)
    unfold ins at ih ⊢
    simp only [List.take_succ_cons, List.drop_succ_cons, List.cons_append]
    rw [List.idxOf_cons]
    have : (y == x) = false := by simpa using hne
    rw [this]
    simp only [cond_false]
    rw [ih]
theorem ins_erase : ∀ {l : List Nat} {p x : Nat}, p ≤ l.length → (ins l p x).eraseIdx p = l
  | l, 0, x, _ => by simp [ins]
  | [], p + 1, _, h => by simp at h
  | y :: l, p + 1, x, h => by
    have ih := ins_erase (l := l) (p := p) (x := x) (by simpa using h)
    unfold ins at ih ⊢
    simp only [List.take_succ_cons, List.drop_succ_cons, List.cons_append, List.eraseIdx_cons_succ]
    rw [ih]
theorem ins_of : ∀ {t : List Nat} {x : Nat}, x ∈ t → ins (t.eraseIdx (t.idxOf x)) (t.idxOf x) x = t
  | [], _, h => by simp at h
  | y :: t, x, h => by
    rw [List.idxOf_cons]
    by_cases e : y = x
    · subst e
      simp [ins]
    · have : (y == x) = false := by simpa using e
      rw [this]
      simp only [cond_false]
      have hx : x ∈ t := by
        rcases List.mem_cons.mp h with z | z
        · exact absurd z.symm e
        · exact z
      have ih := ins_of hx
      unfold ins at ih ⊢
      simp only [List.eraseIdx_cons_succ, List.take_succ_cons, List.drop_succ_cons, List.cons_append]
      rw [ih]
theorem Is.erase {m : Nat} {t : List Nat} (h : Is (m + 1) t) : Is m (t.eraseIdx (t.idxOf m)) ∧ t.idxOf m ≤ m := by
  have hm : m ∈ t := h.has (Nat.lt_succ_self m)
  have h1 := ins_of hm
  have h2 := ins_perm (t.eraseIdx (t.idxOf m)) (t.idxOf m) m
  rw [h1] at h2
  have h3 : (m :: t.eraseIdx (t.idxOf m)).Perm (m :: List.range m) := h2.symm.trans (List.Perm.trans h (by
    rw [List.range_succ]
    exact List.perm_append_comm (l₁ := List.range m) (l₂ := [m])))
  refine ⟨(List.perm_cons m).mp h3, ?_⟩
  have := List.idxOf_lt_length_of_mem hm
  rw [h.length] at this
  omega
theorem num_lt : ∀ {m : Nat} {t : List Nat}, Is m t → num m t < fac m
  | 0, _, _ => Nat.one_pos
  | m + 1, t, h => by
    obtain ⟨h1, h2⟩ := h.erase
    have h3 := num_lt h1
    have h4 := plc_le (q := num m (t.eraseIdx (t.idxOf m))) h2
    have h5 := Nat.mul_le_mul_right (m + 1) (Nat.succ_le_of_lt h3)
    rw [Nat.succ_mul] at h5
    simp only [num, fac]
    rw [Nat.mul_comm (m + 1) (fac m)]
    omega
theorem num_thg : ∀ {m n : Nat}, n < fac m → num m (thg m n) = n
  | 0, n, h => by simp only [fac] at h; simp [num]; omega
  | m + 1, n, h => by
    have h1 : n / (m + 1) < fac m := Nat.div_lt_of_lt_mul h
    have h2 : n % (m + 1) ≤ m := Nat.le_of_lt_succ (Nat.mod_lt _ (Nat.succ_pos m))
    have h3 : m ∉ thg m (n / (m + 1)) := fun z => Nat.lt_irrefl _ ((thg_is m _).lt z)
    have h4 : plc (n / (m + 1)) m (n % (m + 1)) ≤ (thg m (n / (m + 1))).length := by rw [thg_length]; exact plc_le h2
    simp only [num, thg]
    rw [ins_idx h3 h4, ins_erase h4, num_thg h1, plc_plc h2]
    have := Nat.div_add_mod n (m + 1)
    rw [Nat.mul_comm] at this
    exact this
theorem thg_num : ∀ {m : Nat} {t : List Nat}, Is m t → thg m (num m t) = t
  | 0, t, h => by
    have := h.length
    simp [thg]
    exact List.length_eq_zero_iff.mp this
  | m + 1, t, h => by
    obtain ⟨h1, h2⟩ := h.erase
    have h4 := plc_le (q := num m (t.eraseIdx (t.idxOf m))) h2
    have e1 : (num m (t.eraseIdx (t.idxOf m)) * (m + 1) + plc (num m (t.eraseIdx (t.idxOf m))) m (t.idxOf m)) / (m + 1) = num m (t.eraseIdx (t.idxOf m)) := by
      rw [Nat.mul_comm, Nat.mul_add_div (Nat.succ_pos m), Nat.div_eq_of_lt (by omega), Nat.add_zero]
    have e2 : (num m (t.eraseIdx (t.idxOf m)) * (m + 1) + plc (num m (t.eraseIdx (t.idxOf m))) m (t.idxOf m)) % (m + 1) = plc (num m (t.eraseIdx (t.idxOf m))) m (t.idxOf m) := by
      rw [Nat.mul_comm, Nat.mul_add_mod, Nat.mod_eq_of_lt (by omega)]
    simp only [num, thg, e1, e2, plc_plc h2, thg_num h1]
    exact ins_of (h.has (Nat.lt_succ_self m))

/-- two neighbours changed about -/
def Sw2 (l m : List Nat) : Prop := ∃ A x y B, l = A ++ x :: y :: B ∧ m = A ++ y :: x :: B
theorem Sw2.symm {l m : List Nat} (h : Sw2 l m) : Sw2 m l := by
  obtain ⟨A, x, y, B, h1, h2⟩ := h
  exact ⟨A, y, x, B, h2, h1⟩
theorem Sw2.snoc {l m : List Nat} (h : Sw2 l m) (v : Nat) : Sw2 (l ++ [v]) (m ++ [v]) := by
  obtain ⟨A, x, y, B, h1, h2⟩ := h
  exact ⟨A, x, y, B ++ [v], by rw [h1]; simp, by rw [h2]; simp⟩
theorem Sw2.cons {l m : List Nat} (h : Sw2 l m) (v : Nat) : Sw2 (v :: l) (v :: m) := by
  obtain ⟨A, x, y, B, h1, h2⟩ := h
  exact ⟨v :: A, x, y, B, by rw [h1]; simp, by rw [h2]; simp⟩
theorem ins_next {l : List Nat} {p x : Nat} (h : p < l.length) : Sw2 (ins l p x) (ins l (p + 1) x) := by
  refine ⟨l.take p, x, l[p], l.drop (p + 1), ?_, ?_⟩
  · unfold ins
    rw [List.drop_eq_getElem_cons h]
  · unfold ins
    have e : List.take (p + 1) l = List.take p l ++ [l[p]] := by rw [List.take_append_getElem]
    rw [e, List.append_assoc]
    rfl
theorem ins_0 (l : List Nat) (x : Nat) : ins l 0 x = x :: l := by simp [ins]
theorem ins_end {l : List Nat} {p : Nat} (h : l.length = p) (x : Nat) : ins l p x = l ++ [x] := by
  unfold ins
  rw [List.take_of_length_le (by omega), List.drop_of_length_le (by omega)]
theorem div_mod_succ {c n : Nat} (hc : 0 < c) : (n % c + 1 < c → (n + 1) / c = n / c ∧ (n + 1) % c = n % c + 1) ∧ (n % c + 1 = c → (n + 1) / c = n / c + 1 ∧ (n + 1) % c = 0) := by
  have h := Nat.div_add_mod n c
  constructor
  · intro h1
    have e : n + 1 = c * (n / c) + (n % c + 1) := by omega
    constructor
    · rw [e, Nat.mul_add_div hc, Nat.div_eq_of_lt h1, Nat.add_zero]
    · rw [e, Nat.mul_add_mod, Nat.mod_eq_of_lt h1]
  · intro h1
    have e : n + 1 = c * (n / c + 1) := by rw [Nat.mul_add]; omega
    constructor
    · rw [e, Nat.mul_div_cancel_left _ hc]
    · rw [e, Nat.mul_mod_right]
theorem sw2_next : ∀ {m n : Nat}, n + 1 < fac m → Sw2 (thg m n) (thg m (n + 1))
  | 0, n, h => by simp [fac] at h
  | m + 1, n, h => by
    obtain ⟨k1, k2⟩ := div_mod_succ (c := m + 1) (n := n) (by omega)
    have hm : n % (m + 1) < m + 1 := Nat.mod_lt n (by omega)
    by_cases h1 : n % (m + 1) + 1 < m + 1
    · obtain ⟨e1, e2⟩ := k1 h1
      simp only [thg, e1, e2]
      unfold plc
      by_cases hv : n / (m + 1) % 2 = 0
      · rw [if_pos hv, if_pos hv]
        have e3 : m - n % (m + 1) = (m - (n % (m + 1) + 1)) + 1 := by omega
        rw [e3]
        exact (ins_next (by rw [thg_length]; omega)).symm
      · rw [if_neg hv, if_neg hv]
        exact ins_next (by rw [thg_length]; omega)
    · have h2 : n % (m + 1) + 1 = m + 1 := by omega
      obtain ⟨e1, e2⟩ := k2 h2
      have h3 : n / (m + 1) + 1 < fac m := by
        have : (n + 1) / (m + 1) < fac m := Nat.div_lt_of_lt_mul h
        rw [e1] at this
        exact this
      have h4 : n % (m + 1) = m := by omega
      have ih := sw2_next h3
      simp only [thg, e1, e2, h4]
      unfold plc
      by_cases hv : n / (m + 1) % 2 = 0
      · rw [if_pos hv, if_neg (by omega), Nat.sub_self, ins_0, ins_0]
        exact ih.cons m
      · rw [if_neg hv, if_pos (by omega), Nat.sub_zero, ins_end (thg_length _ _), ins_end (thg_length _ _)]
        exact ih.snoc m
theorem fac_even : ∀ {m : Nat}, 2 ≤ m → fac m % 2 = 0
  | 0, h => by omega
  | 1, h => by omega
  | 2, _ => rfl
  | m + 3, _ => by
    have ih := fac_even (m := m + 2) (by omega)
    show (m + 3) * fac (m + 2) % 2 = 0
    rw [Nat.mul_mod, ih]
    simp
/-- the last one and the first one -/
theorem sw2_last : ∀ {m : Nat}, 2 ≤ m → Sw2 (thg m (fac m - 1)) (thg m 0)
  | 0, h => by omega
  | 1, h => by omega
  | 2, _ => ⟨[], 1, 0, [], by decide, by decide⟩
  | m + 3, _ => by
    have ih := sw2_last (m := m + 2) (by omega)
    have hf := fac_pos (m + 2)
    have he := fac_even (m := m + 2) (by omega)
    have e0 : fac (m + 3) - 1 = (m + 3) * (fac (m + 2) - 1) + (m + 2) := by
      show (m + 3) * fac (m + 2) - 1 = _
      obtain ⟨z, hz⟩ : ∃ z, fac (m + 2) = z + 1 := ⟨fac (m + 2) - 1, by omega⟩
      rw [hz, Nat.mul_add, Nat.add_sub_cancel]
      omega
    have e1 : (fac (m + 3) - 1) / (m + 2 + 1) = fac (m + 2) - 1 := by
      rw [e0]
      show ((m + 3) * (fac (m + 2) - 1) + (m + 2)) / (m + 3) = _
      rw [Nat.mul_add_div (by omega), Nat.div_eq_of_lt (by omega), Nat.add_zero]
    have e2 : (fac (m + 3) - 1) % (m + 2 + 1) = m + 2 := by
      rw [e0]
      show ((m + 3) * (fac (m + 2) - 1) + (m + 2)) % (m + 3) = _
      rw [Nat.mul_add_mod, Nat.mod_eq_of_lt (by omega)]
    show Sw2 (ins (thg (m + 2) ((fac (m + 3) - 1) / (m + 2 + 1))) (plc ((fac (m + 3) - 1) / (m + 2 + 1)) (m + 2) ((fac (m + 3) - 1) % (m + 2 + 1))) (m + 2))
      (ins (thg (m + 2) (0 / (m + 2 + 1))) (plc (0 / (m + 2 + 1)) (m + 2) (0 % (m + 2 + 1))) (m + 2))
    rw [e1, e2, Nat.zero_div, Nat.zero_mod]
    unfold plc
    rw [if_neg (by omega), if_pos (by decide), Nat.sub_zero, ins_end (thg_length _ _), ins_end (thg_length _ _)]
    exact ih.snoc _
end Ord

namespace Pk
/-- how many picks of s out of m numbers -/
def bin : Nat → Nat → Nat
  | _, 0 => 1
  | 0, _ + 1 => 0
  | m + 1, s + 1 => bin m (s + 1) + bin m s
def thg : Nat → Nat → Nat → List Nat
  | _, 0, _ => []
  | 0, _ + 1, _ => []
  | m + 1, s + 1, n => if n < bin m (s + 1) then thg m (s + 1) n else thg m s (bin (m + 1) (s + 1) - 1 - n) ++ [m]
def num : Nat → Nat → List Nat → Nat
  | _, 0, _ => 0
  | 0, _ + 1, _ => 0
  | m + 1, s + 1, t => if t.getLast? = some m then bin (m + 1) (s + 1) - 1 - num m s t.dropLast else num m (s + 1) t
structure Is (m s : Nat) (t : List Nat) : Prop where
  len : t.length = s
  up : t.Pairwise (· < ·)
  lt : ∀ x ∈ t, x < m
theorem bin_0 (m : Nat) : bin m 0 = 1 := by cases m <;> rfl
theorem bin_big : ∀ {m s : Nat}, m < s → bin m s = 0
  | _, 0, h => by omega
  | 0, s + 1, _ => rfl
  | m + 1, s + 1, h => by
    show bin m (s + 1) + bin m s = 0
    rw [bin_big (m := m) (s := s + 1) (by omega), bin_big (m := m) (s := s) (by omega)]
theorem bin_pos : ∀ {m s : Nat}, s ≤ m → 0 < bin m s
  | m, 0, _ => by rw [bin_0]; exact Nat.one_pos
  | 0, s + 1, h => by omega
  | m + 1, s + 1, h => by
    have := bin_pos (m := m) (s := s) (by omega)
    show 0 < bin m (s + 1) + bin m s
    omega
theorem bin_all : ∀ m, bin m m = 1
  | 0 => rfl
  | m + 1 => by
    show bin m (m + 1) + bin m m = 1
    rw [bin_big (Nat.lt_succ_self m), bin_all m]
theorem thg_0 (m n : Nat) : thg m 0 n = [] := by cases m <;> rfl
theorem num_0 (m : Nat) (t : List Nat) : num m 0 t = 0 := by cases m <;> rfl
theorem Is.up1 {m s : Nat} {t : List Nat} (h : Is m s t) : Is (m + 1) s t := ⟨h.len, h.up, fun x hx => Nat.lt_succ_of_lt (h.lt x hx)⟩
theorem Is.snoc {m s : Nat} {t : List Nat} (h : Is m s t) : Is (m + 1) (s + 1) (t ++ [m]) := by
  refine ⟨by simp [h.len], List.pairwise_append.mpr ⟨h.up, List.pairwise_singleton _ _, fun a ha b hb => ?_⟩, fun x hx => ?_⟩
  · rw [List.mem_singleton.mp hb]; exact h.lt a ha
  · rcases List.mem_append.mp hx with z | z
    · exact Nat.lt_succ_of_lt (h.lt x z)
    · rw [List.mem_singleton.mp z]; exact Nat.lt_succ_self m
theorem thg_is : ∀ {m s n : Nat}, s ≤ m → n < bin m s → Is m s (thg m s n)
  | m, 0, n, _, _ => by rw [thg_0]; exact ⟨rfl, List.Pairwise.nil, fun x hx => by simp at hx⟩
  | 0, s + 1, n, h, _ => by omega
  | m + 1, s + 1, n, h, hn => by
    have hn' : n < bin m (s + 1) + bin m s := hn
    unfold thg
    by_cases h1 : n < bin m (s + 1)
    · rw [if_pos h1]
      have : s + 1 ≤ m := Nat.le_of_not_lt fun z => by rw [bin_big z] at h1; omega
      exact (thg_is this h1).up1
    · rw [if_neg h1]
      refine (thg_is (by omega) ?_).snoc
      show bin m (s + 1) + bin m s - 1 - n < bin m s
      omega
/-- a thing ends with the last number, or it is one of one number less -/
theorem Is.cases {m s : Nat} {t : List Nat} (h : Is (m + 1) (s + 1) t) : (t.getLast? = some m ∧ t = t.dropLast ++ [m] ∧ Is m s t.dropLast) ∨ (t.getLast? ≠ some m ∧ Is m (s + 1) t) := by
  have hne : t ≠ [] := fun e => by have := h.len; rw [e] at this; simp at this
  have e0 : t = t.dropLast ++ [t.getLast hne] := (List.dropLast_concat_getLast hne).symm
  have e1 : t.getLast? = some (t.getLast hne) := List.getLast?_eq_some_getLast hne
  have hp := h.up
  rw [e0] at hp
  obtain ⟨p1, _, p3⟩ := List.pairwise_append.mp hp
  have hl := h.lt _ (List.getLast_mem hne)
  have below : ∀ x ∈ t.dropLast, x < t.getLast hne := fun x hx => p3 x hx _ (by simp)
  have hlen : t.dropLast.length = s := by rw [List.length_dropLast, h.len]; rfl
  by_cases hm : t.getLast hne = m
  · refine .inl ⟨by rw [e1, hm], by rw [← hm]; exact e0, hlen, p1, fun x hx => ?_⟩
    have := below x hx
    omega
  · refine .inr ⟨by rw [e1]; intro z; exact hm (Option.some.inj z), h.len, h.up, fun x hx => ?_⟩
    rw [e0] at hx
    rcases List.mem_append.mp hx with z | z
    · have := below x z; omega
    · rw [List.mem_singleton.mp z]; omega
theorem Is.le {m s : Nat} {t : List Nat} (h : Is m s t) : s ≤ m := by
  induction m generalizing s t with
  | zero =>
    cases t with
    | nil => have := h.len; simp at this; omega
    | cons x r => have := h.lt x List.mem_cons_self; omega
  | succ m ih =>
    cases s with
    | zero => omega
    | succ s =>
      rcases h.cases with ⟨_, _, h'⟩ | ⟨_, h'⟩
      · have := ih h'; omega
      · have := ih h'; omega
theorem num_lt : ∀ {m s : Nat} {t : List Nat}, Is m s t → num m s t < bin m s
  | m, 0, t, _ => by rw [num_0, bin_0]; exact Nat.one_pos
  | 0, s + 1, t, h => by have := h.le; omega
  | m + 1, s + 1, t, h => by
    show num (m + 1) (s + 1) t < bin m (s + 1) + bin m s
    unfold num
    rcases h.cases with ⟨e, _, h'⟩ | ⟨e, h'⟩
    · rw [if_pos e]
      have := bin_pos h'.le
      show bin m (s + 1) + bin m s - 1 - num m s t.dropLast < _
      omega
    · rw [if_neg e]
      have := num_lt h'
      omega
theorem num_thg : ∀ {m s n : Nat}, s ≤ m → n < bin m s → num m s (thg m s n) = n
  | m, 0, n, _, h => by rw [bin_0] at h; rw [num_0]; omega
  | 0, s + 1, n, h, _ => by omega
  | m + 1, s + 1, n, h, hn => by
    have hn' : n < bin m (s + 1) + bin m s := hn
    unfold thg
    by_cases h1 : n < bin m (s + 1)
    · rw [if_pos h1]
      have hs : s + 1 ≤ m := Nat.le_of_not_lt fun z => by rw [bin_big z] at h1; omega
      have hi := thg_is hs h1
      have hne : (thg m (s + 1) n).getLast? ≠ some m := fun z => by
        have := hi.lt m (List.mem_of_getLast? z)
        omega
      unfold num
      rw [if_neg hne]
      exact num_thg hs h1
    · rw [if_neg h1]
      have hb : bin (m + 1) (s + 1) - 1 - n < bin m s := by
        show bin m (s + 1) + bin m s - 1 - n < bin m s
        omega
      unfold num
      rw [if_pos (by simp), List.dropLast_concat, num_thg (by omega) hb]
      show bin m (s + 1) + bin m s - 1 - (bin m (s + 1) + bin m s - 1 - n) = n
      omega
theorem thg_num : ∀ {m s : Nat} {t : List Nat}, Is m s t → thg m s (num m s t) = t
  | m, 0, t, h => by rw [thg_0]; exact (List.length_eq_zero_iff.mp h.len).symm
  | 0, s + 1, t, h => by have := h.le; omega
  | m + 1, s + 1, t, h => by
    unfold num
    rcases h.cases with ⟨e, et, h'⟩ | ⟨e, h'⟩
    · rw [if_pos e]
      have h1 := num_lt h'
      have hb : ¬ bin (m + 1) (s + 1) - 1 - num m s t.dropLast < bin m (s + 1) := by
        show ¬ bin m (s + 1) + bin m s - 1 - num m s t.dropLast < bin m (s + 1)
        omega
      unfold thg
      rw [if_neg hb]
      have e2 : bin (m + 1) (s + 1) - 1 - (bin (m + 1) (s + 1) - 1 - num m s t.dropLast) = num m s t.dropLast := by
        show bin m (s + 1) + bin m s - 1 - (bin m (s + 1) + bin m s - 1 - num m s t.dropLast) = _
        omega
      rw [e2, thg_num h']
      exact et.symm
    · rw [if_neg e]
      have h1 := num_lt h'
      unfold thg
      rw [if_pos h1]
      exact thg_num h'

theorem first : ∀ {m s : Nat}, s ≤ m → thg m s 0 = List.range s
  | m, 0, _ => by rw [thg_0]; rfl
  | 0, s + 1, h => by omega
  | m + 1, s + 1, h => by
    unfold thg
    by_cases h1 : 0 < bin m (s + 1)
    · rw [if_pos h1]
      exact first (Nat.le_of_not_lt fun z => by rw [bin_big z] at h1; omega)
    · rw [if_neg h1]
      have hs : s = m := by
        refine Nat.le_antisymm (by omega) (Nat.le_of_not_lt fun z => h1 (bin_pos z))
      subst hs
      have e : bin (s + 1) (s + 1) - 1 - 0 = 0 := by rw [bin_all]
      rw [e, first (Nat.le_refl _), List.range_succ]
theorem last {m s : Nat} (h : s ≤ m) : thg (m + 1) (s + 1) (bin (m + 1) (s + 1) - 1) = List.range s ++ [m] := by
  have hb := bin_pos h
  unfold thg
  rw [if_neg (by show ¬ bin m (s + 1) + bin m s - 1 < bin m (s + 1); omega), Nat.sub_self, first h]

/-- each has just one number that the other has not -/
def Ex (l m : List Nat) : Prop := ∃ x y, x ∈ l ∧ x ∉ m ∧ y ∈ m ∧ y ∉ l ∧ ∀ z, z ≠ x → z ≠ y → (z ∈ l ↔ z ∈ m)
theorem Ex.symm {l m : List Nat} (h : Ex l m) : Ex m l := by
  obtain ⟨x, y, h1, h2, h3, h4, h5⟩ := h
  exact ⟨y, x, h3, h4, h1, h2, fun z a b => (h5 z b a).symm⟩
theorem Ex.snoc {l m : List Nat} {k : Nat} (h : Ex l m) (hl : k ∉ l) (hm : k ∉ m) : Ex (l ++ [k]) (m ++ [k]) := by
  obtain ⟨x, y, h1, h2, h3, h4, h5⟩ := h
  have hx : x ≠ k := fun e => hl (e ▸ h1)
  have hy : y ≠ k := fun e => hm (e ▸ h3)
  refine ⟨x, y, by simp [h1], by simp [h2, hx], by simp [h3], by simp [h4, hy], fun z a b => ?_⟩
  simp [h5 z a b]
theorem ex_next : ∀ {m s n : Nat}, s ≤ m → n + 1 < bin m s → Ex (thg m s n) (thg m s (n + 1))
  | m, 0, n, _, h => by rw [bin_0] at h; omega
  | 0, s + 1, n, h, _ => by omega
  | m + 1, s + 1, n, h, hn => by
    have hn' : n + 1 < bin m (s + 1) + bin m s := hn
    by_cases h1 : n + 1 < bin m (s + 1)
    · have hs : s + 1 ≤ m := Nat.le_of_not_lt fun z => by rw [bin_big z] at h1; omega
      have e1 : thg (m + 1) (s + 1) n = thg m (s + 1) n := by unfold thg; rw [if_pos (by omega)]; cases m <;> rfl
      have e2 : thg (m + 1) (s + 1) (n + 1) = thg m (s + 1) (n + 1) := by unfold thg; rw [if_pos h1]; cases m <;> rfl
      rw [e1, e2]
      exact ex_next hs h1
    · by_cases h2 : n < bin m (s + 1)
      · -- from the last one without m to the first one with it
        have hs : s + 1 ≤ m := Nat.le_of_not_lt fun z => by rw [bin_big z] at h2; omega
        obtain ⟨m', rfl⟩ : ∃ m', m = m' + 1 := ⟨m - 1, by omega⟩
        have hnb : n = bin (m' + 1) (s + 1) - 1 := by omega
        have e1 : thg (m' + 1 + 1) (s + 1) n = List.range s ++ [m'] := by
          unfold thg
          rw [if_pos h2, hnb]
          exact last (by omega)
        have e2 : thg (m' + 1 + 1) (s + 1) (n + 1) = thg (m' + 1) s (bin (m' + 1) s - 1) ++ [m' + 1] := by
          have eb : bin (m' + 1 + 1) (s + 1) - 1 - (n + 1) = bin (m' + 1) s - 1 := by
            show bin (m' + 1) (s + 1) + bin (m' + 1) s - 1 - (n + 1) = _
            omega
          rw [← eb]
          conv => lhs; unfold thg
          rw [if_neg h1]
        rw [e1, e2]
        cases s with
        | zero =>
          rw [thg_0]
          refine ⟨m', m' + 1, by simp, by simp, by simp, by simp, fun z a b => ?_⟩
          simp [a, b]
        | succ s =>
          rw [last (by omega), List.append_assoc]
          have hsm : s < m' := by omega
          refine ⟨s, m' + 1, by simp, ?_, by simp, ?_, fun z a b => ?_⟩
          · simp; omega
          · simp; omega
          · simp [b]; omega
      · have b1 : bin (m + 1) (s + 1) - 1 - (n + 1) + 1 = bin (m + 1) (s + 1) - 1 - n := by
          show bin m (s + 1) + bin m s - 1 - (n + 1) + 1 = bin m (s + 1) + bin m s - 1 - n
          omega
        have b2 : bin (m + 1) (s + 1) - 1 - n < bin m s := by
          show bin m (s + 1) + bin m s - 1 - n < bin m s
          omega
        have e1 : thg (m + 1) (s + 1) n = thg m s (bin (m + 1) (s + 1) - 1 - n) ++ [m] := by
          conv => lhs; unfold thg
          rw [if_neg h2]
        have e2 : thg (m + 1) (s + 1) (n + 1) = thg m s (bin (m + 1) (s + 1) - 1 - (n + 1)) ++ [m] := by
          conv => lhs; unfold thg
          rw [if_neg (by omega)]
        have hi1 := thg_is (m := m) (s := s) (by omega) b2
        have hi2 := thg_is (m := m) (s := s) (n := bin (m + 1) (s + 1) - 1 - (n + 1)) (by omega) (by omega)
        have ih := ex_next (m := m) (s := s) (n := bin (m + 1) (s + 1) - 1 - (n + 1)) (by omega) (by omega)
        rw [b1] at ih
        rw [e1, e2]
        exact ih.symm.snoc (fun z => Nat.lt_irrefl _ (hi1.lt m z)) (fun z => Nat.lt_irrefl _ (hi2.lt m z))
theorem ex_last {m s : Nat} (h1 : 0 < s) (h2 : s < m) : Ex (thg m s (bin m s - 1)) (thg m s 0) := by
  obtain ⟨m', rfl⟩ : ∃ m', m = m' + 1 := ⟨m - 1, by omega⟩
  obtain ⟨s', rfl⟩ : ∃ s', s = s' + 1 := ⟨s - 1, by omega⟩
  rw [last (by omega), first (by omega)]
  refine ⟨m', s', by simp, ?_, by simp, ?_, fun z a b => ?_⟩
  · simp; omega
  · simp; omega
  · simp [a]; omega
end Pk
namespace Pk
theorem bin_step : ∀ (m k : Nat), (k + 1) * bin m (k + 1) = (m - k) * bin m k
  | 0, 0 => by decide
  | 0, k + 1 => by simp [bin]
  | m + 1, 0 => by
    have ih : bin m 1 = m := by simpa [bin_0] using bin_step m 0
    show (0 + 1) * (bin m 1 + bin m 0) = (m + 1 - 0) * bin (m + 1) 0
    rw [bin_0, bin_0, ih]
    omega
  | m + 1, k + 1 => by
    have h1 := bin_step m (k + 1)
    have h2 := bin_step m k
    show (k + 1 + 1) * (bin m (k + 2) + bin m (k + 1)) = (m + 1 - (k + 1)) * (bin m (k + 1) + bin m k)
    have e : m + 1 - (k + 1) = m - k := by omega
    rw [e, Nat.mul_add, Nat.mul_add, h1, ← h2, ← Nat.add_mul, ← Nat.add_mul]
    by_cases h : k + 1 ≤ m
    · congr 1
      omega
    · rw [bin_big (m := m) (s := k + 1) (by omega), Nat.mul_zero, Nat.mul_zero]
end Pk

set_option linter.all false
namespace Lst
/-! the four kinds in one: kind, one, two, sizes as the texts have them -/
def cntOf (kind one two : Nat) (sizes : List Nat) : Nat := match kind with
  | 0 => 2 ^ one
  | 1 => Wh.cnt sizes.reverse
  | 2 => Pk.bin one two
  | _ => Ord.fac one
def thN (kind one two : Nat) (sizes : List Nat) (n : Nat) : List Nat := match kind with
  | 0 => Sw.thg one n
  | 1 => Wh.thg sizes.reverse n
  | 2 => Pk.thg one two n
  | _ => Ord.thg one n
def numN (kind one two : Nat) (sizes : List Nat) (t : List Nat) : Nat := match kind with
  | 0 => Sw.num t
  | 1 => Wh.num sizes.reverse t.reverse
  | 2 => Pk.num one two t
  | _ => Ord.num one t
def IsN (kind one two : Nat) (sizes : List Nat) (t : List Nat) : Prop := match kind with
  | 0 => Sw.Is one t
  | 1 => Wh.Is sizes.reverse t.reverse
  | 2 => Pk.Is one two t
  | _ => Ord.Is one t
/-- numbers that make a listing -/
structure Fit (kind one two : Nat) (sizes : List Nat) : Prop where
  k4 : kind < 4
  le : two ≤ one
  o40 : one ≤ 40
  len : sizes.length ≤ 12
  mem : ∀ x ∈ sizes, 1 ≤ x ∧ x ≤ 9
variable {kind one two : Nat} {sizes : List Nat}
theorem Fit.pos (F : Fit kind one two sizes) : Wh.Pos sizes.reverse := fun b hb => (F.mem b (List.mem_reverse.mp hb)).1
theorem cases4 {k : Nat} (h : k < 4) : k = 0 ∨ k = 1 ∨ k = 2 ∨ k = 3 := by omega
theorem Fit.cnt_pos (F : Fit kind one two sizes) : 0 < cntOf kind one two sizes := by
  rcases cases4 F.k4 with rfl | rfl | rfl | rfl
  · exact Nat.pow_pos (by decide)
  · exact Wh.cnt_pos F.pos
  · exact Pk.bin_pos F.le
  · exact Ord.fac_pos _
theorem Fit.is (F : Fit kind one two sizes) {n : Nat} (h : n < cntOf kind one two sizes) : IsN kind one two sizes (thN kind one two sizes n) := by
  rcases cases4 F.k4 with rfl | rfl | rfl | rfl
  · exact Sw.thg_is _ _
  · exact Wh.thg_is F.pos h
  · exact Pk.thg_is F.le h
  · exact Ord.thg_is _ _
theorem Fit.num_th (F : Fit kind one two sizes) {n : Nat} (h : n < cntOf kind one two sizes) : numN kind one two sizes (thN kind one two sizes n) = n := by
  rcases cases4 F.k4 with rfl | rfl | rfl | rfl
  · exact Sw.num_thg h
  · exact Wh.num_thg F.pos h
  · exact Pk.num_thg F.le h
  · exact Ord.num_thg h
theorem Fit.num_lt (F : Fit kind one two sizes) {t : List Nat} (h : IsN kind one two sizes t) : numN kind one two sizes t < cntOf kind one two sizes := by
  rcases cases4 F.k4 with rfl | rfl | rfl | rfl
  · exact Sw.num_lt h
  · exact Wh.num_lt F.pos h
  · exact Pk.num_lt h
  · exact Ord.num_lt h
theorem Fit.th_num (F : Fit kind one two sizes) {t : List Nat} (h : IsN kind one two sizes t) : thN kind one two sizes (numN kind one two sizes t) = t := by
  rcases cases4 F.k4 with rfl | rfl | rfl | rfl
  · exact Sw.thg_num h
  · exact (Wh.thg_num F.pos h).trans (List.reverse_reverse t)
  · exact Pk.thg_num h
  · exact Ord.thg_num h
/-! the same lists as whole numbers -/
def iN (l : List Nat) : List Int := l.map fun (x : Nat) => (x : Int)
theorem iN_len (l : List Nat) : (iN l).length = l.length := by simp [iN]
theorem iN_inj {l m : List Nat} (h : iN l = iN m) : l = m := by
  unfold iN at h
  exact List.map_inj_right (fun a b e => Int.ofNat_inj.mp e) |>.mp h
theorem iN_append (l m : List Nat) : iN (l ++ m) = iN l ++ iN m := by simp [iN]
theorem iN_cons (x : Nat) (m : List Nat) : iN (x :: m) = (x : Int) :: iN m := rfl
theorem iN_mem {l : List Nat} {y : Int} : y ∈ iN l ↔ ∃ x, x ∈ l ∧ (x : Int) = y := by simp [iN]
theorem iN_memN {l : List Nat} {y : Nat} : (y : Int) ∈ iN l ↔ y ∈ l := by
  rw [iN_mem]
  exact ⟨fun ⟨x, h, e⟩ => Int.ofNat_inj.mp e ▸ h, fun h => ⟨y, h, rfl⟩⟩
theorem iN_getD (l : List Nat) (k : Nat) : (iN l).getD k 0 = ((l.getD k 0 : Nat) : Int) := by
  rw [List.getD_eq_getElem?_getD, List.getD_eq_getElem?_getD]
  unfold iN
  rw [List.getElem?_map]
  cases l[k]? <;> rfl
theorem iN_of {ns : List Int} (h : ∀ x ∈ ns, 0 ≤ x) : ∃ t, ns = iN t := by
  refine ⟨ns.map Int.toNat, ?_⟩
  unfold iN
  rw [List.map_map]
  refine (List.map_id ns).symm.trans (List.map_congr_left fun x hx => ?_)
  have := h x hx
  show x = ((x.toNat : Nat) : Int)
  omega
theorem iN_nodup {l : List Nat} (h : l.Nodup) : (iN l).Nodup := by
  unfold iN
  exact List.Pairwise.map (R := (· ≠ ·)) _ (fun a b h e => h (Int.ofNat_inj.mp e)) h
def rngI (n : Nat) : List Int := iN (List.range n)
def IsT (kind one two : Nat) (sizes : List Nat) (ns : List Int) : Prop := match kind with
  | 0 => ns.length = one ∧ ∀ x ∈ ns, x = 0 ∨ x = 1
  | 1 => ns.length = sizes.length ∧ ∀ k, k < ns.length → 0 ≤ ns.getD k 0 ∧ ns.getD k 0 < (sizes.getD k 0 : Int)
  | 2 => ns.length = two ∧ (∀ k, 0 < k → k < ns.length → ns.getD (k - 1) 0 < ns.getD k 0) ∧ ∀ x ∈ ns, 0 ≤ x ∧ x < (one : Int)
  | _ => ns.Perm (rngI one)
theorem whIs_iff : ∀ {rs t : List Nat}, Wh.Is rs t ↔ t.length = rs.length ∧ ∀ k, k < t.length → t.getD k 0 < rs.getD k 0
  | [], [] => by simp [Wh.Is]
  | [], v :: t => by simp [Wh.Is]
  | b :: r, [] => by simp [Wh.Is]
  | b :: r, v :: t => by
    unfold Wh.Is
    rw [whIs_iff (rs := r) (t := t)]
    constructor
    · rintro ⟨h1, h2, h3⟩
      refine ⟨by simp [h2], fun k hk => ?_⟩
      cases k with
      | zero => simpa using h1
      | succ k =>
        have := h3 k (by simpa using hk)
        simpa using this
    · rintro ⟨h1, h2⟩
      refine ⟨by simpa using h2 0 (by simp), by simpa using h1, fun k hk => ?_⟩
      have := h2 (k + 1) (by simpa using hk)
      simpa using this
theorem getD_rev {l : List Nat} {k : Nat} (h : k < l.length) : l.reverse.getD k 0 = l.getD (l.length - 1 - k) 0 := by
  rw [List.getD_eq_getElem?_getD, List.getD_eq_getElem?_getD, List.getElem?_reverse h]
theorem whIs_fwd {sizes t : List Nat} : Wh.Is sizes.reverse t.reverse ↔ t.length = sizes.length ∧ ∀ k, k < t.length → t.getD k 0 < sizes.getD k 0 := by
  rw [whIs_iff, List.length_reverse, List.length_reverse]
  constructor
  · rintro ⟨h1, h2⟩
    refine ⟨h1, fun k hk => ?_⟩
    have := h2 (t.length - 1 - k) (by omega)
    rw [getD_rev (by omega), getD_rev (by omega)] at this
    have e1 : t.length - 1 - (t.length - 1 - k) = k := by omega
    have e2 : sizes.length - 1 - (t.length - 1 - k) = k := by omega
    rw [e1, e2] at this
    exact this
  · rintro ⟨h1, h2⟩
    refine ⟨h1, fun k hk => ?_⟩
    rw [getD_rev (by omega), getD_rev (by omega)]
    have := h2 (t.length - 1 - k) (by omega)
    have e1 : sizes.length - 1 - k = t.length - 1 - k := by omega
    rw [e1]
    exact this
theorem up_iff : ∀ {t : List Nat}, t.Pairwise (· < ·) ↔ ∀ k, 0 < k → k < t.length → t.getD (k - 1) 0 < t.getD k 0
  | [] => by simp
  | [x] => by
    simp
    intro k h1 h2
    omega
  | x :: y :: t => by
    have ih := up_iff (t := y :: t)
    rw [List.pairwise_cons, ih]
    constructor
    · rintro ⟨h1, h2⟩ k hk hl
      obtain ⟨j, rfl⟩ : ∃ j, k = j + 1 := ⟨k - 1, by omega⟩
      cases j with
      | zero => simpa using h1 y List.mem_cons_self
      | succ j => simpa using h2 (j + 1) (by omega) (by simpa using hl)
    · intro h
      have h2 : ∀ k, 0 < k → k < (y :: t).length → (y :: t).getD (k - 1) 0 < (y :: t).getD k 0 := fun k hk hl => by
        have := h (k + 1) (by omega) (by simpa using hl)
        obtain ⟨j, rfl⟩ : ∃ j, k = j + 1 := ⟨k - 1, by omega⟩
        simpa using this
      refine ⟨fun z hz => ?_, h2⟩
      have hxy : x < y := by simpa using h 1 (by omega) (by simp)
      have := List.pairwise_cons.mp (ih.mpr h2)
      rcases List.mem_cons.mp hz with rfl | hz
      · exact hxy
      · exact Nat.lt_trans hxy (this.1 z hz)
theorem IsN.T (k4 : kind < 4) {t : List Nat} (h : IsN kind one two sizes t) : IsT kind one two sizes (iN t) := by
  rcases cases4 k4 with rfl | rfl | rfl | rfl
  · have h : Sw.Is one t := h
    refine ⟨(iN_len t).trans h.len, fun x hx => ?_⟩
    obtain ⟨y, hy, rfl⟩ := iN_mem.mp hx
    have := h.bits y hy
    omega
  · have h := whIs_fwd.mp h
    refine ⟨(iN_len t).trans h.1, fun k hk => ?_⟩
    rw [iN_getD]
    have := h.2 k (by rw [iN_len] at hk; exact hk)
    omega
  · have h : Pk.Is one two t := h
    refine ⟨(iN_len t).trans h.len, fun k hk hl => ?_, fun x hx => ?_⟩
    · rw [iN_getD, iN_getD]
      have := up_iff.mp h.up k hk (by rw [iN_len] at hl; exact hl)
      omega
    · obtain ⟨y, hy, rfl⟩ := iN_mem.mp hx
      have := h.lt y hy
      omega
  · exact List.Perm.map _ (h : Ord.Is one t)
theorem IsT.N (k4 : kind < 4) {ns : List Int} (h : IsT kind one two sizes ns) : ∃ t, ns = iN t ∧ IsN kind one two sizes t := by
  rcases cases4 k4 with rfl | rfl | rfl | rfl
  · obtain ⟨h1, h2⟩ := h
    obtain ⟨t, rfl⟩ := iN_of fun x hx => (by have := h2 x hx; omega : 0 ≤ x)
    refine ⟨t, rfl, ⟨by rw [← h1, iN_len], fun x hx => ?_⟩⟩
    have := h2 x (iN_memN.mpr hx)
    omega
  · obtain ⟨h1, h2⟩ := h
    obtain ⟨t, rfl⟩ := iN_of (ns := ns) fun x hx => by
      obtain ⟨k, hk, rfl⟩ := List.getElem_of_mem hx
      have := (h2 k hk).1
      rw [List.getD_eq_getElem?_getD, List.getElem?_eq_getElem hk] at this
      exact this
    refine ⟨t, rfl, whIs_fwd.mpr ⟨by rw [← h1, iN_len], fun k hk => ?_⟩⟩
    have := (h2 k (by rw [iN_len]; exact hk)).2
    rw [iN_getD] at this
    omega
  · obtain ⟨h1, h2, h3⟩ := h
    obtain ⟨t, rfl⟩ := iN_of fun x hx => (h3 x hx).1
    refine ⟨t, rfl, ⟨by rw [← h1, iN_len], up_iff.mpr fun k hk hl => ?_, fun x hx => ?_⟩⟩
    · have := h2 k hk (by rw [iN_len]; exact hl)
      rw [iN_getD, iN_getD] at this
      omega
    · have := (h3 x (iN_memN.mpr hx)).2
      omega
  · have h : ns.Perm (rngI one) := h
    obtain ⟨t, rfl⟩ := iN_of (ns := ns) fun x hx => by
      have := (List.Perm.mem_iff h).mp hx
      obtain ⟨y, _, rfl⟩ := iN_mem.mp this
      omega
    refine ⟨t, rfl, ?_⟩
    show t.Perm (List.range one)
    have e : ∀ l : List Nat, (iN l).map Int.toNat = l := fun l => by
      unfold iN
      rw [List.map_map]
      exact (List.map_congr_left fun x _ => rfl).trans (List.map_id l)
    have h2 := List.Perm.map Int.toNat h
    unfold rngI at h2
    rw [e, e] at h2
    exact h2
theorem Fit.len_is (F : Fit kind one two sizes) {t : List Nat} (h : IsN kind one two sizes t) : t.length ≤ 40 := by
  have h1 := F.o40
  have h2 := F.le
  have h3 := F.len
  rcases cases4 F.k4 with rfl | rfl | rfl | rfl
  · have := Sw.Is.len h; omega
  · have := (whIs_fwd.mp h).1; omega
  · have := Pk.Is.len h; omega
  · have := Ord.Is.length h; omega
/-! one change -/
def One (kind : Nat) (xs ys : List Int) : Prop := xs.length = ys.length ∧ match kind with
  | 0 => ∃ p, p < xs.length ∧ ∀ j, j < xs.length → (xs.getD j 0 ≠ ys.getD j 0 ↔ j = p)
  | 1 => ∃ A x y B, xs = A ++ x :: B ∧ ys = A ++ y :: B ∧ (y = x + 1 ∨ x = y + 1)
  | 2 => xs.Nodup ∧ ys.Nodup ∧ ∃ x y, x ∈ xs ∧ x ∉ ys ∧ y ∈ ys ∧ y ∉ xs ∧ ∀ z, z ≠ x → z ≠ y → (z ∈ xs ↔ z ∈ ys)
  | _ => ∃ A x y B, x ≠ y ∧ xs = A ++ x :: y :: B ∧ ys = A ++ y :: x :: B
theorem exPlace {k n : Nat} (hk : 0 < k) : ∃ p, Sw.Place k n p := by
  have : ∀ (m p : Nat) (r : Int), k - p = m → Sw.Going k n p r → ∃ p, Sw.Place k n p := by
    intro m
    induction m with
    | zero => intro p r e G; have := G.lt; omega
    | succ m ih =>
      intro p r e G
      by_cases h : r % 2 = 1 ∧ p + 1 < k
      · exact ih (p + 1) (r / 2) (by omega) (Sw.going_next G h.1 h.2)
      · exact ⟨p, Sw.going_done G h⟩
  exact this k 0 n rfl (Sw.going0 hk)
theorem sw_one {k n : Nat} (hk : 0 < k) (hn : n < 2 ^ k) : One 0 (iN (Sw.thg k n)) (iN (Sw.thg k ((n + 1) % 2 ^ k))) := by
  obtain ⟨p, hp⟩ := exPlace (n := n) hk
  have el : ∀ m, (Sw.thg k m).length = k := fun m => (Sw.thg_is k m).len
  have eg : ∀ m j, j < k → (Sw.thg k m).getD j 0 = Sw.gb m j := fun m j hj => by
    rw [List.getD_eq_getElem?_getD]
    simp [Sw.thg, hj]
  refine ⟨by rw [iN_len, iN_len, el, el], p, by rw [iN_len, el]; exact hp.lt, fun j hj => ?_⟩
  rw [iN_len, el] at hj
  rw [iN_getD, iN_getD, eg _ _ hj, eg _ _ hj, ← Sw.place_iff hp hn hj]
  omega
theorem wh_one {rs : List Nat} {n : Nat} (hp : Wh.Pos rs) (h : n + 1 < Wh.cnt rs) : One 1 (iN (Wh.thg rs n)) (iN (Wh.thg rs (n + 1))) := by
  obtain ⟨A, x, y, B, e1, e2, h3⟩ := Wh.by1_next hp h
  refine ⟨by rw [iN_len, iN_len, Wh.thg_length, Wh.thg_length], iN A, x, y, iN B, by rw [e1, iN_append, iN_cons], by rw [e2, iN_append, iN_cons], by omega⟩
theorem ex_one {l m : List Nat} (hl : l.length = m.length) (n1 : l.Nodup) (n2 : m.Nodup) (h : Pk.Ex l m) : One 2 (iN l) (iN m) := by
  obtain ⟨x, y, h1, h2, h3, h4, h5⟩ := h
  refine ⟨by rw [iN_len, iN_len, hl], iN_nodup n1, iN_nodup n2, x, y, iN_memN.mpr h1, fun h => h2 (iN_memN.mp h), iN_memN.mpr h3, fun h => h4 (iN_memN.mp h), fun z hz1 hz2 => ?_⟩
  rw [iN_mem, iN_mem]
  constructor
  · rintro ⟨w, hw, rfl⟩
    exact ⟨w, (h5 w (fun e => hz1 (e ▸ rfl)) (fun e => hz2 (e ▸ rfl))).mp hw, rfl⟩
  · rintro ⟨w, hw, rfl⟩
    exact ⟨w, (h5 w (fun e => hz1 (e ▸ rfl)) (fun e => hz2 (e ▸ rfl))).mpr hw, rfl⟩
theorem up_nodup {t : List Nat} (h : t.Pairwise (· < ·)) : t.Nodup := h.imp fun h => Nat.ne_of_lt h
theorem sw2_one {l m : List Nat} (nd : l.Nodup) (h : Ord.Sw2 l m) : One 3 (iN l) (iN m) := by
  obtain ⟨A, x, y, B, rfl, rfl⟩ := h
  refine ⟨by rw [iN_len, iN_len]; simp, iN A, x, y, iN B, fun e => ?_, by rw [iN_append, iN_cons, iN_cons], by rw [iN_append, iN_cons, iN_cons]⟩
  have h1 := (List.nodup_append.mp nd).2.1
  have h2 := (List.nodup_cons.mp h1).1
  exact h2 (by rw [Int.ofNat_inj.mp e]; exact List.mem_cons_self)
theorem Fit.one_next (F : Fit kind one two sizes) {n : Nat} (h : n < cntOf kind one two sizes) (h2 : ¬ cntOf kind one two sizes = 1) (h3 : ¬ (kind = 1 ∧ n + 1 = cntOf kind one two sizes)) :
    One kind (iN (thN kind one two sizes n)) (iN (thN kind one two sizes ((n + 1) % cntOf kind one two sizes))) := by
  have hp := F.cnt_pos
  rcases cases4 F.k4 with rfl | rfl | rfl | rfl
  · refine sw_one ?_ h
    refine Nat.pos_of_ne_zero fun e => h2 ?_
    rw [e]; rfl
  · have h4 : n + 1 < cntOf 1 one two sizes := by
      have : ¬ n + 1 = cntOf 1 one two sizes := fun e => h3 ⟨rfl, e⟩
      omega
    rw [Nat.mod_eq_of_lt h4]
    exact wh_one F.pos h4
  · have hs : 0 < two := Nat.pos_of_ne_zero fun e => h2 (by show Pk.bin one two = 1; rw [e, Pk.bin_0])
    have ho : two < one := by
      refine Nat.lt_of_le_of_ne F.le fun e => h2 ?_
      show Pk.bin one two = 1
      rw [e, Pk.bin_all]
    have i1 := Pk.thg_is F.le h
    have h0 : (n + 1) % cntOf 2 one two sizes < cntOf 2 one two sizes := Nat.mod_lt _ hp
    have i2 := Pk.thg_is F.le h0
    refine ex_one (i1.len.trans i2.len.symm) (up_nodup i1.up) (up_nodup i2.up) ?_
    by_cases h4 : n + 1 < cntOf 2 one two sizes
    · rw [Nat.mod_eq_of_lt h4]
      exact Pk.ex_next F.le h4
    · have e : n + 1 = cntOf 2 one two sizes := by omega
      rw [e, Nat.mod_self]
      have e2 : n = Pk.bin one two - 1 := by show n = cntOf 2 one two sizes - 1; omega
      rw [e2]
      exact Pk.ex_last hs ho
  · have ho : 2 ≤ one := by
      refine Nat.le_of_not_lt fun h => h2 ?_
      have : one = 0 ∨ one = 1 := by omega
      rcases this with rfl | rfl <;> rfl
    refine sw2_one (Ord.thg_is one n).nodup ?_
    by_cases h4 : n + 1 < cntOf 3 one two sizes
    · rw [Nat.mod_eq_of_lt h4]
      exact Ord.sw2_next h4
    · have e : n + 1 = cntOf 3 one two sizes := by omega
      rw [e, Nat.mod_self]
      have e2 : n = Ord.fac one - 1 := by show n = cntOf 3 one two sizes - 1; omega
      rw [e2]
      exact Ord.sw2_last ho
end Lst

set_option linter.all false
namespace Rg
/-! a state is a list of Bool; its number is that of the thing of switches with 1 where a ring is on -/
def bt (b : Bool) : Nat := if b then 1 else 0
def bits (s : List Bool) : List Nat := s.map bt
def num (s : List Bool) : Nat := Sw.num (bits s)
theorem bits_is (s : List Bool) : Sw.Is s.length (bits s) := ⟨by simp [bits], fun x hx => by
  obtain ⟨b, _, rfl⟩ := List.mem_map.mp hx
  cases b <;> simp [bt]⟩
theorem num_lt (s : List Bool) : num s < 2 ^ s.length := Sw.num_lt (bits_is s)
theorem num_cons (b : Bool) (t : List Bool) : num (b :: t) = num t * 2 + (num t % 2 + bt b) % 2 := rfl
theorem bt_inj {a b : Bool} (h : bt a = bt b) : a = b := by cases a <;> cases b <;> simp [bt] at h <;> rfl
theorem bits_inj : ∀ {s t : List Bool}, bits s = bits t → s = t
  | [], [], _ => rfl
  | [], _ :: _, h => by simp [bits] at h
  | _ :: _, [], h => by simp [bits] at h
  | a :: s, b :: t, h => by
    have h' : bt a :: bits s = bt b :: bits t := h
    injection h' with h1 h2
    rw [bt_inj h1, bits_inj h2]
theorem num_inj {s t : List Bool} (hl : s.length = t.length) (h : num s = num t) : s = t := by
  refine bits_inj ?_
  have h1 := Sw.thg_num (bits_is s)
  have h2 := Sw.thg_num (bits_is t)
  unfold num at h
  rw [← h1, ← h2, h, hl]
/-- the state of the number n -/
def stt (k n : Nat) : List Bool := (Sw.thg k n).map fun x => decide (x = 1)
theorem bits_stt (k n : Nat) : bits (stt k n) = Sw.thg k n := by
  unfold bits stt
  rw [List.map_map]
  conv => rhs; rw [← List.map_id (Sw.thg k n)]
  refine List.map_congr_left fun x hx => ?_
  have := (Sw.thg_is k n).bits x hx
  have h : x = 0 ∨ x = 1 := by omega
  rcases h with rfl | rfl <;> rfl
theorem stt_length (k n : Nat) : (stt k n).length = k := by simp [stt, Sw.thg]
theorem num_stt {k n : Nat} (h : n < 2 ^ k) : num (stt k n) = n := by
  unfold num
  rw [bits_stt, Sw.num_thg h]
theorem stt_num (s : List Bool) : stt s.length (num s) = s := num_inj (stt_length _ _) (num_stt (num_lt s))

/-! moves -/
def Free (s : List Bool) (r : Nat) : Prop := r < s.length ∧ (r = 0 ∨ (s.getD (r - 1) false = true ∧ ∀ j, j < r - 1 → s.getD j false = false))
def flip (s : List Bool) (r : Nat) : List Bool := s.set r (!s.getD r false)
theorem flip_length (s : List Bool) (r : Nat) : (flip s r).length = s.length := by simp [flip]
theorem flip_zero (b : Bool) (t : List Bool) : flip (b :: t) 0 = (!b) :: t := rfl
theorem flip_succ (b : Bool) (t : List Bool) (r : Nat) : flip (b :: t) (r + 1) = b :: flip t r := by
  unfold flip
  rw [List.set_cons_succ]
  congr 2
theorem free_tail {b : Bool} {t : List Bool} {r : Nat} (h : Free (b :: t) (r + 2)) : b = false ∧ Free t (r + 1) := by
  obtain ⟨h1, h2 | ⟨h2, h3⟩⟩ := h
  · omega
  · refine ⟨h3 0 (by omega), by have := h1; rw [List.length_cons] at this; omega, .inr ⟨by simpa using h2, fun j hj => ?_⟩⟩
    have := h3 (j + 1) (by omega)
    simpa using this
theorem free_one {b : Bool} {t : List Bool} (h : Free (b :: t) 1) : b = true ∧ 0 < t.length := by
  obtain ⟨h1, h2 | ⟨h2, h3⟩⟩ := h
  · omega
  · exact ⟨by simpa using h2, by simpa using h1⟩
theorem num_flip0 {s : List Bool} (h : 0 < s.length) : (num s % 2 = 0 → num (flip s 0) = num s + 1) ∧ (num s % 2 = 1 → num (flip s 0) + 1 = num s) := by
  cases s with
  | nil => simp at h
  | cons b t =>
    rw [flip_zero, num_cons, num_cons]
    have hb : bt (!b) + bt b = 1 := by cases b <;> rfl
    omega
theorem num_flipS : ∀ {s : List Bool} {r : Nat}, Free s (r + 1) → (num s % 2 = 1 → num (flip s (r + 1)) = num s + 1) ∧ (num s % 2 = 0 → num (flip s (r + 1)) + 1 = num s)
  | [], r, h => by have := h.1; simp at this
  | b :: t, 0, h => by
    obtain ⟨rfl, h1⟩ := free_one h
    have h2 := num_flip0 h1
    rw [flip_succ, num_cons, num_cons]
    have hb : bt true = 1 := rfl
    rw [hb]
    rcases Nat.mod_two_eq_zero_or_one (num t) with e | e
    · have := h2.1 e; omega
    · have := h2.2 e; omega
  | b :: t, r + 1, h => by
    obtain ⟨rfl, h1⟩ := free_tail h
    have h2 := num_flipS h1
    rw [flip_succ, num_cons, num_cons]
    have hb : bt false = 0 := rfl
    rw [hb]
    rcases Nat.mod_two_eq_zero_or_one (num t) with e | e
    · have := h2.2 e; omega
    · have := h2.1 e; omega
/-- a move makes the number one more or one less -/
theorem num_move {s : List Bool} {r : Nat} (h : Free s r) : num (flip s r) = num s + 1 ∨ num (flip s r) + 1 = num s := by
  rcases Nat.mod_two_eq_zero_or_one (num s) with e | e
  · cases r with
    | zero => exact .inl ((num_flip0 h.1).1 e)
    | succ r => exact .inr ((num_flipS h).2 e)
  · cases r with
    | zero => exact .inr ((num_flip0 h.1).2 e)
    | succ r => exact .inl ((num_flipS h).1 e)
/-- ring nought and another one go contrary ways -/
theorem num_other {s : List Bool} {r : Nat} (h : Free s (r + 1)) : num (flip s 0) ≠ num (flip s (r + 1)) := by
  have h0 := num_flip0 (s := s) (by have := h.1; omega)
  have h1 := num_flipS h
  rcases Nat.mod_two_eq_zero_or_one (num s) with e | e
  · have a := h0.1 e; have b := h1.2 e; omega
  · have a := h0.2 e; have b := h1.1 e; omega

/-! the rings that can be moved, as the law looks at them -/
def freeB (s : List Bool) (r : Nat) : Bool := decide (r = 0) || (s.getD (r - 1) false && !((s.take (r - 1)).any id))
def freeL (s : List Bool) : List Nat := (List.range s.length).filter (freeB s)
theorem freeB_iff {s : List Bool} {r : Nat} (h : r < s.length) : freeB s r = true ↔ Free s r := by
  unfold freeB Free
  rw [Bool.or_eq_true, Bool.and_eq_true, decide_eq_true_iff]
  constructor
  · rintro (h1 | ⟨h1, h2⟩)
    · exact ⟨h, .inl h1⟩
    · refine ⟨h, .inr ⟨h1, fun j hj => ?_⟩⟩
      rw [Bool.not_eq_true', List.any_eq_false] at h2
      have hjl : j < s.length := by omega
      have := h2 (s[j]) (by rw [List.mem_take_iff_getElem]; exact ⟨j, by omega, rfl⟩)
      rw [List.getD_eq_getElem?_getD, List.getElem?_eq_getElem hjl]
      simpa using this
  · rintro ⟨_, h1 | ⟨h1, h2⟩⟩
    · exact .inl h1
    · refine .inr ⟨h1, ?_⟩
      rw [Bool.not_eq_true', List.any_eq_false]
      intro x hx
      obtain ⟨j, hj, rfl⟩ := List.mem_take_iff_getElem.mp hx
      have := h2 j (by omega)
      rw [List.getD_eq_getElem?_getD, List.getElem?_eq_getElem (by omega)] at this
      simpa using this
theorem mem_freeL {s : List Bool} {r : Nat} : r ∈ freeL s ↔ Free s r := by
  unfold freeL
  rw [List.mem_filter, List.mem_range]
  constructor
  · rintro ⟨h1, h2⟩
    exact (freeB_iff h1).mp h2
  · intro h
    exact ⟨h.1, (freeB_iff h.1).mpr h⟩
theorem free_unique {s : List Bool} {a b : Nat} (ha : Free s (a + 1)) (hb : Free s (b + 1)) : a = b := by
  obtain ⟨a1, a2 | ⟨a2, a3⟩⟩ := ha
  · omega
  obtain ⟨b1, b2 | ⟨b2, b3⟩⟩ := hb
  · omega
  simp only [Nat.add_sub_cancel] at a2 a3 b2 b3
  rcases Nat.lt_trichotomy a b with h | h | h
  · rw [b3 a h] at a2; cases a2
  · exact h
  · rw [a3 b h] at b2; cases b2
theorem freeL_nil : freeL [] = [] := rfl
theorem freeL_pos {s : List Bool} (h : 0 < s.length) : freeL s = [0] ∧ (∀ r, ¬ Free s (r + 1)) ∨ ∃ r, freeL s = [0, r + 1] ∧ Free s (r + 1) := by
  obtain ⟨k, hk⟩ : ∃ k, s.length = k + 1 := ⟨s.length - 1, by omega⟩
  have e : freeL s = 0 :: ((List.range k).filter fun j => freeB s (j + 1)).map (· + 1) := by
    unfold freeL
    rw [hk, List.range_succ_eq_map, List.filter_cons, if_pos (by rfl), List.filter_map]
    rfl
  by_cases hx : ∃ r, Free s (r + 1)
  · obtain ⟨r, hr⟩ := hx
    refine .inr ⟨r, ?_, hr⟩
    have hrk : r < k := by have := hr.1; omega
    rw [e, Sw.filter_one hrk _ fun j hj => ?_]
    · rfl
    · rw [freeB_iff (by omega)]
      constructor
      · intro hj'; exact free_unique hj' hr
      · rintro rfl; exact hr
  · refine .inl ⟨?_, fun r hr => hx ⟨r, hr⟩⟩
    rw [e, List.filter_eq_nil_iff.mpr fun j hj hb => hx ⟨j, (freeB_iff (by have := List.mem_range.mp hj; omega)).mp hb⟩]
    rfl
theorem freeL_nodup (s : List Bool) : (freeL s).Nodup := List.Pairwise.filter _ List.nodup_range

/-! the step from a number to the next one -/
def chg (n : Nat) : Nat := if h : n % 2 = 1 then chg (n / 2) + 1 else 0
termination_by n
decreasing_by omega
theorem chg_even {n : Nat} (h : n % 2 = 0) : chg n = 0 := by rw [chg, dif_neg (by omega)]
theorem chg_odd {n : Nat} (h : n % 2 = 1) : chg n = chg (n / 2) + 1 := by conv => lhs; rw [chg, dif_pos h]
theorem chg_ne (n : Nat) : chg n ≠ chg (n + 1) := by
  rcases Nat.mod_two_eq_zero_or_one n with e | e
  · rw [chg_even e, chg_odd (show (n + 1) % 2 = 1 by omega)]; omega
  · rw [chg_odd e, chg_even (show (n + 1) % 2 = 0 by omega)]; omega
theorem chg_dvd (n : Nat) : 2 ^ chg n ∣ n + 1 ∧ ¬ 2 ^ (chg n + 1) ∣ n + 1 := by
  induction n using Nat.strongRecOn with
  | ind n ih =>
    rcases Nat.mod_two_eq_zero_or_one n with e | e
    · rw [chg_even e]
      refine ⟨by simp, ?_⟩
      intro h
      have : (2 : Nat) ∣ n + 1 := by simpa using h
      omega
    · rw [chg_odd e]
      have h := ih (n / 2) (by omega)
      have en : n + 1 = 2 * (n / 2 + 1) := by omega
      rw [en, Nat.pow_succ 2 (chg (n / 2)), Nat.mul_comm _ 2, Nat.mul_dvd_mul_iff_left (by decide), Nat.pow_succ 2 (chg (n / 2) + 1), Nat.mul_comm _ 2, Nat.mul_dvd_mul_iff_left (by decide)]
      exact h
theorem chg_lt {k n : Nat} (h : n + 1 < 2 ^ k) : chg n < k := by
  have h1 := Nat.le_of_dvd (by omega) (chg_dvd n).1
  refine Nat.lt_of_not_le fun h2 => ?_
  have := Nat.pow_le_pow_right (n := 2) (by decide) h2
  omega
theorem place_chg {k n : Nat} (h : n + 1 < 2 ^ k) : Sw.Place k n (chg n) := ⟨chg_lt h, (chg_dvd n).1, .inl (chg_dvd n).2⟩
theorem place_eq {k n p : Nat} (P : Sw.Place k n p) (h : n + 1 < 2 ^ k) : p = chg n := by
  have hstop : ¬ 2 ^ (p + 1) ∣ n + 1 := by
    rcases P.stop with h1 | h1
    · exact h1
    · intro hd
      rw [h1] at hd
      have := Nat.le_of_dvd (by omega) hd
      omega
  exact Sw.dvd_unique P.dvd hstop (chg_dvd n).1 (chg_dvd n).2
theorem stt_cons (k n : Nat) : stt (k + 1) n = decide (Sw.gb n 0 = 1) :: stt k (n / 2) := by unfold stt; rw [Sw.thg_succ]; rfl
theorem free_stt : ∀ {k n : Nat}, n + 1 < 2 ^ k → Free (stt k n) (chg n)
  | 0, n, h => by simp at h
  | k + 1, n, h => by
    have hl := chg_lt h
    rcases Nat.mod_two_eq_zero_or_one n with e | e
    · rw [chg_even e]
      exact ⟨by rw [stt_length]; omega, .inl rfl⟩
    · have en : (n / 2) + 1 < 2 ^ k := by rw [Nat.pow_succ] at h; omega
      have ih := free_stt en
      rw [chg_odd e]
      refine ⟨by rw [stt_length]; rw [chg_odd e] at hl; omega, .inr ?_⟩
      rw [stt_cons, Nat.add_sub_cancel, Sw.gb_0]
      rcases Nat.mod_two_eq_zero_or_one (n / 2) with e2 | e2
      · rw [chg_even e2]
        refine ⟨?_, fun j hj => by omega⟩
        show decide ((n + n / 2) % 2 = 1) = true
        exact decide_eq_true (by omega)
      · rw [chg_odd e2] at ih ⊢
        obtain ⟨i1, i2 | ⟨i2, i3⟩⟩ := ih
        · omega
        · refine ⟨i2, fun j hj => ?_⟩
          cases j with
          | zero => exact decide_eq_false (by omega)
          | succ j => exact i3 j (by omega)
theorem gb_iff {k n j : Nat} (h : n + 1 < 2 ^ k) (hj : j < k) : Sw.gb n j ≠ Sw.gb (n + 1) j ↔ j = chg n := by
  have := Sw.place_iff (place_chg h) (by omega) hj
  rwa [Nat.mod_eq_of_lt h] at this
theorem flip_stt {k n : Nat} (h : n + 1 < 2 ^ k) : flip (stt k n) (chg n) = stt k (n + 1) := by
  have hp := chg_lt h
  have hg : ∀ m j, j < k → (stt k m)[j]? = some (decide (Sw.gb m j = 1)) := fun m j hj => by
    simp [stt, Sw.thg, hj]
  refine List.ext_getElem? fun j => ?_
  by_cases hj : j < k
  · rw [hg (n + 1) j hj]
    unfold flip
    rw [List.getElem?_set, List.getD_eq_getElem?_getD, hg n _ hp]
    by_cases e : chg n = j
    · subst e
      rw [if_pos rfl, if_pos (by rw [stt_length]; exact hp)]
      have h1 := (gb_iff h hp).mpr rfl
      have h2 := Sw.gb_lt n (chg n)
      have h3 := Sw.gb_lt (n + 1) (chg n)
      congr 1
      show (!decide (Sw.gb n (chg n) = 1)) = _
      by_cases h4 : Sw.gb n (chg n) = 1
      · rw [decide_eq_true h4, decide_eq_false (by omega)]; rfl
      · rw [decide_eq_false h4, decide_eq_true (by omega)]; rfl
    · rw [if_neg e, hg n j hj]
      have h1 : Sw.gb n j = Sw.gb (n + 1) j := Classical.byContradiction fun h2 => e ((gb_iff h hj).mp h2).symm
      rw [h1]
  · rw [List.getElem?_eq_none (by rw [flip_length, stt_length]; omega), List.getElem?_eq_none (by rw [stt_length]; omega)]
theorem flip_flip {s : List Bool} {r : Nat} (h : r < s.length) : flip (flip s r) r = s := by
  unfold flip
  rw [List.set_set]
  refine List.ext_getElem? fun j => ?_
  rw [List.getElem?_set]
  by_cases e : r = j
  · subst e
    rw [if_pos rfl, if_pos (by simpa using h), List.getElem?_eq_getElem h, List.getD_eq_getElem?_getD, List.getD_eq_getElem?_getD, List.getElem?_set, if_pos rfl, if_pos h, List.getElem?_eq_getElem h]
    simp
  · rw [if_neg e]
theorem free_flip {s : List Bool} {r : Nat} (h : Free s r) : Free (flip s r) r := by
  obtain ⟨h1, h2⟩ := h
  refine ⟨by rw [flip_length]; exact h1, ?_⟩
  rcases h2 with h2 | ⟨h2, h3⟩
  · exact .inl h2
  · by_cases h0 : r = 0
    · exact .inl h0
    have hg : ∀ j, j < r → (flip s r).getD j false = s.getD j false := fun j hj => by
      unfold flip
      rw [List.getD_eq_getElem?_getD, List.getElem?_set, if_neg (by omega), List.getD_eq_getElem?_getD]
    exact .inr ⟨by rw [hg _ (by omega)]; exact h2, fun j hj => by rw [hg _ (by omega)]; exact h3 j hj⟩
theorem flip_back {k n : Nat} (h : n + 1 < 2 ^ k) : flip (stt k (n + 1)) (chg n) = stt k n := by
  rw [← flip_stt h, flip_flip (by rw [stt_length]; exact chg_lt h)]
theorem free_back {k n : Nat} (h : n + 1 < 2 ^ k) : Free (stt k (n + 1)) (chg n) := by
  rw [← flip_stt h]
  exact free_flip (free_stt h)

/-! ways -/
/-- moved one behind the other, each of them can be moved -/
def Walk : List Bool → List Nat → List Bool → Prop
  | s, [], t => s = t
  | s, r :: rs, t => Free s r ∧ Walk (flip s r) rs t
theorem Walk.length : ∀ {rs : List Nat} {s t : List Bool}, Walk s rs t → s.length = t.length
  | [], s, t, h => by cases h; rfl
  | r :: rs, s, t, h => by have := Walk.length h.2; rw [flip_length] at this; exact this
theorem Walk.snoc : ∀ {rs : List Nat} {s t : List Bool} {r : Nat}, Walk s rs t → Free t r → Walk s (rs ++ [r]) (flip t r)
  | [], s, t, r, h, f => by cases h; exact ⟨f, rfl⟩
  | a :: rs, s, t, r, h, f => ⟨h.1, Walk.snoc h.2 f⟩
/-- a way of c moves: the numbers lie at most c apart, and alike in parity -/
theorem Walk.num : ∀ {rs : List Nat} {s t : List Bool}, Walk s rs t → num t ≤ num s + rs.length ∧ num s ≤ num t + rs.length ∧ (num s + num t + rs.length) % 2 = 0
  | [], s, t, h => by cases h; simp; omega
  | r :: rs, s, t, h => by
    have h1 := num_move h.1
    have h2 := Walk.num h.2
    rw [List.length_cons]
    omega
def up (n c : Nat) : List Nat := (List.range c).map fun i => chg (n + i)
theorem up_length (n c : Nat) : (up n c).length = c := by simp [up]
theorem up_zero (n : Nat) : up n 0 = [] := rfl
theorem up_succ (n c : Nat) : up n (c + 1) = chg n :: up (n + 1) c := by
  unfold up
  rw [List.range_succ_eq_map, List.map_cons, List.map_map]
  congr 1
  refine List.map_congr_left fun i _ => ?_
  show chg (n + (i + 1)) = chg (n + 1 + i)
  congr 1
  omega
theorem up_snoc (n c : Nat) : up n (c + 1) = up n c ++ [chg (n + c)] := by
  unfold up
  rw [List.range_succ, List.map_append]
  rfl
theorem walk_up {k : Nat} : ∀ {c n : Nat}, n + c < 2 ^ k → Walk (stt k n) (up n c) (stt k (n + c))
  | 0, n, _ => rfl
  | c + 1, n, h => by
    rw [up_succ]
    refine ⟨free_stt (by omega), ?_⟩
    rw [flip_stt (by omega), show n + (c + 1) = n + 1 + c by omega]
    exact walk_up (by omega)
theorem walk_down {k : Nat} : ∀ {c n : Nat}, n + c < 2 ^ k → Walk (stt k (n + c)) (up n c).reverse (stt k n)
  | 0, n, _ => rfl
  | c + 1, n, h => by
    rw [up_snoc, List.reverse_append]
    refine ⟨free_back (by omega), ?_⟩
    rw [← Nat.add_assoc, flip_back (by omega)]
    exact walk_down (by omega)
/-- the shortest way from the number n to the number m -/
def wayN (n m : Nat) : List Nat := if n ≤ m then up n (m - n) else (up m (n - m)).reverse
theorem wayN_length (n m : Nat) : (wayN n m).length = if n ≤ m then m - n else n - m := by
  unfold wayN
  split
  · rw [up_length]
  · rw [List.length_reverse, up_length]
theorem wayN_back (n m : Nat) : wayN m n = (wayN n m).reverse := by
  unfold wayN
  by_cases h : n = m
  · subst h
    rw [if_pos (Nat.le_refl _), Nat.sub_self]
    rfl
  · by_cases h1 : n ≤ m
    · rw [if_pos h1, if_neg (by omega)]
    · rw [if_neg h1, if_pos (by omega), List.reverse_reverse]
theorem wayN_self (n : Nat) : wayN n n = [] := by
  unfold wayN
  rw [if_pos (Nat.le_refl _), Nat.sub_self]
  rfl
theorem walk_wayN {k n m : Nat} (hn : n < 2 ^ k) (hm : m < 2 ^ k) : Walk (stt k n) (wayN n m) (stt k m) := by
  unfold wayN
  by_cases h : n ≤ m
  · rw [if_pos h]
    have := walk_up (k := k) (n := n) (c := m - n) (by omega)
    rwa [show n + (m - n) = m by omega] at this
  · rw [if_neg h]
    have := walk_down (k := k) (n := m) (c := n - m) (by omega)
    rwa [show m + (n - m) = n by omega] at this
def wayS (s t : List Bool) : List Nat := wayN (num s) (num t)
theorem walk_wayS {s t : List Bool} (h : s.length = t.length) : Walk s (wayS s t) t := by
  have := walk_wayN (num_lt s) (m := num t) (by rw [h]; exact num_lt t)
  rwa [stt_num, h, stt_num] at this
theorem up_step {n c i : Nat} (h : i + 1 < c) : (up n c).getD i 0 ≠ (up n c).getD (i + 1) 0 := by
  have hg : ∀ j, j < c → (up n c).getD j 0 = chg (n + j) := fun j hj => by
    rw [List.getD_eq_getElem?_getD]
    simp [up, hj]
  rw [hg i (by omega), hg (i + 1) h]
  exact chg_ne (n + i)
/-- no ring comes twice running -/
theorem wayN_step {n m i : Nat} (h : i + 1 < (wayN n m).length) : (wayN n m).getD i 0 ≠ (wayN n m).getD (i + 1) 0 := by
  unfold wayN at h ⊢
  by_cases h1 : n ≤ m
  · rw [if_pos h1] at h ⊢
    rw [up_length] at h
    exact up_step h
  · rw [if_neg h1] at h ⊢
    rw [List.length_reverse, up_length] at h
    have hr : ∀ j, j < n - m → (up m (n - m)).reverse.getD j 0 = (up m (n - m)).getD (n - m - 1 - j) 0 := fun j hj => by
      rw [List.getD_eq_getElem?_getD, List.getElem?_reverse (by rw [up_length]; exact hj), up_length, List.getD_eq_getElem?_getD]
    rw [hr i (by omega), hr (i + 1) h]
    have := up_step (n := m) (c := n - m) (i := n - m - 1 - (i + 1)) (by omega)
    rw [show n - m - 1 - (i + 1) + 1 = n - m - 1 - i by omega] at this
    exact fun e => this e.symm

/-! the numbers of some states -/
theorem num_off : ∀ k, num (List.replicate k false) = 0
  | 0 => rfl
  | k + 1 => by
    rw [List.replicate_succ, num_cons, num_off k]
    rfl
theorem num_on : ∀ k, 3 * num (List.replicate k true) + 1 + (if k % 2 = 0 then 1 else 0) = 2 * 2 ^ k ∧ num (List.replicate k true) % 2 = k % 2
  | 0 => by simp [num, bits, Sw.num]
  | k + 1 => by
    obtain ⟨h1, h2⟩ := num_on k
    rw [List.replicate_succ, num_cons]
    have hb : bt true = 1 := rfl
    rw [hb, Nat.pow_succ]
    rcases Nat.mod_two_eq_zero_or_one k with e | e
    · rw [if_pos e] at h1
      rw [if_neg (by omega)]
      omega
    · rw [if_neg (by omega)] at h1
      rw [if_pos (by omega)]
      omega
def lastS (k : Nat) : List Bool := List.replicate k false ++ [true]
theorem num_last : ∀ k, num (lastS k) + 1 = 2 ^ (k + 1)
  | 0 => rfl
  | k + 1 => by
    have ih := num_last k
    show num (false :: lastS k) + 1 = _
    rw [num_cons]
    have hb : bt false = 0 := rfl
    have hp : 0 < 2 ^ k := Nat.pow_pos (by decide)
    rw [hb, Nat.pow_succ 2 (k + 1)]
    rw [Nat.pow_succ] at ih ⊢
    omega
theorem getD_false {s : List Bool} {j : Nat} : s.getD j false = true → j < s.length := fun h => by
  refine Nat.lt_of_not_le fun h1 => ?_
  rw [List.getD_eq_getElem?_getD, List.getElem?_eq_none h1] at h
  cases h
/-- how many rings can be moved -/
theorem first_on : ∀ (s : List Bool), s = List.replicate s.length false ∨ ∃ l, l < s.length ∧ s.getD l false = true ∧ ∀ j, j < l → s.getD j false = false
  | [] => .inl rfl
  | true :: t => .inr ⟨0, by simp, rfl, fun j hj => by omega⟩
  | false :: t => by
    rcases first_on t with h | ⟨l, h1, h2, h3⟩
    · left
      rw [List.length_cons, List.replicate_succ, ← h]
    · exact .inr ⟨l + 1, by simpa using h1, by simpa using h2, fun j hj => by
        cases j with
        | zero => rfl
        | succ j => simpa using h3 j (by omega)⟩
theorem freeL_count (s : List Bool) : (freeL s).length = if s.length = 0 then 0 else if num s = 0 ∨ num s + 1 = 2 ^ s.length then 1 else 2 := by
  by_cases h0 : s.length = 0
  · rw [if_pos h0, List.length_eq_zero_iff.mp h0]
    rfl
  rw [if_neg h0]
  obtain ⟨k, hk⟩ : ∃ k, s.length = k + 1 := ⟨s.length - 1, by omega⟩
  rcases freeL_pos (s := s) (by omega) with ⟨e, hn⟩ | ⟨r, e, hr⟩
  · rw [e, if_pos]
    · rfl
    rcases first_on s with h | ⟨l, h1, h2, h3⟩
    · left
      rw [h, num_off]
    · right
      have hl : l = k := by
        refine Classical.byContradiction fun hne => hn l ⟨by omega, .inr ⟨by simpa using h2, fun j hj => h3 j (by omega)⟩⟩
      have es : s = lastS k := by
        refine List.ext_getElem? fun j => ?_
        unfold lastS
        rw [List.getElem?_append]
        by_cases hj : j < k
        · rw [if_pos (by simpa using hj)]
          have := h3 j (by omega)
          rw [List.getD_eq_getElem?_getD, List.getElem?_eq_getElem (by omega)] at this
          rw [List.getElem?_eq_getElem (by omega)]
          simp [hj]
          simpa using this
        · rw [if_neg (by simpa using hj), List.length_replicate]
          by_cases hj2 : j = k
          · subst hj2
            subst hl
            rw [List.getD_eq_getElem?_getD, List.getElem?_eq_getElem h1] at h2
            rw [List.getElem?_eq_getElem h1, Nat.sub_self]
            simpa using h2
          · rw [List.getElem?_eq_none (by omega), List.getElem?_eq_none (by simp; omega)]
      rw [hk, es, num_last]
  · rw [e, if_neg]
    · rfl
    have hm := num_move hr
    have hm0 := num_move (s := s) (r := 0) ⟨by omega, .inl rfl⟩
    have ho := num_other hr
    have b1 := num_lt (flip s 0)
    have b2 := num_lt (flip s (r + 1))
    rw [flip_length] at b1 b2
    omega
end Rg

set_option linter.all false
namespace Mp
theorem take_rev {l : List Nat} {i x : Nat} (h : l[i]? = some x) : (l.take (i + 1)).reverse = x :: (l.take i).reverse := by
  have hi : i < l.length := (List.getElem?_eq_some_iff.mp h).1
  rw [List.take_succ, h]
  simp
theorem drop_rev {l : List Nat} {i x : Nat} (hi : i < l.length) (h : l[l.length - 1 - i]? = some x) : l.reverse.drop i = x :: l.reverse.drop (i + 1) := by
  have h1 : i < l.reverse.length := by simpa using hi
  rw [List.drop_eq_getElem_cons h1]
  congr 1
  rw [List.getElem_reverse]
  have h2 : l.length - 1 - i < l.length := by omega
  rw [List.getElem?_eq_getElem h2] at h
  exact Option.some.inj h
/-! wheels -/
theorem cnt_le : ∀ {l : List Nat}, (∀ x ∈ l, x ≤ 9) → Wh.cnt l ≤ 9 ^ l.length
  | [], _ => Nat.le_refl _
  | b :: r, h => by
    have h1 := cnt_le (l := r) fun x hx => h x (List.mem_cons_of_mem _ hx)
    have h2 := h b List.mem_cons_self
    show b * Wh.cnt r ≤ 9 ^ (r.length + 1)
    rw [Nat.pow_succ, Nat.mul_comm (9 ^ r.length)]
    exact Nat.mul_le_mul h2 h1
theorem cnt_big {l : List Nat} (h : ∀ x ∈ l, 1 ≤ x ∧ x ≤ 9) (hl : l.length ≤ 12) : Wh.cnt l ≤ 282429536481 := by
  have h1 := cnt_le fun x hx => (h x hx).2
  have h2 : 9 ^ l.length ≤ 9 ^ 12 := Nat.pow_le_pow_right (by decide) hl
  have h3 : (9 : Nat) ^ 12 = 282429536481 := by decide
  omega
theorem flip_step {v c i : Nat} (h : i < c) : Wh.flip v c i = if v % 2 = 1 then c - 1 - i else i := by
  unfold Wh.flip
  have : v % 2 = 0 ∨ v % 2 = 1 := by omega
  rcases this with e | e <;> rw [e] <;> simp
/-- a prefix of a thing is a thing of the first sizes -/
theorem is_take {sizes t : List Nat} (h : Wh.Is sizes.reverse t.reverse) (i : Nat) : Wh.Is (sizes.take i).reverse (t.take i).reverse := by
  obtain ⟨h1, h2⟩ := Lst.whIs_fwd.mp h
  refine Lst.whIs_fwd.mpr ⟨by rw [List.length_take, List.length_take, h1], fun k hk => ?_⟩
  rw [List.length_take] at hk
  have e1 : (t.take i).getD k 0 = t.getD k 0 := by
    rw [List.getD_eq_getElem?_getD, List.getElem?_take_of_lt (by omega), ← List.getD_eq_getElem?_getD]
  have e2 : (sizes.take i).getD k 0 = sizes.getD k 0 := by
    rw [List.getD_eq_getElem?_getD, List.getElem?_take_of_lt (by omega), ← List.getD_eq_getElem?_getD]
  rw [e1, e2]
  exact h2 k (by omega)
/-! picks -/
theorem bin_next (m k : Nat) : ((Pk.bin m k : Nat) : Int) * ((m : Int) - (k : Int)) / ((k : Int) + 1) = ((Pk.bin m (k + 1) : Nat) : Int) := by
  have h := Pk.bin_step m k
  have e : ((Pk.bin m k : Nat) : Int) * ((m : Int) - (k : Int)) = ((k : Int) + 1) * ((Pk.bin m (k + 1) : Nat) : Int) := by
    by_cases hk : k ≤ m
    · have h2 : ((m - k : Nat) : Int) = (m : Int) - (k : Int) := by omega
      rw [← h2, Int.mul_comm, ← Int.natCast_mul, ← h, Int.natCast_mul]
      rfl
    · have h2 : Pk.bin m k = 0 := Pk.bin_big (by omega)
      have h3 : Pk.bin m (k + 1) = 0 := Pk.bin_big (by omega)
      rw [h2, h3]
      simp
  rw [e]
  exact Int.mul_ediv_cancel_left _ (by omega)
theorem num_up : ∀ {m s : Nat} {t : List Nat}, Pk.Is m s t → Pk.num (m + 1) s t = Pk.num m s t
  | m, 0, t, h => by rw [Pk.num_0, Pk.num_0]
  | m, s + 1, t, h => by
    show (if t.getLast? = some m then _ else Pk.num m (s + 1) t) = _
    rw [if_neg]
    intro e
    exact Nat.lt_irrefl _ (h.lt m (List.mem_of_getLast? e))
theorem Is_mono {m n s : Nat} {t : List Nat} (h : Pk.Is m s t) (hn : m ≤ n) : Pk.Is n s t := ⟨h.len, h.up, fun x hx => Nat.lt_of_lt_of_le (h.lt x hx) hn⟩
theorem num_mono {m s : Nat} {t : List Nat} (h : Pk.Is m s t) : ∀ {n : Nat}, m ≤ n → Pk.num n s t = Pk.num m s t := by
  intro n hn
  obtain ⟨d, rfl⟩ : ∃ d, n = m + d := ⟨n - m, by omega⟩
  induction d with
  | zero => rfl
  | succ d ih => exact (num_up (Is_mono h (Nat.le_add_right m d))).trans (ih (Nat.le_add_right m d))
theorem is_snoc {m s x : Nat} {t : List Nat} (h : Pk.Is m (s + 1) (t ++ [x])) : Pk.Is x s t ∧ x < m := by
  have h1 := List.pairwise_append.mp h.up
  refine ⟨⟨by have := h.len; simp at this; omega, h1.1, fun y hy => h1.2.2 y hy x List.mem_cons_self⟩, h.lt x (by simp)⟩
theorem num_snoc {m s x : Nat} {t : List Nat} (h : Pk.Is m (s + 1) (t ++ [x])) : Pk.num m (s + 1) (t ++ [x]) = Pk.bin (x + 1) (s + 1) - 1 - Pk.num x s t := by
  obtain ⟨h1, h2⟩ := is_snoc h
  have h3 : Pk.Is (x + 1) (s + 1) (t ++ [x]) := h1.snoc
  rw [num_mono h3 h2]
  show (if (t ++ [x]).getLast? = some x then Pk.bin (x + 1) (s + 1) - 1 - Pk.num x s (t ++ [x]).dropLast else _) = _
  rw [if_pos (by simp), List.dropLast_concat]
theorem is_takeP {m s : Nat} {t : List Nat} (h : Pk.Is m s t) {i : Nat} (hi : i ≤ s) : Pk.Is m i (t.take i) :=
  ⟨by rw [List.length_take, h.len]; omega, h.up.sublist (List.take_sublist _ _), fun x hx => h.lt x (List.mem_of_mem_take hx)⟩
theorem num_next {m s i x : Nat} {t : List Nat} (h : Pk.Is m s t) (hx : t[i]? = some x) : Pk.num m (i + 1) (t.take (i + 1)) = Pk.bin (x + 1) (i + 1) - 1 - Pk.num m i (t.take i) ∧ Pk.num m i (t.take i) < Pk.bin (x + 1) (i + 1) := by
  have hi : i < t.length := (List.getElem?_eq_some_iff.mp hx).1
  have hs := h.len
  have e : t.take (i + 1) = t.take i ++ [x] := by rw [List.take_succ, hx]; rfl
  have h1 := is_takeP h (i := i + 1) (by omega)
  rw [e] at h1 ⊢
  obtain ⟨h2, h3⟩ := is_snoc h1
  have h4 : Pk.num m i (t.take i) = Pk.num x i (t.take i) := num_mono h2 (by omega)
  refine ⟨by rw [num_snoc h1, h4], ?_⟩
  rw [h4]
  have h5 := Pk.num_lt h2
  have h6 : Pk.bin (x + 1) (i + 1) = Pk.bin x (i + 1) + Pk.bin x i := rfl
  omega
/-! orders -/
theorem fac_dvd : ∀ {i n : Nat}, i ≤ n → Ord.fac i ∣ Ord.fac n := by
  intro i n h
  obtain ⟨d, rfl⟩ : ∃ d, n = i + d := ⟨n - i, by omega⟩
  clear h
  induction d with
  | zero => exact Nat.dvd_refl _
  | succ d ih => exact Nat.dvd_trans ih ⟨i + d + 1, by show (i + d + 1) * Ord.fac (i + d) = _; exact Nat.mul_comm _ _⟩
def al (n i : Nat) : Nat := Ord.fac n / Ord.fac i
theorem al_0 (n : Nat) : al n 0 = Ord.fac n := Nat.div_one _
theorem al_n (n : Nat) : al n n = 1 := Nat.div_self (Ord.fac_pos n)
theorem al_next (n i : Nat) : al n i / (i + 1) = al n (i + 1) := by
  unfold al
  rw [Nat.div_div_eq_div_mul]
  show _ = Ord.fac n / ((i + 1) * Ord.fac i)
  rw [Nat.mul_comm]
theorem al_pos {n i : Nat} (h : i ≤ n) : 0 < al n i := Nat.div_pos (Nat.le_of_dvd (Ord.fac_pos n) (fac_dvd h)) (Ord.fac_pos i)
theorem al_mul {n i : Nat} (h : i < n) : al n (i + 1) * (i + 1) = al n i := by
  obtain ⟨c, hc⟩ := fac_dvd (show i + 1 ≤ n from h)
  have hp := Ord.fac_pos i
  unfold al
  have e : Ord.fac (i + 1) = (i + 1) * Ord.fac i := rfl
  rw [hc, Nat.mul_div_cancel_left _ (Ord.fac_pos (i + 1)), e, Nat.mul_comm (i + 1) (Ord.fac i), Nat.mul_assoc, Nat.mul_div_cancel_left _ hp, Nat.mul_comm]
theorem al_le (n i : Nat) : al n i ≤ Ord.fac n := Nat.div_le_self _ _
theorem fac_40 : ∀ {n : Nat}, n ≤ 40 → Ord.fac n ≤ Ord.fac 40 := fun h => Nat.le_of_dvd (Ord.fac_pos 40) (fac_dvd h)
theorem fac_big {n : Nat} (h : n ≤ 40) : Ord.fac n < 2 ^ 199 := Nat.lt_of_le_of_lt (fac_40 h) (by decide)
theorem thg_next {n i : Nat} (h : i < n) (z : Nat) : Ord.thg (i + 1) (z / al n (i + 1)) = Ord.ins (Ord.thg i (z / al n i)) (Ord.plc (z / al n i) i (z / al n (i + 1) % (i + 1))) i := by
  show Ord.ins (Ord.thg i (z / al n (i + 1) / (i + 1))) (Ord.plc (z / al n (i + 1) / (i + 1)) i (z / al n (i + 1) % (i + 1))) i = _
  rw [Nat.div_div_eq_div_mul, al_mul h]
def low (i : Nat) (t : List Nat) : List Nat := t.filter fun x => decide (x < i)
theorem low_range {i n : Nat} (h : i ≤ n) : (List.range n).filter (fun x => decide (x < i)) = List.range i := by
  obtain ⟨d, rfl⟩ : ∃ d, n = i + d := ⟨n - i, by omega⟩
  clear h
  induction d with
  | zero => exact List.filter_eq_self.mpr fun x hx => by simpa using hx
  | succ d ih =>
    rw [show i + (d + 1) = (i + d) + 1 by omega, List.range_succ, List.filter_append, ih]
    simp
theorem low_is {n i : Nat} {t : List Nat} (h : Ord.Is n t) (hi : i ≤ n) : Ord.Is i (low i t) := by
  have := List.Perm.filter (fun x => decide (x < i)) h
  rw [low_range hi] at this
  exact this
theorem low_all {n : Nat} {t : List Nat} (h : Ord.Is n t) : low n t = t := List.filter_eq_self.mpr fun x hx => decide_eq_true (h.lt hx)
theorem low_erase {n i : Nat} {t : List Nat} (h : Ord.Is n t) (hi : i < n) : (low (i + 1) t).eraseIdx ((low (i + 1) t).idxOf i) = low i t := by
  rw [← List.erase_eq_eraseIdx_of_idxOf (a := i) rfl]
  rw [List.Nodup.erase_eq_filter (low_is h hi).nodup]
  unfold low
  rw [List.filter_filter]
  apply List.filter_congr
  intro x _
  rw [Bool.eq_iff_iff]
  simp
  omega
theorem num_nextO {n i : Nat} {t : List Nat} (h : Ord.Is n t) (hi : i < n) : Ord.num (i + 1) (low (i + 1) t) = Ord.num i (low i t) * (i + 1) + Ord.plc (Ord.num i (low i t)) i ((low (i + 1) t).idxOf i) := by
  show Ord.num i ((low (i + 1) t).eraseIdx ((low (i + 1) t).idxOf i)) * (i + 1) + Ord.plc (Ord.num i ((low (i + 1) t).eraseIdx ((low (i + 1) t).idxOf i))) i ((low (i + 1) t).idxOf i) = _
  rw [low_erase h hi]
theorem mem_low {n i : Nat} {t : List Nat} (h : Ord.Is n t) (hi : i < n) : i ∈ low (i + 1) t := List.mem_filter.mpr ⟨h.has hi, by simp⟩
theorem idx_le {n i : Nat} {t : List Nat} (h : Ord.Is n t) (hi : i < n) : (low (i + 1) t).idxOf i ≤ i := by
  have h1 := List.idxOf_lt_length_of_mem (mem_low h hi)
  have h2 : (low (i + 1) t).length = i + 1 := (low_is h hi).length
  omega
end Mp

set_option Elab.async false
set_option linter.all false
set_option maxRecDepth 100000
namespace L2
open PySem PySem.Spec PyProof.Rows Lst
def vN (l : List Nat) : List V := l.map fun (x : Nat) => V.int (x : Int)
theorem vN_len (l : List Nat) : (vN l).length = l.length := by unfold vN; rw [List.length_map]
theorem map_iN (l : List Nat) : (iN l).map V.int = vN l := by
  unfold iN vN
  rw [List.map_map]
  rfl
theorem vN_flat (l : List Nat) : (vN l).all flatV = true := by rw [← map_iN]; exact all_flat_ints _
theorem eqVs_vN (l m : List Nat) : eqVs (vN l) (vN m) = decide (l = m) := by
  rw [← map_iN, ← map_iN, eqVs_ints]
  by_cases h : l = m
  · subst h; simp
  · rw [decide_eq_false h, decide_eq_false fun e => h (iN_inj e)]
theorem at_int {ns : List Int} {k : Nat} (h : k < ns.length) : atI (ns.map V.int) (k : Int) = some (V.int (ns.getD k 0)) := by
  refine atI_nat ?_
  rw [List.getElem?_map, List.getElem?_eq_getElem h, List.getD_eq_getElem?_getD, List.getElem?_eq_getElem h]
  rfl
theorem at_nat {l : List Nat} {k : Nat} (h : k < l.length) : atI (vN l) (k : Int) = some (V.int ((l.getD k 0 : Nat) : Int)) := by
  refine atI_nat ?_
  unfold vN
  rw [List.getElem?_map, List.getElem?_eq_getElem h, List.getD_eq_getElem?_getD, List.getElem?_eq_getElem h]
  rfl
/-! ### a listing of one kind, by what it promises -/
abbrev AtP := Hp → Addr → Nat → Nat → List Nat → Prop
def spMany (kind : Nat) (At : AtP) : Sp := fun vs H Q _ => ∃ (p : Addr) (one two : Nat) (sizes : List Nat), vs = [.ref p] ∧ Fit kind one two sizes ∧ At H p one two sizes ∧ Q (.int (cntOf kind one two sizes)) H
def spThingAt (kind : Nat) (At : AtP) : Sp := fun vs H Q _ => ∃ (p : Addr) (n one two : Nat) (sizes : List Nat), vs = [.ref p, .int n] ∧ Fit kind one two sizes ∧ At H p one two sizes ∧ n < cntOf kind one two sizes ∧
  ∀ (l : Addr) (H' : Hp), Same H H' → H l = none → H' l = some (.lst (vN (thN kind one two sizes n))) → Q (.ref l) H'
def spNum (K : PySem.W.Frag) (kind : Nat) (At : AtP) : Sp := fun vs H Q _ => ∃ (p a : Addr) (t : List Nat) (one two : Nat) (sizes : List Nat), vs = [.ref p, .ref a] ∧ Fit kind one two sizes ∧ At H p one two sizes ∧ SqL K H a (vN t) ∧ IsN kind one two sizes t ∧
  ∀ H', Same H H' → Q (.int (numN kind one two sizes t)) H'
def spAfter (K : PySem.W.Frag) (kind : Nat) (At : AtP) : Sp := fun vs H Q _ => ∃ (p a : Addr) (t : List Nat) (one two : Nat) (sizes : List Nat), vs = [.ref p, .ref a] ∧ Fit kind one two sizes ∧ At H p one two sizes ∧ SqL K H a (vN t) ∧ IsN kind one two sizes t ∧
  ∀ (l : Addr) (H' : Hp), Same H H' → H l = none → H' l = some (.lst (vN (thN kind one two sizes ((numN kind one two sizes t + 1) % cntOf kind one two sizes)))) → Q (.ref l) H'
/-- what isinstance asks of a class of the text -/
structure ClI (K : PySem.W.Frag) (C : Addr) : Prop where
  cl : Cls K C
  ha : PySem.W.findIn K (.ref C) "__class__" = some (some (.builtin "object.__class__"))
  hn : PySem.W.specialIn K (.builtin "object.__class__") "__get__" = some (some (.builtin "getset_descriptor.__get__"))
  htk : PySem.W.takesIn K (.builtin "object.__class__") = some true
  hm : PySem.W.mroIn K C (.type "object") = some true
theorem ClI.ty {K : PySem.W.Frag} {C : Addr} (c : ClI K C) {H : Hp} {a dx : Addr} {fs : List (Str × V)} (e : H a = some (.ins C dx fs)) : TyOf K H (.ref a) (.ref C) := .ins e c.cl c.ha c.hn c.htk c.hm
def NoMeth (fs : List (Str × V)) : Prop := fs.lookup ("thing_at" : Str) = none ∧ fs.lookup ("number_of" : Str) = none ∧ fs.lookup ("after" : Str) = none ∧ fs.lookup ("many" : Str) = none
structure Knd (P : Program) (w : World) (K : PySem.W.Frag) (mg : Str → Option Value) (base : Heap) (k kind : Nat) (C CL : Addr) (At : AtP) : Prop where
  same : ∀ {H H' : Hp} {p : Addr} {one two : Nat} {sizes : List Nat}, At H p one two sizes → Same H H' → At H' p one two sizes
  ins : ∀ {H : Hp} {p : Addr} {one two : Nat} {sizes : List Nat}, At H p one two sizes → ∃ dx fs, H p = some (.ins C dx fs) ∧ NoMeth fs
  ci : ClI K C
  isL : PySem.W.kitOne K (.ref C) (.ref CL) = some true
  many : MtG P w K mg base CX0 k C "many" ["self"] (spMany kind At)
  at_ : MtG P w K mg base CX0 k C "thing_at" ["self", "number"] (spThingAt kind At)
  num : MtG P w K mg base CX0 k C "number_of" ["self", "thing"] (spNum K kind At)
structure KndA (P : Program) (w : World) (K : PySem.W.Frag) (mg : Str → Option Value) (base : Heap) (k kind : Nat) (C CL : Addr) (At : AtP) : Prop extends Knd P w K mg base k kind C CL At where
  aft : MtG P w K mg base CX0 k C "after" ["self", "thing"] (spAfter K kind At)
theorem kit_mk {K : PySem.W.Frag} {C CL : Addr} {cd : ClassData} {b : Bool} (h1 : PySem.W.clsIn K CL = some cd) (h2 : PySem.W.typeIn K (.ref CL) = some (.type "type")) (h3 : PySem.W.subIn K (.ref C) (.ref CL) = some b) (h4 : b = true ∨ (C == CL) = false) : PySem.W.kitOne K (.ref C) (.ref CL) = some b := by
  have hk : PySem.W.kitCls K (.ref C) (.ref CL) = some b := by
    show (if ((PySem.W.clsIn K CL).isSome && PySem.W.typeIn K (.ref CL) == some (.type "type")) = true then PySem.W.subIn K (.ref C) (.ref CL) else none) = some b
    rw [h1, h2, h3]
    simp
  unfold PySem.W.kitOne
  by_cases e : C = CL
  · subst e
    rcases h4 with rfl | h4
    · rw [hk]
      split <;> rfl
    · rw [beq_self_eq_true] at h4
      cases h4
  · rw [if_neg (by intro z; exact e (by simpa using z)), hk]
/-- the maker of the texts of the laws -/
def spMade (K : PySem.W.Frag) (Ats : Nat → AtP) : Sp := fun vs H Q _ => ∃ (kind one two : Nat) (l : Addr) (sizes : List Nat), vs = [.int kind, .int one, .int two, .ref l] ∧ Fit kind one two sizes ∧ (kind = 2 → one ≤ 24) ∧ (kind = 3 → one ≤ 14) ∧ SqL K H l (vN sizes) ∧
  ∀ (p : Addr) (H' : Hp), Same H H' → H p = none → Ats kind H' p one two sizes → Q (.ref p) H'
def spLaw (K : PySem.W.Frag) : Sp := fun vs H Q _ => ∃ (a : Addr) (ns : List Int), vs = [.ref a] ∧ SqL K H a (ns.map V.int) ∧ ns.length ≤ 63 ∧ ∀ H', Q (.bl true) H'
end L2

set_option Elab.async false
set_option linter.all false
set_option maxRecDepth 100000
namespace L2
open PySem PySem.Spec PyProof.Rows Lst
section
variable {X : Cx}
theorem pe_const {x : Str} {i : Int} {pos : Pos} (h : ∃ t, X.mg x = some (.int i t)) (hg : Gl X x := by rfl) (hd : (x == ("__debug__" : Str)) = false := by decide) : PE X (.Name x pos) (tC (.int i)) := by
  obtain ⟨t, h⟩ := h
  exact pe_glob hg h ⟨t, rfl⟩ hd
end
theorem iteTt {c : Bool} {A B : Prop} (h : c = true) (a : A) : if c = true then A else B := by rw [if_pos h]; exact a
theorem iteFf {c : Bool} {A B : Prop} (h : c = false) (b : B) : if c = true then A else B := by rw [if_neg (by simp [h])]; exact b
theorem ite_b {c : Bool} {A B : Prop} (h1 : c = true → A) (h2 : c = false → B) : if c = true then A else B := by
  cases c with
  | true => exact h1 rfl
  | false => exact h2 rfl
theorem bl_dec {c : Prop} [Decidable c] {Q : V → Hp → Prop} {H : Hp} (h : c) (q : Q (.bl true) H) : Q (.bl (decide c)) H := by rw [decide_eq_true h]; exact q
theorem bl_decN {c : Prop} [Decidable c] {Q : V → Hp → Prop} {H : Hp} (h : ¬ c) (q : Q (.bl false) H) : Q (.bl (decide c)) H := by rw [decide_eq_false h]; exact q
theorem filter_yes {α : Type} (l : List α) : l.filter (fun _ => true) = l := List.filter_eq_self.mpr fun _ _ => rfl
theorem old_none {H H' : Hp} {x : Addr} (s : Same H H') (n : H' x = none) : H x = none := by
  cases e : H x with
  | none => rfl
  | some o => rw [s _ _ e] at n; cases n
theorem made_same {H H1 : Hp} {x dx C : Addr} (nx : H x = none) (ndx : H dx = none) (k : ∀ b o, (upd (upd H dx (.own x)) x (.ins C dx [])) b = some o → b ≠ x → H1 b = some o) : Same H H1 :=
  fun b o e => k b o (by rw [upd_ne (ne_of_none e nx), upd_ne (ne_of_none e ndx)]; exact e) (ne_of_none e nx)
/-! ### the listings of the program, as objects -/
def NoM (fs : List (Str × V)) : Prop := ∀ m ∈ (["many", "thing_at", "number_of", "after", "check_number", "is_thing", "thing_of", "place_of", "changed"] : List Str), fs.lookup m = none
structure LsC (K : PySem.W.Frag) (C : Addr) (kind : Nat) (At : AtP) : Prop where
  cl : Cls K C
  nT : NoAttr K C "total"
  same : ∀ {H H' : Hp} {p : Addr} {one two : Nat} {sizes : List Nat}, At H p one two sizes → Same H H' → At H' p one two sizes
  ins : ∀ {H : Hp} {p : Addr} {one two : Nat} {sizes : List Nat}, At H p one two sizes → ∃ dx fs, H p = some (.ins C dx fs) ∧ fs.lookup ("total" : Str) = some (.int (cntOf kind one two sizes)) ∧ NoM fs
theorem NoM.meth {fs : List (Str × V)} (h : NoM fs) : NoMeth fs := ⟨h _ (by decide +kernel), h _ (by decide +kernel), h _ (by decide +kernel), h _ (by decide +kernel)⟩
theorem LsC.insM {K : PySem.W.Frag} {C : Addr} {kind : Nat} {At : AtP} (L : LsC K C kind At) {H : Hp} {p : Addr} {one two : Nat} {sizes : List Nat} (h : At H p one two sizes) : ∃ dx fs, H p = some (.ins C dx fs) ∧ NoMeth fs := by
  obtain ⟨dx, fs, e, _, n⟩ := L.ins h
  exact ⟨dx, fs, e, n.meth⟩
/-- size and total -/
def stF (n t : Nat) : List (Str × V) := putF "total" (.int (t : Int)) (putF "size" (.int (n : Int)) [])
theorem stF_size (n t : Nat) : (stF n t).lookup ("size" : Str) = some (.int (n : Int)) := by
  unfold stF
  rw [lookup_putF, if_neg (by decide +kernel), lookup_putF, if_pos rfl]
theorem stF_total (n t : Nat) : (stF n t).lookup ("total" : Str) = some (.int (t : Int)) := by
  unfold stF
  rw [lookup_putF, if_pos rfl]
theorem not_two {x a b : Str} (l : List Str) (h : x ∈ l) (ha : a ∉ l) (hb : b ∉ l) : ¬ x = a ∧ ¬ x = b := ⟨fun e => ha (e ▸ h), fun e => hb (e ▸ h)⟩
theorem stF_no (n t : Nat) : NoM (stF n t) := by
  intro m hm
  have h := not_two (a := "total") (b := "size") _ hm (by decide +kernel) (by decide +kernel)
  unfold stF
  rw [lookup_putF, if_neg h.1, lookup_putF, if_neg h.2]
  rfl
def swAt (C : Addr) : AtP := fun H p one _ _ => ∃ dx, H p = some (.ins C dx (stF one (2 ^ one)))
def odAt (C : Addr) : AtP := fun H p one _ _ => ∃ dx, H p = some (.ins C dx (stF one (Ord.fac one)))
theorem sw_ls {K : PySem.W.Frag} {C : Addr} (c : Cls K C) (n : NoAttr K C "total") : LsC K C 0 (swAt C) :=
  ⟨c, n, fun h s => let ⟨dx, e⟩ := h; ⟨dx, s _ _ e⟩, fun h => let ⟨dx, e⟩ := h; ⟨dx, _, e, stF_total _ _, stF_no _ _⟩⟩
theorem od_ls {K : PySem.W.Frag} {C : Addr} (c : Cls K C) (n : NoAttr K C "total") : LsC K C 3 (odAt C) :=
  ⟨c, n, fun h s => let ⟨dx, e⟩ := h; ⟨dx, s _ _ e⟩, fun h => let ⟨dx, e⟩ := h; ⟨dx, _, e, stF_total _ _, stF_no _ _⟩⟩
/-- sizes and total -/
def whF (l : Addr) (t : Nat) : List (Str × V) := putF "total" (.int (t : Int)) (putF "sizes" (.ref l) [])
theorem whF_sizes (l : Addr) (t : Nat) : (whF l t).lookup ("sizes" : Str) = some (.ref l) := by
  unfold whF
  rw [lookup_putF, if_neg (by decide +kernel), lookup_putF, if_pos rfl]
theorem whF_total (l : Addr) (t : Nat) : (whF l t).lookup ("total" : Str) = some (.int (t : Int)) := by
  unfold whF
  rw [lookup_putF, if_pos rfl]
theorem whF_no (l : Addr) (t : Nat) : NoM (whF l t) := by
  intro m hm
  have h := not_two (a := "total") (b := "sizes") _ hm (by decide +kernel) (by decide +kernel)
  unfold whF
  rw [lookup_putF, if_neg h.1, lookup_putF, if_neg h.2]
  rfl
def whAt (C : Addr) : AtP := fun H p _ _ sizes => ∃ dx l, H p = some (.ins C dx (whF l (Wh.cnt sizes.reverse))) ∧ H l = some (.lst (vN sizes))
theorem wh_ls {K : PySem.W.Frag} {C : Addr} (c : Cls K C) (n : NoAttr K C "total") : LsC K C 1 (whAt C) :=
  ⟨c, n, fun h s => let ⟨dx, l, e, e2⟩ := h; ⟨dx, l, s _ _ e, s _ _ e2⟩, fun h => let ⟨dx, l, e, e2⟩ := h; ⟨dx, _, e, whF_total _ _, whF_no _ _⟩⟩
/-- size, some and total -/
def pkF (n s t : Nat) : List (Str × V) := putF "total" (.int (t : Int)) (putF "some" (.int (s : Int)) (putF "size" (.int (n : Int)) []))
theorem pkF_size (n s t : Nat) : (pkF n s t).lookup ("size" : Str) = some (.int (n : Int)) := by
  unfold pkF
  rw [lookup_putF, if_neg (by decide +kernel), lookup_putF, if_neg (by decide +kernel), lookup_putF, if_pos rfl]
theorem pkF_some (n s t : Nat) : (pkF n s t).lookup ("some" : Str) = some (.int (s : Int)) := by
  unfold pkF
  rw [lookup_putF, if_neg (by decide +kernel), lookup_putF, if_pos rfl]
theorem pkF_total (n s t : Nat) : (pkF n s t).lookup ("total" : Str) = some (.int (t : Int)) := by
  unfold pkF
  rw [lookup_putF, if_pos rfl]
theorem pkF_no (n s t : Nat) : NoM (pkF n s t) := by
  intro m hm
  have h := not_two (a := "total") (b := "size") _ hm (by decide +kernel) (by decide +kernel)
  have h2 := not_two (a := "some") (b := "size") _ hm (by decide +kernel) (by decide +kernel)
  unfold pkF
  rw [lookup_putF, if_neg h.1, lookup_putF, if_neg h2.1, lookup_putF, if_neg h.2]
  rfl
def pkAt (C : Addr) : AtP := fun H p one two _ => ∃ dx, H p = some (.ins C dx (pkF one two (Pk.bin one two)))
theorem pk_ls {K : PySem.W.Frag} {C : Addr} (c : Cls K C) (n : NoAttr K C "total") : LsC K C 2 (pkAt C) :=
  ⟨c, n, fun h s => let ⟨dx, e⟩ := h; ⟨dx, s _ _ e⟩, fun h => let ⟨dx, e⟩ := h; ⟨dx, _, e, pkF_total _ _ _, pkF_no _ _ _⟩⟩
/-! ### promises of the methods behind the refusals -/
def spIsTh (K : PySem.W.Frag) (kind : Nat) (At : AtP) : Sp := fun vs H Q _ => ∃ (p a : Addr) (ns : List Int) (one two : Nat) (sizes : List Nat), vs = [.ref p, .ref a] ∧ Fit kind one two sizes ∧ At H p one two sizes ∧ SqL K H a (ns.map V.int) ∧ ns.length < 64 ∧
  ∀ (b : Bool) (H' : Hp), Same H H' → (b = true ↔ IsT kind one two sizes ns) → Q (.bl b) H'
def spCheck (kind : Nat) (At : AtP) : Sp := fun vs H Q _ => ∃ (p : Addr) (n one two : Nat) (sizes : List Nat), vs = [.ref p, .int n] ∧ Fit kind one two sizes ∧ At H p one two sizes ∧ n < cntOf kind one two sizes ∧ Q .non H
/-- __init__ of an object of the class C: it gets the fields of At -/
def spInit (C : Addr) (args : List V → Hp → Nat → Nat → List Nat → Prop) (At : AtP) : Sp := fun vs H Q _ => ∃ (p dx : Addr) (us : List V) (one two : Nat) (sizes : List Nat), vs = .ref p :: us ∧ args us H one two sizes ∧ H p = some (.ins C dx []) ∧
  ∀ H' : Hp, At H' p one two sizes → (∀ b o, H b = some o → b ≠ p → H' b = some o) → Q .non H'
def arSw : List V → Hp → Nat → Nat → List Nat → Prop := fun us _ one _ _ => us = [.int (one : Int)] ∧ one ≤ 40
def arPk : List V → Hp → Nat → Nat → List Nat → Prop := fun us _ one two _ => us = [.int (one : Int), .int (two : Int)] ∧ one ≤ 24 ∧ two ≤ one
def arOd : List V → Hp → Nat → Nat → List Nat → Prop := fun us _ one _ _ => us = [.int (one : Int)] ∧ one ≤ 14
def arWh (K : PySem.W.Frag) : List V → Hp → Nat → Nat → List Nat → Prop := fun us H _ _ sizes => ∃ l, us = [.ref l] ∧ SqL K H l (vN sizes) ∧ sizes.length ≤ 12 ∧ ∀ x ∈ sizes, 1 ≤ x ∧ x ≤ 9
theorem pow40 {i : Nat} (h : i ≤ 40) : 0 ≤ ((2 ^ i : Nat) : Int) ∧ ((2 ^ i : Nat) : Int) ≤ 1099511627776 := by
  have h1 : 2 ^ i ≤ 2 ^ 40 := Nat.pow_le_pow_right (by decide) h
  exact ⟨Int.natCast_nonneg _, by have : (2 : Nat) ^ 40 = 1099511627776 := by decide
                                  omega⟩
theorem xorI (n : Nat) : Builtin.bitXor (n : Int) ((n : Int) / 2) = ((n ^^^ (n / 2) : Nat) : Int) := by
  rw [PyProof.Rows.bitXor_and, PyProof.Rows.bitAnd_pp (by omega) (by omega)]
  have h := Sw.xor_and n (n / 2)
  have e1 : ((n : Int)).toNat = n := by omega
  have e2 : ((n : Int) / 2).toNat = n / 2 := by omega
  rw [e1, e2]
  omega
theorem xorN (a b : Nat) : Builtin.bitXor (a : Int) (b : Int) = ((a ^^^ b : Nat) : Int) := by
  rw [PyProof.Rows.bitXor_and, PyProof.Rows.bitAnd_pp (by omega) (by omega)]
  have h := Sw.xor_and a b
  have e1 : ((a : Int)).toNat = a := by omega
  have e2 : ((b : Int)).toNat = b := by omega
  rw [e1, e2]
  omega
theorem sorted_rng {ns ns' : List Int} {n : Nat} (h1 : ns'.Perm ns) (h2 : ns'.Pairwise (· ≤ ·)) : ns' = rngI n ↔ ns.Perm (rngI n) := by
  constructor
  · intro e
    exact h1.symm.trans (by rw [e])
  · intro e
    refine (h1.trans e).eq_of_pairwise (fun a b _ _ hab hba => Int.le_antisymm hab hba) h2 ?_
    unfold rngI iN
    rw [List.pairwise_map]
    exact List.pairwise_lt_range.imp (fun h => by omega)
/-- the four classes, and their objects, by the kind -/
def clOf (a b c d : Addr) (kind : Nat) : Addr := match kind with
  | 0 => a
  | 1 => b
  | 2 => c
  | _ => d
def atOf (a b c d : Addr) (kind : Nat) : AtP := match kind with
  | 0 => swAt a
  | 1 => whAt b
  | 2 => pkAt c
  | _ => odAt d
theorem fit0 {one : Nat} (h : one ≤ 40) : Fit 0 one 0 [] := ⟨by decide, Nat.zero_le _, h, by decide, by simp⟩
theorem vN_at {l : List Nat} {i : Nat} {x : V} (h : (vN l)[i]? = some x) : ∃ n, l[i]? = some n ∧ x = V.int (n : Int) := by
  unfold vN at h
  rw [List.getElem?_map] at h
  cases e : l[i]? with
  | none => rw [e] at h; cases h
  | some n => rw [e] at h; exact ⟨n, rfl, (Option.some.inj h).symm⟩
theorem iN_at {l : List Int} {i : Nat} {x : V} (h : (l.map V.int)[i]? = some x) : ∃ n, l[i]? = some n ∧ x = V.int n := by
  rw [List.getElem?_map] at h
  cases e : l[i]? with
  | none => rw [e] at h; cases h
  | some n => rw [e] at h; exact ⟨n, rfl, (Option.some.inj h).symm⟩
theorem bl_at {l : List Bool} {i : Nat} {x : V} (h : (l.map V.bl)[i]? = some x) : ∃ n, l[i]? = some n ∧ x = V.bl n := by
  rw [List.getElem?_map] at h
  cases e : l[i]? with
  | none => rw [e] at h; cases h
  | some n => rw [e] at h; exact ⟨n, rfl, (Option.some.inj h).symm⟩
end L2

set_option Elab.async false
set_option linter.all false
set_option maxRecDepth 100000
set_option maxHeartbeats 4000000
namespace Mine
open PySem L2 Lst
def top (i : Nat) : Stmt := PySem.Challenge.pw_onechange_k07_no_listing.main.body.getD i (.Pass ⟨0, 0, 0, 0⟩)
abbrev s_doubled : Stmt := top 22
abbrev n_doubled : List Str := ["times", "total", "turn"]
theorem sc_doubled : FnScope n_doubled ["times"] (defScope s_doubled) := ⟨rfl, rfl, rfl, by decide +kernel, rfl, by decide +kernel, by decide +kernel⟩
abbrev s_check_sizes : Stmt := top 28
abbrev n_check_sizes : List Str := ["sizes", "size"]
theorem sc_check_sizes : FnScope n_check_sizes ["sizes"] (defScope s_check_sizes) := ⟨rfl, rfl, rfl, by decide +kernel, rfl, by decide +kernel, by decide +kernel⟩
abbrev s_product : Stmt := top 29
abbrev n_product : List Str := ["sizes", "total", "size"]
theorem sc_product : FnScope n_product ["sizes"] (defScope s_product) := ⟨rfl, rfl, rfl, by decide +kernel, rfl, by decide +kernel, by decide +kernel⟩
abbrev s_picks_of : Stmt := top 13
abbrev n_picks_of : List Str := ["many", "some", "total", "taken"]
theorem sc_picks_of : FnScope n_picks_of ["many", "some"] (defScope s_picks_of) := ⟨rfl, rfl, rfl, by decide +kernel, rfl, by decide +kernel, by decide +kernel⟩
abbrev s_orders_of : Stmt := top 17
abbrev n_orders_of : List Str := ["many", "total", "number"]
theorem sc_orders_of : FnScope n_orders_of ["many"] (defScope s_orders_of) := ⟨rfl, rfl, rfl, by decide +kernel, rfl, by decide +kernel, by decide +kernel⟩
abbrev s_law_cell_at : Stmt := top 32
abbrev n_law_cell_at : List Str := ["script", "k"]
theorem sc_law_cell_at : FnScope n_law_cell_at ["script", "k"] (defScope s_law_cell_at) := ⟨rfl, rfl, rfl, by decide +kernel, rfl, by decide +kernel, by decide +kernel⟩
abbrev s_law_made : Stmt := top 33
abbrev n_law_made : List Str := ["kind", "one", "two", "sizes"]
theorem sc_law_made : FnScope n_law_made ["kind", "one", "two", "sizes"] (defScope s_law_made) := ⟨rfl, rfl, rfl, by decide +kernel, rfl, by decide +kernel, by decide +kernel⟩
abbrev s_law_other : Stmt := top 34
abbrev n_law_other : List Str := ["e", "wanted", "kinds"]
theorem sc_law_other : FnScope n_law_other ["e", "wanted"] (defScope s_law_other) := ⟨rfl, rfl, rfl, by decide +kernel, rfl, by decide +kernel, by decide +kernel⟩
abbrev s_law_far : Stmt := top 35
abbrev n_law_far : List Str := ["cell", "low", "wide"]
theorem sc_law_far : FnScope n_law_far ["cell", "low", "wide"] (defScope s_law_far) := ⟨rfl, rfl, rfl, by decide +kernel, rfl, by decide +kernel, by decide +kernel⟩
abbrev s_law_good : Stmt := top 36
abbrev n_law_good : List Str := ["kind", "one", "two", "sizes"]
theorem sc_law_good : FnScope n_law_good ["kind", "one", "two", "sizes"] (defScope s_law_good) := ⟨rfl, rfl, rfl, by decide +kernel, rfl, by decide +kernel, by decide +kernel⟩
abbrev s_law_new : Stmt := top 37
abbrev n_law_new : List Str := ["kind", "one", "two", "sizes"]
theorem sc_law_new : FnScope n_law_new ["kind", "one", "two", "sizes"] (defScope s_law_new) := ⟨rfl, rfl, rfl, by decide +kernel, rfl, by decide +kernel, by decide +kernel⟩
abbrev s_law : Stmt := top 38
abbrev n_law : List Str := ["script", "kind", "one", "two", "sizes", "handed", "listing", "e", "many", "last"]
theorem sc_law : FnScope n_law ["script"] (defScope s_law) := ⟨rfl, rfl, rfl, by decide +kernel, rfl, by decide +kernel, by decide +kernel⟩
abbrev s_Listing_check_number : Stmt := inClass (top 10) 4
abbrev n_Listing_check_number : List Str := ["self", "number"]
theorem sc_Listing_check_number : FnScope n_Listing_check_number ["self", "number"] (defScope s_Listing_check_number) := ⟨rfl, rfl, rfl, by decide +kernel, rfl, by decide +kernel, by decide +kernel⟩
abbrev s_Listing_many : Stmt := inClass (top 10) 0
abbrev n_Listing_many : List Str := ["self"]
theorem sc_Listing_many : FnScope n_Listing_many ["self"] (defScope s_Listing_many) := ⟨rfl, rfl, rfl, by decide +kernel, rfl, by decide +kernel, by decide +kernel⟩
abbrev s_Listing_number_of : Stmt := inClass (top 10) 2
abbrev n_Listing_number_of : List Str := ["self", "thing"]
theorem sc_Listing_number_of : FnScope n_Listing_number_of ["self", "thing"] (defScope s_Listing_number_of) := ⟨rfl, rfl, rfl, by decide +kernel, rfl, by decide +kernel, by decide +kernel⟩
abbrev s_Listing_thing_at : Stmt := inClass (top 10) 1
abbrev n_Listing_thing_at : List Str := ["self", "number"]
theorem sc_Listing_thing_at : FnScope n_Listing_thing_at ["self", "number"] (defScope s_Listing_thing_at) := ⟨rfl, rfl, rfl, by decide +kernel, rfl, by decide +kernel, by decide +kernel⟩
abbrev s_Orders___init : Stmt := inClass (top 19) 0
abbrev n_Orders___init : List Str := ["self", "many"]
theorem sc_Orders___init : FnScope n_Orders___init ["self", "many"] (defScope s_Orders___init) := ⟨rfl, rfl, rfl, by decide +kernel, rfl, by decide +kernel, by decide +kernel⟩
abbrev s_Picks___init : Stmt := inClass (top 14) 0
abbrev n_Picks___init : List Str := ["self", "many", "some"]
theorem sc_Picks___init : FnScope n_Picks___init ["self", "many", "some"] (defScope s_Picks___init) := ⟨rfl, rfl, rfl, by decide +kernel, rfl, by decide +kernel, by decide +kernel⟩
abbrev s_Switches___init : Stmt := inClass (top 23) 0
abbrev n_Switches___init : List Str := ["self", "many"]
theorem sc_Switches___init : FnScope n_Switches___init ["self", "many"] (defScope s_Switches___init) := ⟨rfl, rfl, rfl, by decide +kernel, rfl, by decide +kernel, by decide +kernel⟩
abbrev s_Wheels___init : Stmt := inClass (top 30) 0
abbrev n_Wheels___init : List Str := ["self", "sizes"]
theorem sc_Wheels___init : FnScope n_Wheels___init ["self", "sizes"] (defScope s_Wheels___init) := ⟨rfl, rfl, rfl, by decide +kernel, rfl, by decide +kernel, by decide +kernel⟩
abbrev s_Wheels_is_thing : Stmt := inClass (top 30) 1
abbrev n_Wheels_is_thing : List Str := ["self", "thing", "size", "turn"]
theorem sc_Wheels_is_thing : FnScope n_Wheels_is_thing ["self", "thing"] (defScope s_Wheels_is_thing) := ⟨rfl, rfl, rfl, by decide +kernel, rfl, by decide +kernel, by decide +kernel⟩
abbrev s_Wheels_place_of : Stmt := inClass (top 30) 3
abbrev n_Wheels_place_of : List Str := ["self", "thing", "number", "fewer", "size", "turn"]
theorem sc_Wheels_place_of : FnScope n_Wheels_place_of ["self", "thing"] (defScope s_Wheels_place_of) := ⟨rfl, rfl, rfl, by decide +kernel, rfl, by decide +kernel, by decide +kernel⟩
abbrev s_Wheels_thing_of : Stmt := inClass (top 30) 2
abbrev n_Wheels_thing_of : List Str := ["self", "number", "thing", "rest", "fewer", "size", "turn"]
theorem sc_Wheels_thing_of : FnScope n_Wheels_thing_of ["self", "number"] (defScope s_Wheels_thing_of) := ⟨rfl, rfl, rfl, by decide +kernel, rfl, by decide +kernel, by decide +kernel⟩
structure Txt (K : PySem.W.Frag) (mg : Str → Option Value) (C_Switches C_Wheels C_Picks C_Orders C_Listing C_ChangeError C_NoListing C_NoThing C_NoNumber C_NoState C_NoMove C_TooFar : Addr) : Prop where
  B_Switches : ClB K mg "Switches" C_Switches
  n_Switches_size : NoAttr K C_Switches "size"
  n_Switches_total : NoAttr K C_Switches "total"
  I_Switches : ClI K C_Switches
  L_Switches : PySem.W.kitOne K (.ref C_Switches) (.ref C_Listing) = some true
  B_Wheels : ClB K mg "Wheels" C_Wheels
  n_Wheels_sizes : NoAttr K C_Wheels "sizes"
  n_Wheels_total : NoAttr K C_Wheels "total"
  I_Wheels : ClI K C_Wheels
  L_Wheels : PySem.W.kitOne K (.ref C_Wheels) (.ref C_Listing) = some true
  B_Picks : ClB K mg "Picks" C_Picks
  n_Picks_size : NoAttr K C_Picks "size"
  n_Picks_some : NoAttr K C_Picks "some"
  n_Picks_total : NoAttr K C_Picks "total"
  I_Picks : ClI K C_Picks
  L_Picks : PySem.W.kitOne K (.ref C_Picks) (.ref C_Listing) = some true
  B_Orders : ClB K mg "Orders" C_Orders
  n_Orders_size : NoAttr K C_Orders "size"
  n_Orders_total : NoAttr K C_Orders "total"
  I_Orders : ClI K C_Orders
  L_Orders : PySem.W.kitOne K (.ref C_Orders) (.ref C_Listing) = some true
  hL : mg "Listing" = some (.ref C_Listing)
  X_ChangeError : mg "ChangeError" = some (.ref C_ChangeError)
  X_NoListing : mg "NoListing" = some (.ref C_NoListing)
  X_NoThing : mg "NoThing" = some (.ref C_NoThing)
  X_NoNumber : mg "NoNumber" = some (.ref C_NoNumber)
  X_NoState : mg "NoState" = some (.ref C_NoState)
  X_NoMove : mg "NoMove" = some (.ref C_NoMove)
  X_TooFar : mg "TooFar" = some (.ref C_TooFar)
  zVE : mg "ValueError" = none
  E_NoListing : ErrT K mg "NoListing" C_NoListing C_ChangeError [C_NoListing, C_NoThing, C_NoNumber, C_NoState, C_NoMove, C_TooFar] 0
  c_MOST_SWITCHES : ∃ t, mg "MOST_SWITCHES" = some (.int 40 t)
  c_MOST_WHEELS : ∃ t, mg "MOST_WHEELS" = some (.int 12 t)
  c_LEAST_SIZE : ∃ t, mg "LEAST_SIZE" = some (.int 1 t)
  c_GREATEST_SIZE : ∃ t, mg "GREATEST_SIZE" = some (.int 9 t)
  c_MOST_NUMBERS_picks : ∃ t, mg "MOST_NUMBERS_picks" = some (.int 24 t)
  c_MOST_NUMBERS_orders : ∃ t, mg "MOST_NUMBERS_orders" = some (.int 14 t)
  bs : Bs mg
structure Dfs (K : PySem.W.Frag) (mg : Str → Option Value) (C_Switches C_Wheels C_Picks C_Orders C_Listing C_ChangeError C_NoListing C_NoThing C_NoNumber C_NoState C_NoMove C_TooFar : Addr) : Prop where
  m_Switches_init : MtB K C_Switches "__init__" "Switches.__init__" s_Switches___init ["self", "many"]
  m_Wheels_init : MtB K C_Wheels "__init__" "Wheels.__init__" s_Wheels___init ["self", "sizes"]
  m_Wheels_many : MtB K C_Wheels "many" "Listing.many" s_Listing_many ["self"]
  m_Wheels_thing_at : MtB K C_Wheels "thing_at" "Listing.thing_at" s_Listing_thing_at ["self", "number"]
  m_Wheels_number_of : MtB K C_Wheels "number_of" "Listing.number_of" s_Listing_number_of ["self", "thing"]
  m_Wheels_check_number : MtB K C_Wheels "check_number" "Listing.check_number" s_Listing_check_number ["self", "number"]
  m_Wheels_is_thing : MtB K C_Wheels "is_thing" "Wheels.is_thing" s_Wheels_is_thing ["self", "thing"]
  m_Wheels_thing_of : MtB K C_Wheels "thing_of" "Wheels.thing_of" s_Wheels_thing_of ["self", "number"]
  m_Wheels_place_of : MtB K C_Wheels "place_of" "Wheels.place_of" s_Wheels_place_of ["self", "thing"]
  m_Picks_init : MtB K C_Picks "__init__" "Picks.__init__" s_Picks___init ["self", "many", "some"]
  m_Orders_init : MtB K C_Orders "__init__" "Orders.__init__" s_Orders___init ["self", "many"]
  f_doubled : FnB K mg "doubled" s_doubled ["times"]
  f_check_sizes : FnB K mg "check_sizes" s_check_sizes ["sizes"]
  f_product : FnB K mg "product" s_product ["sizes"]
  f_picks_of : FnB K mg "picks_of" s_picks_of ["many", "some"]
  f_orders_of : FnB K mg "orders_of" s_orders_of ["many"]
  f_law_cell_at : FnB K mg "_law_cell_at" s_law_cell_at ["script", "k"]
  f_law_made : FnB K mg "_law_made" s_law_made ["kind", "one", "two", "sizes"]
  f_law_other : FnB K mg "_law_other" s_law_other ["e", "wanted"]
  f_law_far : FnB K mg "_law_far" s_law_far ["cell", "low", "wide"]
  f_law_good : FnB K mg "_law_good" s_law_good ["kind", "one", "two", "sizes"]
  f_law_new : FnB K mg "_law_new" s_law_new ["kind", "one", "two", "sizes"]
section
variable {P : Program} {w : World} {K : PySem.W.Frag} {mg : Str → Option Value} {base : Heap}
def spCell (K : PySem.W.Frag) : Sp := fun vs H Q _ => ∃ (a : Addr) (ns : List Int) (k : Nat), vs = [.ref a, .int k] ∧ SqL K H a (ns.map V.int) ∧ Q (.int (ns.getD k 0)) H
theorem ok_cell (B : FnB K mg "_law_cell_at" s_law_cell_at ["script", "k"]) (T : Bs mg) : FnG P w K mg base CX0 1 "_law_cell_at" ["script", "k"] (spCell K) := by
  refine B.ok sc_law_cell_at (fun vs H Q E h => ?_) (fun f cdv A outer s H vs Q E hr h => ?_)
  · obtain ⟨a, ns, k, rfl, _⟩ := h
    rfl
  · obtain ⟨a, ns, k, rfl, hS, q⟩ := h
    refine ⟨_, pss_cons (ps_if (pt_cmpR op_lt (pv 1) (pe_len T (pv 0)) (nomark _)) (pss_one (ps_ret (pe_at (pv 0) (pv 1)))) pss_nil) (pss_one (ps_ret pe_int)), ?_⟩
    refine ⟨_, rfl, _, rfl, a, _, rfl, .inl hS, _, _, rfl, rfl, _, rfl, ite_d (fun h1 => ?_) (fun h1 => ?_)⟩
    · rw [List.length_map] at h1
      have h1' : k < ns.length := by omega
      refine ⟨_, rfl, _, rfl, a, _, _, _, rfl, rfl, hS, atI_nat (v := .int (ns.getD k 0)) ?_, q⟩
      rw [List.getElem?_map, List.getElem?_eq_getElem h1', List.getD_eq_getElem?_getD, List.getElem?_eq_getElem h1']
      rfl
    · rw [List.length_map] at h1
      have h1' : ns.length ≤ k := by omega
      have e : ns.getD k 0 = 0 := by rw [List.getD_eq_getElem?_getD, List.getElem?_eq_none h1']; rfl
      rw [e] at q
      exact q
theorem ok_many {C : Addr} {kind : Nat} {At : AtP} (B : MtB K C "many" "Listing.many" s_Listing_many ["self"]) (L : LsC K C kind At) : MtG P w K mg base CX0 1 C "many" ["self"] (spMany kind At) := by
  refine B.ok L.cl sc_Listing_many (fun vs H Q E h => ?_) (fun f cdv A outer s H vs Q E hr h => ?_)
  · obtain ⟨p, one, two, sizes, rfl, _⟩ := h
    rfl
  · obtain ⟨p, one, two, sizes, rfl, F, hp, q⟩ := h
    refine ⟨_, (pss_one (ps_ret (pe_fld (pv 0) rfl))), ?_⟩
    obtain ⟨dx, fs, e, t, n⟩ := L.ins hp
    exact ⟨_, rfl, p, C, dx, _, _, rfl, e, L.cl, L.nT, t, q⟩
theorem ok_check {C : Addr} {kind : Nat} {At : AtP} (B : MtB K C "check_number" "Listing.check_number" s_Listing_check_number ["self", "number"]) (L : LsC K C kind At) : MtG P w K mg base CX0 1 C "check_number" ["self", "number"] (spCheck kind At) := by
  refine B.ok L.cl sc_Listing_check_number (fun vs H Q E h => ?_) (fun f cdv A outer s H vs Q E hr h => ?_)
  · obtain ⟨p, n, one, two, sizes, rfl, _⟩ := h
    rfl
  · obtain ⟨p, n, one, two, sizes, rfl, F, hp, hn, q⟩ := h
    obtain ⟨dx, fs, e, t, nm⟩ := L.ins hp
    refine ⟨_, pss_one (ps_if (PW.pt (pw_or (pt_cmpR op_lt (pv 1) pe_int (nomark _)) (pw_or1 (pt_cmpR op_ge (pv 1) (pe_fld (pv 0) rfl) (nomark _))))) pss_never pss_nil), ?_⟩
    refine ⟨_, rfl, _, _, rfl, rfl, _, rfl, iteN (by omega) ?_⟩
    exact ⟨_, rfl, _, rfl, p, C, dx, _, _, rfl, e, L.cl, L.nT, t, _, _, rfl, rfl, _, rfl, iteN (by omega) q⟩
theorem ok_thingAt {C : Addr} {kind : Nat} {At : AtP} (B : MtB K C "thing_at" "Listing.thing_at" s_Listing_thing_at ["self", "number"]) (L : LsC K C kind At) (GK : MtG P w K mg base CX0 1 C "check_number" ["self", "number"] (spCheck kind At)) {k : Nat} (GT : MtG P w K mg base CX0 k C "thing_of" ["self", "number"] (spThingAt kind At)) (hk : 1 ≤ k) :
    MtG P w K mg base CX0 (k + 1) C "thing_at" ["self", "number"] (spThingAt kind At) := by
  refine B.ok L.cl sc_Listing_thing_at (fun vs H Q E h => ?_) (fun f cdv A outer s H vs Q E hr h => ?_)
  · obtain ⟨p, n, one, two, sizes, rfl, _⟩ := h
    rfl
  · obtain ⟨p, n, one, two, sizes, rfl, F, hp, hn, q⟩ := h
    obtain ⟨dx, fs, e, t, nm⟩ := L.ins hp
    refine ⟨_, pss_cons (ps_expr (pe_m (pv 0) GK hr pass0 (pa_cons (pv 1) pa_nil) hk)) (pss_one (ps_ret (pe_m (pv 0) GT hr pass0 (pa_cons (pv 1) pa_nil) (Nat.le_refl _)))), ?_⟩
    refine ⟨_, rfl, p, dx, _, rfl, e, nm _ (by decide +kernel), _, rfl, p, n, one, two, sizes, rfl, F, hp, hn, ?_⟩
    exact ⟨_, rfl, p, dx, _, rfl, e, nm _ (by decide +kernel), _, rfl, p, n, one, two, sizes, rfl, F, hp, hn, q⟩
theorem ok_numberOf {C : Addr} {kind : Nat} {At : AtP} (B : MtB K C "number_of" "Listing.number_of" s_Listing_number_of ["self", "thing"]) (L : LsC K C kind At) {k : Nat} (GI : MtG P w K mg base CX0 k C "is_thing" ["self", "thing"] (spIsTh K kind At)) (GP : MtG P w K mg base CX0 k C "place_of" ["self", "thing"] (spNum K kind At)) :
    MtG P w K mg base CX0 (k + 1) C "number_of" ["self", "thing"] (spNum K kind At) := by
  refine B.ok L.cl sc_Listing_number_of (fun vs H Q E h => ?_) (fun f cdv A outer s H vs Q E hr h => ?_)
  · obtain ⟨p, a, t, one, two, sizes, rfl, _⟩ := h
    rfl
  · obtain ⟨p, a, t, one, two, sizes, rfl, F, hp, ha, ht, q⟩ := h
    obtain ⟨dx, fs, e, _, nm⟩ := L.ins hp
    refine ⟨_, pss_cons (ps_if (pt_not (pt_val (pe_m (pv 0) GI hr pass0 (pa_cons (pv 1) pa_nil) (Nat.le_refl _)))) pss_never pss_nil) (pss_one (ps_ret (pe_m (pv 0) GP hr pass0 (pa_cons (pv 1) pa_nil) (Nat.le_refl _)))), ?_⟩
    have hl := F.len_is ht
    refine ⟨_, rfl, p, dx, _, rfl, e, nm _ (by decide +kernel), _, rfl, p, a, iN t, one, two, sizes, rfl, F, hp, by rw [map_iN]; exact ha, by rw [iN_len]; omega, fun b H1 s1 hb => ?_⟩
    have hb' : b = true := hb.mpr (ht.T F.k4)
    subst hb'
    refine ⟨_, rfl, iteF ?_⟩
    refine ⟨_, rfl, p, dx, _, rfl, s1 _ _ e, nm _ (by decide +kernel), _, rfl, p, a, t, one, two, sizes, rfl, F, L.same hp s1, s1.seq ha, ht, fun H2 s2 => q _ (s1.trans s2)⟩
def spDoubled : Sp := fun vs H Q _ => ∃ k : Nat, vs = [.int k] ∧ k ≤ 40 ∧ Q (.int ((2 ^ k : Nat) : Int)) H
theorem ok_doubled (B : FnB K mg "doubled" s_doubled ["times"]) (T : Bs mg) : FnG P w K mg base CX0 1 "doubled" ["times"] spDoubled := by
  refine B.ok sc_doubled (fun vs H Q E h => ?_) (fun f cdv A outer s H vs Q E hr h => ?_)
  · obtain ⟨k, rfl, _⟩ := h
    rfl
  · obtain ⟨k, rfl, hk, q⟩ := h
    refine ⟨_, pss_cons (ps_set (i := 1) sc_doubled.nd rfl (Or.inl rfl) pe_int)
      (pss_cons (ps_for PassesOwn.never rfl (pi_range1 rfl T.rng (pa_cons (pv 0) pa_nil)) (pg_name (i := 2) sc_doubled.nd rfl (Or.inl rfl))
        (pss_one (ps_set (i := 1) sc_doubled.nd rfl (Or.inl rfl) (pe_op op_mul (pv 1) pe_int))))
      (pss_one (ps_ret (pv 1)))), ?_⟩
    refine ⟨_, rfl, (k : Int), rfl, by omega, by omega, for_range (n := k) (fun i σ H' => H' = H ∧ ∃ v, σ = [some (.int k), some (.int ((2 ^ i : Nat) : Int)), v]) ⟨rfl, _, rfl⟩ ?_ ?_⟩
    · rintro i σ H' hi ⟨rfl, v, rfl⟩
      have h2 := pow40 (i := i) (by omega)
      refine ⟨_, rfl, _, _, rfl, rfl, .inl ⟨by omega, by omega⟩, rfl, some (.int (0 + i)), ?_⟩
      have e : ((2 ^ i : Nat) : Int) * 2 = ((2 ^ (i + 1) : Nat) : Int) := by rw [Nat.pow_succ]; omega
      exact congrArg (fun z => [some (V.int k), some (V.int z), some (V.int (0 + i))]) e
    · rintro σ H' ⟨rfl, v, rfl⟩
      exact ⟨_, rfl, q⟩
theorem ok_initSw {C : Addr} (B : MtB K C "__init__" "Switches.__init__" s_Switches___init ["self", "many"]) (cl : Cls K C) (nS : NoAttr K C "size") (nT : NoAttr K C "total") (c_MOST_SWITCHES : ∃ t, mg "MOST_SWITCHES" = some (.int 40 t)) (G_doubled : FnG P w K mg base CX0 1 "doubled" ["times"] spDoubled) :
    MtG P w K mg base CX0 2 C "__init__" ["self", "many"] (spInit C arSw (swAt C)) := by
  refine B.ok cl sc_Switches___init (fun vs H Q E h => ?_) (fun f cdv A outer s H vs Q E hr h => ?_)
  · obtain ⟨p, dx, us, one, two, sizes, rfl, ⟨rfl, _⟩, _⟩ := h
    rfl
  · obtain ⟨p, dx, us, one, two, sizes, rfl, ⟨rfl, h1⟩, hp, q⟩ := h
    refine ⟨_, (pss_cons (ps_if (PW.pt (pw_or (pt_cmpR op_lt (pv 1) pe_int (nomark _)) (pw_or1 (pt_cmpR op_gt (pv 1) (pe_const c_MOST_SWITCHES) (nomark _)))))
      pss_never
      pss_nil)
      (pss_cons (ps_fld (pv 0) (pv 1) rfl)
      (pss_one (ps_fld (pv 0) (pe_g G_doubled hr pass0 (pa_cons (pv 1) pa_nil)) rfl)))), ?_⟩
    refine ⟨_, rfl, _, _, rfl, rfl, _, rfl, iteN (by omega) ?_⟩
    refine ⟨_, rfl, _, _, rfl, rfl, _, rfl, iteN (by omega) ?_⟩
    refine ⟨_, rfl, _, rfl, p, C, dx, _, rfl, hp, cl, nS, (by show 0 < 1000; decide), ?_⟩
    refine ⟨_, rfl, one, rfl, h1, _, rfl, p, C, dx, _, rfl, upd_same, cl, nT, (by show 1 < 1000; decide), ?_⟩
    refine q _ ⟨dx, upd_same⟩ fun b o e hb => ?_
    rw [upd_ne hb, upd_ne hb]
    exact e
def spCkZ (K : PySem.W.Frag) : Sp := fun vs H Q _ => ∃ (a : Addr) (sizes : List Nat), vs = [.ref a] ∧ SqL K H a (vN sizes) ∧ sizes.length ≤ 12 ∧ (∀ x ∈ sizes, 1 ≤ x ∧ x ≤ 9) ∧ Q .non H
theorem ok_ckZ (B : FnB K mg "check_sizes" s_check_sizes ["sizes"]) (T : Bs mg) (c_MOST_WHEELS : ∃ t, mg "MOST_WHEELS" = some (.int 12 t)) (c_LEAST_SIZE : ∃ t, mg "LEAST_SIZE" = some (.int 1 t)) (c_GREATEST_SIZE : ∃ t, mg "GREATEST_SIZE" = some (.int 9 t)) : FnG P w K mg base CX0 1 "check_sizes" ["sizes"] (spCkZ K) := by
  refine B.ok sc_check_sizes (fun vs H Q E h => ?_) (fun f cdv A outer s H vs Q E hr h => ?_)
  · obtain ⟨a, sz, rfl, _⟩ := h
    rfl
  · obtain ⟨a, sz, rfl, ha, hl, hm, q⟩ := h
-- slots: 0 sizes, 1 size
    refine ⟨_, (pss_cons (ps_if (pt_cmpR op_gt (pe_len T (pv 0)) (pe_const c_MOST_WHEELS) (nomark _))
      pss_never
      pss_nil)
      (pss_one (ps_for PassesOwn.never rfl (pi_list (pv 0)) (pg_name (i := 1) sc_check_sizes.nd rfl (Or.inl rfl))
      (pss_one (ps_if (PW.pt (pw_or (pt_cmpR op_lt (pv 1) (pe_const c_LEAST_SIZE) (nomark _)) (pw_or1 (pt_cmpR op_gt (pv 1) (pe_const c_GREATEST_SIZE) (nomark _)))))
        pss_never
        pss_nil))))), ?_⟩
    refine ⟨_, rfl, a, _, rfl, .inl ha, _, _, rfl, rfl, _, rfl, iteN (by rw [vN_len]; omega) ?_⟩
    refine ⟨_, rfl, a, rfl, ⟨_, ha⟩, for_list (xs := vN sz) (fun i σ H' => H' = H ∧ ∃ v, σ = [some (.ref a), v]) ⟨rfl, _, rfl⟩ ?_ ?_ ?_⟩
    · rintro i σ H' _ ⟨rfl, _⟩
      exact ha
    · rintro i x σ H' hx ⟨rfl, v, rfl⟩
      obtain ⟨n, hn, rfl⟩ := vN_at hx
      have h1 := hm n (List.mem_of_getElem? hn)
      refine ⟨_, rfl, _, _, rfl, rfl, _, rfl, iteN (by omega) ?_⟩
      exact ⟨_, rfl, _, _, rfl, rfl, _, rfl, iteN (by omega) ⟨rfl, _, rfl⟩⟩
    · rintro σ H' ⟨rfl, v, rfl⟩
      exact q
def spProd (K : PySem.W.Frag) : Sp := fun vs H Q _ => ∃ (a : Addr) (sizes : List Nat), vs = [.ref a] ∧ SqL K H a (vN sizes) ∧ (∀ x ∈ sizes, 1 ≤ x ∧ x ≤ 9) ∧ Q (.int ((Wh.cnt sizes.reverse : Nat) : Int)) H
theorem ok_prod (B : FnB K mg "product" s_product ["sizes"]) (T : Bs mg) : FnG P w K mg base CX0 1 "product" ["sizes"] (spProd K) := by
  refine B.ok sc_product (fun vs H Q E h => ?_) (fun f cdv A outer s H vs Q E hr h => ?_)
  · obtain ⟨a, sz, rfl, _⟩ := h
    rfl
  · obtain ⟨a, sz, rfl, ha, hm, q⟩ := h
-- slots: 0 sizes, 1 total, 2 size
    refine ⟨_, (pss_cons (ps_set (i := 1) sc_product.nd rfl (Or.inl rfl) pe_int)
      (pss_cons (ps_for PassesOwn.never rfl (pi_list (pv 0)) (pg_name (i := 2) sc_product.nd rfl (Or.inl rfl))
      (pss_one (ps_set (i := 1) sc_product.nd rfl (Or.inl rfl) (pe_op op_mul (pv 1) (pv 2)))))
      (pss_one (ps_ret (pv 1))))), ?_⟩
    refine ⟨_, rfl, a, rfl, ⟨_, ha⟩, for_list (xs := vN sz) (fun i σ H' => H' = H ∧ ∃ v, σ = [some (.ref a), some (.int ((Wh.cnt (sz.take i).reverse : Nat) : Int)), v]) ⟨rfl, _, rfl⟩ ?_ ?_ ?_⟩
    · rintro i σ H' _ ⟨rfl, _⟩
      exact ha
    · rintro i x σ H' hx ⟨rfl, v, rfl⟩
      obtain ⟨n, hn, rfl⟩ := vN_at hx
      have h1 := hm n (List.mem_of_getElem? hn)
      refine ⟨_, rfl, _, rfl, _, _, rfl, rfl, .inr ⟨by omega, by omega⟩, rfl, some (.int (n : Int)), ?_⟩
      have e : ((Wh.cnt (sz.take i).reverse : Nat) : Int) * (n : Int) = ((Wh.cnt (sz.take (i + 1)).reverse : Nat) : Int) := by
        rw [Mp.take_rev hn]
        show _ = ((n * Wh.cnt (sz.take i).reverse : Nat) : Int)
        rw [Int.natCast_mul, Int.mul_comm]
      exact congrArg (fun z => [some (V.ref a), some (V.int z), some (V.int (n : Int))]) e
    · rintro σ H' ⟨rfl, v, rfl⟩
      rw [vN_len, List.take_length]
      exact ⟨_, rfl, q⟩
theorem ok_initWh {C : Addr} (B : MtB K C "__init__" "Wheels.__init__" s_Wheels___init ["self", "sizes"]) (T : Bs mg) (cl : Cls K C) (nS : NoAttr K C "sizes") (nT : NoAttr K C "total") (G_check_sizes : FnG P w K mg base CX0 1 "check_sizes" ["sizes"] (spCkZ K)) (G_product : FnG P w K mg base CX0 1 "product" ["sizes"] (spProd K)) :
    MtG P w K mg base CX0 2 C "__init__" ["self", "sizes"] (spInit C (arWh K) (whAt C)) := by
  refine B.ok cl sc_Wheels___init (fun vs H Q E h => ?_) (fun f cdv A outer s H vs Q E hr h => ?_)
  · obtain ⟨p, dx, us, one, two, sizes, rfl, ⟨l, rfl, _⟩, _⟩ := h
    rfl
  · obtain ⟨p, dx, us, one, two, sizes, rfl, ⟨l, rfl, hl, h12, hm⟩, hp, q⟩ := h
-- slots: 0 self, 1 sizes
    refine ⟨_, (pss_cons (ps_expr (pe_g G_check_sizes hr pass0 (pa_cons (pv 1) pa_nil)))
      (pss_cons (ps_fld (pv 0) (pe_callTy (call_list_of) (by rfl) T.lst (by decide +kernel) (pa_cons (pv 1) pa_nil)) rfl)
      (pss_one (ps_fld (pv 0) (pe_g G_product hr pass0 (pa_cons (pv 1) pa_nil)) rfl)))), ?_⟩
    refine ⟨_, rfl, l, sizes, rfl, hl, h12, hm, ?_⟩
    refine ⟨_, rfl, l, _, rfl, .inl hl, fun l2 hl2 => ?_⟩
    have np : p ≠ l2 := ne_of_none hp hl2
    have s1 : Same H (upd H l2 (.lst (vN sizes))) := Same.layS hl2
    refine ⟨_, rfl, p, C, dx, _, rfl, s1 _ _ hp, cl, nS, (by show 0 < 1000; decide), ?_⟩
    have hl' : SqL K (upd (upd H l2 (.lst (vN sizes))) p (.ins C dx (putF "sizes" (.ref l2) []))) l (vN sizes) := by
      rcases hl with (h | ⟨o, h⟩) | h
      · exact .inl (.inl (by rw [upd_ne (ne_of h hp (by intro z; cases z)), upd_ne (ne_of_none h hl2)]; exact h))
      · exact .inl (.inr ⟨o, by rw [upd_ne (ne_of h hp (by intro z; cases z)), upd_ne (ne_of_none h hl2)]; exact h⟩)
      · exact .inr h
    refine ⟨_, rfl, l, sizes, rfl, hl', hm, ?_⟩
    refine ⟨_, rfl, p, C, dx, _, rfl, upd_same, cl, nT, (by show 1 < 1000; decide), ?_⟩
    refine q _ ⟨dx, l2, upd_same, ?_⟩ fun b o e hb => ?_
    · rw [upd_ne np.symm, upd_ne np.symm]
      exact upd_same
    · rw [upd_ne hb, upd_ne hb, upd_ne (ne_of_none e hl2)]
      exact e
theorem ok_isWh {C : Addr} (B : MtB K C "is_thing" "Wheels.is_thing" s_Wheels_is_thing ["self", "thing"]) (T : Bs mg) (cl : Cls K C) (nS : NoAttr K C "sizes") : MtG P w K mg base CX0 1 C "is_thing" ["self", "thing"] (spIsTh K 1 (whAt C)) := by
  refine B.ok cl sc_Wheels_is_thing (fun vs H Q E h => ?_) (fun f cdv A outer s H vs Q E hr h => ?_)
  · obtain ⟨p, a, ns, one, two, sizes, rfl, _⟩ := h
    rfl
  · obtain ⟨p, a, ns, one, two, sizes, rfl, F, ⟨dx, l, hp, hl⟩, ha, hn, q⟩ := h
-- slots: 0 self, 1 thing, 2 size, 3 turn
    refine ⟨_, (pss_cons (ps_if (pt_cmpR op_ne (pe_len T (pv 1)) (pe_len T (pe_fld (pv 0) rfl)) (nomark _))
      (pss_one (ps_ret pe_bl))
      pss_nil)
      (pss_cons (ps_for PassesOwn.never rfl (pi_zip T.zip (pa_cons (pe_fld (pv 0) rfl) (pa_cons (pv 1) pa_nil))) (pg_tup rfl (pgs_cons (pg_name (i := 2) sc_Wheels_is_thing.nd rfl (Or.inl rfl)) (pgs_cons (pg_name (i := 3) sc_Wheels_is_thing.nd rfl (Or.inl rfl)) pgs_nil)))
      (pss_one (ps_if (PW.pt (pw_or (pt_cmpR op_lt (pv 3) pe_int (nomark _)) (pw_or1 (pt_cmpR op_ge (pv 3) (pv 2) (nomark _)))))
        (pss_one (ps_ret pe_bl))
        pss_nil)))
      (pss_one (ps_ret pe_bl)))), ?_⟩
    refine ⟨_, rfl, a, _, rfl, .inl ha, _, rfl, p, C, dx, _, _, rfl, hp, cl, nS, whF_sizes _ _, l, _, rfl, .inl (SqL.of hl), rfl, _, rfl, ite_n (fun h1 => ?_) (fun h1 => ?_)⟩
    · refine q false _ (Same.refl _) ⟨fun z => (Bool.false_ne_true z).elim, fun z => ?_⟩
      refine absurd ?_ h1
      rw [List.length_map, vN_len]
      exact congrArg V.int (congrArg Nat.cast z.1)
    · rw [List.length_map, vN_len] at h1
      have h1' : ns.length = sizes.length := by have := vint h1; omega
      refine ⟨_, rfl, p, C, dx, _, _, rfl, hp, cl, nS, whF_sizes _ _, _, rfl, l, a, _, _, rfl, SqL.of hl, ha, for_zip (xs := vN sizes) (ys := ns.map V.int) (by rw [vN_len, List.length_map, h1']) (fun i σ H' => Same H H' ∧ (∀ j, j < i → 0 ≤ ns.getD j 0 ∧ ns.getD j 0 < (sizes.getD j 0 : Int)) ∧ ∃ v u, σ = [some (.ref p), some (.ref a), v, u]) ⟨Same.refl _, fun j hj => by omega, _, _, rfl⟩ ?_ ?_ ?_⟩
      · rintro i σ H' _ ⟨s1, _, _⟩
        exact ⟨SqL.of (s1 _ _ hl), s1.seq ha⟩
      · rintro i x y t σ H' hx hy ht ⟨s1, h2, v, u, rfl⟩
        obtain ⟨z, hz, rfl⟩ := vN_at hx
        obtain ⟨n, hn', rfl⟩ := iN_at hy
        have g1 : sizes.getD i 0 = z := by rw [List.getD_eq_getElem?_getD, hz]; rfl
        have g2 : ns.getD i 0 = n := by rw [List.getD_eq_getElem?_getD, hn']; rfl
        have hi : i < ns.length := (List.getElem?_eq_some_iff.mp hn').1
        refine ⟨t, _, rfl, SqT.of upd_same, rfl, _, _, rfl, _, _, rfl, rfl, ?_⟩
        refine ⟨_, rfl, _, _, rfl, rfl, _, rfl, ite_d (fun h3 => ?_) (fun h3 => ?_)⟩
        · refine q false _ (s1.lay ht) ⟨fun z => (Bool.false_ne_true z).elim, fun z => ?_⟩
          have := z.2 i hi
          rw [g2] at this
          omega
        · refine ⟨_, rfl, _, rfl, _, _, rfl, rfl, _, rfl, ite_d (fun h4 => ?_) (fun h4 => ?_)⟩
          · refine q false _ (s1.lay ht) ⟨fun z => (Bool.false_ne_true z).elim, fun z => ?_⟩
            have := z.2 i hi
            rw [g2, g1] at this
            omega
          · refine ⟨s1.lay ht, fun j hj => ?_, _, _, rfl⟩
            rcases Nat.lt_succ_iff_lt_or_eq.mp hj with hj | rfl
            · exact h2 j hj
            · rw [g1, g2]
              omega
      · rintro σ H' ⟨s1, h2, v, u, rfl⟩
        refine q true _ s1 ⟨fun _ => ⟨h1', fun k hk => h2 k (by rw [vN_len]; omega)⟩, fun _ => rfl⟩
theorem ok_thWh {C : Addr} (B : MtB K C "thing_of" "Wheels.thing_of" s_Wheels_thing_of ["self", "number"]) (T : Bs mg) (cl : Cls K C) (nS : NoAttr K C "sizes") (nT : NoAttr K C "total") : MtG P w K mg base CX0 1 C "thing_of" ["self", "number"] (spThingAt 1 (whAt C)) := by
  refine B.ok cl sc_Wheels_thing_of (fun vs H Q E h => ?_) (fun f cdv A outer s H vs Q E hr h => ?_)
  · obtain ⟨p, n, one, two, sizes, rfl, _⟩ := h
    rfl
  · obtain ⟨p, n, one, two, sizes, rfl, F, ⟨dx, l, hp, hl⟩, hn, q⟩ := h
-- slots: 0 self, 1 number, 2 thing, 3 rest, 4 fewer, 5 size, 6 turn
    refine ⟨_, (pss_cons (ps_set (i := 2) sc_Wheels_thing_of.nd rfl (Or.inl rfl) (pe_lst pa_nil))
      (pss_cons (ps_set (i := 3) sc_Wheels_thing_of.nd rfl (Or.inl rfl) (pv 1))
      (pss_cons (ps_set (i := 4) sc_Wheels_thing_of.nd rfl (Or.inl rfl) (pe_fld (pv 0) rfl))
      (pss_cons (ps_for PassesOwn.never rfl (pi_rev T.rev (pa_cons (pe_fld (pv 0) rfl) pa_nil)) (pg_name (i := 5) sc_Wheels_thing_of.nd rfl (Or.inl rfl))
      (pss_cons (ps_set (i := 4) sc_Wheels_thing_of.nd rfl (Or.inl rfl) (pe_op op_fdivB (pv 4) (pv 5)))
        (pss_cons (ps_set (i := 6) sc_Wheels_thing_of.nd rfl (Or.inl rfl) (pe_op op_fdivB (pv 3) (pv 4)))
        (pss_cons (ps_set (i := 3) sc_Wheels_thing_of.nd rfl (Or.inl rfl) (pe_op op_mod (pv 3) (pv 4)))
        (pss_cons (ps_cut (ps_if (pt_cmpR op_eq (pe_op op_mod (pv 6) pe_int) pe_int (nomark _))
        (pss_one (ps_set (i := 3) sc_Wheels_thing_of.nd rfl (Or.inl rfl) (pe_op op_sub (pe_op op_sub (pv 4) pe_int) (pv 3))))
        pss_nil))
        (pss_one (ps_expr (pe_bm PySem.F.plainAttrs_list PySem.F.slot_list_append PySem.F.type_list_append mt_append (pv 2) (pa_cons (pv 6) pa_nil)))))))))
      (pss_cons (ps_expr (pe_bm0 PySem.F.plainAttrs_list PySem.F.slot_list_reverse PySem.F.type_list_reverse mt_reverse (pv 2)))
      (pss_one (ps_ret (pv 2)))))))), ?_⟩
    have hn : n < Wh.cnt sizes.reverse := hn
    have hpos := F.pos
    have h12 := F.len
    refine ⟨(by show 0 ≤ sizeLine; exact Nat.zero_le _), fun r hr0 => ?_⟩
    have npr : p ≠ r := ne_of_none hp hr0
    have nlr : l ≠ r := ne_of_none hl hr0
    refine ⟨_, rfl, _, rfl, p, C, dx, _, _, rfl, (by rw [upd_ne npr]; exact hp), cl, nT, whF_total _ _, ?_⟩
    refine ⟨_, rfl, p, C, dx, _, _, rfl, (by rw [upd_ne npr]; exact hp), cl, nS, whF_sizes _ _, l, _, rfl, SqL.of (by rw [upd_ne nlr]; exact hl), ?_⟩
    refine for_rev (xs := vN sizes) (fun i σ H' => ∃ (z : Nat) (L : List Nat) (v u : Option V), H' = upd H r (.lst (vN L)) ∧ L.length = i ∧ z < Wh.cnt (sizes.reverse.drop i) ∧ Wh.thg sizes.reverse n = Wh.thg (sizes.reverse.drop i) z ++ L.reverse ∧
      σ = [some (.ref p), some (.int n), some (.ref r), some (.int (z : Int)), some (.int ((Wh.cnt (sizes.reverse.drop i) : Nat) : Int)), v, u]) ⟨n, [], none, none, rfl, rfl, hn, (by rw [List.drop_zero, List.reverse_nil, List.append_nil]), rfl⟩ ?_ ?_ ?_
    · rintro i σ H' _ ⟨z, L, v, u, rfl, _⟩
      exact SqL.of (by rw [upd_ne nlr]; exact hl)
    · rintro i x σ H' hi hx ⟨z, L, v, u, rfl, hL, hz, ht, rfl⟩
      rw [vN_len] at hi hx
      obtain ⟨b, hb, rfl⟩ := vN_at hx
      have hbm := F.mem b (List.mem_of_getElem? hb)
      have hdr := Mp.drop_rev hi hb
      have hc : Wh.cnt (sizes.reverse.drop i) = b * Wh.cnt (sizes.reverse.drop (i + 1)) := by rw [hdr]; rfl
      have hbig : Wh.cnt (sizes.reverse.drop (i + 1)) ≤ 282429536481 := Mp.cnt_big (fun x hx => F.mem x (List.mem_reverse.mp (List.mem_of_mem_drop hx))) (by rw [List.length_drop, List.length_reverse]; omega)
      have hcp : 0 < Wh.cnt (sizes.reverse.drop (i + 1)) := Wh.cnt_pos fun x hx => hpos x (List.mem_of_mem_drop hx)
      have e1 : ((Wh.cnt (sizes.reverse.drop i) : Nat) : Int) / (b : Int) = ((Wh.cnt (sizes.reverse.drop (i + 1)) : Nat) : Int) := by
        rw [hc, ← Int.natCast_ediv, Nat.mul_div_cancel_left _ (by omega)]
      rw [hdr] at ht
      rw [hc] at hz
      generalize hcc : Wh.cnt (sizes.reverse.drop (i + 1)) = c at *
      refine ⟨_, rfl, _, rfl, _, _, rfl, rfl, ⟨by omega, by omega⟩, ?_⟩
      dsimp only
      rw [e1]
      refine ⟨_, rfl, _, rfl, _, _, rfl, rfl, ⟨by omega, by omega⟩, ?_⟩
      refine ⟨_, rfl, _, rfl, _, _, rfl, rfl, (by show (0 : Int) < (c : Int); omega), ?_⟩
      have hs := Wh.split hcp hz
      have ed : (z : Int) / (c : Int) = ((z / c : Nat) : Int) := by rw [Int.natCast_ediv]
      have em : (z : Int) % (c : Int) = ((z % c : Nat) : Int) := by rw [Int.natCast_emod]
      dsimp only
      rw [ed, em]
      refine ⟨fun σ' H' => H' = upd H r (.lst (vN L)) ∧ σ' = [some (.ref p), some (.int n), some (.ref r), some (.int ((Wh.flip (z / c) c (z % c) : Nat) : Int)), some (.int (c : Int)), some (.int (b : Int)), some (.int ((z / c : Nat) : Int))], ?_, ?_⟩
      · have hf := Mp.flip_step (v := z / c) hs.2.1
        refine ⟨_, rfl, _, _, rfl, rfl, (by show (0 : Int) < 2; decide), rfl, _, rfl, ite_d (fun h3 => ?_) (fun h3 => ?_)⟩
        · have h3' := vint h3
          have h3'' : z / c % 2 = 1 := by omega
          rw [if_pos h3''] at hf
          refine ⟨_, rfl, _, _, rfl, rfl, _, rfl, _, _, rfl, rfl, rfl, ?_⟩
          rw [hf]
          have e3 : (c : Int) - 1 - ((z % c : Nat) : Int) = ((c - 1 - z % c : Nat) : Int) := by omega
          exact congrArg (fun y => [some (V.ref p), some (V.int n), some (V.ref r), some (V.int y), some (V.int (c : Int)), some (V.int (b : Int)), some (V.int ((z / c : Nat) : Int))]) e3
        · have h3'' : ¬ z / c % 2 = 1 := fun e => h3 (congrArg V.int (by omega))
          rw [if_neg h3''] at hf
          rw [hf]
          exact ⟨rfl, rfl⟩
      · rintro σ' H' ⟨rfl, rfl⟩
        refine ⟨_, rfl, .inl ⟨rfl, _, SqL.of upd_same⟩, _, rfl, r, _, _, rfl, rfl, upd_same, small1000 (by rw [vN_len]; omega), ?_⟩
        refine ⟨Wh.flip (z / c) c (z % c), L ++ [z / c], some (.int (b : Int)), some (.int ((z / c : Nat) : Int)), ?_, by simp [hL], by first | exact Wh.flip_lt hs.2.1 | (rw [hcc]; exact Wh.flip_lt hs.2.1), ?_, ?_⟩
        · rw [upd_upd]
          unfold vN
          rw [List.map_append]
          rfl
        · rw [ht]
          show Wh.thg (sizes.reverse.drop (i + 1)) (Wh.flip (z / Wh.cnt (sizes.reverse.drop (i + 1))) (Wh.cnt (sizes.reverse.drop (i + 1))) (z % Wh.cnt (sizes.reverse.drop (i + 1)))) ++ [z / Wh.cnt (sizes.reverse.drop (i + 1))] ++ L.reverse = _
          rw [hcc, List.reverse_append, List.append_assoc]
          rfl
        · first | rfl | (rw [hcc]; rfl)
    · rintro σ H' ⟨z, L, v, u, rfl, hL, hz, ht, rfl⟩
      rw [vN_len, List.drop_of_length_le (by simp)] at ht
      have ht' : Wh.thg sizes.reverse n = L.reverse := ht
      refine ⟨_, rfl, .inl ⟨rfl, _, SqL.of upd_same⟩, r, _, rfl, rfl, upd_same, ?_⟩
      refine ⟨_, rfl, q r _ ?_ hr0 ?_⟩
      · rw [upd_upd]
        exact Same.layS hr0
      · rw [upd_same]
        show some (HO.lst (vN L).reverse) = some (HO.lst (vN (Wh.thg sizes.reverse n)))
        rw [ht']
        unfold vN
        rw [List.map_reverse]
theorem ok_plWh {C : Addr} (B : MtB K C "place_of" "Wheels.place_of" s_Wheels_place_of ["self", "thing"]) (T : Bs mg) (cl : Cls K C) (nS : NoAttr K C "sizes") : MtG P w K mg base CX0 1 C "place_of" ["self", "thing"] (spNum K 1 (whAt C)) := by
  refine B.ok cl sc_Wheels_place_of (fun vs H Q E h => ?_) (fun f cdv A outer s H vs Q E hr h => ?_)
  · obtain ⟨p, a, t, one, two, sizes, rfl, _⟩ := h
    rfl
  · obtain ⟨p, a, t, one, two, sizes, rfl, F, ⟨dx, l, hp, hl⟩, ha, ht, q⟩ := h
-- slots: 0 self, 1 thing, 2 number, 3 fewer, 4 size, 5 turn
    refine ⟨_, (pss_cons (ps_set (i := 2) sc_Wheels_place_of.nd rfl (Or.inl rfl) pe_int)
      (pss_cons (ps_set (i := 3) sc_Wheels_place_of.nd rfl (Or.inl rfl) pe_int)
      (pss_cons (ps_for PassesOwn.never rfl (pi_zip T.zip (pa_cons (pe_fld (pv 0) rfl) (pa_cons (pv 1) pa_nil))) (pg_tup rfl (pgs_cons (pg_name (i := 4) sc_Wheels_place_of.nd rfl (Or.inl rfl)) (pgs_cons (pg_name (i := 5) sc_Wheels_place_of.nd rfl (Or.inl rfl)) pgs_nil)))
      (pss_cons (ps_cut (ps_if (pt_cmpR op_eq (pe_op op_mod (pv 5) pe_int) pe_int (nomark _))
        (pss_one (ps_set (i := 2) sc_Wheels_place_of.nd rfl (Or.inl rfl) (pe_op op_sub (pe_op op_sub (pv 3) pe_int) (pv 2))))
        pss_nil))
        (pss_cons (ps_set (i := 2) sc_Wheels_place_of.nd rfl (Or.inl rfl) (pe_op op_add (pv 2) (pe_op op_mul (pv 5) (pv 3))))
        (pss_one (ps_set (i := 3) sc_Wheels_place_of.nd rfl (Or.inl rfl) (pe_op op_mul (pv 3) (pv 4)))))))
      (pss_one (ps_ret (pv 2)))))), ?_⟩
    have ht : Wh.Is sizes.reverse t.reverse := ht
    have hlen := (Lst.whIs_fwd.mp ht).1
    have hpos := F.pos
    have h12 := F.len
    refine ⟨_, rfl, p, C, dx, _, _, rfl, hp, cl, nS, whF_sizes _ _, _, rfl, l, a, _, _, rfl, SqL.of hl, ha, for_zip (xs := vN sizes) (ys := vN t) (by rw [vN_len, vN_len, hlen]) (fun i σ H' => Same H H' ∧ ∃ v u, σ = [some (.ref p), some (.ref a), some (.int ((Wh.num (sizes.take i).reverse (t.take i).reverse : Nat) : Int)), some (.int ((Wh.cnt (sizes.take i).reverse : Nat) : Int)), v, u]) ⟨Same.refl _, _, _, rfl⟩ ?_ ?_ ?_⟩
    · rintro i σ H' _ ⟨s1, _⟩
      exact ⟨SqL.of (s1 _ _ hl), s1.seq ha⟩
    · rintro i x y tt σ H' hx hy htt ⟨s1, v, u, rfl⟩
      obtain ⟨b, hb, rfl⟩ := vN_at hx
      obtain ⟨n, hn, rfl⟩ := vN_at hy
      have hbm := F.mem b (List.mem_of_getElem? hb)
      have hi : i < sizes.length := (List.getElem?_eq_some_iff.mp hb).1
      have his := Mp.is_take ht i
      have his2 := Mp.is_take ht (i + 1)
      rw [Mp.take_rev hb, Mp.take_rev hn] at his2
      have hnb : n < b := his2.1
      have hps : Wh.Pos (sizes.take i).reverse := fun x hx => hpos x (List.mem_reverse.mpr (List.mem_of_mem_take (List.mem_reverse.mp hx)))
      have hlt := Wh.num_lt hps his
      have hbig : Wh.cnt (sizes.take i).reverse ≤ 282429536481 := Mp.cnt_big (fun x hx => F.mem x (List.mem_of_mem_take (List.mem_reverse.mp hx))) (by rw [List.length_reverse, List.length_take]; omega)
      have eN : Wh.num (sizes.take (i + 1)).reverse (t.take (i + 1)).reverse = n * Wh.cnt (sizes.take i).reverse + Wh.flip n (Wh.cnt (sizes.take i).reverse) (Wh.num (sizes.take i).reverse (t.take i).reverse) := by rw [Mp.take_rev hb, Mp.take_rev hn]; rfl
      have eC : Wh.cnt (sizes.take (i + 1)).reverse = b * Wh.cnt (sizes.take i).reverse := by rw [Mp.take_rev hb]; rfl
      generalize Wh.num (sizes.take i).reverse (t.take i).reverse = z at *
      generalize Wh.cnt (sizes.take i).reverse = c at *
      refine ⟨tt, _, rfl, SqT.of upd_same, rfl, _, _, rfl, _, _, rfl, rfl, ?_⟩
      refine ⟨fun σ' H1 => H1 = upd H' tt (.tup [.int (b : Int), .int (n : Int)]) ∧ σ' = [some (.ref p), some (.ref a), some (.int ((Wh.flip n c z : Nat) : Int)), some (.int (c : Int)), some (.int (b : Int)), some (.int (n : Int))], ?_, ?_⟩
      · have hf := Mp.flip_step (v := n) hlt
        refine ⟨_, rfl, _, _, rfl, rfl, (by show (0 : Int) < 2; decide), rfl, _, rfl, ite_d (fun h3 => ?_) (fun h3 => ?_)⟩
        · have h3' := vint h3
          have h3'' : n % 2 = 1 := by omega
          rw [if_pos h3''] at hf
          refine ⟨_, rfl, _, _, rfl, rfl, _, rfl, _, _, rfl, rfl, rfl, ?_⟩
          rw [hf]
          have e3 : (c : Int) - 1 - (z : Int) = ((c - 1 - z : Nat) : Int) := by omega
          exact congrArg (fun y => [some (V.ref p), some (V.ref a), some (V.int y), some (V.int (c : Int)), some (V.int (b : Int)), some (V.int (n : Int))]) e3
        · have h3'' : ¬ n % 2 = 1 := fun e => h3 (congrArg V.int (by omega))
          rw [if_neg h3''] at hf
          rw [hf]
          exact ⟨rfl, rfl⟩
      · rintro σ' H1 ⟨rfl, rfl⟩
        refine ⟨_, rfl, _, rfl, _, rfl, _, _, rfl, rfl, .inl ⟨by omega, by omega⟩, _, _, rfl, rfl, ?_⟩
        refine ⟨_, rfl, _, rfl, _, _, rfl, rfl, .inr ⟨by omega, by omega⟩, s1.lay htt, some (.int (b : Int)), some (.int (n : Int)), ?_⟩
        rw [eN, eC]
        have e4 : ((Wh.flip n c z : Nat) : Int) + (n : Int) * (c : Int) = ((n * c + Wh.flip n c z : Nat) : Int) := by
          rw [Int.natCast_add, Int.natCast_mul, Int.add_comm]
        have e5 : (c : Int) * (b : Int) = ((b * c : Nat) : Int) := by rw [Int.natCast_mul, Int.mul_comm]
        show [some (V.ref p), some (V.ref a), some (V.int (((Wh.flip n c z : Nat) : Int) + (n : Int) * (c : Int))), some (V.int ((c : Int) * (b : Int))), some (V.int (b : Int)), some (V.int (n : Int))] = _
        rw [e4, e5]
    · rintro σ H' ⟨s1, v, u, rfl⟩
      rw [vN_len, List.take_length, ← hlen, List.take_length]
      exact ⟨_, rfl, q _ s1⟩
def spBin : Sp := fun vs H Q _ => ∃ m k : Nat, vs = [.int (m : Int), .int (k : Int)] ∧ m ≤ 1000 ∧ k ≤ 1000 ∧ Q (.int ((Pk.bin m k : Nat) : Int)) H
theorem ok_bin (B : FnB K mg "picks_of" s_picks_of ["many", "some"]) (T : Bs mg) : FnG P w K mg base CX0 1 "picks_of" ["many", "some"] spBin := by
  refine B.ok sc_picks_of (fun vs H Q E h => ?_) (fun f cdv A outer s H vs Q E hr h => ?_)
  · obtain ⟨m, k, rfl, _⟩ := h
    rfl
  · obtain ⟨m, k, rfl, hm, hk, q⟩ := h
-- slots: 0 many, 1 some, 2 total, 3 taken
    refine ⟨_, (pss_cons (ps_set (i := 2) sc_picks_of.nd rfl (Or.inl rfl) pe_int)
      (pss_cons (ps_for PassesOwn.never rfl (pi_range1 rfl T.rng (pa_cons (pv 1) pa_nil)) (pg_name (i := 3) sc_picks_of.nd rfl (Or.inl rfl))
      (pss_one (ps_set (i := 2) sc_picks_of.nd rfl (Or.inl rfl) (pe_op op_fdivB (pe_op op_mul (pv 2) (pe_op op_sub (pv 0) (pv 3))) (pe_op op_add (pv 3) pe_int)))))
      (pss_one (ps_ret (pv 2))))), ?_⟩
    refine ⟨_, rfl, (k : Int), rfl, by omega, by omega, for_range (n := k) (fun i σ H' => H' = H ∧ ∃ v, σ = [some (.int (m : Int)), some (.int (k : Int)), some (.int ((Pk.bin m i : Nat) : Int)), v]) ⟨rfl, _, by rw [Pk.bin_0]; rfl⟩ ?_ ?_⟩
    · rintro i σ H' hi ⟨rfl, v, rfl⟩
      refine ⟨_, rfl, _, rfl, _, rfl, _, _, rfl, rfl, _, _, rfl, rfl, .inr ⟨by omega, by omega⟩, _, rfl, _, _, rfl, rfl, _, _, rfl, rfl, ⟨by omega, by omega⟩, rfl, some (.int (0 + (i : Int))), ?_⟩
      have e : ((Pk.bin m i : Nat) : Int) * ((m : Int) - (0 + (i : Int))) / (0 + (i : Int) + 1) = ((Pk.bin m (i + 1) : Nat) : Int) := by
        rw [Int.zero_add]
        exact Mp.bin_next m i
      exact congrArg (fun z => [some (V.int (m : Int)), some (V.int (k : Int)), some (V.int z), some (V.int (0 + (i : Int)))]) e
    · rintro σ H' ⟨rfl, v, rfl⟩
      exact ⟨_, rfl, q⟩
theorem ok_initPk {C : Addr} (B : MtB K C "__init__" "Picks.__init__" s_Picks___init ["self", "many", "some"]) (cl : Cls K C) (nS : NoAttr K C "size") (nM : NoAttr K C "some") (nT : NoAttr K C "total") (c_MOST_NUMBERS_picks : ∃ t, mg "MOST_NUMBERS_picks" = some (.int 24 t)) (G_picks_of : FnG P w K mg base CX0 1 "picks_of" ["many", "some"] spBin) :
    MtG P w K mg base CX0 2 C "__init__" ["self", "many", "some"] (spInit C arPk (pkAt C)) := by
  refine B.ok cl sc_Picks___init (fun vs H Q E h => ?_) (fun f cdv A outer s H vs Q E hr h => ?_)
  · obtain ⟨p, dx, us, one, two, sizes, rfl, ⟨rfl, _⟩, _⟩ := h
    rfl
  · obtain ⟨p, dx, us, one, two, sizes, rfl, ⟨rfl, h1, h2⟩, hp, q⟩ := h
-- slots: 0 self, 1 many, 2 some
    refine ⟨_, (pss_cons (ps_if (PW.pt (pw_or (pt_cmpR op_lt (pv 1) pe_int (nomark _)) (pw_or1 (pt_cmpR op_gt (pv 1) (pe_const c_MOST_NUMBERS_picks) (nomark _)))))
      pss_never
      pss_nil)
      (pss_cons (ps_if (PW.pt (pw_or (pt_cmpR op_lt (pv 2) pe_int (nomark _)) (pw_or1 (pt_cmpR op_gt (pv 2) (pv 1) (nomark _)))))
      pss_never
      pss_nil)
      (pss_cons (ps_fld (pv 0) (pv 1) rfl)
      (pss_cons (ps_fld (pv 0) (pv 2) rfl)
      (pss_one (ps_fld (pv 0) (pe_g G_picks_of hr pass0 (pa_cons (pv 1) (pa_cons (pv 2) pa_nil))) rfl)))))), ?_⟩
    refine ⟨_, rfl, _, _, rfl, rfl, _, rfl, iteN (by omega) ?_⟩
    refine ⟨_, rfl, _, _, rfl, rfl, _, rfl, iteN (by omega) ?_⟩
    refine ⟨_, rfl, _, _, rfl, rfl, _, rfl, iteN (by omega) ?_⟩
    refine ⟨_, rfl, _, rfl, _, _, rfl, rfl, _, rfl, iteN (by omega) ?_⟩
    refine ⟨_, rfl, _, rfl, p, C, dx, _, rfl, hp, cl, nS, (by show 0 < 1000; decide), ?_⟩
    refine ⟨_, rfl, _, rfl, p, C, dx, _, rfl, upd_same, cl, nM, (by show 1 < 1000; decide), ?_⟩
    refine ⟨_, rfl, _, rfl, one, two, rfl, by omega, by omega, _, rfl, p, C, dx, _, rfl, upd_same, cl, nT, (by show 2 < 1000; decide), ?_⟩
    refine q _ ⟨dx, upd_same⟩ fun b o e hb => ?_
    rw [upd_ne hb, upd_ne hb, upd_ne hb]
    exact e
def spFac : Sp := fun vs H Q _ => ∃ m : Nat, vs = [.int (m : Int)] ∧ m ≤ 1000 ∧ Q (.int ((Ord.fac m : Nat) : Int)) H
theorem ok_fac (B : FnB K mg "orders_of" s_orders_of ["many"]) (T : Bs mg) : FnG P w K mg base CX0 1 "orders_of" ["many"] spFac := by
  refine B.ok sc_orders_of (fun vs H Q E h => ?_) (fun f cdv A outer s H vs Q E hr h => ?_)
  · obtain ⟨m, rfl, _⟩ := h
    rfl
  · obtain ⟨m, rfl, hm, q⟩ := h
-- slots: 0 many, 1 total, 2 number
    refine ⟨_, (pss_cons (ps_set (i := 1) sc_orders_of.nd rfl (Or.inl rfl) pe_int)
      (pss_cons (ps_for PassesOwn.never rfl (pi_range1 rfl T.rng (pa_cons (pv 0) pa_nil)) (pg_name (i := 2) sc_orders_of.nd rfl (Or.inl rfl))
      (pss_one (ps_set (i := 1) sc_orders_of.nd rfl (Or.inl rfl) (pe_op op_mul (pv 1) (pe_op op_add (pv 2) pe_int)))))
      (pss_one (ps_ret (pv 1))))), ?_⟩
    refine ⟨_, rfl, (m : Int), rfl, by omega, by omega, for_range (n := m) (fun i σ H' => H' = H ∧ ∃ v, σ = [some (.int (m : Int)), some (.int ((Ord.fac i : Nat) : Int)), v]) ⟨rfl, _, rfl⟩ ?_ ?_⟩
    · rintro i σ H' hi ⟨rfl, v, rfl⟩
      refine ⟨_, rfl, _, rfl, _, _, rfl, rfl, _, _, rfl, rfl, .inr ⟨by omega, by omega⟩, rfl, some (.int (0 + (i : Int))), ?_⟩
      have e : ((Ord.fac i : Nat) : Int) * (0 + (i : Int) + 1) = ((Ord.fac (i + 1) : Nat) : Int) := by
        show _ = (((i + 1) * Ord.fac i : Nat) : Int)
        rw [Int.natCast_mul, Int.mul_comm, Int.zero_add]
        rfl
      exact congrArg (fun z => [some (V.int (m : Int)), some (V.int z), some (V.int (0 + (i : Int)))]) e
    · rintro σ H' ⟨rfl, v, rfl⟩
      exact ⟨_, rfl, q⟩
theorem ok_initOd {C : Addr} (B : MtB K C "__init__" "Orders.__init__" s_Orders___init ["self", "many"]) (cl : Cls K C) (nS : NoAttr K C "size") (nT : NoAttr K C "total") (c_MOST_NUMBERS_orders : ∃ t, mg "MOST_NUMBERS_orders" = some (.int 14 t)) (G_orders_of : FnG P w K mg base CX0 1 "orders_of" ["many"] spFac) :
    MtG P w K mg base CX0 2 C "__init__" ["self", "many"] (spInit C arOd (odAt C)) := by
  refine B.ok cl sc_Orders___init (fun vs H Q E h => ?_) (fun f cdv A outer s H vs Q E hr h => ?_)
  · obtain ⟨p, dx, us, one, two, sizes, rfl, ⟨rfl, _⟩, _⟩ := h
    rfl
  · obtain ⟨p, dx, us, one, two, sizes, rfl, ⟨rfl, h1⟩, hp, q⟩ := h
-- slots: 0 self, 1 many
    refine ⟨_, (pss_cons (ps_if (PW.pt (pw_or (pt_cmpR op_lt (pv 1) pe_int (nomark _)) (pw_or1 (pt_cmpR op_gt (pv 1) (pe_const c_MOST_NUMBERS_orders) (nomark _)))))
      pss_never
      pss_nil)
      (pss_cons (ps_fld (pv 0) (pv 1) rfl)
      (pss_one (ps_fld (pv 0) (pe_g G_orders_of hr pass0 (pa_cons (pv 1) pa_nil)) rfl)))), ?_⟩
    refine ⟨_, rfl, _, _, rfl, rfl, _, rfl, iteN (by omega) ?_⟩
    refine ⟨_, rfl, _, _, rfl, rfl, _, rfl, iteN (by omega) ?_⟩
    refine ⟨_, rfl, _, rfl, p, C, dx, _, rfl, hp, cl, nS, (by show 0 < 1000; decide), ?_⟩
    refine ⟨_, rfl, one, rfl, by omega, _, rfl, p, C, dx, _, rfl, upd_same, cl, nT, (by show 1 < 1000; decide), ?_⟩
    refine q _ ⟨dx, upd_same⟩ fun b o e hb => ?_
    rw [upd_ne hb, upd_ne hb]
    exact e
def sixB (j : Nat) : List Bool := (List.range 6).map fun k => decide (k = j)
def sixW (wt : Int) : List Bool := (List.range 6).map fun (k : Nat) => decide (V.int (0 + (k : Int)) = V.int wt)
theorem six_eq {j : Nat} {wt : Int} (h : j < 6) : decide (sixB j = sixW wt) = decide ((j : Int) = wt) := by
  by_cases e : (j : Int) = wt
  · rw [decide_eq_true e]
    refine decide_eq_true ?_
    subst e
    unfold sixB sixW
    refine List.map_congr_left fun k _ => ?_
    by_cases hk : k = j
    · subst hk
      rw [decide_eq_true rfl, decide_eq_true (congrArg V.int (by omega))]
    · rw [decide_eq_false hk, decide_eq_false fun z => hk (by have := vint z; omega)]
  · rw [decide_eq_false e]
    refine decide_eq_false fun z => e ?_
    have h1 : (sixB j)[j]? = (sixW wt)[j]? := by rw [z]
    unfold sixB sixW at h1
    rw [List.getElem?_map, List.getElem?_map, List.getElem?_range h] at h1
    have h2 : decide (j = j) = decide (V.int (0 + (j : Int)) = V.int wt) := Option.some.inj h1
    rw [decide_eq_true rfl] at h2
    have := vint (of_decide_eq_true h2.symm)
    omega
def spOther (K : PySem.W.Frag) (mg : Str → Option Value) (CE : Addr) (Cs : List Addr) : Addr → Sp := fun b vs H Q _ => ∃ (C : Addr) (x : Str) (j : Nat) (wt : Int), vs = [.ref b, .int wt] ∧ H b = some (ErrO C b) ∧ ErrT K mg x C CE Cs j ∧ j < 6 ∧ ∀ H', Same H H' → Q (.bl (!decide ((j : Int) = wt))) H'
theorem ok_other {CE C_NoListing C_NoThing C_NoNumber C_NoState C_NoMove C_TooFar : Addr} (B : FnB K mg "_law_other" s_law_other ["e", "wanted"]) (T : Bs mg) (zVE : mg "ValueError" = none) (X_NoListing : mg "NoListing" = some (.ref C_NoListing)) (X_NoThing : mg "NoThing" = some (.ref C_NoThing))
    (X_NoNumber : mg "NoNumber" = some (.ref C_NoNumber)) (X_NoState : mg "NoState" = some (.ref C_NoState)) (X_NoMove : mg "NoMove" = some (.ref C_NoMove)) (X_TooFar : mg "TooFar" = some (.ref C_TooFar)) :
    FnGH P w K mg base 1 "_law_other" ["e", "wanted"] (spOther K mg CE [C_NoListing, C_NoThing, C_NoNumber, C_NoState, C_NoMove, C_TooFar]) := by
  refine B.okH sc_law_other (fun b vs H Q E h => ?_) (fun b f cdv A outer s H vs Q E hr hh h => ?_)
  · obtain ⟨C, x, j, wt, rfl, _⟩ := h
    rfl
  · obtain ⟨C, x, j, wt, rfl, hb, ET, hj, q⟩ := h
    refine ⟨_, (pss_cons (ps_set (i := 2) sc_law_other.nd rfl (Or.inl rfl) (pe_lst (pa_cons (pe_isiE (K := K) T.isi (pv 0) (pe_glob (v := .ref C_NoListing) rfl X_NoListing rfl)) (pa_cons (pe_isiE (K := K) T.isi (pv 0) (pe_glob (v := .ref C_NoThing) rfl X_NoThing rfl))
        (pa_cons (pe_isiE (K := K) T.isi (pv 0) (pe_glob (v := .ref C_NoNumber) rfl X_NoNumber rfl)) (pa_cons (pe_isiE (K := K) T.isi (pv 0) (pe_glob (v := .ref C_NoState) rfl X_NoState rfl)) pa_nil))))))
      (pss_cons (ps_set (i := 2) sc_law_other.nd rfl (Or.inl rfl) (pe_op op_cat (pv 2) (pe_lst (pa_cons (pe_isiE (K := K) T.isi (pv 0) (pe_glob (v := .ref C_NoMove) rfl X_NoMove rfl)) (pa_cons (pe_isiE (K := K) T.isi (pv 0) (pe_glob (v := .ref C_TooFar) rfl X_TooFar rfl)) pa_nil)))))
      (pss_one (ps_ret (pe_or (pe_cmpR (op_neL hr.units0) (pv 2) (pe_lcH (eb := b) (osc := defScope s_law_other) (N := n_law_other) (caps := [("wanted", 1)]) (piH_range rfl T.rng (pa_cons pe_int pa_nil)) (fun _ _ _ _ _ => pif_nil) (fun _ _ _ _ _ => (pe_cmpR op_eq (pv 0) (pv 1) (nomark _)))
        ⟨rfl, by decide +kernel, by decide +kernel, rfl, by decide +kernel, ⟨rfl, rfl, rfl, trivial⟩, by decide +kernel⟩ hh) (nomark _)) (pe_one (pe_not (pe_isiE (K := K) T.isi (pv 0) (show PE _ _ (tC (.ty "ValueError")) from pe_bltn rfl zVE (by decide +kernel) rfl))))))))), ?_⟩
    refine ⟨_, rfl, b, C, _, _, _, rfl, hb, ET.ek, rfl, ET.is 0 _ rfl, _, rfl, b, C, _, _, _, rfl, hb, ET.ek, rfl, ET.is 1 _ rfl, _, rfl, b, C, _, _, _, rfl, hb, ET.ek, rfl, ET.is 2 _ rfl, _, rfl, b, C, _, _, _, rfl, hb, ET.ek, rfl, ET.is 3 _ rfl, (by show 4 ≤ sizeLine; decide), fun l0 h0 => ?_⟩
    have s0 := Same.layS (o := .lst [.bl (decide (0 = j)), .bl (decide (1 = j)), .bl (decide (2 = j)), .bl (decide (3 = j))]) h0
    have hb0 := s0 _ _ hb
    refine ⟨_, rfl, _, rfl, b, C, _, _, _, rfl, hb0, ET.ek, rfl, ET.is 4 _ rfl, _, rfl, b, C, _, _, _, rfl, hb0, ET.ek, rfl, ET.is 5 _ rfl, (by show 2 ≤ sizeLine; decide), fun l1 h1 => ?_⟩
    have s1 := Same.layS (o := .lst [.bl (decide (4 = j)), .bl (decide (5 = j))]) h1
    refine ⟨l0, l1, _, _, rfl, rfl, s1 _ _ upd_same, upd_same, (by show 4 + 2 ≤ sizeLine; decide), fun l2 h2 => ?_⟩
    have s2 := Same.layS (o := .lst ([V.bl (decide (0 = j)), .bl (decide (1 = j)), .bl (decide (2 = j)), .bl (decide (3 = j))] ++ [.bl (decide (4 = j)), .bl (decide (5 = j))])) h2
    have s02 := (s0.trans s1).trans s2
    refine ⟨_, rfl, 6, rfl, by omega, by omega, fun acc hacc => ?_⟩
    refine lc_rangeH (n := 6) hacc (s02 _ _ hb) (fun i => V.bl (decide (V.int (0 + (i : Int)) = V.int wt))) (by omega) (fun i hi H' R s3 hR => ?_) (fun H3 s3 e3 => ?_)
    · exact ⟨_, rfl, _, rfl, rfl, hR _ (Same.refl _)⟩
    have ea : [V.bl (decide (0 = j)), .bl (decide (1 = j)), .bl (decide (2 = j)), .bl (decide (3 = j))] ++ [.bl (decide (4 = j)), .bl (decide (5 = j))] = (sixB j).map V.bl := rfl
    have eb : (List.range 6).map (fun (i : Nat) => V.bl (decide (V.int (0 + (i : Int)) = V.int wt))) = (sixW wt).map V.bl := rfl
    have e2 := s3 _ _ (upd_same (H := upd (upd H l0 (.lst [.bl (decide (0 = j)), .bl (decide (1 = j)), .bl (decide (2 = j)), .bl (decide (3 = j))])) l1 (.lst [.bl (decide (4 = j)), .bl (decide (5 = j))])) (a := l2) (o := .lst ([V.bl (decide (0 = j)), .bl (decide (1 = j)), .bl (decide (2 = j)), .bl (decide (3 = j))] ++ [.bl (decide (4 = j)), .bl (decide (5 = j))])))
    rw [ea] at e2
    rw [eb] at e3
    refine ⟨l2, acc, _, _, rfl, rfl, SqL.of e2, SqL.of e3, all_flat_bls _, all_flat_bls _, _, rfl, ?_⟩
    rw [eqVs_bls, six_eq hj]
    by_cases e : (j : Int) = wt
    · have q1 := q H3 (s02.trans s3)
      rw [decide_eq_true e] at q1 ⊢
      refine iteF ⟨_, rfl, b, C, _, _, _, rfl, s3 _ _ (s02 _ _ hb), ET.ek, rfl, ET.val, true, rfl, q1⟩
    · have q1 := q H3 (s02.trans s3)
      rw [decide_eq_false e] at q1 ⊢
      exact iteT q1
def Sml (ns : List Int) : Prop := ns.length < 64 ∧ ∀ x ∈ ns, x.natAbs < 10 ^ 31
theorem flat_sml {ns : List Int} (h : Sml ns) : ∀ x ∈ ns.map V.int, FlatR x := fun x hx => by
  obtain ⟨i, hi, rfl⟩ := List.mem_map.mp hx
  exact log_small (h.2 i hi)
def spInE (most : Int) (CN : Addr) : Sp := fun vs H _ E => ∃ (p : Addr) (n : Int), vs = [.ref p, .int n] ∧ n.natAbs < 10 ^ 31 ∧ (n < 0 ∨ most < n) ∧ E (.ref CN) none H
theorem ok_initSwE {C CN CE : Addr} {Cs : List Addr} (B : MtB K C "__init__" "Switches.__init__" s_Switches___init ["self", "many"]) (cl : Cls K C) (c_MOST_SWITCHES : ∃ t, mg "MOST_SWITCHES" = some (.int 40 t)) (EL : ErrT K mg "NoListing" CN CE Cs 0) :
    MtG P w K mg base (CX1 P w) 1 C "__init__" ["self", "many"] (spInE 40 CN) := by
  refine B.okE cl sc_Switches___init (fun vs H Q E h => ?_) (fun f cdv A outer s H vs Q E hr h => ?_)
  · obtain ⟨p, n, rfl, _⟩ := h
    rfl
  · obtain ⟨p, n, rfl, hn, hb, hE⟩ := h
    refine ⟨_, pss_cons (ps_if (PW.pt (pw_or (pt_cmpR op_lt (pv 1) pe_int (nomark _)) (pw_or1 (pt_cmpR op_gt (pv 1) (pe_const c_MOST_SWITCHES) (nomark _))))) (pss_one (ps_raiseT makes1 EL (pa_cons (pe_fmt (pf_str (pf_int (pe_const c_MOST_SWITCHES) (pf_str (pf_int (pv 1) pf_nil))))) pa_nil))) pss_nil) pss_never, ?_⟩
    refine ⟨_, rfl, _, _, rfl, rfl, _, rfl, ite_d (fun h1 => iteT ?_) (fun h1 => ⟨_, rfl, _, _, rfl, rfl, _, rfl, iteP (hb.resolve_left h1) ?_⟩)⟩
    · exact ⟨40, rfl, by decide, _, rfl, n, rfl, log_small hn, fun x => ⟨rfl, hE⟩⟩
    · exact ⟨40, rfl, by decide, _, rfl, n, rfl, log_small hn, fun x => ⟨rfl, hE⟩⟩
theorem ok_initOdE {C CN CE : Addr} {Cs : List Addr} (B : MtB K C "__init__" "Orders.__init__" s_Orders___init ["self", "many"]) (cl : Cls K C) (c_MOST_NUMBERS_orders : ∃ t, mg "MOST_NUMBERS_orders" = some (.int 14 t)) (EL : ErrT K mg "NoListing" CN CE Cs 0) :
    MtG P w K mg base (CX1 P w) 1 C "__init__" ["self", "many"] (spInE 14 CN) := by
  refine B.okE cl sc_Orders___init (fun vs H Q E h => ?_) (fun f cdv A outer s H vs Q E hr h => ?_)
  · obtain ⟨p, n, rfl, _⟩ := h
    rfl
  · obtain ⟨p, n, rfl, hn, hb, hE⟩ := h
    refine ⟨_, pss_cons (ps_if (PW.pt (pw_or (pt_cmpR op_lt (pv 1) pe_int (nomark _)) (pw_or1 (pt_cmpR op_gt (pv 1) (pe_const c_MOST_NUMBERS_orders) (nomark _))))) (pss_one (ps_raiseT makes1 EL (pa_cons (pe_fmt (pf_str (pf_int (pe_const c_MOST_NUMBERS_orders) (pf_str (pf_int (pv 1) pf_nil))))) pa_nil))) pss_nil) pss_never, ?_⟩
    refine ⟨_, rfl, _, _, rfl, rfl, _, rfl, ite_d (fun h1 => iteT ?_) (fun h1 => ⟨_, rfl, _, _, rfl, rfl, _, rfl, iteP (hb.resolve_left h1) ?_⟩)⟩
    · exact ⟨14, rfl, by decide, _, rfl, n, rfl, log_small hn, fun x => ⟨rfl, hE⟩⟩
    · exact ⟨14, rfl, by decide, _, rfl, n, rfl, log_small hn, fun x => ⟨rfl, hE⟩⟩
def spInPkE (CN : Addr) : Sp := fun vs H _ E => ∃ (p : Addr) (n m : Int), vs = [.ref p, .int n, .int m] ∧ n.natAbs < 10 ^ 31 ∧ m.natAbs < 10 ^ 31 ∧ ¬ ((0 ≤ n ∧ n ≤ 24) ∧ (0 ≤ m ∧ m ≤ n)) ∧ E (.ref CN) none H
theorem ok_initPkE {C CN CE : Addr} {Cs : List Addr} (B : MtB K C "__init__" "Picks.__init__" s_Picks___init ["self", "many", "some"]) (cl : Cls K C) (c_MOST_NUMBERS_picks : ∃ t, mg "MOST_NUMBERS_picks" = some (.int 24 t)) (EL : ErrT K mg "NoListing" CN CE Cs 0) :
    MtG P w K mg base (CX1 P w) 1 C "__init__" ["self", "many", "some"] (spInPkE CN) := by
  refine B.okE cl sc_Picks___init (fun vs H Q E h => ?_) (fun f cdv A outer s H vs Q E hr h => ?_)
  · obtain ⟨p, n, m, rfl, _⟩ := h
    rfl
  · obtain ⟨p, n, m, rfl, hn, hm, hb, hE⟩ := h
    refine ⟨_, pss_cons (ps_if (PW.pt (pw_or (pt_cmpR op_lt (pv 1) pe_int (nomark _)) (pw_or1 (pt_cmpR op_gt (pv 1) (pe_const c_MOST_NUMBERS_picks) (nomark _))))) (pss_one (ps_raiseT makes1 EL (pa_cons (pe_fmt (pf_str (pf_int (pe_const c_MOST_NUMBERS_picks) (pf_str (pf_int (pv 1) (pf_nil)))))) pa_nil))) pss_nil)
      (pss_cons (ps_if (PW.pt (pw_or (pt_cmpR op_lt (pv 2) pe_int (nomark _)) (pw_or1 (pt_cmpR op_gt (pv 2) (pv 1) (nomark _))))) (pss_one (ps_raiseT makes1 EL (pa_cons (pe_fmt (pf_str (pf_int (pv 1) (pf_str (pf_int (pv 2) pf_nil))))) pa_nil))) pss_nil) pss_never), ?_⟩
    refine ⟨_, rfl, _, _, rfl, rfl, _, rfl, ite_d (fun h1 => iteT ?_) (fun h1 => ⟨_, rfl, _, _, rfl, rfl, _, rfl, ite_d (fun h2 => ?_) (fun h2 => ?_)⟩)⟩
    · exact ⟨24, rfl, by decide, _, rfl, n, rfl, log_small hn, fun x => ⟨rfl, hE⟩⟩
    · exact ⟨24, rfl, by decide, _, rfl, n, rfl, log_small hn, fun x => ⟨rfl, hE⟩⟩
    · refine ⟨_, rfl, _, _, rfl, rfl, _, rfl, ite_d (fun h3 => iteT ?_) (fun h3 => ⟨_, rfl, _, rfl, _, _, rfl, rfl, _, rfl, iteP (by omega) ?_⟩)⟩
      · exact ⟨_, rfl, n, rfl, log_small hn, _, rfl, m, rfl, log_small hm, fun x => ⟨rfl, hE⟩⟩
      · exact ⟨_, rfl, n, rfl, log_small hn, _, rfl, m, rfl, log_small hm, fun x => ⟨rfl, hE⟩⟩
def spCkZE (K : PySem.W.Frag) (CN : Addr) : Sp := fun vs H _ E => ∃ (a : Addr) (ns : List Int), vs = [.ref a] ∧ SqL K H a (ns.map V.int) ∧ Sml ns ∧ ¬ (ns.length ≤ 12 ∧ ∀ x ∈ ns, 1 ≤ x ∧ x ≤ 9) ∧ E (.ref CN) none H
theorem ok_ckZE {CN CE : Addr} {Cs : List Addr} (B : FnB K mg "check_sizes" s_check_sizes ["sizes"]) (T : Bs mg) (c_MOST_WHEELS : ∃ t, mg "MOST_WHEELS" = some (.int 12 t)) (c_LEAST_SIZE : ∃ t, mg "LEAST_SIZE" = some (.int 1 t)) (c_GREATEST_SIZE : ∃ t, mg "GREATEST_SIZE" = some (.int 9 t))
    (EL : ErrT K mg "NoListing" CN CE Cs 0) : FnG P w K mg base (CX1 P w) 1 "check_sizes" ["sizes"] (spCkZE K CN) := by
  refine B.okE sc_check_sizes (fun vs H Q E h => ?_) (fun f cdv A outer s H vs Q E hr h => ?_)
  · obtain ⟨a, sz, rfl, _⟩ := h
    rfl
  · obtain ⟨a, ns, rfl, ha, hs, hb, hE⟩ := h
    by_cases hl : 12 < ns.length
    · refine ⟨_, pss_cons (ps_if (pt_cmpR op_gt (pe_len T (pv 0)) (pe_const c_MOST_WHEELS) (nomark _)) (pss_one (ps_raiseT makes1 EL (pa_cons (pe_fmt (pf_str (pf_int (pe_const c_MOST_WHEELS) (pf_str (pf_repr (K := K) hr (pv 0) pf_nil))))) pa_nil))) pss_nil) pss_never, ?_⟩
      refine ⟨_, rfl, a, _, rfl, .inl ha, _, _, rfl, rfl, _, rfl, iteP (by rw [List.length_map]; omega) ?_⟩
      exact ⟨12, rfl, by decide, _, rfl, a, _, rfl, ha, by rw [List.length_map]; have := hs.1; omega, flat_sml hs, fun x => ⟨rfl, hE⟩⟩
    · refine ⟨_, pss_cons (ps_if (pt_cmpR op_gt (pe_len T (pv 0)) (pe_const c_MOST_WHEELS) (nomark _)) pss_never pss_nil)
        (pss_one (ps_raw (ps_for rawOwn rfl (pi_list (pv 0)) (pg_name (i := 1) sc_check_sizes.nd rfl (Or.inl rfl)) (pss_one (ps_if (PW.pt (pw_or (pt_cmpR op_lt (pv 1) (pe_const c_LEAST_SIZE) (nomark _)) (pw_or1 (pt_cmpR op_gt (pv 1) (pe_const c_GREATEST_SIZE) (nomark _)))))
          (pss_one (ps_raiseT rawMakes EL (pa_cons (pe_fmt (pf_str (pf_int (pe_const c_LEAST_SIZE) (pf_str (pf_int (pe_const c_GREATEST_SIZE) (pf_str (pf_int (pv 1) pf_nil))))))) pa_nil))) pss_nil))))), ?_⟩
      refine ⟨_, rfl, a, _, rfl, .inl ha, _, _, rfl, rfl, _, rfl, iteN (by rw [List.length_map]; omega) ?_⟩
      refine ⟨_, rfl, a, rfl, ⟨_, ha⟩, for_list (xs := ns.map V.int) (fun i σ H' => H' = H ∧ (∀ j x, j < i → ns[j]? = some x → 1 ≤ x ∧ x ≤ 9) ∧ ∃ v, σ = [some (.ref a), v]) ⟨rfl, fun j x hj => absurd hj (Nat.not_lt_zero j), _, rfl⟩ ?_ ?_ ?_⟩
      · rintro i σ H' _ ⟨rfl, _⟩
        exact ha
      · rintro i x σ H' hx ⟨rfl, hg, v, rfl⟩
        rw [List.getElem?_map] at hx
        cases ex : ns[i]? with
        | none => rw [ex] at hx; cases hx
        | some n =>
          rw [ex] at hx
          cases hx
          have hn := log_small (hs.2 n (List.mem_of_getElem? ex))
          refine ⟨_, rfl, _, _, rfl, rfl, _, rfl, ite_d (fun h1 => iteT ?_) (fun h1 => ⟨_, rfl, _, _, rfl, rfl, _, rfl, ite_d (fun h2 => ?_) (fun h2 => ?_)⟩)⟩
          · exact ⟨1, rfl, by decide, 9, rfl, by decide, _, rfl, n, rfl, hn, fun x => ⟨rfl, hE⟩⟩
          · exact ⟨1, rfl, by decide, 9, rfl, by decide, _, rfl, n, rfl, hn, fun x => ⟨rfl, hE⟩⟩
          · refine ⟨rfl, fun j x hj hx => ?_, _, rfl⟩
            by_cases hji : j = i
            · subst hji
              rw [ex] at hx
              cases hx
              omega
            · exact hg j x (by omega) hx
      · rintro σ H' ⟨rfl, hg, v, rfl⟩
        exfalso
        refine hb ⟨by omega, fun x hx => ?_⟩
        obtain ⟨j, hj⟩ := List.mem_iff_getElem?.mp hx
        refine hg j x ?_ hj
        rw [List.length_map]
        exact (List.getElem?_eq_some_iff.mp hj).1
def spInWhE (K : PySem.W.Frag) (CN : Addr) : Sp := fun vs H _ E => ∃ (p a : Addr) (ns : List Int), vs = [.ref p, .ref a] ∧ SqL K H a (ns.map V.int) ∧ Sml ns ∧ ¬ (ns.length ≤ 12 ∧ ∀ x ∈ ns, 1 ≤ x ∧ x ≤ 9) ∧ E (.ref CN) none H
theorem ok_initWhE {C CN : Addr} (B : MtB K C "__init__" "Wheels.__init__" s_Wheels___init ["self", "sizes"]) (cl : Cls K C) (GC : FnG P w K mg base (CX1 P w) 1 "check_sizes" ["sizes"] (spCkZE K CN)) : MtG P w K mg base (CX1 P w) 2 C "__init__" ["self", "sizes"] (spInWhE K CN) := by
  refine B.okE cl sc_Wheels___init (fun vs H Q E h => ?_) (fun f cdv A outer s H vs Q E hr h => ?_)
  · obtain ⟨p, a, ns, rfl, _⟩ := h
    rfl
  · obtain ⟨p, a, ns, rfl, ha, hs, hb, hE⟩ := h
    refine ⟨_, pss_cons (ps_expr (pe_g GC hr pass1 (pa_cons (pv 1) pa_nil))) pss_never, ?_⟩
    exact ⟨_, rfl, a, ns, rfl, ha, hs, hb, hE⟩
/-- and a list of its own -/
def spInitW (K : PySem.W.Frag) (C : Addr) : Sp := fun vs H Q _ => ∃ (p dx l : Addr) (sizes : List Nat), vs = [.ref p, .ref l] ∧ SqL K H l (vN sizes) ∧ sizes.length ≤ 12 ∧ (∀ x ∈ sizes, 1 ≤ x ∧ x ≤ 9) ∧ H p = some (.ins C dx []) ∧
  ∀ (H' : Hp) (l2 : Addr), H' p = some (.ins C dx (whF l2 (Wh.cnt sizes.reverse))) → H' l2 = some (.lst (vN sizes)) → H l2 = none → (∀ b o, H b = some o → b ≠ p → H' b = some o) → Q .non H'
theorem ok_initWhN {C : Addr} (B : MtB K C "__init__" "Wheels.__init__" s_Wheels___init ["self", "sizes"]) (T : Bs mg) (cl : Cls K C) (nS : NoAttr K C "sizes") (nT : NoAttr K C "total") (G_check_sizes : FnG P w K mg base CX0 1 "check_sizes" ["sizes"] (spCkZ K)) (G_product : FnG P w K mg base CX0 1 "product" ["sizes"] (spProd K)) :
    MtG P w K mg base CX0 2 C "__init__" ["self", "sizes"] (spInitW K C) := by
  refine B.ok cl sc_Wheels___init (fun vs H Q E h => ?_) (fun f cdv A outer s H vs Q E hr h => ?_)
  · obtain ⟨p, dx, l, sizes, rfl, _⟩ := h
    rfl
  · obtain ⟨p, dx, l, sizes, rfl, hl, h12, hm, hp, q⟩ := h
-- slots: 0 self, 1 sizes
    refine ⟨_, (pss_cons (ps_expr (pe_g G_check_sizes hr pass0 (pa_cons (pv 1) pa_nil)))
      (pss_cons (ps_fld (pv 0) (pe_callTy (call_list_of) (by rfl) T.lst (by decide +kernel) (pa_cons (pv 1) pa_nil)) rfl)
      (pss_one (ps_fld (pv 0) (pe_g G_product hr pass0 (pa_cons (pv 1) pa_nil)) rfl)))), ?_⟩
    refine ⟨_, rfl, l, sizes, rfl, hl, h12, hm, ?_⟩
    refine ⟨_, rfl, l, _, rfl, .inl hl, fun l2 hl2 => ?_⟩
    have np : p ≠ l2 := ne_of_none hp hl2
    have s1 : Same H (upd H l2 (.lst (vN sizes))) := Same.layS hl2
    refine ⟨_, rfl, p, C, dx, _, rfl, s1 _ _ hp, cl, nS, (by show 0 < 1000; decide), ?_⟩
    have hl' : SqL K (upd (upd H l2 (.lst (vN sizes))) p (.ins C dx (putF "sizes" (.ref l2) []))) l (vN sizes) := by
      rcases hl with (h | ⟨o, h⟩) | h
      · exact .inl (.inl (by rw [upd_ne (ne_of h hp (by intro z; cases z)), upd_ne (ne_of_none h hl2)]; exact h))
      · exact .inl (.inr ⟨o, by rw [upd_ne (ne_of h hp (by intro z; cases z)), upd_ne (ne_of_none h hl2)]; exact h⟩)
      · exact .inr h
    refine ⟨_, rfl, l, sizes, rfl, hl', hm, ?_⟩
    refine ⟨_, rfl, p, C, dx, _, rfl, upd_same, cl, nT, (by show 1 < 1000; decide), ?_⟩
    refine q _ l2 upd_same ?_ hl2 fun b o e hb => ?_
    · rw [upd_ne np.symm, upd_ne np.symm]
      exact upd_same
    · rw [upd_ne hb, upd_ne hb, upd_ne (ne_of_none e hl2)]
      exact e
def Gd (kind : Nat) (one two : Int) (ns : List Int) : Prop := match kind with
  | 0 => 0 ≤ one ∧ one ≤ 40
  | 1 => ns.length ≤ 12 ∧ ∀ x ∈ ns, 1 ≤ x ∧ x ≤ 9
  | 2 => (0 ≤ one ∧ one ≤ 24) ∧ (0 ≤ two ∧ two ≤ one)
  | _ => 0 ≤ one ∧ one ≤ 14
def clsOf (CS CW CP CO : Addr) : Nat → Addr
  | 0 => CS
  | 1 => CW
  | 2 => CP
  | _ => CO
def spFar : Sp := fun vs H Q _ => ∃ (c lo wd : Int), vs = [.int c, .int lo, .int wd] ∧ (0 < wd ∧ wd ≤ 100) ∧ (-10 ≤ lo ∧ lo ≤ 10) ∧ ∀ (r : Int) (H' : Hp), Same H H' → r.natAbs < 10 ^ 31 → Q (.int r) H'
theorem ok_far (B : FnB K mg "_law_far" s_law_far ["cell", "low", "wide"]) : FnG P w K mg base CX0 1 "_law_far" ["cell", "low", "wide"] spFar := by
  refine B.ok sc_law_far (fun vs H Q E h => ?_) (fun f cdv A outer s H vs Q E hr h => ?_)
  · obtain ⟨c, lo, wd, rfl, _⟩ := h
    rfl
  · obtain ⟨c, lo, wd, rfl, ⟨w1, w2⟩, ⟨l1, l2⟩, q⟩ := h
-- slots: 0 cell, 1 low, 2 wide
    refine ⟨_, (pss_cons (ps_if (pt_cmpR op_eq (pe_op op_mod (pv 0) pe_int) pe_int (nomark _))
      (pss_one (ps_ret (pe_at (pe_lst (pa_cons (pe_op op_sub (pe_op op_pow pe_int pe_int) pe_int) (pa_cons (pe_op op_sub pe_int (pe_op op_pow pe_int pe_int)) pa_nil))) (pe_op op_mod (pe_op op_fdivB (pv 0) pe_int) pe_int))))
      pss_nil)
      (pss_one (ps_ret (pe_op op_add (pv 1) (pe_op op_mod (pe_op op_fdivB (pv 0) pe_int) (pv 2)))))), ?_⟩
    refine ⟨_, rfl, _, _, rfl, rfl, (by show (0 : Int) < 7; decide), rfl, _, rfl, ite_d (fun h => ?_) (fun h => ?_)⟩
    · refine ⟨_, _, rfl, rfl, ⟨by decide, by decide, by decide⟩, _, _, rfl, rfl, _, _, rfl, rfl, ⟨by decide, by decide, by decide⟩, _, _, rfl, rfl, (by show 2 ≤ sizeLine; decide), fun l hl => ?_⟩
      have sl := Same.layS (o := .lst [V.int ((10 : Int) ^ (30 : Int).toNat - 1), V.int (1 - (10 : Int) ^ (30 : Int).toNat)]) hl
      rcases (show c / 7 % 2 = 0 ∨ c / 7 % 2 = 1 by omega) with hp | hp
      · exact ⟨_, rfl, _, _, rfl, rfl, ⟨by decide, by decide⟩, _, _, rfl, rfl, (by show (0 : Int) < 2; decide), l, _, _, V.int ((10 : Int) ^ (30 : Int).toNat - 1), rfl, rfl, SqL.of upd_same, (by rw [hp]; rfl), q _ _ sl (by decide +kernel)⟩
      · exact ⟨_, rfl, _, _, rfl, rfl, ⟨by decide, by decide⟩, _, _, rfl, rfl, (by show (0 : Int) < 2; decide), l, _, _, V.int (1 - (10 : Int) ^ (30 : Int).toNat), rfl, rfl, SqL.of upd_same, (by rw [hp]; rfl), q _ _ sl (by decide +kernel)⟩
    · refine ⟨_, rfl, _, rfl, _, _, rfl, rfl, ⟨by decide, by decide⟩, _, rfl, _, _, rfl, rfl, w1, _, _, rfl, rfl, q _ _ (Same.refl _) ?_⟩
      have h1 := Int.emod_nonneg (c / 7) (show wd ≠ 0 by omega)
      have h2 := Int.emod_lt_of_pos (c / 7) w1
      have h3 : (10 : Nat) ^ 31 = 10000000000000000000000000000000 := by decide +kernel
      omega
def badZ : V → Bool
  | .int x => !(decide (1 ≤ x) && decide (x ≤ 9))
  | _ => false
theorem badZ_len (ns : List Int) : (((ns.map V.int).filter badZ).map id).length = 0 ↔ ∀ x ∈ ns, 1 ≤ x ∧ x ≤ 9 := by
  rw [List.length_map, List.length_eq_zero_iff, List.filter_eq_nil_iff]
  constructor
  · intro h x hx
    have := h (V.int x) (List.mem_map_of_mem hx)
    simpa [badZ] using this
  · intro h v hv
    obtain ⟨x, hx, rfl⟩ := List.mem_map.mp hv
    have := h x hx
    simp [badZ, this.1, this.2]
def spGood (K : PySem.W.Frag) : Sp := fun vs H Q _ => ∃ (kind : Nat) (one two : Int) (l : Addr) (ns : List Int), vs = [.int (kind : Int), .int one, .int two, .ref l] ∧ kind < 4 ∧ SqL K H l (ns.map V.int) ∧ Sml ns ∧ ∀ (b : Bool) (H' : Hp), Same H H' → (b = true ↔ Gd kind one two ns) → Q (.bl b) H'
def spGoodH (K : PySem.W.Frag) : Addr → Sp := fun e vs H Q E => (∃ C, H e = some (ErrO C e)) ∧ spGood K vs H Q E
theorem ok_good (B : FnB K mg "_law_good" s_law_good ["kind", "one", "two", "sizes"]) (T : Bs mg) : FnG P w K mg base CX0 1 "_law_good" ["kind", "one", "two", "sizes"] (spGood K) := by
  refine B.ok sc_law_good (fun vs H Q E h => ?_) (fun f cdv A outer s H vs Q E hr h => ?_)
  · obtain ⟨kind, one, two, l, ns, rfl, _⟩ := h
    rfl
  · obtain ⟨kind, one, two, l, ns, rfl, k4, hl, hs, q⟩ := h
    refine ⟨_, (pss_cons (ps_if (pt_cmpR op_eq (pv 0) pe_int (nomark _))
      (pss_one (ps_ret (pe_chain op_le op_le pe_int (pv 1) pe_int)))
      pss_nil)
      (pss_cons (ps_if (pt_cmpR op_eq (pv 0) pe_int (nomark _))
      (pss_one (ps_ret (pe_and (pe_cmpR op_le (pe_len T (pv 3)) pe_int (nomark _)) (pe_one (pe_cmpR op_eq (pe_len T (pe_lc (osc := defScope s_law_good) (N := n_law_good) (caps := []) (pi_list (pv 3)) (fun _ _ _ _ _ => pif_one (pt_not (pt_chain op_le op_le pe_int (pv 0) pe_int))) (fun _ _ _ _ _ => (pv 0)) ⟨rfl, by decide +kernel, by decide +kernel, rfl, by decide +kernel, trivial, by decide +kernel⟩)) pe_int (nomark _))))))
      pss_nil)
      (pss_cons (ps_if (pt_cmpR op_eq (pv 0) pe_int (nomark _))
      (pss_one (ps_ret (pe_and (pe_chain op_le op_le pe_int (pv 1) pe_int) (pe_one (pe_chain op_le op_le pe_int (pv 2) (pv 1))))))
      pss_nil)
      (pss_one (ps_ret (pe_chain op_le op_le pe_int (pv 1) pe_int)))))), ?_⟩
    have no : ∀ {i j : Int}, i ≠ j → ¬ V.int i = V.int j := fun h e => h (vint e)
    rcases cases4 k4 with rfl | rfl | rfl | rfl
    · refine ⟨_, rfl, rfl, _, rfl, iteP rfl ⟨_, rfl, _, _, rfl, rfl, _, rfl, ite_d (fun h1 => ⟨_, _, rfl, rfl, q _ _ (Same.refl _) ?_⟩) (fun h1 => q _ _ (Same.refl _) ?_)⟩⟩
      · rw [decide_eq_true_iff]
        exact ⟨fun h => ⟨h1, h⟩, fun h => h.2⟩
      · exact ⟨fun h => (by cases h), fun h => absurd h.1 h1⟩
    · refine ⟨_, rfl, rfl, _, rfl, iteN (no (by decide)) ⟨_, rfl, rfl, _, rfl, iteP rfl ?_⟩⟩
      refine ⟨_, rfl, l, _, rfl, .inl hl, _, _, rfl, rfl, _, rfl, ite_d (fun h1 => ?_) (fun h1 => q _ _ (Same.refl _) ?_)⟩
      · refine ⟨_, rfl, l, rfl, ⟨_, hl⟩, fun acc hacc => ?_⟩
        refine lc_listG hacc hl (by rw [List.length_map]; have := hs.1; omega) badZ id (fun x hx H' R s1 hR => ?_) (fun x hx _ H' R s1 hR => ⟨_, rfl, hR _ (Same.refl _)⟩) (fun H1 s1 e1 => ?_)
        · obtain ⟨n, _, rfl⟩ := List.mem_map.mp hx
          have hR := hR _ (Same.refl _)
          refine ⟨_, rfl, _, _, rfl, rfl, _, rfl, ite_d (fun h2 => ⟨_, _, rfl, rfl, _, rfl, ?_⟩) (fun h2 => ⟨_, rfl, ?_⟩)⟩
          · have e : badZ (V.int n) = !decide (n ≤ 9) := by
              show (!(decide (1 ≤ n) && decide (n ≤ 9))) = _
              rw [decide_eq_true h2, Bool.true_and]
            rw [e] at hR
            exact hR
          · have e : badZ (V.int n) = true := by
              show (!(decide (1 ≤ n) && decide (n ≤ 9))) = _
              rw [decide_eq_false h2, Bool.false_and]
              rfl
            rw [e] at hR
            exact hR
        · refine ⟨acc, _, rfl, .inl (SqL.of e1), rfl, q _ _ s1 ?_⟩
          rw [decide_eq_true_iff]
          rw [List.length_map] at h1
          constructor
          · intro h
            refine ⟨by omega, (badZ_len ns).mp ?_⟩
            have := vint h
            omega
          · intro h
            have := (badZ_len ns).mpr h.2
            rw [this]
            rfl
      · rw [List.length_map] at h1
        exact ⟨fun h => (by cases h), fun h => absurd h.1 (by omega)⟩
    · refine ⟨_, rfl, rfl, _, rfl, iteN (no (by decide)) ⟨_, rfl, rfl, _, rfl, iteN (no (by decide)) ⟨_, rfl, rfl, _, rfl, iteP rfl ?_⟩⟩⟩
      refine ⟨_, rfl, _, _, rfl, rfl, _, rfl, ite_d (fun h1 => ⟨_, _, rfl, rfl, _, rfl, ite_d (fun h2 => ?_) (fun h2 => q _ _ (Same.refl _) ?_)⟩) (fun h1 => ⟨_, rfl, iteF (q _ _ (Same.refl _) ?_)⟩)⟩
      · refine ⟨_, rfl, _, _, rfl, rfl, _, rfl, ite_d (fun h3 => ⟨_, rfl, _, _, rfl, rfl, q _ _ (Same.refl _) ?_⟩) (fun h3 => q _ _ (Same.refl _) ?_)⟩
        · rw [decide_eq_true_iff]
          exact ⟨fun h => ⟨⟨h1, h2⟩, h3, h⟩, fun h => h.2.2⟩
        · exact ⟨fun h => (by cases h), fun h => absurd h.2.1 h3⟩
      · exact ⟨fun h => (by cases h), fun h => absurd h.1.2 h2⟩
      · exact ⟨fun h => (by cases h), fun h => absurd h.1.1 h1⟩
    · refine ⟨_, rfl, rfl, _, rfl, iteN (no (by decide)) ⟨_, rfl, rfl, _, rfl, iteN (no (by decide)) ⟨_, rfl, rfl, _, rfl, iteN (no (by decide)) ?_⟩⟩⟩
      refine ⟨_, rfl, _, _, rfl, rfl, _, rfl, ite_d (fun h1 => ⟨_, _, rfl, rfl, q _ _ (Same.refl _) ?_⟩) (fun h1 => q _ _ (Same.refl _) ?_)⟩
      · rw [decide_eq_true_iff]
        exact ⟨fun h => ⟨h1, h⟩, fun h => h.2⟩
      · exact ⟨fun h => (by cases h), fun h => absurd h.1 h1⟩
theorem ok_goodH (B : FnB K mg "_law_good" s_law_good ["kind", "one", "two", "sizes"]) (T : Bs mg) : FnGH P w K mg base 1 "_law_good" ["kind", "one", "two", "sizes"] (spGoodH K) := by
  refine B.okH sc_law_good (fun b vs H Q E h => ?_) (fun b f cdv A outer s H vs Q E hr hh h => ?_)
  · obtain ⟨_, kind, one, two, l, ns, rfl, _⟩ := h
    rfl
  · obtain ⟨⟨C, er⟩, kind, one, two, l, ns, rfl, k4, hl, hs, q⟩ := h
    refine ⟨_, (pss_cons (ps_if (pt_cmpR op_eq (pv 0) pe_int (nomark _))
      (pss_one (ps_ret (pe_chain op_le op_le pe_int (pv 1) pe_int)))
      pss_nil)
      (pss_cons (ps_if (pt_cmpR op_eq (pv 0) pe_int (nomark _))
      (pss_one (ps_ret (pe_and (pe_cmpR op_le (pe_len T (pv 3)) pe_int (nomark _)) (pe_one (pe_cmpR op_eq (pe_len T (pe_lcH (osc := defScope s_law_good) (N := n_law_good) (caps := []) (piH_list (pv 3)) (fun _ _ _ _ _ => pif_one (pt_not (pt_chain op_le op_le pe_int (pv 0) pe_int))) (fun _ _ _ _ _ => (pv 0)) ⟨rfl, by decide +kernel, by decide +kernel, rfl, by decide +kernel, trivial, by decide +kernel⟩ hh)) pe_int (nomark _))))))
      pss_nil)
      (pss_cons (ps_if (pt_cmpR op_eq (pv 0) pe_int (nomark _))
      (pss_one (ps_ret (pe_and (pe_chain op_le op_le pe_int (pv 1) pe_int) (pe_one (pe_chain op_le op_le pe_int (pv 2) (pv 1))))))
      pss_nil)
      (pss_one (ps_ret (pe_chain op_le op_le pe_int (pv 1) pe_int)))))), ?_⟩
    have no : ∀ {i j : Int}, i ≠ j → ¬ V.int i = V.int j := fun h e => h (vint e)
    rcases cases4 k4 with rfl | rfl | rfl | rfl
    · refine ⟨_, rfl, rfl, _, rfl, iteP rfl ⟨_, rfl, _, _, rfl, rfl, _, rfl, ite_d (fun h1 => ⟨_, _, rfl, rfl, q _ _ (Same.refl _) ?_⟩) (fun h1 => q _ _ (Same.refl _) ?_)⟩⟩
      · rw [decide_eq_true_iff]
        exact ⟨fun h => ⟨h1, h⟩, fun h => h.2⟩
      · exact ⟨fun h => (by cases h), fun h => absurd h.1 h1⟩
    · refine ⟨_, rfl, rfl, _, rfl, iteN (no (by decide)) ⟨_, rfl, rfl, _, rfl, iteP rfl ?_⟩⟩
      refine ⟨_, rfl, l, _, rfl, .inl hl, _, _, rfl, rfl, _, rfl, ite_d (fun h1 => ?_) (fun h1 => q _ _ (Same.refl _) ?_)⟩
      · refine ⟨_, rfl, l, rfl, ⟨_, hl⟩, fun acc hacc => ?_⟩
        refine lc_listH hacc er hl (by rw [List.length_map]; have := hs.1; omega) badZ id (fun x hx H' R s1 hR => ?_) (fun x hx _ H' R s1 hR => ⟨_, rfl, hR _ (Same.refl _)⟩) (fun H1 s1 e1 => ?_)
        · obtain ⟨n, _, rfl⟩ := List.mem_map.mp hx
          have hR := hR _ (Same.refl _)
          refine ⟨_, rfl, _, _, rfl, rfl, _, rfl, ite_d (fun h2 => ⟨_, _, rfl, rfl, _, rfl, ?_⟩) (fun h2 => ⟨_, rfl, ?_⟩)⟩
          · have e : badZ (V.int n) = !decide (n ≤ 9) := by
              show (!(decide (1 ≤ n) && decide (n ≤ 9))) = _
              rw [decide_eq_true h2, Bool.true_and]
            rw [e] at hR
            exact hR
          · have e : badZ (V.int n) = true := by
              show (!(decide (1 ≤ n) && decide (n ≤ 9))) = _
              rw [decide_eq_false h2, Bool.false_and]
              rfl
            rw [e] at hR
            exact hR
        · refine ⟨acc, _, rfl, .inl (SqL.of e1), rfl, q _ _ s1 ?_⟩
          rw [decide_eq_true_iff]
          rw [List.length_map] at h1
          constructor
          · intro h
            refine ⟨by omega, (badZ_len ns).mp ?_⟩
            have := vint h
            omega
          · intro h
            have := (badZ_len ns).mpr h.2
            rw [this]
            rfl
      · rw [List.length_map] at h1
        exact ⟨fun h => (by cases h), fun h => absurd h.1 (by omega)⟩
    · refine ⟨_, rfl, rfl, _, rfl, iteN (no (by decide)) ⟨_, rfl, rfl, _, rfl, iteN (no (by decide)) ⟨_, rfl, rfl, _, rfl, iteP rfl ?_⟩⟩⟩
      refine ⟨_, rfl, _, _, rfl, rfl, _, rfl, ite_d (fun h1 => ⟨_, _, rfl, rfl, _, rfl, ite_d (fun h2 => ?_) (fun h2 => q _ _ (Same.refl _) ?_)⟩) (fun h1 => ⟨_, rfl, iteF (q _ _ (Same.refl _) ?_)⟩)⟩
      · refine ⟨_, rfl, _, _, rfl, rfl, _, rfl, ite_d (fun h3 => ⟨_, rfl, _, _, rfl, rfl, q _ _ (Same.refl _) ?_⟩) (fun h3 => q _ _ (Same.refl _) ?_)⟩
        · rw [decide_eq_true_iff]
          exact ⟨fun h => ⟨⟨h1, h2⟩, h3, h⟩, fun h => h.2.2⟩
        · exact ⟨fun h => (by cases h), fun h => absurd h.2.1 h3⟩
      · exact ⟨fun h => (by cases h), fun h => absurd h.1.2 h2⟩
      · exact ⟨fun h => (by cases h), fun h => absurd h.1.1 h1⟩
    · refine ⟨_, rfl, rfl, _, rfl, iteN (no (by decide)) ⟨_, rfl, rfl, _, rfl, iteN (no (by decide)) ⟨_, rfl, rfl, _, rfl, iteN (no (by decide)) ?_⟩⟩⟩
      refine ⟨_, rfl, _, _, rfl, rfl, _, rfl, ite_d (fun h1 => ⟨_, _, rfl, rfl, q _ _ (Same.refl _) ?_⟩) (fun h1 => q _ _ (Same.refl _) ?_)⟩
      · rw [decide_eq_true_iff]
        exact ⟨fun h => ⟨h1, h⟩, fun h => h.2⟩
      · exact ⟨fun h => (by cases h), fun h => absurd h.1 h1⟩
def NewAt (CW : Addr) (C : Addr) (kind : Nat) (H H' : Hp) (p : Addr) (ns : List Int) : Prop := ∃ dx fs, H' p = some (.ins C dx fs) ∧ (kind = 1 → ∃ (l2 : Addr) (sizes : List Nat), fs = whF l2 (Wh.cnt sizes.reverse) ∧ ns = iN sizes ∧ sizes.length ≤ 12 ∧ (∀ x ∈ sizes, 1 ≤ x ∧ x ≤ 9) ∧ H' l2 = some (.lst (vN sizes)) ∧ H l2 = none)
def spNew (K : PySem.W.Frag) (CS CW CP CO CN : Addr) (all : Bool) : Sp := fun vs H Q E => ∃ (kind : Nat) (one two : Int) (l : Addr) (ns : List Int), vs = [.int (kind : Int), .int one, .int two, .ref l] ∧ kind < 4 ∧ (all = false → kind ≠ 1) ∧ one.natAbs < 10 ^ 31 ∧ two.natAbs < 10 ^ 31 ∧ SqL K H l (ns.map V.int) ∧ Sml ns ∧
  (Gd kind one two ns → ∀ (p : Addr) (H' : Hp), Same H H' → NewAt CW (clsOf CS CW CP CO kind) kind H H' p ns → Q (.ref p) H') ∧ (¬ Gd kind one two ns → ∀ H', Same H H' → E (.ref CN) none H')
theorem same2 {H : Hp} {x dx C : Addr} (nx : H x = none) (ndx : H dx = none) : Same H (upd (upd H dx (.own x)) x (.ins C dx [])) := fun b o e => by rw [upd_ne (ne_of_none e nx), upd_ne (ne_of_none e ndx)]; exact e
theorem ok_madeN {CS CW CP CO CN : Addr} (B : FnB K mg "_law_made" s_law_made ["kind", "one", "two", "sizes"]) (B_Switches : ClB K mg "Switches" CS) (B_Picks : ClB K mg "Picks" CP) (B_Orders : ClB K mg "Orders" CO)
    (G_Switches : MtG P w K mg base CX0 2 CS "__init__" ["self", "many"] (spInit CS arSw (swAt CS))) (G_Picks : MtG P w K mg base CX0 2 CP "__init__" ["self", "many", "some"] (spInit CP arPk (pkAt CP))) (G_Orders : MtG P w K mg base CX0 2 CO "__init__" ["self", "many"] (spInit CO arOd (odAt CO)))
    (GE_Switches : MtG P w K mg base (CX1 P w) 1 CS "__init__" ["self", "many"] (spInE 40 CN)) (GE_Picks : MtG P w K mg base (CX1 P w) 1 CP "__init__" ["self", "many", "some"] (spInPkE CN)) (GE_Orders : MtG P w K mg base (CX1 P w) 1 CO "__init__" ["self", "many"] (spInE 14 CN)) :
    FnG P w K mg base (CX1 P w) 4 "_law_made" ["kind", "one", "two", "sizes"] (spNew K CS CW CP CO CN false) := by
  refine B.okE sc_law_made (fun vs H Q E h => ?_) (fun f cdv A outer s H vs Q E hr h => ?_)
  · obtain ⟨kind, one, two, l, ns, rfl, _⟩ := h
    rfl
  · obtain ⟨kind, one, two, l, ns, rfl, k4, ka, h1, h2, hl, hs, qg, qb⟩ := h
    have no : ∀ {i j : Int}, i ≠ j → ¬ V.int i = V.int j := fun h e => h (vint e)
    rcases cases4 k4 with rfl | rfl | rfl | rfl
    · by_cases g : Gd 0 one two ns
      · obtain ⟨g1, g2⟩ := id g
        obtain ⟨n, rfl⟩ : ∃ n : Nat, one = (n : Int) := ⟨one.toNat, by omega⟩
        refine ⟨_, pss_cons (ps_if (pt_cmpR op_eq (pv 0) pe_int (nomark _)) (pss_one (ps_ret (pe_mk B_Switches G_Switches hr pass0 (pa_cons (pv 1) pa_nil)))) pss_nil) pss_never, ?_⟩
        refine ⟨_, rfl, rfl, _, rfl, iteP rfl ⟨_, rfl, fun x dx nx ndx ne => ⟨x, dx, _, n, 0, [], rfl, ⟨rfl, by omega⟩, upd_same, fun H1 ⟨dx', e1⟩ k1 => ⟨rfl, ?_⟩⟩⟩⟩
        exact qg g x H1 (made_same nx ndx k1) ⟨dx', _, e1, fun z => absurd z (by decide)⟩
      · refine ⟨_, pss_cons (ps_if (pt_cmpR op_eq (pv 0) pe_int (nomark _)) (pss_one (ps_ret (pe_mk B_Switches GE_Switches hr pass1 (pa_cons (pv 1) pa_nil)))) pss_nil) pss_never, ?_⟩
        have gb : one < 0 ∨ 40 < one := by
          refine Decidable.byContradiction fun z => g ⟨?_, ?_⟩ <;> omega
        exact ⟨_, rfl, rfl, _, rfl, iteP rfl ⟨_, rfl, fun x dx nx ndx ne => ⟨x, one, rfl, h1, gb, qb g _ (same2 nx ndx)⟩⟩⟩
    · exact absurd rfl (ka rfl)
    · by_cases g : Gd 2 one two ns
      · obtain ⟨⟨g1, g2⟩, g3, g4⟩ := id g
        obtain ⟨n, rfl⟩ : ∃ n : Nat, one = (n : Int) := ⟨one.toNat, by omega⟩
        obtain ⟨m, rfl⟩ : ∃ n : Nat, two = (n : Int) := ⟨two.toNat, by omega⟩
        refine ⟨_, pss_cons (ps_if (pt_cmpR op_eq (pv 0) pe_int (nomark _)) pss_never pss_nil) (pss_cons (ps_if (pt_cmpR op_eq (pv 0) pe_int (nomark _)) pss_never pss_nil) (pss_cons (ps_if (pt_cmpR op_eq (pv 0) pe_int (nomark _)) (pss_one (ps_ret (pe_mk B_Picks G_Picks hr pass0 (pa_cons (pv 1) (pa_cons (pv 2) pa_nil))))) pss_nil) pss_never)), ?_⟩
        refine ⟨_, rfl, rfl, _, rfl, iteN (no (by decide)) ⟨_, rfl, rfl, _, rfl, iteN (no (by decide)) ⟨_, rfl, rfl, _, rfl, iteP rfl ⟨_, rfl, _, rfl, fun x dx nx ndx ne => ⟨x, dx, _, n, m, [], rfl, ⟨rfl, by omega, by omega⟩, upd_same, fun H1 ⟨dx', e1⟩ k1 => ⟨rfl, ?_⟩⟩⟩⟩⟩⟩
        exact qg g x H1 (made_same nx ndx k1) ⟨dx', _, e1, fun z => absurd z (by decide)⟩
      · refine ⟨_, pss_cons (ps_if (pt_cmpR op_eq (pv 0) pe_int (nomark _)) pss_never pss_nil) (pss_cons (ps_if (pt_cmpR op_eq (pv 0) pe_int (nomark _)) pss_never pss_nil) (pss_cons (ps_if (pt_cmpR op_eq (pv 0) pe_int (nomark _)) (pss_one (ps_ret (pe_mk B_Picks GE_Picks hr pass1 (pa_cons (pv 1) (pa_cons (pv 2) pa_nil))))) pss_nil) pss_never)), ?_⟩
        exact ⟨_, rfl, rfl, _, rfl, iteN (no (by decide)) ⟨_, rfl, rfl, _, rfl, iteN (no (by decide)) ⟨_, rfl, rfl, _, rfl, iteP rfl ⟨_, rfl, _, rfl, fun x dx nx ndx ne => ⟨x, one, two, rfl, h1, h2, g, qb g _ (same2 nx ndx)⟩⟩⟩⟩⟩
    · by_cases g : Gd 3 one two ns
      · obtain ⟨g1, g2⟩ := id g
        obtain ⟨n, rfl⟩ : ∃ n : Nat, one = (n : Int) := ⟨one.toNat, by omega⟩
        refine ⟨_, pss_cons (ps_if (pt_cmpR op_eq (pv 0) pe_int (nomark _)) pss_never pss_nil) (pss_cons (ps_if (pt_cmpR op_eq (pv 0) pe_int (nomark _)) pss_never pss_nil) (pss_cons (ps_if (pt_cmpR op_eq (pv 0) pe_int (nomark _)) pss_never pss_nil) (pss_one (ps_ret (pe_mk B_Orders G_Orders hr pass0 (pa_cons (pv 1) pa_nil)))))), ?_⟩
        refine ⟨_, rfl, rfl, _, rfl, iteN (no (by decide)) ⟨_, rfl, rfl, _, rfl, iteN (no (by decide)) ⟨_, rfl, rfl, _, rfl, iteN (no (by decide)) ⟨_, rfl, fun x dx nx ndx ne => ⟨x, dx, _, n, 0, [], rfl, ⟨rfl, by omega⟩, upd_same, fun H1 ⟨dx', e1⟩ k1 => ⟨rfl, ?_⟩⟩⟩⟩⟩⟩
        exact qg g x H1 (made_same nx ndx k1) ⟨dx', _, e1, fun z => absurd z (by decide)⟩
      · refine ⟨_, pss_cons (ps_if (pt_cmpR op_eq (pv 0) pe_int (nomark _)) pss_never pss_nil) (pss_cons (ps_if (pt_cmpR op_eq (pv 0) pe_int (nomark _)) pss_never pss_nil) (pss_cons (ps_if (pt_cmpR op_eq (pv 0) pe_int (nomark _)) pss_never pss_nil) (pss_one (ps_ret (pe_mk B_Orders GE_Orders hr pass1 (pa_cons (pv 1) pa_nil)))))), ?_⟩
        have gb : one < 0 ∨ 14 < one := by
          refine Decidable.byContradiction fun z => g ⟨?_, ?_⟩ <;> omega
        exact ⟨_, rfl, rfl, _, rfl, iteN (no (by decide)) ⟨_, rfl, rfl, _, rfl, iteN (no (by decide)) ⟨_, rfl, rfl, _, rfl, iteN (no (by decide)) ⟨_, rfl, fun x dx nx ndx ne => ⟨x, one, rfl, h1, gb, qb g _ (same2 nx ndx)⟩⟩⟩⟩⟩
theorem ints_nat {ns : List Int} (h : ∀ x ∈ ns, 1 ≤ x ∧ x ≤ 9) : ∃ sizes : List Nat, ns = iN sizes ∧ ∀ x ∈ sizes, 1 ≤ x ∧ x ≤ 9 := by
  refine ⟨ns.map Int.toNat, ?_, fun x hx => ?_⟩
  · unfold iN
    rw [List.map_map]
    refine (List.map_id ns).symm.trans (List.map_congr_left fun x hx => ?_)
    have := h x hx
    show x = ((x.toNat : Nat) : Int)
    omega
  · obtain ⟨y, hy, rfl⟩ := List.mem_map.mp hx
    have := h y hy
    omega
theorem ok_new {CS CW CP CO CN : Addr} (B : FnB K mg "_law_new" s_law_new ["kind", "one", "two", "sizes"]) (B_Wheels : ClB K mg "Wheels" CW) (G_Wheels : MtG P w K mg base CX0 2 CW "__init__" ["self", "sizes"] (spInitW K CW)) (GE_Wheels : MtG P w K mg base (CX1 P w) 2 CW "__init__" ["self", "sizes"] (spInWhE K CN))
    (GM : FnG P w K mg base (CX1 P w) 4 "_law_made" ["kind", "one", "two", "sizes"] (spNew K CS CW CP CO CN false)) : FnG P w K mg base (CX1 P w) 5 "_law_new" ["kind", "one", "two", "sizes"] (spNew K CS CW CP CO CN true) := by
  refine B.okE sc_law_new (fun vs H Q E h => ?_) (fun f cdv A outer s H vs Q E hr h => ?_)
  · obtain ⟨kind, one, two, l, ns, rfl, _⟩ := h
    rfl
  · obtain ⟨kind, one, two, l, ns, rfl, k4, ka, h1, h2, hl, hs, qg, qb⟩ := h
    by_cases hk : kind = 1
    · subst hk
      by_cases g : Gd 1 one two ns
      · obtain ⟨g1, g2⟩ := id g
        obtain ⟨sizes, rfl, hm⟩ := ints_nat g2
        have hl12 : sizes.length ≤ 12 := by
          have e : (iN sizes).length = sizes.length := by unfold iN; rw [List.length_map]
          omega
        refine ⟨_, pss_cons (ps_if (pt_cmpR op_eq (pv 0) pe_int (nomark _)) (pss_one (ps_ret (pe_mk B_Wheels G_Wheels hr pass0 (pa_cons (pv 3) pa_nil)))) pss_nil) pss_never, ?_⟩
        refine ⟨_, rfl, rfl, _, rfl, iteP rfl ⟨_, rfl, fun x dx nx ndx ne => ⟨x, dx, l, sizes, rfl, ?_, hl12, hm, upd_same, fun H1 l2 e1 e2 n2 k1 => ⟨rfl, ?_⟩⟩⟩⟩
        · have := (same2 (C := CW) nx ndx).seq hl
          rw [map_iN] at this
          exact this
        · refine qg g x H1 (made_same nx ndx k1) ⟨dx, _, e1, fun _ => ⟨l2, sizes, rfl, rfl, hl12, hm, e2, old_none (same2 nx ndx) n2⟩⟩
      · refine ⟨_, pss_cons (ps_if (pt_cmpR op_eq (pv 0) pe_int (nomark _)) (pss_one (ps_ret (pe_mk B_Wheels GE_Wheels hr pass1 (pa_cons (pv 3) pa_nil)))) pss_nil) pss_never, ?_⟩
        exact ⟨_, rfl, rfl, _, rfl, iteP rfl ⟨_, rfl, fun x dx nx ndx ne => ⟨x, l, ns, rfl, (same2 nx ndx).seq hl, hs, g, qb g _ (same2 nx ndx)⟩⟩⟩
    · refine ⟨_, pss_cons (ps_if (pt_cmpR op_eq (pv 0) pe_int (nomark _)) pss_never pss_nil) (pss_one (ps_ret (pe_g GM hr pass1 (pa_cons (pv 0) (pa_cons (pv 1) (pa_cons (pv 2) (pa_cons (pv 3) pa_nil))))))), ?_⟩
      exact ⟨_, rfl, rfl, _, rfl, iteN (fun z => hk (by have := vint z; omega)) ⟨_, rfl, _, rfl, _, rfl, _, rfl, kind, one, two, l, ns, rfl, k4, fun _ => hk, h1, h2, hl, hs, qg, qb⟩⟩
theorem ixN_at {n k : Nat} (h : k < n) : ixN n (k : Int) = some k := by
  unfold ixN
  rw [if_pos (by omega)]
  simp
  exact h
def wide4 (kd : Nat) : Int := ([46, 1, 30, 20] : List Int).getD kd 1
theorem wide4_at {kd : Nat} (h : kd < 4) : atI [V.int 46, V.int 1, V.int 30, V.int 20] (kd : Int) = some (V.int (wide4 kd)) := by
  rcases cases4 h with rfl | rfl | rfl | rfl <;> rfl
theorem wide4_ok {kd : Nat} (h : kd < 4) : 0 < wide4 kd ∧ wide4 kd ≤ 100 := by
  rcases cases4 h with rfl | rfl | rfl | rfl <;> decide
theorem ok_law {fl CS CW CP CO CN CE CL : Addr} {Cs : List Addr} {fdl : FuncData} (B : Fun K "law" "law" s_law fl fdl) (T : Bs mg) (G_law_cell_at : FnG P w K mg base CX0 1 "_law_cell_at" ["script", "k"] (spCell K)) (G_law_far : FnG P w K mg base CX0 1 "_law_far" ["cell", "low", "wide"] spFar)
    (G_law_new : FnG P w K mg base (CX1 P w) 5 "_law_new" ["kind", "one", "two", "sizes"] (spNew K CS CW CP CO CN true)) (G_law_good : FnG P w K mg base CX0 1 "_law_good" ["kind", "one", "two", "sizes"] (spGood K)) (GGH : FnGH P w K mg base 1 "_law_good" ["kind", "one", "two", "sizes"] (spGoodH K))
    (GO : FnGH P w K mg base 1 "_law_other" ["e", "wanted"] (spOther K mg CE Cs)) (EL : ErrT K mg "NoListing" CN CE Cs 0) (X_ChangeError : mg "ChangeError" = some (.ref CE)) (hL : mg "Listing" = some (.ref CL)) (hI : ∀ kd, kd < 4 → ClI K (clsOf CS CW CP CO kd) ∧ PySem.W.kitOne K (.ref (clsOf CS CW CP CO kd)) (.ref CL) = some true)
    (L : LsC K CW 1 (whAt CW)) (G_many : MtG P w K mg base CX0 1 CW "many" ["self"] (spMany 1 (whAt CW))) (G_thing_at : MtG P w K mg base CX0 2 CW "thing_at" ["self", "number"] (spThingAt 1 (whAt CW))) (G_number_of : MtG P w K mg base CX0 2 CW "number_of" ["self", "thing"] (spNum K 1 (whAt CW))) :
    FnOk P w K mg base CX0 14 fl fdl ["script"] (spLaw K) := by
  refine B.ok sc_law (fun vs H Q E h => ?_) (fun cdv A outer s H vs Q E hr h => ?_)
  · obtain ⟨a, ns, rfl, _⟩ := h
    rfl
  · obtain ⟨a, ns, rfl, hS, hlen, q⟩ := h
    refine ⟨_, (pss_cons (ps_set (i := 1) sc_law.nd rfl (Or.inl rfl) (pe_op op_mod (pe_g G_law_cell_at hr pass0 (pa_cons (pv 0) (pa_cons pe_int pa_nil))) pe_int))
      (pss_cons (ps_set (i := 2) sc_law.nd rfl (Or.inl rfl) (pe_g G_law_far hr pass0 (pa_cons (pe_g G_law_cell_at hr pass0 (pa_cons (pv 0) (pa_cons pe_int pa_nil))) (pa_cons (pe_un un_neg pe_int) (pa_cons (pe_at (pe_lst (pa_cons pe_int (pa_cons pe_int (pa_cons pe_int (pa_cons pe_int pa_nil))))) (pv 1)) pa_nil)))))
      (pss_cons (ps_set (i := 3) sc_law.nd rfl (Or.inl rfl) (pe_g G_law_far hr pass0 (pa_cons (pe_g G_law_cell_at hr pass0 (pa_cons (pv 0) (pa_cons pe_int pa_nil))) (pa_cons (pe_un un_neg pe_int) (pa_cons pe_int pa_nil)))))
      (pss_cons (ps_lc (osc := defScope s_law) (N := n_law) (caps := [("script", 0)]) (i := 4) sc_law.nd rfl rfl (pi_range1 rfl T.rng (pa_cons (pe_op op_mod (pe_g G_law_cell_at hr pass0 (pa_cons (pv 0) (pa_cons pe_int pa_nil))) pe_int) pa_nil)) (fun _ _ _ _ _ => pif_nil) (fun _ _ _ _ _ => (pe_op op_add pe_int (pe_op op_mod (pe_g G_law_cell_at hr pass0 (pa_cons (pv 1) (pa_cons (pe_op op_add pe_int (pv 0)) pa_nil))) pe_int))) ⟨rfl, by decide +kernel, by decide +kernel, rfl, by decide +kernel, ⟨rfl, rfl, rfl, trivial⟩, by decide +kernel⟩)
      (pss_cons (ps_cut (ps_if (PW.pt (pw_and (pt_cmpR op_gt (pe_len T (pv 4)) pe_int (nomark _)) (pw_and1 (pt_cmpR op_eq (pe_op op_mod (pe_g G_law_cell_at hr pass0 (pa_cons (pv 0) (pa_cons pe_int pa_nil))) pe_int) pe_int (nomark _)))))
      (pss_one (ps_asg (pe_g G_law_far hr pass0 (pa_cons (pe_g G_law_cell_at hr pass0 (pa_cons (pv 0) (pa_cons pe_int pa_nil))) (pa_cons (pe_un un_neg pe_int) (pa_cons pe_int pa_nil)))) (pg_sub (pv 4) (pe_op op_mod (pe_g G_law_cell_at hr pass0 (pa_cons (pv 0) (pa_cons pe_int pa_nil))) (pe_len T (pv 4))) set_list)))
      pss_nil))
      (pss_cons (ps_set (i := 5) sc_law.nd rfl (Or.inl rfl) (pe_callTy (call_list_of) (by rfl) T.lst (by decide +kernel) (pa_cons (pv 4) pa_nil)))
      (pss_cons (ps_tryK (i := 7) (fun pn E σ0 => pss_one (ps_set (i := 6) sc_law.nd rfl (Or.inl rfl) (pe_gK G_law_new hr (pa_cons (pv 1) (pa_cons (pv 2) (pa_cons (pv 3) (pa_cons (pv 5) pa_nil)))))))
        (fun b => pss_one (ps_ret (pe_and (pe_not (pe_gH GGH (hr.hand _) rfl (pa_cons (pv 1) (pa_cons (pv 2) (pa_cons (pv 3) (pa_cons (pv 4) pa_nil)))))) (pe_and (pe_not (pe_gH GO (hr.hand _) rfl (pa_cons (pv 7) (pa_cons pe_int pa_nil)))) (pe_one (pe_cmpR (op_eqL (hr.hand _).units0) (pv 5) (pv 4) (nomark _))))))) sc_law.nd rfl rfl X_ChangeError)
      (pss_cons (ps_if (PW.pt (pw_or (pt_not (pt_val (pe_g G_law_good hr pass0 (pa_cons (pv 1) (pa_cons (pv 2) (pa_cons (pv 3) (pa_cons (pv 4) pa_nil))))))) (pw_or (pt_not (pt_val (pe_isi T.isi (pv 6) (pe_glob (v := .ref CL) rfl hL rfl)))) (pw_or1 (pt_cmpR (op_neL hr.units0) (pv 5) (pv 4) (nomark _))))))
      (pss_one (ps_ret pe_bl))
      pss_nil)
      (pss_cons (ps_if (pt_cmpR op_eq (pv 1) pe_int (nomark _))
      (pss_cons (ps_set (i := 8) sc_law.nd rfl (Or.inl rfl) (pe_m0 (pv 6) G_many hr pass0))
        (pss_cons (ps_set (i := 9) sc_law.nd rfl (Or.inl rfl) (pe_m (pv 6) G_thing_at hr pass0 (pa_cons (pe_op op_sub (pv 8) pe_int) pa_nil)))
        (pss_cons (ps_expr (pe_bm PySem.F.plainAttrs_list PySem.F.slot_list_append PySem.F.type_list_append mt_append (pv 5) (pa_cons pe_int pa_nil)))
        (pss_cons (ps_asg pe_int (pg_sub (pv 5) pe_int set_list))
        (pss_one (ps_ret (pe_and (pe_cmpR op_eq (pe_m0 (pv 6) G_many hr pass0) (pv 8) (nomark _)) (pe_and (pe_cmpR (op_eqL hr.units0) (pe_m (pv 6) G_thing_at hr pass0 (pa_cons (pe_op op_sub (pv 8) pe_int) pa_nil)) (pv 9) (nomark _)) (pe_one (pe_cmpR op_eq (pe_m (pv 6) G_number_of hr pass0 (pa_cons (pv 9) pa_nil)) (pe_op op_sub (pv 8) pe_int) (nomark _)))))))))))
      pss_nil)
      (pss_one (ps_ret pe_bl))))))))))), ?_⟩
    -- kind
    obtain ⟨kd, hkd, hkd4⟩ : ∃ m : Nat, ns.getD 0 0 % 4 = (m : Int) ∧ m < 4 := ⟨(ns.getD 0 0 % 4).toNat, by omega, by omega⟩
    refine ⟨_, rfl, a, ns, 0, rfl, hS, _, _, rfl, rfl, (by show (0 : Int) < 4; decide), ?_⟩
    dsimp only
    rw [hkd]
    -- one, two
    refine ⟨_, rfl, a, ns, 1, rfl, hS, _, rfl, (by show 4 ≤ sizeLine; decide), fun l0 hl0 => ?_⟩
    have s0 := Same.layS (o := .lst [.int 46, .int 1, .int 30, .int 20]) hl0
    refine ⟨_, rfl, l0, _, _, .int (wide4 kd), rfl, rfl, SqL.of upd_same, wide4_at hkd4, _, _, _, rfl, wide4_ok hkd4, ⟨by decide, by decide⟩, fun one H1 s1 h1 => ?_⟩
    have s01 := s0.trans s1
    refine ⟨_, rfl, a, ns, 2, rfl, s01.seq hS, _, rfl, _, _, _, rfl, ⟨by decide, by decide⟩, ⟨by decide, by decide⟩, fun two H2 s2 h2 => ?_⟩
    have s02 := s01.trans s2
    clear s0 s1 s2
    -- sizes
    obtain ⟨n, hn, hn2⟩ : ∃ m : Nat, ns.getD 1 0 % 15 = (m : Int) ∧ m ≤ 14 := ⟨(ns.getD 1 0 % 15).toNat, by omega, by omega⟩
    refine ⟨_, rfl, a, ns, 1, rfl, s02.seq hS, _, _, rfl, rfl, (by show (0 : Int) < 15; decide), (n : Int), congrArg (fun y => [V.int y]) hn, by omega, by omega, fun acc hacc => ?_⟩
    refine lc_rangeG (n := n) hacc (fun _ => true) (fun (i : Nat) => V.int (1 + ns.getD (3 + i) 0 % 9)) (by omega) (fun i hi H' R s5 hR => hR _ (Same.refl _)) (fun i hi _ H' R s5 hR => ?_) (fun H3 s3 e3 => ?_)
    · refine ⟨_, rfl, _, rfl, _, _, rfl, rfl, a, ns, 3 + i, ?_, (s02.trans s5).seq hS, _, _, rfl, rfl, (by show (0 : Int) < 9; decide), _, _, rfl, rfl, hR _ (Same.refl _)⟩
      show [V.ref a, V.int (3 + (0 + (i : Int)))] = [V.ref a, V.int ((3 + i : Nat) : Int)]
      congr 3
      omega
    rw [filter_yes] at e3
    have e3' : H3 acc = some (.lst (((List.range n).map fun (i : Nat) => 1 + ns.getD (3 + i) 0 % 9).map V.int)) := by
      rw [e3, List.map_map]
      rfl
    have s03 := s02.trans s3
    have b31 : (10 : Nat) ^ 31 = 10000000000000000000000000000000 := by decide +kernel
    have hz0 : ((List.range n).map fun (i : Nat) => 1 + ns.getD (3 + i) 0 % 9).length ≤ 14 ∧ ∀ x ∈ ((List.range n).map fun (i : Nat) => 1 + ns.getD (3 + i) 0 % 9), x.natAbs < 10 ^ 31 := by
      refine ⟨by rw [List.length_map, List.length_range]; exact hn2, fun x hx => ?_⟩
      obtain ⟨i, _, rfl⟩ := List.mem_map.mp hx
      have := Int.emod_nonneg (ns.getD (3 + i) 0) (show (9 : Int) ≠ 0 by decide)
      have := Int.emod_lt_of_pos (ns.getD (3 + i) 0) (show (0 : Int) < 9 by decide)
      omega
    generalize ((List.range n).map fun (i : Nat) => 1 + ns.getD (3 + i) 0 % 9) = zs at *
    have hacc0 : H acc = none := old_none s02 hacc
    refine ⟨fun σ H' => ∃ zs : List Int, Same H H' ∧ H' acc = some (.lst (zs.map V.int)) ∧ zs.length ≤ 14 ∧ (∀ x ∈ zs, x.natAbs < 10 ^ 31) ∧ σ = [some (.ref a), some (.int (kd : Int)), some (.int one), some (.int two), some (.ref acc), none, none, none, none, none], ?_, ?_⟩
    · refine ⟨_, rfl, acc, _, rfl, .inl (SqL.of e3'), _, _, rfl, rfl, _, rfl, ite_d (fun h3 => ?_) (fun h3 => iteF ⟨zs, s03, e3', hz0.1, hz0.2, rfl⟩)⟩
      refine ⟨_, rfl, a, ns, 2, rfl, s03.seq hS, _, _, rfl, rfl, (by show (0 : Int) < 2; decide), rfl, _, rfl, ite_d (fun h4 => ?_) (fun h4 => ⟨zs, s03, e3', hz0.1, hz0.2, rfl⟩)⟩
      refine ⟨_, rfl, a, ns, 21, rfl, s03.seq hS, _, rfl, _, _, _, rfl, ⟨by decide, by decide⟩, ⟨by decide, by decide⟩, fun r H4 s4 h5 => ?_⟩
      rw [List.length_map] at h3
      have s04 := s03.trans s4
      have e4 := s4 _ _ e3'
      obtain ⟨j, hj, hj2⟩ : ∃ j : Nat, ns.getD 20 0 % ((zs.length : Nat) : Int) = (j : Int) ∧ j < zs.length := by
        have h4 := Int.emod_nonneg (ns.getD 20 0) (show ((zs.length : Nat) : Int) ≠ 0 by omega)
        have h5 := Int.emod_lt_of_pos (ns.getD 20 0) (show (0 : Int) < ((zs.length : Nat) : Int) by omega)
        exact ⟨(ns.getD 20 0 % ((zs.length : Nat) : Int)).toNat, by omega, by omega⟩
      refine ⟨_, rfl, _, rfl, a, ns, 20, rfl, s04.seq hS, _, rfl, acc, _, rfl, .inl (SqL.of e4), _, _, rfl, rfl, ?_, acc, _, _, j, rfl, rfl, e4, ?_, zs.set j r, s04.layN hacc0, ?_, ?_, fun x hx => ?_, rfl⟩
      · rw [List.length_map]
        omega
      · rw [List.length_map, hj]
        exact ixN_at hj2
      · rw [upd_same, List.map_set]
      · rw [List.length_set]
        exact hz0.1
      · rcases List.mem_or_eq_of_mem_set hx with hx | rfl
        · exact hz0.2 x hx
        · exact h5
    clear e3 e3' hz0 s03
    rintro σ H4 ⟨zs, s4, e4, hz1, hz2, rfl⟩
    have hsm : Sml zs := ⟨by omega, hz2⟩
    -- handed
    refine ⟨_, rfl, acc, _, rfl, .inl (SqL.of e4), fun hd hhd => ?_⟩
    have s5 := Same.layS (o := .lst (zs.map V.int)) hhd
    have c4 := s5 _ _ e4
    have c5 := upd_same (H := H4) (a := hd) (o := .lst (zs.map V.int))
    have nah : acc ≠ hd := ne_of_none e4 hhd
    generalize upd H4 hd _ = H5 at *
    -- the try
    refine ⟨rfl, _, rfl, _, rfl, _, rfl, _, rfl, kd, one, two, hd, zs, rfl, hkd4, (fun z => by cases z), h1, h2, SqL.of c5, hsm, fun g p H6 s6 nw => ?_, fun g H6 s6 => ?_⟩
    · -- it is made
      obtain ⟨dx, fs, ep, hw⟩ := nw
      refine ⟨_, rfl, _, rfl, _, rfl, _, rfl, kd, one, two, acc, zs, rfl, hkd4, SqL.of (s6 _ _ c4), hsm, fun b H7 s7 hb => ?_⟩
      have hb' : b = true := hb.mpr g
      subst hb'
      have ep7 := s7 _ _ ep
      have s57 := s6.trans s7
      refine ⟨_, rfl, iteF ⟨_, rfl, _, _, _, _, true, rfl, (hI kd hkd4).1.ty ep7, rfl, (hI kd hkd4).2, _, rfl, iteF ?_⟩⟩
      refine ⟨_, rfl, _, rfl, hd, acc, _, _, rfl, rfl, SqL.of (s57 _ _ c5), SqL.of (s57 _ _ c4), all_flat_ints _, all_flat_ints _, _, rfl, ?_⟩
      rw [eqVs_ints, decide_eq_true rfl]
      refine iteF ?_
      refine ⟨_, rfl, rfl, _, rfl, ite_d (fun hk => ?_) (fun hk => q _)⟩
      have hk1 : kd = 1 := by have := vint hk; omega
      subst hk1
      obtain ⟨l2, sizes, rfl, rfl, hl12, hm9, e2, n2⟩ := hw rfl
      have F : Fit 1 0 0 sizes := ⟨by decide, Nat.le_refl _, by decide, hl12, hm9⟩
      have no : ∀ m ∈ (["many", "thing_at", "number_of", "after", "check_number", "is_thing", "thing_of", "place_of", "changed"] : List Str), (whF l2 (Wh.cnt sizes.reverse)).lookup m = none := whF_no _ _
      have hpos : 0 < cntOf 1 0 0 sizes := Wh.cnt_pos F.pos
      have at7 : whAt CW H7 p 0 0 sizes := ⟨dx, l2, ep7, s7 _ _ e2⟩
      -- many, last
      refine ⟨_, rfl, p, dx, _, rfl, ep7, no _ (by decide +kernel), p, 0, 0, sizes, rfl, F, at7, ?_⟩
      have ec : ((cntOf 1 0 0 sizes : Nat) : Int) - 1 = ((cntOf 1 0 0 sizes - 1 : Nat) : Int) := by omega
      refine ⟨_, rfl, p, dx, _, rfl, ep7, no _ (by decide +kernel), _, rfl, _, _, rfl, rfl, p, cntOf 1 0 0 sizes - 1, 0, 0, sizes, congrArg (fun z => [V.ref p, V.int z]) ec, F, at7, by omega, fun l9 H8 s8 n8 e8 => ?_⟩
      -- handed.append(5), handed[0] = 9
      have d5 := s8 _ _ (s57 _ _ c5)
      have n59 : l9 ≠ hd := fun z => by rw [z, s57 _ _ c5] at n8; cases n8
      refine ⟨_, rfl, .inl ⟨rfl, _, SqL.of d5⟩, hd, _, _, rfl, rfl, d5, small1000 (by rw [List.length_map]; omega), ?_⟩
      refine ⟨_, rfl, hd, _, _, 0, rfl, rfl, upd_same, ?_, ?_⟩
      · rw [List.length_append]
        exact ixN_at (k := 0) (by simp)
      have keep : ∀ {x : Addr} {o : HO}, H8 x = some o → x ≠ hd → ∀ o1 o2 : HO, (upd (upd H8 hd o1) hd o2) x = some o := fun {x o} hx ne o1 o2 => by
        rw [upd_ne ne, upd_ne ne]
        exact hx
      have f1 := keep (s8 _ _ ep7) (fun z => by rw [z] at ep; rw [s6 _ _ c5] at ep; cases ep)
      have f2 := keep (s8 _ _ (s7 _ _ e2)) (fun z => by rw [z, c5] at n2; cases n2)
      have f3 := keep e8 n59
      generalize hgen : upd (upd H8 hd _) hd _ = H9
      have f1 : H9 p = some (.ins CW dx (whF l2 (Wh.cnt sizes.reverse))) := by rw [← hgen]; exact f1 _ _
      have f2 : H9 l2 = some (.lst (vN sizes)) := by rw [← hgen]; exact f2 _ _
      have f3 : H9 l9 = some (.lst (vN (thN 1 0 0 sizes (cntOf 1 0 0 sizes - 1)))) := by rw [← hgen]; exact f3 _ _
      have at9 : whAt CW H9 p 0 0 sizes := ⟨dx, l2, f1, f2⟩
      refine ⟨_, rfl, p, dx, _, rfl, f1, no _ (by decide +kernel), p, 0, 0, sizes, rfl, F, at9, _, rfl, rfl, _, rfl, iteP rfl ?_⟩
      refine ⟨_, rfl, p, dx, _, rfl, f1, no _ (by decide +kernel), _, rfl, _, _, rfl, rfl, p, cntOf 1 0 0 sizes - 1, 0, 0, sizes, congrArg (fun z => [V.ref p, V.int z]) ec, F, at9, by omega, fun l10 H10 s10 n10 e10 => ?_⟩
      refine ⟨_, rfl, l10, l9, _, _, rfl, rfl, SqL.of e10, SqL.of (s10 _ _ f3), vN_flat _, vN_flat _, _, rfl, ?_⟩
      rw [eqVs_vN, decide_eq_true rfl]
      refine iteT ?_
      have hlt : cntOf 1 0 0 sizes - 1 < cntOf 1 0 0 sizes := by omega
      refine ⟨_, rfl, p, dx, _, rfl, s10 _ _ f1, no _ (by decide +kernel), _, rfl, p, l9, thN 1 0 0 sizes (cntOf 1 0 0 sizes - 1), 0, 0, sizes, rfl, F, L.same at9 s10, SqL.of (s10 _ _ f3), F.is hlt, fun H11 s11 => ?_⟩
      refine ⟨_, rfl, _, _, rfl, rfl, rfl, bl_dec (congrArg V.int ?_) (q _)⟩
      rw [F.num_th hlt]
      omega
    · -- it is refused
      refine ⟨CN, rfl, EL.caught, fun e ne => ?_⟩
      have se := Same.layS (o := ErrO CN e) ne
      have ee := upd_same (H := H6) (a := e) (o := ErrO CN e)
      have s5e := s6.trans se
      generalize upd H6 e _ = H7 at *
      refine ⟨_, rfl, _, rfl, _, rfl, _, rfl, ⟨CN, ee⟩, kd, one, two, acc, zs, rfl, hkd4, SqL.of (s5e _ _ c4), hsm, fun b H8 s8 hb => ?_⟩
      have hb' : b = false := by
        cases b with
        | true => exact absurd (hb.mp rfl) g
        | false => rfl
      subst hb'
      refine ⟨_, rfl, _, rfl, iteT ?_⟩
      refine ⟨_, rfl, CN, _, 0, 0, rfl, s8 _ _ ee, EL, by decide, fun H9 s9 => ?_⟩
      refine ⟨_, rfl, _, rfl, iteTt (by decide) ?_⟩
      have s59 := (s5e.trans s8).trans s9
      refine ⟨_, rfl, _, rfl, hd, acc, _, _, rfl, rfl, SqL.of (s59 _ _ c5), SqL.of (s59 _ _ c4), all_flat_ints _, all_flat_ints _, ?_⟩
      rw [eqVs_ints, decide_eq_true rfl]
      exact q _
theorem main {C_Switches C_Wheels C_Picks C_Orders C_Listing C_ChangeError C_NoListing C_NoThing C_NoNumber C_NoState C_NoMove C_TooFar fl : Addr} {fdl : FuncData} (F : Fun K "law" "law" s_law fl fdl) (T : Txt K mg C_Switches C_Wheels C_Picks C_Orders C_Listing C_ChangeError C_NoListing C_NoThing C_NoNumber C_NoState C_NoMove C_TooFar)
    (D : Dfs K mg C_Switches C_Wheels C_Picks C_Orders C_Listing C_ChangeError C_NoListing C_NoThing C_NoNumber C_NoState C_NoMove C_TooFar) : FnOk P w K mg base CX0 14 fl fdl ["script"] (spLaw K) := by
  have GE := ok_cell (P := P) (w := w) (base := base) D.f_law_cell_at T.bs
  have GSw := ok_initSw (P := P) (w := w) (base := base) D.m_Switches_init T.B_Switches.cl T.n_Switches_size T.n_Switches_total T.c_MOST_SWITCHES (ok_doubled D.f_doubled T.bs)
  have GPk := ok_initPk (P := P) (w := w) (base := base) D.m_Picks_init T.B_Picks.cl T.n_Picks_size T.n_Picks_some T.n_Picks_total T.c_MOST_NUMBERS_picks (ok_bin D.f_picks_of T.bs)
  have GOd := ok_initOd (P := P) (w := w) (base := base) D.m_Orders_init T.B_Orders.cl T.n_Orders_size T.n_Orders_total T.c_MOST_NUMBERS_orders (ok_fac D.f_orders_of T.bs)
  have GWh := ok_initWhN (P := P) (w := w) (base := base) D.m_Wheels_init T.bs T.B_Wheels.cl T.n_Wheels_sizes T.n_Wheels_total (ok_ckZ D.f_check_sizes T.bs T.c_MOST_WHEELS T.c_LEAST_SIZE T.c_GREATEST_SIZE) (ok_prod D.f_product T.bs)
  have GSwE := ok_initSwE (P := P) (w := w) (base := base) D.m_Switches_init T.B_Switches.cl T.c_MOST_SWITCHES T.E_NoListing
  have GPkE := ok_initPkE (P := P) (w := w) (base := base) D.m_Picks_init T.B_Picks.cl T.c_MOST_NUMBERS_picks T.E_NoListing
  have GOdE := ok_initOdE (P := P) (w := w) (base := base) D.m_Orders_init T.B_Orders.cl T.c_MOST_NUMBERS_orders T.E_NoListing
  have GWhE := ok_initWhE (P := P) (w := w) (base := base) D.m_Wheels_init T.B_Wheels.cl (ok_ckZE D.f_check_sizes T.bs T.c_MOST_WHEELS T.c_LEAST_SIZE T.c_GREATEST_SIZE T.E_NoListing)
  have GM := ok_madeN (P := P) (w := w) (base := base) (CW := C_Wheels) D.f_law_made T.B_Switches T.B_Picks T.B_Orders GSw GPk GOd GSwE GPkE GOdE
  have GN := ok_new (P := P) (w := w) (base := base) D.f_law_new T.B_Wheels GWh GWhE GM
  have GO := ok_other (P := P) (w := w) (base := base) (CE := C_ChangeError) D.f_law_other T.bs T.zVE T.X_NoListing T.X_NoThing T.X_NoNumber T.X_NoState T.X_NoMove T.X_TooFar
  have L := wh_ls T.B_Wheels.cl T.n_Wheels_total
  have GK := ok_check (P := P) (w := w) (mg := mg) (base := base) D.m_Wheels_check_number L
  refine ok_law F T.bs GE (ok_far D.f_law_far) GN (ok_good D.f_law_good T.bs) (ok_goodH D.f_law_good T.bs) GO T.E_NoListing T.X_ChangeError T.hL ?_ L (ok_many D.m_Wheels_many L) (ok_thingAt D.m_Wheels_thing_at L GK (ok_thWh D.m_Wheels_thing_of T.bs T.B_Wheels.cl T.n_Wheels_sizes T.n_Wheels_total) (by decide))
    (ok_numberOf D.m_Wheels_number_of L (ok_isWh D.m_Wheels_is_thing T.bs T.B_Wheels.cl T.n_Wheels_sizes) (ok_plWh D.m_Wheels_place_of T.bs T.B_Wheels.cl T.n_Wheels_sizes))
  intro kd h
  rcases cases4 h with rfl | rfl | rfl | rfl
  · exact ⟨T.I_Switches, T.L_Switches⟩
  · exact ⟨T.I_Wheels, T.L_Wheels⟩
  · exact ⟨T.I_Picks, T.L_Picks⟩
  · exact ⟨T.I_Orders, T.L_Orders⟩
end
theorem all_mk {l : PySem.W.OpenLaw} {w : World} {K : PySem.W.Frag} {h : Heap} {mg : Str → Option Value} {fa C_Switches C_Wheels C_Picks C_Orders C_Listing C_ChangeError C_NoListing C_NoThing C_NoNumber C_NoState C_NoMove C_TooFar f1 f2 f3 f4 f5 f6 f7 f8 f9 f10 f11 f12 f13 f14 f15 f16 f17 f18 f19 f20 f21 f22 f23 : Addr} (KX : K.In h) (G : h.Ns mainGlobals mg) (hfa : mg "law" = some (.ref fa))
    {od1 an1 od2 an2 od3 an3 od4 an4 od5 an5 od6 an6 od7 an7 od8 an8 od9 an9 od10 an10 od11 an11 od12 an12 od13 an13 od14 an14 od15 an15 od16 an16 od17 an17 od18 an18 od19 an19 od20 an20 od21 an21 od22 an22 od23 an23 : Option Addr} {sl1 sl2 sl3 sl4 sl5 sl6 sl7 sl8 sl9 sl10 sl11 sl12 sl13 sl14 sl15 sl16 sl17 sl18 sl19 sl20 sl21 sl22 sl23 : Array (Option Value)} {oc1 kV1 dc1 pm1 cd1 ct1 oc2 kV2 dc2 pm2 cd2 ct2 oc3 kV3 dc3 pm3 cd3 ct3 oc4 kV4 dc4 pm4 cd4 ct4 oc5 kV5 dc5 pm5 cd5 ct5 oc6 kV6 dc6 pm6 cd6 ct6 oc7 kV7 dc7 pm7 cd7 ct7 oc8 kV8 dc8 pm8 cd8 ct8 oc9 kV9 dc9 pm9 cd9 ct9 oc10 kV10 dc10 pm10 cd10 ct10 oc11 kV11 dc11 pm11 cd11 ct11 oc12 kV12 dc12 pm12 cd12 ct12 oc13 kV13 dc13 pm13 cd13 ct13 oc14 kV14 dc14 pm14 cd14 ct14 oc15 kV15 dc15 pm15 cd15 ct15 oc16 kV16 dc16 pm16 cd16 ct16 oc17 kV17 dc17 pm17 cd17 ct17 oc18 kV18 dc18 pm18 cd18 ct18 oc19 kV19 dc19 pm19 cd19 ct19 oc20 kV20 dc20 pm20 cd20 ct20 oc21 kV21 dc21 pm21 cd21 ct21 oc22 kV22 dc22 pm22 cd22 ct22 oc23 kV23 dc23 pm23 cd23 ct23 : Value} {t0 t1 t2 t3 t4 t5 : Tok} {cd_Listing cdE_ChangeError cdE_NoListing cdE_NoThing cdE_NoNumber cdE_NoState cdE_NoMove cdE_TooFar : ClassData}
    (a_Listing : PySem.W.nsIn K mainGlobals "Listing" = some (some (.ref C_Listing)))
    (a_Switches : PySem.W.nsIn K mainGlobals "Switches" = some (some (.ref C_Switches)))
    (pg_Switches : PySem.W.plainGet K C_Switches Str.empty = true)
    (hd_Switches : PySem.W.hasDictIn K C_Switches = true)
    (po_Switches : PySem.W.plainOver K C_Switches = true)
    (sa_Switches : PySem.W.findIn K (.ref C_Switches) "__setattr__" = some (some (.builtin "object.__setattr__")))
    (mk_Switches : PySem.W.makesIn K C_Switches = true)
    (kc_Switches : PySem.W.keepIn K (.ref C_Switches) = true)
    (n_Switches_size : PySem.W.findIn K (.ref C_Switches) "size" = some none)
    (n_Switches_total : PySem.W.findIn K (.ref C_Switches) "total" = some none)
    (ha_Switches : PySem.W.findIn K (.ref C_Switches) "__class__" = some (some (.builtin "object.__class__")))
    (hm_Switches : PySem.W.mroIn K C_Switches (.type "object") = some true)
    (il_Switches : PySem.W.subIn K (.ref C_Switches) (.ref C_Listing) = some true)
    (a_Wheels : PySem.W.nsIn K mainGlobals "Wheels" = some (some (.ref C_Wheels)))
    (pg_Wheels : PySem.W.plainGet K C_Wheels Str.empty = true)
    (hd_Wheels : PySem.W.hasDictIn K C_Wheels = true)
    (po_Wheels : PySem.W.plainOver K C_Wheels = true)
    (sa_Wheels : PySem.W.findIn K (.ref C_Wheels) "__setattr__" = some (some (.builtin "object.__setattr__")))
    (mk_Wheels : PySem.W.makesIn K C_Wheels = true)
    (kc_Wheels : PySem.W.keepIn K (.ref C_Wheels) = true)
    (n_Wheels_sizes : PySem.W.findIn K (.ref C_Wheels) "sizes" = some none)
    (n_Wheels_total : PySem.W.findIn K (.ref C_Wheels) "total" = some none)
    (ha_Wheels : PySem.W.findIn K (.ref C_Wheels) "__class__" = some (some (.builtin "object.__class__")))
    (hm_Wheels : PySem.W.mroIn K C_Wheels (.type "object") = some true)
    (il_Wheels : PySem.W.subIn K (.ref C_Wheels) (.ref C_Listing) = some true)
    (a_Picks : PySem.W.nsIn K mainGlobals "Picks" = some (some (.ref C_Picks)))
    (pg_Picks : PySem.W.plainGet K C_Picks Str.empty = true)
    (hd_Picks : PySem.W.hasDictIn K C_Picks = true)
    (po_Picks : PySem.W.plainOver K C_Picks = true)
    (sa_Picks : PySem.W.findIn K (.ref C_Picks) "__setattr__" = some (some (.builtin "object.__setattr__")))
    (mk_Picks : PySem.W.makesIn K C_Picks = true)
    (kc_Picks : PySem.W.keepIn K (.ref C_Picks) = true)
    (n_Picks_size : PySem.W.findIn K (.ref C_Picks) "size" = some none)
    (n_Picks_some : PySem.W.findIn K (.ref C_Picks) "some" = some none)
    (n_Picks_total : PySem.W.findIn K (.ref C_Picks) "total" = some none)
    (ha_Picks : PySem.W.findIn K (.ref C_Picks) "__class__" = some (some (.builtin "object.__class__")))
    (hm_Picks : PySem.W.mroIn K C_Picks (.type "object") = some true)
    (il_Picks : PySem.W.subIn K (.ref C_Picks) (.ref C_Listing) = some true)
    (a_Orders : PySem.W.nsIn K mainGlobals "Orders" = some (some (.ref C_Orders)))
    (pg_Orders : PySem.W.plainGet K C_Orders Str.empty = true)
    (hd_Orders : PySem.W.hasDictIn K C_Orders = true)
    (po_Orders : PySem.W.plainOver K C_Orders = true)
    (sa_Orders : PySem.W.findIn K (.ref C_Orders) "__setattr__" = some (some (.builtin "object.__setattr__")))
    (mk_Orders : PySem.W.makesIn K C_Orders = true)
    (kc_Orders : PySem.W.keepIn K (.ref C_Orders) = true)
    (n_Orders_size : PySem.W.findIn K (.ref C_Orders) "size" = some none)
    (n_Orders_total : PySem.W.findIn K (.ref C_Orders) "total" = some none)
    (ha_Orders : PySem.W.findIn K (.ref C_Orders) "__class__" = some (some (.builtin "object.__class__")))
    (hm_Orders : PySem.W.mroIn K C_Orders (.type "object") = some true)
    (il_Orders : PySem.W.subIn K (.ref C_Orders) (.ref C_Listing) = some true)
    (hn_ : PySem.W.specialIn K (.builtin "object.__class__") "__get__" = some (some (.builtin "getset_descriptor.__get__")))
    (htk_ : PySem.W.takesIn K (.builtin "object.__class__") = some true)
    (cl_Listing : PySem.W.clsIn K C_Listing = some cd_Listing)
    (ty_Listing : PySem.W.typeIn K (.ref C_Listing) = some (.type "type"))
    (a_ChangeError : PySem.W.nsIn K mainGlobals "ChangeError" = some (some (.ref C_ChangeError)))
    (clE_ChangeError : PySem.W.clsIn K C_ChangeError = some cdE_ChangeError)
    (tyE_ChangeError : PySem.W.typeIn K (.ref C_ChangeError) = some (.type "type"))
    (a_NoListing : PySem.W.nsIn K mainGlobals "NoListing" = some (some (.ref C_NoListing)))
    (clE_NoListing : PySem.W.clsIn K C_NoListing = some cdE_NoListing)
    (tyE_NoListing : PySem.W.typeIn K (.ref C_NoListing) = some (.type "type"))
    (a_NoThing : PySem.W.nsIn K mainGlobals "NoThing" = some (some (.ref C_NoThing)))
    (clE_NoThing : PySem.W.clsIn K C_NoThing = some cdE_NoThing)
    (tyE_NoThing : PySem.W.typeIn K (.ref C_NoThing) = some (.type "type"))
    (a_NoNumber : PySem.W.nsIn K mainGlobals "NoNumber" = some (some (.ref C_NoNumber)))
    (clE_NoNumber : PySem.W.clsIn K C_NoNumber = some cdE_NoNumber)
    (tyE_NoNumber : PySem.W.typeIn K (.ref C_NoNumber) = some (.type "type"))
    (a_NoState : PySem.W.nsIn K mainGlobals "NoState" = some (some (.ref C_NoState)))
    (clE_NoState : PySem.W.clsIn K C_NoState = some cdE_NoState)
    (tyE_NoState : PySem.W.typeIn K (.ref C_NoState) = some (.type "type"))
    (a_NoMove : PySem.W.nsIn K mainGlobals "NoMove" = some (some (.ref C_NoMove)))
    (clE_NoMove : PySem.W.clsIn K C_NoMove = some cdE_NoMove)
    (tyE_NoMove : PySem.W.typeIn K (.ref C_NoMove) = some (.type "type"))
    (a_TooFar : PySem.W.nsIn K mainGlobals "TooFar" = some (some (.ref C_TooFar)))
    (clE_TooFar : PySem.W.clsIn K C_TooFar = some cdE_TooFar)
    (tyE_TooFar : PySem.W.typeIn K (.ref C_TooFar) = some (.type "type"))
    (sbE_ : PySem.W.subIn K (.ref C_ChangeError) (.type "BaseException") = some true)
    (z_VE : PySem.W.nsIn K mainGlobals "ValueError" = some none)
    (ga_NoListing : PySem.W.findIn K (.ref C_NoListing) "__getattribute__" = some (some (.builtin "BaseException.__getattribute__")))
    (gh_NoListing : PySem.W.findIn K (.ref C_NoListing) "__getattr__" = some none)
    (ca_NoListing : PySem.W.findIn K (.ref C_NoListing) "__class__" = some (some (.builtin "object.__class__")))
    (sb_NoListing : PySem.W.subIn K (.ref C_NoListing) (.type "BaseException") = some true)
    (ob_NoListing : PySem.W.mroIn K C_NoListing (.type "object") = some true)
    (ex_NoListing : PySem.W.excIn K C_NoListing mroV "ValueError.__new__" = true)
    (su_NoListing : PySem.W.subIn K (.ref C_NoListing) (.ref C_ChangeError) = some true)
    (sv_NoListing : PySem.W.subIn K (.ref C_NoListing) (.type "ValueError") = some true)
    (s_NoListing_NoListing : PySem.W.subIn K (.ref C_NoListing) (.ref C_NoListing) = some true)
    (s_NoListing_NoThing : PySem.W.subIn K (.ref C_NoListing) (.ref C_NoThing) = some false)
    (ne_NoListing_NoThing : (C_NoListing == C_NoThing) = false)
    (s_NoListing_NoNumber : PySem.W.subIn K (.ref C_NoListing) (.ref C_NoNumber) = some false)
    (ne_NoListing_NoNumber : (C_NoListing == C_NoNumber) = false)
    (s_NoListing_NoState : PySem.W.subIn K (.ref C_NoListing) (.ref C_NoState) = some false)
    (ne_NoListing_NoState : (C_NoListing == C_NoState) = false)
    (s_NoListing_NoMove : PySem.W.subIn K (.ref C_NoListing) (.ref C_NoMove) = some false)
    (ne_NoListing_NoMove : (C_NoListing == C_NoMove) = false)
    (s_NoListing_TooFar : PySem.W.subIn K (.ref C_NoListing) (.ref C_TooFar) = some false)
    (ne_NoListing_TooFar : (C_NoListing == C_TooFar) = false)
    (x0 : PySem.W.nsIn K mainGlobals "MOST_SWITCHES" = some (some (.int 40 t0)))
    (x1 : PySem.W.nsIn K mainGlobals "MOST_WHEELS" = some (some (.int 12 t1)))
    (x2 : PySem.W.nsIn K mainGlobals "LEAST_SIZE" = some (some (.int 1 t2)))
    (x3 : PySem.W.nsIn K mainGlobals "GREATEST_SIZE" = some (some (.int 9 t3)))
    (x4 : PySem.W.nsIn K mainGlobals "MOST_NUMBERS_picks" = some (some (.int 24 t4)))
    (x5 : PySem.W.nsIn K mainGlobals "MOST_NUMBERS_orders" = some (some (.int 14 t5)))
    (z_range : PySem.W.nsIn K mainGlobals "range" = some none)
    (z_len : PySem.W.nsIn K mainGlobals "len" = some none)
    (z_isinstance : PySem.W.nsIn K mainGlobals "isinstance" = some none)
    (z_list : PySem.W.nsIn K mainGlobals "list" = some none)
    (z_int : PySem.W.nsIn K mainGlobals "int" = some none)
    (z_bool : PySem.W.nsIn K mainGlobals "bool" = some none)
    (z_zip : PySem.W.nsIn K mainGlobals "zip" = some none)
    (z_sorted : PySem.W.nsIn K mainGlobals "sorted" = some none)
    (z_abs : PySem.W.nsIn K mainGlobals "abs" = some none)
    (z_max : PySem.W.nsIn K mainGlobals "max" = some none)
    (z_reversed : PySem.W.nsIn K mainGlobals "reversed" = some none)
    (z_tuple : PySem.W.nsIn K mainGlobals "tuple" = some none)
    (z_min : PySem.W.nsIn K mainGlobals "min" = some none)
    (z_enumerate : PySem.W.nsIn K mainGlobals "enumerate" = some none)
    (a1 : PySem.W.findIn K (.ref C_Switches) "__init__" = some (some (.ref f1)))
    (i1 : PySem.W.isFn K (.ref f1) = true)
    (l1 : K.lookup f1 = some ⟨oc1, od1, .func (PySem.W.fnOf "__init__" "Switches.__init__" (defArgs s_Switches___init) (defBody s_Switches___init) (defScope s_Switches___init) .none kV1 dc1 pm1 an1 cd1 ct1), sl1⟩)
    (c1 : PySem.W.codeIn K cd1 "Switches.__init__" = true)
    (k1 : PySem.W.keepIn K (.ref f1) = true)
    (a2 : PySem.W.findIn K (.ref C_Wheels) "__init__" = some (some (.ref f2)))
    (i2 : PySem.W.isFn K (.ref f2) = true)
    (l2 : K.lookup f2 = some ⟨oc2, od2, .func (PySem.W.fnOf "__init__" "Wheels.__init__" (defArgs s_Wheels___init) (defBody s_Wheels___init) (defScope s_Wheels___init) .none kV2 dc2 pm2 an2 cd2 ct2), sl2⟩)
    (c2 : PySem.W.codeIn K cd2 "Wheels.__init__" = true)
    (k2 : PySem.W.keepIn K (.ref f2) = true)
    (a3 : PySem.W.findIn K (.ref C_Wheels) "many" = some (some (.ref f3)))
    (i3 : PySem.W.isFn K (.ref f3) = true)
    (l3 : K.lookup f3 = some ⟨oc3, od3, .func (PySem.W.fnOf "many" "Listing.many" (defArgs s_Listing_many) (defBody s_Listing_many) (defScope s_Listing_many) .none kV3 dc3 pm3 an3 cd3 ct3), sl3⟩)
    (c3 : PySem.W.codeIn K cd3 "Listing.many" = true)
    (k3 : PySem.W.keepIn K (.ref f3) = true)
    (a4 : PySem.W.findIn K (.ref C_Wheels) "thing_at" = some (some (.ref f4)))
    (i4 : PySem.W.isFn K (.ref f4) = true)
    (l4 : K.lookup f4 = some ⟨oc4, od4, .func (PySem.W.fnOf "thing_at" "Listing.thing_at" (defArgs s_Listing_thing_at) (defBody s_Listing_thing_at) (defScope s_Listing_thing_at) .none kV4 dc4 pm4 an4 cd4 ct4), sl4⟩)
    (c4 : PySem.W.codeIn K cd4 "Listing.thing_at" = true)
    (k4 : PySem.W.keepIn K (.ref f4) = true)
    (a5 : PySem.W.findIn K (.ref C_Wheels) "number_of" = some (some (.ref f5)))
    (i5 : PySem.W.isFn K (.ref f5) = true)
    (l5 : K.lookup f5 = some ⟨oc5, od5, .func (PySem.W.fnOf "number_of" "Listing.number_of" (defArgs s_Listing_number_of) (defBody s_Listing_number_of) (defScope s_Listing_number_of) .none kV5 dc5 pm5 an5 cd5 ct5), sl5⟩)
    (c5 : PySem.W.codeIn K cd5 "Listing.number_of" = true)
    (k5 : PySem.W.keepIn K (.ref f5) = true)
    (a6 : PySem.W.findIn K (.ref C_Wheels) "check_number" = some (some (.ref f6)))
    (i6 : PySem.W.isFn K (.ref f6) = true)
    (l6 : K.lookup f6 = some ⟨oc6, od6, .func (PySem.W.fnOf "check_number" "Listing.check_number" (defArgs s_Listing_check_number) (defBody s_Listing_check_number) (defScope s_Listing_check_number) .none kV6 dc6 pm6 an6 cd6 ct6), sl6⟩)
    (c6 : PySem.W.codeIn K cd6 "Listing.check_number" = true)
    (k6 : PySem.W.keepIn K (.ref f6) = true)
    (a7 : PySem.W.findIn K (.ref C_Wheels) "is_thing" = some (some (.ref f7)))
    (i7 : PySem.W.isFn K (.ref f7) = true)
    (l7 : K.lookup f7 = some ⟨oc7, od7, .func (PySem.W.fnOf "is_thing" "Wheels.is_thing" (defArgs s_Wheels_is_thing) (defBody s_Wheels_is_thing) (defScope s_Wheels_is_thing) .none kV7 dc7 pm7 an7 cd7 ct7), sl7⟩)
    (c7 : PySem.W.codeIn K cd7 "Wheels.is_thing" = true)
    (k7 : PySem.W.keepIn K (.ref f7) = true)
    (a8 : PySem.W.findIn K (.ref C_Wheels) "thing_of" = some (some (.ref f8)))
    (i8 : PySem.W.isFn K (.ref f8) = true)
    (l8 : K.lookup f8 = some ⟨oc8, od8, .func (PySem.W.fnOf "thing_of" "Wheels.thing_of" (defArgs s_Wheels_thing_of) (defBody s_Wheels_thing_of) (defScope s_Wheels_thing_of) .none kV8 dc8 pm8 an8 cd8 ct8), sl8⟩)
    (c8 : PySem.W.codeIn K cd8 "Wheels.thing_of" = true)
    (k8 : PySem.W.keepIn K (.ref f8) = true)
    (a9 : PySem.W.findIn K (.ref C_Wheels) "place_of" = some (some (.ref f9)))
    (i9 : PySem.W.isFn K (.ref f9) = true)
    (l9 : K.lookup f9 = some ⟨oc9, od9, .func (PySem.W.fnOf "place_of" "Wheels.place_of" (defArgs s_Wheels_place_of) (defBody s_Wheels_place_of) (defScope s_Wheels_place_of) .none kV9 dc9 pm9 an9 cd9 ct9), sl9⟩)
    (c9 : PySem.W.codeIn K cd9 "Wheels.place_of" = true)
    (k9 : PySem.W.keepIn K (.ref f9) = true)
    (a10 : PySem.W.findIn K (.ref C_Picks) "__init__" = some (some (.ref f10)))
    (i10 : PySem.W.isFn K (.ref f10) = true)
    (l10 : K.lookup f10 = some ⟨oc10, od10, .func (PySem.W.fnOf "__init__" "Picks.__init__" (defArgs s_Picks___init) (defBody s_Picks___init) (defScope s_Picks___init) .none kV10 dc10 pm10 an10 cd10 ct10), sl10⟩)
    (c10 : PySem.W.codeIn K cd10 "Picks.__init__" = true)
    (k10 : PySem.W.keepIn K (.ref f10) = true)
    (a11 : PySem.W.findIn K (.ref C_Orders) "__init__" = some (some (.ref f11)))
    (i11 : PySem.W.isFn K (.ref f11) = true)
    (l11 : K.lookup f11 = some ⟨oc11, od11, .func (PySem.W.fnOf "__init__" "Orders.__init__" (defArgs s_Orders___init) (defBody s_Orders___init) (defScope s_Orders___init) .none kV11 dc11 pm11 an11 cd11 ct11), sl11⟩)
    (c11 : PySem.W.codeIn K cd11 "Orders.__init__" = true)
    (k11 : PySem.W.keepIn K (.ref f11) = true)
    (a12 : PySem.W.nsIn K mainGlobals "doubled" = some (some (.ref f12)))
    (l12 : K.lookup f12 = some ⟨oc12, od12, .func (PySem.W.fnOf "doubled" "doubled" (defArgs s_doubled) (defBody s_doubled) (defScope s_doubled) .none kV12 dc12 pm12 an12 cd12 ct12), sl12⟩)
    (c12 : PySem.W.codeIn K cd12 "doubled" = true)
    (k12 : PySem.W.keepIn K (.ref f12) = true)
    (a13 : PySem.W.nsIn K mainGlobals "check_sizes" = some (some (.ref f13)))
    (l13 : K.lookup f13 = some ⟨oc13, od13, .func (PySem.W.fnOf "check_sizes" "check_sizes" (defArgs s_check_sizes) (defBody s_check_sizes) (defScope s_check_sizes) .none kV13 dc13 pm13 an13 cd13 ct13), sl13⟩)
    (c13 : PySem.W.codeIn K cd13 "check_sizes" = true)
    (k13 : PySem.W.keepIn K (.ref f13) = true)
    (a14 : PySem.W.nsIn K mainGlobals "product" = some (some (.ref f14)))
    (l14 : K.lookup f14 = some ⟨oc14, od14, .func (PySem.W.fnOf "product" "product" (defArgs s_product) (defBody s_product) (defScope s_product) .none kV14 dc14 pm14 an14 cd14 ct14), sl14⟩)
    (c14 : PySem.W.codeIn K cd14 "product" = true)
    (k14 : PySem.W.keepIn K (.ref f14) = true)
    (a15 : PySem.W.nsIn K mainGlobals "picks_of" = some (some (.ref f15)))
    (l15 : K.lookup f15 = some ⟨oc15, od15, .func (PySem.W.fnOf "picks_of" "picks_of" (defArgs s_picks_of) (defBody s_picks_of) (defScope s_picks_of) .none kV15 dc15 pm15 an15 cd15 ct15), sl15⟩)
    (c15 : PySem.W.codeIn K cd15 "picks_of" = true)
    (k15 : PySem.W.keepIn K (.ref f15) = true)
    (a16 : PySem.W.nsIn K mainGlobals "orders_of" = some (some (.ref f16)))
    (l16 : K.lookup f16 = some ⟨oc16, od16, .func (PySem.W.fnOf "orders_of" "orders_of" (defArgs s_orders_of) (defBody s_orders_of) (defScope s_orders_of) .none kV16 dc16 pm16 an16 cd16 ct16), sl16⟩)
    (c16 : PySem.W.codeIn K cd16 "orders_of" = true)
    (k16 : PySem.W.keepIn K (.ref f16) = true)
    (a17 : PySem.W.nsIn K mainGlobals "_law_cell_at" = some (some (.ref f17)))
    (l17 : K.lookup f17 = some ⟨oc17, od17, .func (PySem.W.fnOf "_law_cell_at" "_law_cell_at" (defArgs s_law_cell_at) (defBody s_law_cell_at) (defScope s_law_cell_at) .none kV17 dc17 pm17 an17 cd17 ct17), sl17⟩)
    (c17 : PySem.W.codeIn K cd17 "_law_cell_at" = true)
    (k17 : PySem.W.keepIn K (.ref f17) = true)
    (a18 : PySem.W.nsIn K mainGlobals "_law_made" = some (some (.ref f18)))
    (l18 : K.lookup f18 = some ⟨oc18, od18, .func (PySem.W.fnOf "_law_made" "_law_made" (defArgs s_law_made) (defBody s_law_made) (defScope s_law_made) .none kV18 dc18 pm18 an18 cd18 ct18), sl18⟩)
    (c18 : PySem.W.codeIn K cd18 "_law_made" = true)
    (k18 : PySem.W.keepIn K (.ref f18) = true)
    (a19 : PySem.W.nsIn K mainGlobals "_law_other" = some (some (.ref f19)))
    (l19 : K.lookup f19 = some ⟨oc19, od19, .func (PySem.W.fnOf "_law_other" "_law_other" (defArgs s_law_other) (defBody s_law_other) (defScope s_law_other) .none kV19 dc19 pm19 an19 cd19 ct19), sl19⟩)
    (c19 : PySem.W.codeIn K cd19 "_law_other" = true)
    (k19 : PySem.W.keepIn K (.ref f19) = true)
    (a20 : PySem.W.nsIn K mainGlobals "_law_far" = some (some (.ref f20)))
    (l20 : K.lookup f20 = some ⟨oc20, od20, .func (PySem.W.fnOf "_law_far" "_law_far" (defArgs s_law_far) (defBody s_law_far) (defScope s_law_far) .none kV20 dc20 pm20 an20 cd20 ct20), sl20⟩)
    (c20 : PySem.W.codeIn K cd20 "_law_far" = true)
    (k20 : PySem.W.keepIn K (.ref f20) = true)
    (a21 : PySem.W.nsIn K mainGlobals "_law_good" = some (some (.ref f21)))
    (l21 : K.lookup f21 = some ⟨oc21, od21, .func (PySem.W.fnOf "_law_good" "_law_good" (defArgs s_law_good) (defBody s_law_good) (defScope s_law_good) .none kV21 dc21 pm21 an21 cd21 ct21), sl21⟩)
    (c21 : PySem.W.codeIn K cd21 "_law_good" = true)
    (k21 : PySem.W.keepIn K (.ref f21) = true)
    (a22 : PySem.W.nsIn K mainGlobals "_law_new" = some (some (.ref f22)))
    (l22 : K.lookup f22 = some ⟨oc22, od22, .func (PySem.W.fnOf "_law_new" "_law_new" (defArgs s_law_new) (defBody s_law_new) (defScope s_law_new) .none kV22 dc22 pm22 an22 cd22 ct22), sl22⟩)
    (c22 : PySem.W.codeIn K cd22 "_law_new" = true)
    (k22 : PySem.W.keepIn K (.ref f22) = true)
    (a23 : PySem.W.nsIn K mainGlobals "law" = some (some (.ref f23)))
    (l23 : K.lookup f23 = some ⟨oc23, od23, .func (PySem.W.fnOf "law" "law" (defArgs s_law) (defBody s_law) (defScope s_law) .none kV23 dc23 pm23 an23 cd23 ct23), sl23⟩)
    (c23 : PySem.W.codeIn K cd23 "law" = true)
    (k23 : PySem.W.keepIn K (.ref f23) = true)
    : ∃ fd : FuncData, (∀ (s : Shared) (v : Value), BindsTo s fd ⟨[v], []⟩ [("script", v)]) ∧ ∀ base : Heap, K.In base → base.Ns mainGlobals mg → FnOk l.prog w K mg base CX0 14 fa fd ["script"] (spLaw K) := by
  have e := hfa.symm.trans (PySem.W.mg_of KX G a23)
  cases e
  have T : Txt K mg C_Switches C_Wheels C_Picks C_Orders C_Listing C_ChangeError C_NoListing C_NoThing C_NoNumber C_NoState C_NoMove C_TooFar := ⟨clb_mk KX G a_Switches pg_Switches hd_Switches po_Switches sa_Switches mk_Switches kc_Switches, n_Switches_size, n_Switches_total, ⟨⟨pg_Switches, hd_Switches, po_Switches, sa_Switches⟩, ha_Switches, hn_, htk_, hm_Switches⟩, kit_mk cl_Listing ty_Listing il_Switches (.inl rfl), clb_mk KX G a_Wheels pg_Wheels hd_Wheels po_Wheels sa_Wheels mk_Wheels kc_Wheels, n_Wheels_sizes, n_Wheels_total, ⟨⟨pg_Wheels, hd_Wheels, po_Wheels, sa_Wheels⟩, ha_Wheels, hn_, htk_, hm_Wheels⟩, kit_mk cl_Listing ty_Listing il_Wheels (.inl rfl), clb_mk KX G a_Picks pg_Picks hd_Picks po_Picks sa_Picks mk_Picks kc_Picks, n_Picks_size, n_Picks_some, n_Picks_total, ⟨⟨pg_Picks, hd_Picks, po_Picks, sa_Picks⟩, ha_Picks, hn_, htk_, hm_Picks⟩, kit_mk cl_Listing ty_Listing il_Picks (.inl rfl), clb_mk KX G a_Orders pg_Orders hd_Orders po_Orders sa_Orders mk_Orders kc_Orders, n_Orders_size, n_Orders_total, ⟨⟨pg_Orders, hd_Orders, po_Orders, sa_Orders⟩, ha_Orders, hn_, htk_, hm_Orders⟩, kit_mk cl_Listing ty_Listing il_Orders (.inl rfl), PySem.W.mg_of KX G a_Listing, PySem.W.mg_of KX G a_ChangeError, PySem.W.mg_of KX G a_NoListing, PySem.W.mg_of KX G a_NoThing, PySem.W.mg_of KX G a_NoNumber, PySem.W.mg_of KX G a_NoState, PySem.W.mg_of KX G a_NoMove, PySem.W.mg_of KX G a_TooFar, PySem.W.mg_none_of KX G z_VE, ⟨PySem.W.mg_of KX G a_NoListing, ex_NoListing, ⟨by rw [clE_NoListing]; rfl, ga_NoListing, gh_NoListing, ca_NoListing, hn_, htk_, sb_NoListing, ob_NoListing⟩, exm_mk sbE_ clE_ChangeError tyE_ChangeError su_NoListing, six_mk (kit_mk clE_NoListing tyE_NoListing s_NoListing_NoListing (.inl rfl)) (kit_mk clE_NoThing tyE_NoThing s_NoListing_NoThing (.inr ne_NoListing_NoThing)) (kit_mk clE_NoNumber tyE_NoNumber s_NoListing_NoNumber (.inr ne_NoListing_NoNumber)) (kit_mk clE_NoState tyE_NoState s_NoListing_NoState (.inr ne_NoListing_NoState)) (kit_mk clE_NoMove tyE_NoMove s_NoListing_NoMove (.inr ne_NoListing_NoMove)) (kit_mk clE_TooFar tyE_TooFar s_NoListing_TooFar (.inr ne_NoListing_TooFar)), val_mk sv_NoListing⟩, ⟨t0, PySem.W.mg_of KX G x0⟩, ⟨t1, PySem.W.mg_of KX G x1⟩, ⟨t2, PySem.W.mg_of KX G x2⟩, ⟨t3, PySem.W.mg_of KX G x3⟩, ⟨t4, PySem.W.mg_of KX G x4⟩, ⟨t5, PySem.W.mg_of KX G x5⟩, ⟨PySem.W.mg_none_of KX G z_range, PySem.W.mg_none_of KX G z_len, PySem.W.mg_none_of KX G z_isinstance, PySem.W.mg_none_of KX G z_list, PySem.W.mg_none_of KX G z_int, PySem.W.mg_none_of KX G z_bool, PySem.W.mg_none_of KX G z_zip, PySem.W.mg_none_of KX G z_sorted, PySem.W.mg_none_of KX G z_abs, PySem.W.mg_none_of KX G z_max, PySem.W.mg_none_of KX G z_reversed, PySem.W.mg_none_of KX G z_tuple, PySem.W.mg_none_of KX G z_min, PySem.W.mg_none_of KX G z_enumerate⟩⟩
  have D : Dfs K mg C_Switches C_Wheels C_Picks C_Orders C_Listing C_ChangeError C_NoListing C_NoThing C_NoNumber C_NoState C_NoMove C_TooFar := ⟨mtb_mk a1 i1 l1 c1 k1 (fun _ _ _ _ _ _ us hl => match us, hl with | [_, _], _ => rfl), mtb_mk a2 i2 l2 c2 k2 (fun _ _ _ _ _ _ us hl => match us, hl with | [_, _], _ => rfl), mtb_mk a3 i3 l3 c3 k3 (fun _ _ _ _ _ _ us hl => match us, hl with | [_], _ => rfl), mtb_mk a4 i4 l4 c4 k4 (fun _ _ _ _ _ _ us hl => match us, hl with | [_, _], _ => rfl), mtb_mk a5 i5 l5 c5 k5 (fun _ _ _ _ _ _ us hl => match us, hl with | [_, _], _ => rfl), mtb_mk a6 i6 l6 c6 k6 (fun _ _ _ _ _ _ us hl => match us, hl with | [_, _], _ => rfl), mtb_mk a7 i7 l7 c7 k7 (fun _ _ _ _ _ _ us hl => match us, hl with | [_, _], _ => rfl), mtb_mk a8 i8 l8 c8 k8 (fun _ _ _ _ _ _ us hl => match us, hl with | [_, _], _ => rfl), mtb_mk a9 i9 l9 c9 k9 (fun _ _ _ _ _ _ us hl => match us, hl with | [_, _], _ => rfl), mtb_mk a10 i10 l10 c10 k10 (fun _ _ _ _ _ _ us hl => match us, hl with | [_, _, _], _ => rfl), mtb_mk a11 i11 l11 c11 k11 (fun _ _ _ _ _ _ us hl => match us, hl with | [_, _], _ => rfl), fnb_mk KX G a12 l12 c12 k12 (fun _ _ _ _ _ _ us hl => match us, hl with | [_], _ => rfl), fnb_mk KX G a13 l13 c13 k13 (fun _ _ _ _ _ _ us hl => match us, hl with | [_], _ => rfl), fnb_mk KX G a14 l14 c14 k14 (fun _ _ _ _ _ _ us hl => match us, hl with | [_], _ => rfl), fnb_mk KX G a15 l15 c15 k15 (fun _ _ _ _ _ _ us hl => match us, hl with | [_, _], _ => rfl), fnb_mk KX G a16 l16 c16 k16 (fun _ _ _ _ _ _ us hl => match us, hl with | [_], _ => rfl), fnb_mk KX G a17 l17 c17 k17 (fun _ _ _ _ _ _ us hl => match us, hl with | [_, _], _ => rfl), fnb_mk KX G a18 l18 c18 k18 (fun _ _ _ _ _ _ us hl => match us, hl with | [_, _, _, _], _ => rfl), fnb_mk KX G a19 l19 c19 k19 (fun _ _ _ _ _ _ us hl => match us, hl with | [_, _], _ => rfl), fnb_mk KX G a20 l20 c20 k20 (fun _ _ _ _ _ _ us hl => match us, hl with | [_, _, _], _ => rfl), fnb_mk KX G a21 l21 c21 k21 (fun _ _ _ _ _ _ us hl => match us, hl with | [_, _, _, _], _ => rfl), fnb_mk KX G a22 l22 c22 k22 (fun _ _ _ _ _ _ us hl => match us, hl with | [_, _, _, _], _ => rfl)⟩
  have F := fun_mk (st := s_law) l23 c23 k23
  exact ⟨PySem.W.fnOf "law" "law" (defArgs s_law) (defBody s_law) (defScope s_law) .none kV23 dc23 pm23 an23 cd23 ct23, fun s v => .of_eq rfl, fun base _ _ => main F T D⟩
theorem walk {l : PySem.W.OpenLaw} {q : Program} {loose : List Str} {XP : (Str → Option Value) → Heap → Prop} {YP : World → Heap → Prop} {d : DefRec} {K : Params → PySem.W.Frag} (hn : l.most = some 63) (hdf : d.params.defaults = [])
    (hY : ∀ (w : World) (h : Heap), YP w h → (K w.params).In h)
    (F : ∀ (w : World) (mg : Str → Option Value) (fa : Addr) (h : Heap), (K w.params).In h → h.Ns mainGlobals mg → mg d.name = some (.ref fa) →
      ∃ fd : FuncData, (∀ (s : Shared) (u : Value), BindsTo s fd ⟨[u], []⟩ [("script", u)]) ∧ ∀ base : Heap, (K w.params).In base → base.Ns mainGlobals mg → FnOk l.prog w (K w.params) mg base CX0 14 fa fd ["script"] (spLaw (K w.params))) :
    PySem.W.WalkO q loose XP YP l.row.toRowW d [] (fun f vs => PySem.call f vs) :=
  L2.walk_of (n := 63) (k := 14) (x := "script") (CX := fun _ => CX0) (sp := fun w => spLaw (K w.params)) hn (by decide) hdf ⟨rfl, by decide, by decide⟩ hY F (fun _ _ a ns hl _ hS => ⟨a, ns, rfl, hS, hl, fun _ => rfl⟩) fun _ _ _ _ _ z => z
end Mine
def PySem.W.Fast.tw1716739322203161506 : Nat := 0
def PySem.W.Fast.tw15094171000015011327 : Nat := 0
def PySem.W.Fast.tw5083782622417042322 : Nat := 0
def PySem.W.Fast.tw7726667608339756296 : Nat := 0
def PySem.W.Fast.tw6188796602387033029 : Nat := 0
def PySem.W.Fast.tw14019686705123609876 : Nat := 0
def PySem.W.Fast.tw242041726591442114 : Nat := 0
def PySem.W.Fast.tw4613013909575822170 : Nat := 0
def PySem.W.Fast.tw17514716959114787760 : Nat := 0
def PySem.W.Fast.tw9962842951992725561 : Nat := 0
def PySem.W.Fast.tw7447670829127863044 : Nat := 0
def PySem.W.Fast.tw17512760777505433386 : Nat := 0
def PySem.W.Fast.tw11357297987333806945 : Nat := 0
def PySem.W.Fast.tw4035196413170174990 : Nat := 0
def PySem.W.Fast.tw8909822639551504682 : Nat := 0
def PySem.W.Fast.tw2720435595708194443 : Nat := 0
def PySem.W.Fast.tw11184271635724985864 : Nat := 0
def PySem.W.Fast.tw7207591806094858393 : Nat := 0
def PySem.W.Fast.tw4148049488315028970 : Nat := 0
def PySem.W.Fast.tw13779155345353750462 : Nat := 0
def PySem.W.Fast.tw3710600580665401567 : Nat := 0
def PySem.W.Fast.tw12645594318128845071 : Nat := 0
def PySem.W.Fast.tw6970726833506857167 : Nat := 0
def PySem.W.Fast.tw6850825504966103686 : Nat := 0
def PySem.W.Fast.tw11977412013261376074 : Nat := 0
def PySem.W.Fast.tw15160567750412845150 : Nat := 0
def PySem.W.Fast.tw10860252866018869238 : Nat := 0
def PySem.W.Fast.tw13036106807431634435 : Nat := 0
def PySem.W.Fast.tw9122327807238063008 : Nat := 0
open PySem PySem.W PyProof.Rows
set_option maxRecDepth 100000 in
set_option maxHeartbeats 0 in
theorem PySem.Challenge.cw_onechange_k07_no_listing_holds : PySem.Challenge.rw_onechange_k07_no_listing.Holds := by
  w_on; o_law; k_head; (case hw => w_witness2)
  k_fill
  refine Mine.walk (l := PySem.Challenge.rw_onechange_k07_no_listing) rfl rfl (fun w h Y => PySem.W.kIn_of Y) ?F
  case F =>
    intro w mg fa h KX G hmg
    refine' Mine.all_mk KX G hmg ?a_Listing ?a_Switches ?pg_Switches ?hd_Switches ?po_Switches ?sa_Switches ?mk_Switches ?kc_Switches ?n_Switches_size ?n_Switches_total ?ha_Switches ?hm_Switches ?il_Switches ?a_Wheels ?pg_Wheels ?hd_Wheels ?po_Wheels ?sa_Wheels ?mk_Wheels ?kc_Wheels ?n_Wheels_sizes ?n_Wheels_total ?ha_Wheels ?hm_Wheels ?il_Wheels ?a_Picks ?pg_Picks ?hd_Picks ?po_Picks ?sa_Picks ?mk_Picks ?kc_Picks ?n_Picks_size ?n_Picks_some ?n_Picks_total ?ha_Picks ?hm_Picks ?il_Picks ?a_Orders ?pg_Orders ?hd_Orders ?po_Orders ?sa_Orders ?mk_Orders ?kc_Orders ?n_Orders_size ?n_Orders_total ?ha_Orders ?hm_Orders ?il_Orders ?hn_ ?htk_ ?cl_Listing ?ty_Listing ?a_ChangeError ?clE_ChangeError ?tyE_ChangeError ?a_NoListing ?clE_NoListing ?tyE_NoListing ?a_NoThing ?clE_NoThing ?tyE_NoThing ?a_NoNumber ?clE_NoNumber ?tyE_NoNumber ?a_NoState ?clE_NoState ?tyE_NoState ?a_NoMove ?clE_NoMove ?tyE_NoMove ?a_TooFar ?clE_TooFar ?tyE_TooFar ?sbE_ ?z_VE ?ga_NoListing ?gh_NoListing ?ca_NoListing ?sb_NoListing ?ob_NoListing ?ex_NoListing ?su_NoListing ?sv_NoListing ?s_NoListing_NoListing ?s_NoListing_NoThing ?ne_NoListing_NoThing ?s_NoListing_NoNumber ?ne_NoListing_NoNumber ?s_NoListing_NoState ?ne_NoListing_NoState ?s_NoListing_NoMove ?ne_NoListing_NoMove ?s_NoListing_TooFar ?ne_NoListing_TooFar ?x0 ?x1 ?x2 ?x3 ?x4 ?x5 ?z_range ?z_len ?z_isinstance ?z_list ?z_int ?z_bool ?z_zip ?z_sorted ?z_abs ?z_max ?z_reversed ?z_tuple ?z_min ?z_enumerate ?a1 ?i1 ?l1 ?c1 ?k1 ?a2 ?i2 ?l2 ?c2 ?k2 ?a3 ?i3 ?l3 ?c3 ?k3 ?a4 ?i4 ?l4 ?c4 ?k4 ?a5 ?i5 ?l5 ?c5 ?k5 ?a6 ?i6 ?l6 ?c6 ?k6 ?a7 ?i7 ?l7 ?c7 ?k7 ?a8 ?i8 ?l8 ?c8 ?k8 ?a9 ?i9 ?l9 ?c9 ?k9 ?a10 ?i10 ?l10 ?c10 ?k10 ?a11 ?i11 ?l11 ?c11 ?k11 ?a12 ?l12 ?c12 ?k12 ?a13 ?l13 ?c13 ?k13 ?a14 ?l14 ?c14 ?k14 ?a15 ?l15 ?c15 ?k15 ?a16 ?l16 ?c16 ?k16 ?a17 ?l17 ?c17 ?k17 ?a18 ?l18 ?c18 ?k18 ?a19 ?l19 ?c19 ?k19 ?a20 ?l20 ?c20 ?k20 ?a21 ?l21 ?c21 ?k21 ?a22 ?l22 ?c22 ?k22 ?a23 ?l23 ?c23 ?k23
    (case a_Listing => k_is); (case a_Switches => k_is); (case pg_Switches => k_is); (case hd_Switches => k_is); (case po_Switches => k_is); (case sa_Switches => k_is)
    (case mk_Switches => k_is); (case kc_Switches => k_is); (case n_Switches_size => k_is); (case n_Switches_total => k_is); (case ha_Switches => k_is); (case hm_Switches => k_is)
    (case il_Switches => k_is); (case a_Wheels => k_is); (case pg_Wheels => k_is); (case hd_Wheels => k_is); (case po_Wheels => k_is); (case sa_Wheels => k_is)
    (case mk_Wheels => k_is); (case kc_Wheels => k_is); (case n_Wheels_sizes => k_is); (case n_Wheels_total => k_is); (case ha_Wheels => k_is); (case hm_Wheels => k_is)
    (case il_Wheels => k_is); (case a_Picks => k_is); (case pg_Picks => k_is); (case hd_Picks => k_is); (case po_Picks => k_is); (case sa_Picks => k_is)
    (case mk_Picks => k_is); (case kc_Picks => k_is); (case n_Picks_size => k_is); (case n_Picks_some => k_is); (case n_Picks_total => k_is); (case ha_Picks => k_is)
    (case hm_Picks => k_is); (case il_Picks => k_is); (case a_Orders => k_is); (case pg_Orders => k_is); (case hd_Orders => k_is); (case po_Orders => k_is)
    (case sa_Orders => k_is); (case mk_Orders => k_is); (case kc_Orders => k_is); (case n_Orders_size => k_is); (case n_Orders_total => k_is); (case ha_Orders => k_is)
    (case hm_Orders => k_is); (case il_Orders => k_is); (case hn_ => k_is); (case htk_ => k_is); (case cl_Listing => k_is); (case ty_Listing => k_is)
    (case a_ChangeError => k_is); (case clE_ChangeError => k_is); (case tyE_ChangeError => k_is); (case a_NoListing => k_is); (case clE_NoListing => k_is); (case tyE_NoListing => k_is)
    (case a_NoThing => k_is); (case clE_NoThing => k_is); (case tyE_NoThing => k_is); (case a_NoNumber => k_is); (case clE_NoNumber => k_is); (case tyE_NoNumber => k_is)
    (case a_NoState => k_is); (case clE_NoState => k_is); (case tyE_NoState => k_is); (case a_NoMove => k_is); (case clE_NoMove => k_is); (case tyE_NoMove => k_is)
    (case a_TooFar => k_is); (case clE_TooFar => k_is); (case tyE_TooFar => k_is); (case sbE_ => k_is); (case z_VE => k_is); (case ga_NoListing => k_is)
    (case gh_NoListing => k_is); (case ca_NoListing => k_is); (case sb_NoListing => k_is); (case ob_NoListing => k_is); (case ex_NoListing => k_exc); (case su_NoListing => k_is)
    (case sv_NoListing => k_is); (case s_NoListing_NoListing => k_is); (case s_NoListing_NoThing => k_is); (case ne_NoListing_NoThing => first | rfl | decide); (case s_NoListing_NoNumber => k_is); (case ne_NoListing_NoNumber => first | rfl | decide)
    (case s_NoListing_NoState => k_is); (case ne_NoListing_NoState => first | rfl | decide); (case s_NoListing_NoMove => k_is); (case ne_NoListing_NoMove => first | rfl | decide); (case s_NoListing_TooFar => k_is); (case ne_NoListing_TooFar => first | rfl | decide)
    (case x0 => k_is); (case x1 => k_is); (case x2 => k_is); (case x3 => k_is); (case x4 => k_is); (case x5 => k_is)
    (case z_range => k_is); (case z_len => k_is); (case z_isinstance => k_is); (case z_list => k_is); (case z_int => k_is); (case z_bool => k_is)
    (case z_zip => k_is); (case z_sorted => k_is); (case z_abs => k_is); (case z_max => k_is); (case z_reversed => k_is); (case z_tuple => k_is)
    (case z_min => k_is); (case z_enumerate => k_is); (case a1 => k_is); (case i1 => k_is); (case l1 => k_is); (case c1 => k_is)
    (case k1 => k_is); (case a2 => k_is); (case i2 => k_is); (case l2 => k_is); (case c2 => k_is); (case k2 => k_is)
    (case a3 => k_is); (case i3 => k_is); (case l3 => k_is); (case c3 => k_is); (case k3 => k_is); (case a4 => k_is)
    (case i4 => k_is); (case l4 => k_is); (case c4 => k_is); (case k4 => k_is); (case a5 => k_is); (case i5 => k_is)
    (case l5 => k_is); (case c5 => k_is); (case k5 => k_is); (case a6 => k_is); (case i6 => k_is); (case l6 => k_is)
    (case c6 => k_is); (case k6 => k_is); (case a7 => k_is); (case i7 => k_is); (case l7 => k_is); (case c7 => k_is)
    (case k7 => k_is); (case a8 => k_is); (case i8 => k_is); (case l8 => k_is); (case c8 => k_is); (case k8 => k_is)
    (case a9 => k_is); (case i9 => k_is); (case l9 => k_is); (case c9 => k_is); (case k9 => k_is); (case a10 => k_is)
    (case i10 => k_is); (case l10 => k_is); (case c10 => k_is); (case k10 => k_is); (case a11 => k_is); (case i11 => k_is)
    (case l11 => k_is); (case c11 => k_is); (case k11 => k_is); (case a12 => k_is); (case l12 => k_is); (case c12 => k_is)
    (case k12 => k_is); (case a13 => k_is); (case l13 => k_is); (case c13 => k_is); (case k13 => k_is); (case a14 => k_is)
    (case l14 => k_is); (case c14 => k_is); (case k14 => k_is); (case a15 => k_is); (case l15 => k_is); (case c15 => k_is)
    (case k15 => k_is); (case a16 => k_is); (case l16 => k_is); (case c16 => k_is); (case k16 => k_is); (case a17 => k_is)
    (case l17 => k_is); (case c17 => k_is); (case k17 => k_is); (case a18 => k_is); (case l18 => k_is); (case c18 => k_is)
    (case k18 => k_is); (case a19 => k_is); (case l19 => k_is); (case c19 => k_is); (case k19 => k_is); (case a20 => k_is)
    (case l20 => k_is); (case c20 => k_is); (case k20 => k_is); (case a21 => k_is); (case l21 => k_is); (case c21 => k_is)
    (case k21 => k_is); (case a22 => k_is); (case l22 => k_is); (case c22 => k_is); (case k22 => k_is); (case a23 => k_is)
    (case l23 => k_is); (case c23 => k_is); (case k23 => k_is)

import PyProof.Rows.All
import Wide.All
import OpenK.AllK
import Wide.FinOn
import Lean
import PyProof.EqAt
import PyProof.EqKinds
import PyProof.TupleCall
import PyProof.ZipIter
import PyProof.ExcAttrAll.ValueError
import PyProof.FactsAll.tuple_2
import PyProof.ListMulRoad
import PyProof.StrOps2
import PySem.Challenge.RW_slotbook_k51_packed
-- CHANGE: your row's module here, as the last of these rows
set_option Elab.async false
set_option linter.all false
set_option maxRecDepth 100000
/-! THE HAND LAYER, for ints, bools, texts, own classes, LISTS and tuples (index, slices, in, append, pop ..), calls, loops. Paste it whole ahead of your own text; what your proof does not reach may be deleted. -/
namespace L2
open PySem PySem.Spec PyProof.Rows

/-- a key: an int or a str -/
abbrev Key := Sum Int Str
def keyIs : Key → Value → Bool
  | .inl k, v => Value.isInt k v
  | .inr x, v => Value.isStrOf x v
def keyH (w : World) : Key → Int
  | .inl k => hashInt k
  | .inr x => hashStr w x
theorem keyIs_shape : ∀ {k : Key} {v : Value}, keyIs k v = true → (∃ i t, k = Sum.inl i ∧ v = Value.int i t) ∨ (∃ x t, k = Sum.inr x ∧ v = Value.str x t)
  | .inl i, v, h => by
    obtain ⟨t, e⟩ := Value.isInt_shape (k := i) (v := v) h
    exact .inl ⟨i, t, rfl, e⟩
  | .inr x, v, h => by
    obtain ⟨t, e⟩ := Value.isStrOf_shape (x := x) (v := v) h
    exact .inr ⟨x, t, rfl, e⟩
theorem keyIs_int (i : Int) (t : Tok) : keyIs (.inl i) (.int i t) = true := by simp [keyIs, Value.isInt]
theorem keyIs_str (x : Str) (t : Tok) : keyIs (.inr x) (.str x t) = true := by simp [keyIs, Value.isStrOf]
theorem key_ll (a b : Int) : decide ((Sum.inl a : Key) = Sum.inl b) = (a == b) := by
  by_cases e : a = b
  · subst e; simp
  · have h : ¬ (Sum.inl a : Key) = Sum.inl b := fun q => e (Sum.inl.inj q)
    rw [decide_eq_false h]
    exact (beq_eq_false_iff_ne.mpr e).symm
theorem key_rr (a b : Str) : decide ((Sum.inr a : Key) = Sum.inr b) = decide (a = b) := by
  by_cases e : a = b
  · subst e; simp
  · have h : ¬ (Sum.inr a : Key) = Sum.inr b := fun q => e (Sum.inr.inj q)
    rw [decide_eq_false h, decide_eq_false e]
theorem key_lr (a : Int) (b : Str) : decide ((Sum.inl a : Key) = Sum.inr b) = false := decide_eq_false (fun q => nomatch q)
theorem key_rl (a : Str) (b : Int) : decide ((Sum.inr a : Key) = Sum.inl b) = false := decide_eq_false (fun q => nomatch q)

def mixKind (prog : Program) (w : World) : PySem.KeyKind prog w Key where
  is := keyIs
  hash := keyH w
  inj := fun v a b ha hb => by
    rcases keyIs_shape ha with ⟨i, t, rfl, rfl⟩ | ⟨x, t, rfl, rfl⟩
    · rcases keyIs_shape hb with ⟨j, u, rfl, e⟩ | ⟨y, u, rfl, e⟩
      · injection e with e1 _; rw [e1]
      · exact nomatch e
    · rcases keyIs_shape hb with ⟨j, u, rfl, e⟩ | ⟨y, u, rfl, e⟩
      · exact nomatch e
      · injection e with e1 _; rw [e1]
  byValue := fun k v h => by
    rcases keyIs_shape h with ⟨i, t, rfl, rfl⟩ | ⟨x, t, rfl, rfl⟩ <;> rfl
  pyHash := fun hv h => by
    rcases keyIs_shape hv with ⟨i, t, rfl, rfl⟩ | ⟨x, t, rfl, rfl⟩
    · exact wpAny_pyHash_int h
    · exact wpAny_pyHash_str h
  eqBool := fun hu hv h => by
    rcases keyIs_shape hu with ⟨i, t, rfl, rfl⟩ | ⟨x, t, rfl, rfl⟩
    · rcases keyIs_shape hv with ⟨j, u, rfl, rfl⟩ | ⟨y, u, rfl, rfl⟩
      · rw [key_ll] at h; exact wpAny_eqBool_int h
      · rw [key_lr] at h; exact SeqAt.EqAt.int_str i t y u _ _ _ _ h
    · rcases keyIs_shape hv with ⟨j, u, rfl, rfl⟩ | ⟨y, u, rfl, rfl⟩
      · rw [key_rl] at h; exact SeqAt.EqAt.str_int x t j u _ _ _ _ h
      · rw [key_rr] at h; exact wpAny_eqBool_str h
  «strs» := fun k x t v h => by
    rcases keyIs_shape h with ⟨i, u, rfl, e⟩ | ⟨y, u, rfl, e⟩
    · exact nomatch e
    · injection e with e1 _
      subst e1
      cases v <;> rfl

theorem mixKind_is (prog : Program) (w : World) (k : Key) (v : Value) : (mixKind prog w).is k v = keyIs k v := rfl
theorem mixKind_int (prog : Program) (w : World) (i : Int) (t : Tok) : (mixKind prog w).is (.inl i) (.int i t) = true := keyIs_int i t
theorem mixKind_str (prog : Program) (w : World) (x : Str) (t : Tok) : (mixKind prog w).is (.inr x) (.str x t) = true := keyIs_str x t
end L2

namespace L2
open PySem PySem.Spec PyProof.Rows

/-- a value, without the heap -/
inductive V where
  | non | bl (b : Bool) | int (i : Int) | str (x : Str) | byt (b : Array UInt8) | flt (b : UInt64) | ref (a : Addr) | ty (n : String)
  deriving DecidableEq

def RelV : V → Value → Prop
  | .non, u => u = Value.none
  | .bl b, u => u = Value.bool b
  | .int i, u => ∃ t, u = Value.int i t
  | .str x, u => ∃ t, u = Value.str x t
  | .byt b, u => ∃ t, u = Value.bytes b t
  | .flt b, u => ∃ t, u = Value.float b t
  | .ref a, u => u = Value.ref a
  | .ty n, u => u = Value.type n

abbrev Vals : List V → List Value → Prop := Paired RelV
theorem Vals.length {xs : List V} {us : List Value} (r : Vals xs us) : xs.length = us.length := Paired.length r
theorem Vals.get : ∀ {xs : List V} {us : List Value} {i : Nat} {x : V}, Vals xs us → xs[i]? = some x → ∃ u, us[i]? = some u ∧ RelV x u
  | _, _, _, _, .nil, e => by simp at e
  | _, _, 0, _, .cons r _, e => by simp at e; subst e; exact ⟨_, rfl, r⟩
  | _, _, i + 1, x, .cons _ t, e => by
    obtain ⟨u, h1, h2⟩ := Vals.get (i := i) (x := x) t (by simpa using e)
    exact ⟨u, by simpa using h1, h2⟩
theorem Vals.set {x : V} {u : Value} (r : RelV x u) : ∀ {xs : List V} {us : List Value} (i : Nat), Vals xs us → Vals (xs.set i x) (us.set i u)
  | _, _, _, .nil => .nil
  | _, _, 0, .cons _ t => .cons r t
  | _, _, i + 1, .cons q t => .cons q (Vals.set r i t)
theorem Vals.append : ∀ {xs ys : List V} {us ws : List Value}, Vals xs us → Vals ys ws → Vals (xs ++ ys) (us ++ ws)
  | _, _, _, _, .nil, s => s
  | _, _, _, _, .cons r t, s => .cons r (Vals.append t s)
theorem Vals.take : ∀ {xs : List V} {us : List Value} (n : Nat), Vals xs us → Vals (xs.take n) (us.take n)
  | _, _, 0, _ => .nil
  | _, _, _ + 1, .nil => .nil
  | _, _, n + 1, .cons r t => .cons r (Vals.take n t)
theorem Vals.drop : ∀ {xs : List V} {us : List Value} (n : Nat), Vals xs us → Vals (xs.drop n) (us.drop n)
  | _, _, 0, r => r
  | _, _, _ + 1, .nil => .nil
  | _, _, n + 1, .cons _ t => Vals.drop n t
theorem Vals.none_of : ∀ {xs : List V} {us : List Value} {i : Nat}, Vals xs us → xs[i]? = none → us[i]? = none := fun {xs us i} r e => by
  have h1 := r.length
  have h2 : xs.length ≤ i := List.getElem?_eq_none_iff.mp e
  exact List.getElem?_eq_none_iff.mpr (by omega)

def RelO : Option V → Option Value → Prop
  | some v, some u => RelV v u
  | none, none => True
  | _, _ => False
def KV {κ : Type} : List (κ × V) → List (κ × Value) → Prop := Paired fun (p : κ × V) (q : κ × Value) => p.1 = q.1 ∧ RelV p.2 q.2

/-- a key of a dict (00_mix): an int or a text -/
def kV : Key → V
  | .inl i => .int i
  | .inr x => .str x

/-- what stands at a tracked address -/
inductive HO where
  /-- a list -/
  | lst (xs : List V)
  /-- a tuple (never changes) -/
  | tup (xs : List V)
  /-- a dict whose keys are ints and texts; one whose keys are tuples of ints and texts (the empty one is both) -/
  | dK (kvs : List (Key × V)) | dT (kvs : List (List Key × V))
  /-- a set of ints: its members, its size -/
  | set (S : Int → Bool) (n : Nat)
  /-- an instance of the class at C, its dict at dx, its attributes -/
  | ins (C dx : Addr) (fs : List (Str × V))
  /-- the dict of the instance at x -/
  | own (x : Addr)
  /-- the dict of an exception -/
  | xd (fs : List (Str × V))
  /-- a bound method, f of x -/
  | met (f x : Addr)
  /-- a range object lo, lo + 1, .. below hi -/
  | rng (lo hi : Int)
  /-- a thing that is known to the object (the script; a dict while a loop walks it): read, never written while it is so -/
  | frz (o : Obj) (u : HO)
  /-- a code object's table -/
  | tbl (ps : Array Value)
  /-- any other thing, by what is true of its one object (a def of one's own: SetO a S n := HO.ext fun h => ..) -/
  | ext (φ : Heap → Prop)

abbrev Hp := Addr → Option HO
def upd (H : Hp) (a : Addr) (o : HO) : Hp := fun b => if b = a then some o else H b
theorem upd_same {H : Hp} {a : Addr} {o : HO} : upd H a o a = some o := by unfold upd; rw [if_pos rfl]
theorem upd_ne {H : Hp} {a b : Addr} {o : HO} (h : b ≠ a) : upd H a o b = H b := by unfold upd; rw [if_neg h]
theorem upd_upd {H : Hp} {a : Addr} {o u : HO} : upd (upd H a o) a u = upd H a u := by
  funext b; unfold upd; split <;> rfl
/-- two objects of different content stand apart -/
theorem ne_of {H : Hp} {a b : Addr} {o u : HO} (h : H a = some o) (h' : H b = some u) (d : o ≠ u) : a ≠ b := by
  intro e; subst e; rw [h] at h'; exact d (Option.some.inj h')
theorem ne_of_none {H : Hp} {a b : Addr} {o : HO} (h : H a = some o) (h' : H b = none) : a ≠ b := by
  intro e; subst e; rw [h] at h'; cases h'

section
variable (P : Program) (w : World)
def ObjOk (H : Hp) (h : Heap) (a : Addr) : HO → Prop
  | .lst xs => xs.length ≤ sizeLine ∧ ∃ (its : List Value) (n : Nat), Vals xs its ∧ h.get? a = some { cls := .type "list", data := .seq its.toArray n }
  | .tup xs => xs.length ≤ sizeLine ∧ ∃ its : List Value, Vals xs its ∧ IsTup h a its.toArray
  | .dK kvs => kvs.length ≤ sizeLine ∧ (a == sysModules) = false ∧ ∃ vs, KV kvs vs ∧ h.DictOf (mixKind P w) a vs
  | .dT kvs => kvs.length ≤ sizeLine ∧ (a == sysModules) = false ∧ ∃ xs : List (List Key × Addr × Value),
      Paired (fun (p : List Key × V) (q : List Key × Addr × Value) => p.1 = q.1 ∧ H q.2.1 = some (.tup (p.1.map kV)) ∧ RelV p.2 q.2.2) kvs xs ∧
      ∃ o es ep, h.get? a = some o ∧ o.ExactDict ∧ o.data = .dict es ep ∧ es.toList = xs.map (entryOfKey (tupleKind (mixKind P w))) ∧ (xs.map (·.1)).Nodup
  | .set S n => h.SetOf (intKind P w) a S n
  | .ins C dx fs => H dx = some (.own a) ∧ fs.length ≤ 1000 ∧ dx ≠ a ∧ h.get? a = some (PySem.W.instObj C dx) ∧
      ∃ mA, h.Ns1 dx mA ∧ (∀ f, RelO (fs.lookup f) (mA f)) ∧ PySem.Within mA (fs.map (·.1))
  | .own _ => ∃ o, h.get? a = some o
  | .xd fs => ∃ mA, h.Ns1 a mA ∧ ∀ f, RelO (fs.lookup f) (mA f)
  | .rng lo hi => ∃ t u v, h.get? a = some { cls := .type "range", data := .fields #[.int lo t, .int hi u, .int 1 v] }
  | .frz o u => h.get? a = some o ∧ ObjOk H h a u
  | .tbl ps => h.get? a = some { cls := .none, data := .fields ps }
  | .met f x => h.get? a = some (PySem.W.methodObj (.ref f) (.ref x))
  | .ext φ => φ h ∧ (∃ o, h.get? a = some o) ∧ ∀ h1 h2 : Heap, φ h1 → (∀ o, h1.get? a = some o → h2.get? a = some o) → φ h2
/-- the abstract heap is held -/
def HOk (H : Hp) (h : Heap) : Prop := ∀ a o, H a = some o → ObjOk P w H h a o
end

section
variable {P : Program} {w : World} {H H' : Hp} {h h' : Heap} {a : Addr} {o : HO}
theorem ObjOk.lt (x : ObjOk P w H h a o) : a < h.objs.size := by
  cases o with
  | lst xs => obtain ⟨_, _, _, _, e⟩ := x; exact Heap.lt_size e
  | tup xs => obtain ⟨_, _, _, p⟩ := x; exact p.lt
  | dK kvs => obtain ⟨_, _, _, _, o, _, _, e, _⟩ := x; exact Heap.lt_size e
  | dT kvs => obtain ⟨_, _, _, _, o, _, _, e, _⟩ := x; exact Heap.lt_size e
  | set S n => obtain ⟨o, _, _, _, e, _⟩ := x; exact Heap.lt_size e
  | ins C dx fs => obtain ⟨_, _, _, e, _⟩ := x; exact Heap.lt_size e
  | own y => obtain ⟨_, e⟩ := x; exact Heap.lt_size e
  | xd fs => obtain ⟨_, ⟨_, _, _, e, _⟩, _⟩ := x; exact Heap.lt_size e
  | rng lo hi => obtain ⟨_, _, _, e⟩ := x; exact Heap.lt_size e
  | frz ob u => obtain ⟨e, _⟩ := x; exact Heap.lt_size e
  | tbl ps => exact Heap.lt_size (show h.get? a = some _ from x)
  | met f y => exact Heap.lt_size (show h.get? a = some _ from x)
  | ext φ => obtain ⟨_, ⟨_, e⟩, _⟩ := x; exact Heap.lt_size e
theorem Paired.mapP {α β : Type} {F G : α → β → Prop} : ∀ {l₁ : List α} {l₂ : List β}, Paired F l₁ l₂ → (∀ a b, F a b → G a b) → Paired G l₁ l₂
  | _, _, .nil, _ => .nil
  | _, _, .cons r t, f => .cons (f _ _ r) (Paired.mapP t f)
theorem Paired.imp' {α β : Type} {F G : α → β → Prop} (f : ∀ a b, F a b → G a b) {l₁ : List α} {l₂ : List β} (r : Paired F l₁ l₂) : Paired G l₁ l₂ := Paired.mapP r f
/-- what an object's description leans on: its own object, its own dict, the tuples -/
theorem ObjOk.stay (x : ObjOk P w H h a o) (k : ∀ b u, (b = a ∨ H b = some (.own a)) → h.get? b = some u → h'.get? b = some u)
    (ho : ∀ b, H b = some (.own a) → H' b = some (.own a)) (ht : ∀ b xs, H b = some (.tup xs) → H' b = some (.tup xs)) : ObjOk P w H' h' a o := by
  induction o with
  | lst xs => obtain ⟨z, its, n, r, e⟩ := x; exact ⟨z, its, n, r, k _ _ (.inl rfl) e⟩
  | tup xs => obtain ⟨z, its, r, ob, e, c⟩ := x; exact ⟨z, its, r, ob, k _ _ (.inl rfl) e, c⟩
  | dK kvs => obtain ⟨z, y, vs, r, ob, es, ep, e, c⟩ := x; exact ⟨z, y, vs, r, ob, es, ep, k _ _ (.inl rfl) e, c⟩
  | dT kvs =>
    obtain ⟨z, y, xs, r, ob, es, ep, e, c⟩ := x
    exact ⟨z, y, xs, Paired.mapP r fun p q z => ⟨z.1, ht _ _ z.2.1, z.2.2⟩, ob, es, ep, k _ _ (.inl rfl) e, c⟩
  | set S n => obtain ⟨ob, es, ep, t, e, c⟩ := x; exact ⟨ob, es, ep, t, k _ _ (.inl rfl) e, c⟩
  | ins C dx fs =>
    obtain ⟨d, z, ne, e, mA, ⟨od, es, ep, e2, c⟩, r⟩ := x
    exact ⟨ho _ d, z, ne, k _ _ (.inl rfl) e, mA, ⟨od, es, ep, k _ _ (.inr d) e2, c⟩, r⟩
  | own y => obtain ⟨ob, e⟩ := x; exact ⟨ob, k _ _ (.inl rfl) e⟩
  | xd fs => obtain ⟨mA, ⟨od, es, ep, e, c⟩, r⟩ := x; exact ⟨mA, ⟨od, es, ep, k _ _ (.inl rfl) e, c⟩, r⟩
  | rng lo hi => obtain ⟨t, u, v, e⟩ := x; exact ⟨t, u, v, k _ _ (.inl rfl) e⟩
  | frz ob u ih => obtain ⟨e, q⟩ := x; exact ⟨k _ _ (.inl rfl) e, ih q⟩
  | tbl ps =>
    have e : h.get? a = some { cls := .none, data := .fields ps } := x
    show h'.get? a = some { cls := .none, data := .fields ps }
    exact k a _ (.inl rfl) e
  | met f y =>
    have e : h.get? a = some (PySem.W.methodObj (.ref f) (.ref y)) := x
    show h'.get? a = some (PySem.W.methodObj (.ref f) (.ref y))
    exact k a _ (.inl rfl) e
  | ext φ => obtain ⟨p, ⟨o, e⟩, st⟩ := x; exact ⟨st _ _ p fun o q => k _ _ (.inl rfl) q, ⟨o, k _ _ (.inl rfl) e⟩, st⟩
theorem HOk.lt (x : HOk P w H h) (e : H a = some o) : a < h.objs.size := (x a o e).lt
theorem HOk.fresh (x : HOk P w H h) (e : h.objs.size ≤ a) : H a = none := by
  cases q : H a with
  | none => rfl
  | some u => exact absurd (Nat.lt_of_lt_of_le (x.lt q) e) (Nat.lt_irrefl _)
/-- every object of the heap is kept -/
theorem HOk.kept (x : HOk P w H h) (k : ∀ b u, h.get? b = some u → h'.get? b = some u) : HOk P w H h' := fun a o e =>
  (x a o e).stay (fun b u _ q => k b u q) (fun _ q => q) fun _ _ q => q
/-- a new object is laid and tracked -/
theorem HOk.laid (x : HOk P w H h) (k : ∀ b u, h.get? b = some u → h'.get? b = some u) (hp : h.objs.size ≤ a) (new : ObjOk P w (upd H a o) h' a o) : HOk P w (upd H a o) h' := fun b u e => by
  have hn := x.fresh hp
  by_cases hb : b = a
  · subst hb; rw [upd_same] at e; cases e; exact new
  · rw [upd_ne hb] at e
    exact (x b u e).stay (fun c v _ q => k c v q) (fun c q => by rw [upd_ne (ne_of_none q hn)]; exact q) fun c xs q => by rw [upd_ne (ne_of_none q hn)]; exact q
end

/-- what may be read as u: it is u, or a known u -/
def Rd (H : Hp) (a : Addr) (u : HO) : Prop := H a = some u ∨ ∃ o, H a = some (.frz o u)
theorem Rd.of {H : Hp} {a : Addr} {u : HO} (h : H a = some u) : Rd H a u := .inl h
theorem Rd.ok {P : Program} {w : World} {H : Hp} {h : Heap} {a : Addr} {u : HO} (r : Rd H a u) (x : HOk P w H h) : ObjOk P w H h a u := by
  rcases r with r | ⟨o, r⟩
  · exact x a u r
  · obtain ⟨_, q⟩ := x a _ r
    exact q
/-- what may be written -/
def Mut : Option HO → Prop
  | some (.lst _) => True
  | some (.dK _) => True
  | some (.dT _) => True
  | some (.set _ _) => True
  | some (.ins _ _ _) => True
  | some (.ext _) => True
  | _ => False
section
variable {P : Program} {w : World} {H : Hp} {h h' : Heap} {x e : Addr} {o' : HO}
/-- the object at e is changed: x itself, or the dict of the instance x -/
theorem HOk.write (ok : HOk P w H h) (mu : Mut (H x)) (he : e = x ∨ H e = some (.own x)) (k : ∀ b u, b ≠ e → h.get? b = some u → h'.get? b = some u) (heo : ∃ u, h'.get? e = some u)
    (new : ObjOk P w (upd H x o') h' x o') : HOk P w (upd H x o') h' := fun b u q => by
  have nown : ∀ c y, H c = some (.own y) → c ≠ x := fun c y r z => by subst z; rw [r] at mu; exact mu
  have ntup : ∀ c xs, H c = some (.tup xs) → c ≠ x := fun c xs r z => by subst z; rw [r] at mu; exact mu
  by_cases hb : b = x
  · subst hb; rw [upd_same] at q; cases q; exact new
  · rw [upd_ne hb] at q
    by_cases hbe : b = e
    · have q' : H b = some (.own x) := by
        rcases he with z | z
        · exact absurd (hbe.trans z) hb
        · rw [hbe]; exact z
      rw [q] at q'; cases q'
      obtain ⟨v, hv⟩ := heo
      exact ⟨v, by rw [hbe]; exact hv⟩
    · refine (ok b u q).stay (fun c v hc r => k c v ?_ r) (fun c r => by rw [upd_ne (nown c b r)]; exact r) fun c xs r => by rw [upd_ne (ntup c xs r)]; exact r
      rcases hc with rfl | hc
      · exact hbe
      · rintro rfl
        rcases he with z | z
        · exact nown c b hc z
        · rw [hc] at z; cases z; exact hb rfl
end

/-! ### kept unless tracked; of the frames at fs (the callers') the slots may change (an exception that passes writes there); of the records at ex (iterators) nothing is said -/
structure Un (fs ex : List Addr) (H H' : Hp) (h h' : Heap) : Prop where
  keep : ∀ b o, h.get? b = some o → H b = none → b ∉ fs → b ∉ ex → h'.get? b = some o
  slot : ∀ b o, h.get? b = some o → H b = none → b ∈ fs → b ∉ ex → ∃ sl, h'.get? b = some { o with slots := sl }
  free : ∀ b o, h.get? b = some o → H b = none → b ∉ ex → H' b = none
  there : ∀ b o, h.get? b = some o → b ∉ ex → ∃ o', h'.get? b = some o'
  tups : ∀ b xs, H b = some (.tup xs) → H' b = some (.tup xs)
  frzs : ∀ b o u, H b = some (.frz o u) → H' b = some (.frz o u)
  tbls : ∀ b ps, H b = some (.tbl ps) → ∃ more, H' b = some (.tbl (ps ++ more))
section
variable {fs fs' ex ex' : List Addr} {H H1 H2 : Hp} {h h1 h2 h' : Heap} {a x e : Addr} {o : HO}
theorem Un.any (u : Un fs ex H H1 h h1) {b : Addr} {ob : Obj} (q : h.get? b = some ob) (n : H b = none) (hx : b ∉ ex) : ∃ sl, h1.get? b = some { ob with slots := sl } := by
  by_cases hb : b ∈ fs
  · exact u.slot b ob q n hb hx
  · exact ⟨ob.slots, u.keep b ob q n hb hx⟩
theorem Un.trans (a : Un fs ex H H1 h h1) (b : Un fs ex H1 H2 h1 h2) : Un fs ex H H2 h h2 where
  keep := fun c ob q n hc hx => b.keep c ob (a.keep c ob q n hc hx) (a.free c ob q n hx) hc hx
  slot := fun c ob q n hc hx => by
    obtain ⟨sl, e1⟩ := a.slot c ob q n hc hx
    obtain ⟨sl', e2⟩ := b.slot c _ e1 (a.free c ob q n hx) hc hx
    exact ⟨sl', e2⟩
  free := fun c ob q n hx => by
    obtain ⟨o', e1⟩ := a.there c ob q hx
    exact b.free c o' e1 (a.free c ob q n hx) hx
  there := fun c ob q hx => by
    obtain ⟨o', e1⟩ := a.there c ob q hx
    exact b.there c o' e1 hx
  tups := fun c xs q => b.tups c xs (a.tups c xs q)
  frzs := fun c ob xs q => b.frzs c ob xs (a.frzs c ob xs q)
  tbls := fun c ps q => by
    obtain ⟨m1, e1⟩ := a.tbls c ps q
    obtain ⟨m2, e2⟩ := b.tbls c _ e1
    exact ⟨m1 ++ m2, by rw [e2, Array.append_assoc]⟩
theorem Un.kept (k : ∀ b u, h.get? b = some u → h'.get? b = some u) : Un fs ex H H h h' :=
  ⟨fun b ob q _ _ _ => k b ob q, fun b ob q _ _ _ => ⟨ob.slots, k b ob q⟩, fun _ _ _ n _ => n, fun b ob q _ => ⟨ob, k b ob q⟩, fun _ _ q => q, fun _ _ _ q => q, fun _ ps q => ⟨#[], by rw [q]; simp⟩⟩
theorem Un.refl : Un fs ex H H h h := Un.kept fun _ _ q => q
theorem Un.laid (k : ∀ b u, h.get? b = some u → h'.get? b = some u) (hp : h.objs.size ≤ a) (hn : H a = none) : Un fs ex H (upd H a o) h h' where
  keep := fun b u q _ _ _ => k b u q
  slot := fun b u q _ _ _ => ⟨u.slots, k b u q⟩
  free := fun b u q n _ => by rw [upd_ne (Nat.ne_of_lt (Nat.lt_of_lt_of_le (Heap.lt_size q) hp))]; exact n
  there := fun b u q _ => ⟨u, k b u q⟩
  tups := fun b xs q => by rw [upd_ne (ne_of_none q hn)]; exact q
  frzs := fun b u xs q => by rw [upd_ne (ne_of_none q hn)]; exact q
  tbls := fun b ps q => ⟨#[], by rw [upd_ne (ne_of_none q hn), q]; simp⟩
theorem Un.write (mu : Mut (H x)) (he : e = x ∨ H e = some (.own x)) (k : ∀ b u, b ≠ e → h.get? b = some u → h'.get? b = some u) (heo : ∃ u, h'.get? e = some u) : Un fs ex H (upd H x o) h h' := by
  have hx : ∀ b, H b = none → b ≠ x := fun b n z => by subst z; rw [n] at mu; exact mu
  have hb : ∀ b, H b = none → b ≠ e := fun b n z => by
    subst z
    rcases he with r | r
    · exact hx b n r
    · rw [n] at r; cases r
  have hm : ∀ b u, H b = some u → ¬ Mut (some u) → b ≠ x := fun b u q nm z => by subst z; rw [q] at mu; exact nm mu
  refine ⟨fun b u q n _ _ => k b u (hb b n) q, fun b u q n _ _ => ⟨u.slots, k b u (hb b n) q⟩, fun b u q n _ => by rw [upd_ne (hx b n)]; exact n, fun b u q _ => ?_,
    fun b xs q => by rw [upd_ne (hm b _ q fun z => z)]; exact q, fun b u xs q => by rw [upd_ne (hm b _ q fun z => z)]; exact q, fun b ps q => ⟨#[], by rw [upd_ne (hm b _ q fun z => z), q]; simp⟩⟩
  by_cases hbe : b = e
  · subst hbe; exact heo
  · exact ⟨u, k b u hbe q⟩
theorem Un.mono (u : Un fs ex H H1 h h1) (hs : ∀ b ∈ fs, b ∈ fs') (hx : ∀ b ∈ ex, b ∈ ex') : Un fs' ex' H H1 h h1 :=
  ⟨fun b ob q n hb he => u.keep b ob q n (fun z => hb (hs b z)) fun z => he (hx b z), fun _ _ q n _ he => u.any q n fun z => he (hx _ z), fun b ob q n he => u.free b ob q n fun z => he (hx b z), fun b ob q he => u.there b ob q fun z => he (hx b z), u.tups, u.frzs, u.tbls⟩
end

/-! ### the heap without what is tracked -/
def trk (h : Heap) (H : Hp) : List Addr := (List.range h.objs.size).filter fun a => (H a).isSome
def hidT (h : Heap) (H : Hp) : Heap := PySem.W.hideAll h (trk h H)
theorem hidT_size (h : Heap) (H : Hp) : (hidT h H).objs.size = h.objs.size := PySem.W.hideAll_size _ _
theorem hidT_get {h : Heap} {H : Hp} {b : Addr} {o : Obj} (e : h.get? b = some o) (n : H b = none) : (hidT h H).get? b = some o :=
  PySem.W.hideAll_get _ e fun hm => by
    have q : (H b).isSome = true := (List.mem_filter.mp hm).2
    rw [n] at q; simp at q
theorem of_hidT {h : Heap} {H : Hp} {b : Addr} {o : Obj} (e : (hidT h H).get? b = some o) : h.get? b = some o ∧ H b = none := by
  have e' : h.get? b = some o := PySem.W.of_hideAll (trk h H) e
  refine ⟨e', ?_⟩
  cases q : H b with
  | none => rfl
  | some x =>
    have hm : b ∈ trk h H := List.mem_filter.mpr ⟨List.mem_range.mpr (Heap.lt_size e'), by simp [q]⟩
    have z : (hidT h H).get? b = none := PySem.W.hideAll_none (trk h H) hm
    rw [z] at e; cases e

/-! ### OpenK's ledger, filled with every new object but one -/
def allNews (g h : Heap) (L : Addr) : List (Addr × Obj) := (List.range h.objs.size).filterMap fun a => if a = L ∨ (g.get? a).isSome = true then none else (h.get? a).map fun o => (a, o)
theorem mem_allNews {g h : Heap} {L a : Addr} {o : Obj} (h1 : a ≠ L) (h2 : g.get? a = none) (h3 : h.get? a = some o) : (a, o) ∈ allNews g h L :=
  List.mem_filterMap.mpr ⟨a, List.mem_range.mpr (Heap.lt_size h3), by simp [h1, h2, h3]⟩
theorem of_mem_allNews {g h : Heap} {L : Addr} {p : Addr × Obj} (hp : p ∈ allNews g h L) : p.1 ≠ L ∧ g.get? p.1 = none ∧ h.get? p.1 = some p.2 := by
  obtain ⟨b, _, e⟩ := List.mem_filterMap.mp hp
  split at e
  · cases e
  · rename_i hn
    cases q : h.get? b with
    | none => rw [q] at e; simp at e
    | some u =>
      rw [q] at e
      simp only [Option.map_some, Option.some.injEq] at e
      subst e
      refine ⟨fun z => hn (.inl z), ?_, q⟩
      show g.get? b = none
      cases r : g.get? b with
      | none => rfl
      | some v => exact (hn (.inr (by simp [r]))).elim
def rest (g h : Heap) (L d : Addr) : List (Addr × Obj) := (allNews g h L).filter fun p => decide (p.1 ≠ d)
theorem rest_ne {g h : Heap} {L d : Addr} : ∀ p ∈ rest g h L d, p.1 ≠ d := fun p hp => of_decide_eq_true (List.mem_filter.mp hp).2
theorem mem_rest {g h : Heap} {L d a : Addr} {o : Obj} (h1 : a ≠ L) (h2 : g.get? a = none) (h3 : h.get? a = some o) (h4 : a ≠ d) : (a, o) ∈ rest g h L d :=
  List.mem_filter.mpr ⟨mem_allNews h1 h2 h3, decide_eq_true h4⟩
theorem news_all {g h : Heap} {L : Addr} : News g L h (allNews g h L) := fun p hp => let ⟨a, b, c⟩ := of_mem_allNews hp; ⟨c, a, b⟩
theorem news_at {g h : Heap} {L d : Addr} {o : Obj} (h1 : d ≠ L) (h2 : g.get? d = none) (h3 : h.get? d = some o) : News g L h ((d, o) :: rest g h L d) := fun p hp => by
  rcases List.mem_cons.mp hp with rfl | hp
  · exact ⟨h3, h1, h2⟩
  · exact news_all p (List.mem_filter.mp hp).1
/-- behind a rule that changed d alone: all else but the frame is kept -/
theorem kept_of_news {g h h' : Heap} {L d : Addr} {m : Str → Option Value} (k : ∀ b o, g.get? b = some o → h.get? b = some o) (F : Fr g L h' m) (N : News g L h' (rest g h L d)) :
    ∀ b o, b ≠ L → b ≠ d → h.get? b = some o → h'.get? b = some o := fun b o h1 h2 e => by
  cases q : g.get? b with
  | some u =>
    have := k b u q
    rw [e] at this; cases this
    exact F.keep b _ q
  | none => exact (N (b, o) (mem_rest h1 q e h2)).1
end L2

namespace L2
open PySem PySem.Spec PyProof.Rows

/-- the module's facts, over the base: the heap at the law's entry without what is tracked there -/
structure Mod (K : PySem.W.Frag) (mg : Str → Option Value) (base : Heap) : Prop where
  kin : K.In base
  glob : base.Ns mainGlobals mg
  blt : ∃ mb, base.Ns builtinsNs mb ∧ ∀ x : Str, x ≠ "__name__" → mb x = bootBuiltins x
  nolimit : base.NoLimit

/-- the context: a def's body (or a comprehension's block) running. base: fixed through the whole law; s₀, H₀: the entry; outer: the frames whose slots others may change (a def's callers); stack: all frames that run;
   ex: iterators that were made ahead of the entry and are walked here (a comprehension's); fn: the names whose cells were made at the entry (a def: all; a comprehension's block: its own); calm: not within an except suite; pn: pins that every state bears; xe: what is wanted of an exception that leaves the code -/
structure Cx where
  prog : Program
  w : World
  K : PySem.W.Frag
  mg : Str → Option Value
  base : Heap
  A : Around
  N : List Str
  s₀ : Shared
  H₀ : Hp
  env : Env
  outer : List Env
  stack : List Env
  ex : List Addr
  fn : Str → Bool
  calm : Bool
  pn : List (Addr × Obj)
  xe : Value → Shared → Prop
/-- the callers' frames -/
def frs (l : List Env) : List Addr := l.filterMap (·.frame)
abbrev Cx.fs (X : Cx) : List Addr := frs X.outer

def Vis (sc : Scope) (x : Str) : Prop := sc.names.lookup x = some .local ∨ sc.names.lookup x = some .cell ∨ sc.names.lookup x = some .free
def Loc (sc : Scope) (x : Str) : Prop := sc.names.lookup x = some .local ∨ sc.names.lookup x = some .cell
def Look (env : Env) (h : Heap) (m : Str → Option Value) (x : Str) (u : Value) : Prop :=
  (env.kindOf x = some .local ∧ m x = some u) ∨ ((env.kindOf x = some .cell ∨ env.kindOf x = some .free) ∧ ∃ c, env.cells.lookup x = some c ∧ h.IsCell c (some u))

structure Cx.Ok (X : Cx) : Prop where
  mod : Mod X.K X.mg X.base
  kind : X.env.scope.kind = .function
  glob : X.env.globals = mainGlobals
  blt : X.env.builtins = builtinsNs
  above : X.s₀.heap.objs.size ≤ X.env.locals
  inj : ∀ x y c, X.env.cells.lookup x = some c → X.env.cells.lookup y = some c → x = y
  has : ∀ x, (X.env.kindOf x = some .cell ∨ X.env.kindOf x = some .free) → ∃ c, X.env.cells.lookup x = some c
  cab : ∀ x c, X.fn x = true → X.env.cells.lookup x = some c → X.s₀.heap.objs.size ≤ c
  hd : X.calm = true → X.A.handled = none
  frames : X.A.frames = some X.stack
  stk : X.stack = X.outer ∨ (X.stack = X.env :: X.outer ∧ X.env.frame = some X.env.locals)
  exf : ∀ b ∈ X.ex, b ≠ X.env.locals ∧ ∀ x c, X.env.cells.lookup x = some c → c ≠ b
  bs : ∀ b o, X.base.get? b = some o → X.s₀.heap.get? b = some o ∧ X.H₀ b = none
  bsz : X.base.objs.size ≤ X.s₀.heap.objs.size
  noex : ∀ b o, X.base.get? b = some o → b ∉ X.ex
  exfs : ∀ b ∈ X.ex, b ∉ X.fs
  funs : X.s₀.heap.FunFrames X.base X.outer
  frf : ∀ b ∈ X.fs, X.H₀ b = none

structure Inv (X : Cx) (pins : List (Addr × Obj)) (σ : List (Option V)) (H : Hp) (s : Shared) : Prop where
  ok : X.Ok
  os : s.os = X.s₀.os
  bare : AllBare s.gens
  base : Un X.fs X.ex X.H₀ H X.s₀.heap s.heap
  loc : ∃ m, s.heap.Ns X.env.locals m ∧ ∀ (i : Nat) (x : Str) (v : V), X.N[i]? = some x → σ[i]? = some (some v) → Vis X.env.scope x → ∃ u, RelV v u ∧ Look X.env s.heap m x u
  cell : ∀ x c, X.env.cells.lookup x = some c → ∃ v, s.heap.IsCell c v
  free : H X.env.locals = none
  freeC : ∀ x c, X.env.cells.lookup x = some c → H c = none
  pin : ∀ p ∈ X.pn ++ pins, s.heap.get? p.1 = some p.2 ∧ H p.1 = none ∧ p.1 ≠ X.env.locals ∧ p.1 ∉ X.fs ∧ ∀ v, p.2.data ≠ .cell v
  hok : HOk X.prog X.w H s.heap
  len : σ.length = X.N.length

section
variable {X : Cx} {pins : List (Addr × Obj)} {σ : List (Option V)} {H H' : Hp} {s : Shared} {h' : Heap}

theorem Cx.Ok.nofr (ok : X.Ok) {b : Addr} {o : Obj} (e : X.base.get? b = some o) : b ∉ X.fs := fun hb => by
  have := (ok.funs.mem hb).1
  rw [e] at this; cases this
theorem Inv.bs (I : Inv X pins σ H s) : ∀ b o, X.base.get? b = some o → s.heap.get? b = some o ∧ H b = none := fun b o e =>
  ⟨I.base.keep b o (I.ok.bs b o e).1 (I.ok.bs b o e).2 (I.ok.nofr e) (I.ok.noex b o e), I.base.free b o (I.ok.bs b o e).1 (I.ok.bs b o e).2 (I.ok.noex b o e)⟩
theorem Inv.bk (I : Inv X pins σ H s) : ∀ b o, X.base.get? b = some o → s.heap.get? b = some o := fun b o e => (I.bs b o e).1
theorem Inv.mod (I : Inv X pins σ H s) : Mod X.K X.mg X.base := I.ok.mod
theorem Inv.kIn (I : Inv X pins σ H s) : X.K.In s.heap := I.ok.mod.kin.keeps I.bk
theorem Inv.nolimit (I : Inv X pins σ H s) : s.heap.NoLimit := I.ok.mod.nolimit.keeps I.bk
/-- the frame over the base: for OpenK's rules (K.In X.base is I.mod.kin) -/
theorem Inv.fr (I : Inv X pins σ H s) : ∃ m, Fr X.base X.env.locals s.heap m :=
  let ⟨m, hn, _⟩ := I.loc
  ⟨m, hn, I.bk, Nat.le_trans I.ok.bsz I.ok.above⟩
theorem Inv.lt (I : Inv X pins σ H s) : X.env.locals < s.heap.objs.size := let ⟨_, hn, _⟩ := I.loc; hn.lt
theorem Inv.sz (I : Inv X pins σ H s) : X.s₀.heap.objs.size ≤ s.heap.objs.size := Nat.le_trans I.ok.above (Nat.le_of_lt I.lt)
theorem Inv.nofs (I : Inv X pins σ H s) {a : Addr} (h : s.heap.objs.size ≤ a) : a ∉ X.fs := fun hb => by
  obtain ⟨_, o, ho, _⟩ := I.ok.funs.mem hb
  exact absurd (Nat.lt_of_lt_of_le (Heap.lt_size ho) (Nat.le_trans I.sz h)) (Nat.lt_irrefl _)
theorem Inv.cne (I : Inv X pins σ H s) : ∀ x c, X.env.cells.lookup x = some c → c ≠ X.env.locals := fun x c e z => by
  obtain ⟨v, o, ho, hd⟩ := I.cell x c e
  obtain ⟨m, ⟨o', es, ep, ho', hd', _⟩, _⟩ := I.loc
  rw [z, ho'] at ho; cases ho; rw [hd'] at hd; cases hd
theorem Inv.funs (I : Inv X pins σ H s) : s.heap.FunFrames X.base X.outer := by
  have all : ∀ (l : List Env), (∀ b ∈ frs l, b ∈ X.fs) → X.s₀.heap.FunFrames X.base l → s.heap.FunFrames X.base l := by
    intro l
    induction l with
    | nil => intro _ _; trivial
    | cons env r ih =>
      intro hs hl
      obtain ⟨hk, ⟨L, o, hf, hn, ho, hd⟩, hr⟩ := hl
      have hL : L ∈ X.fs := hs L (by unfold frs; rw [List.filterMap_cons, hf]; exact List.mem_cons_self)
      obtain ⟨sl, e⟩ := I.base.slot L o ho (I.ok.frf L hL) hL fun z => I.ok.exfs L z hL
      exact ⟨hk, ⟨L, _, hf, hn, e, hd⟩, ih (fun b hb => hs b (by unfold frs; rw [List.filterMap_cons, hf]; exact List.mem_cons_of_mem _ hb)) hr⟩
  exact all X.outer (fun _ hb => hb) I.ok.funs

/-- the frames that run, for a call -/
theorem Inv.stack (I : Inv X pins σ H s) : s.heap.FunFrames X.base X.stack := by
  rcases I.ok.stk with e | ⟨e, hf⟩
  · rw [e]; exact I.funs
  · rw [e]
    obtain ⟨m, hn, _⟩ := I.loc
    refine .cons (by rw [I.ok.kind]; decide) hf hn ?_ I.funs
    exact Heap.get?_none_of_le (Nat.le_trans I.ok.bsz I.ok.above)
theorem Inv.stkSub (I : Inv X pins σ H s) : ∀ b ∈ frs X.stack, b ∈ X.env.locals :: X.fs := fun b hb => by
  rcases I.ok.stk with e | ⟨e, hf⟩
  · rw [e] at hb; exact List.mem_cons_of_mem _ hb
  · rw [e] at hb
    unfold frs at hb
    rw [List.filterMap_cons, hf] at hb
    exact hb
theorem Inv.stkFree (I : Inv X pins σ H s) : ∀ b ∈ frs X.stack, H b = none := fun b hb => by
  rcases List.mem_cons.mp (I.stkSub b hb) with e | hb
  · rw [e]; exact I.free
  · obtain ⟨_, o, ho, _⟩ := I.ok.funs.mem hb
    exact I.base.free b o ho (I.ok.frf b hb) fun z => I.ok.exfs b z hb

/-- THE STEP: the untracked objects but the frame and the records at ch are kept (the callers' frames up to slots), the frame's map is kept, the new abstract heap is held -/
theorem Inv.step {g' : Array GenState} {t' : Nat} {d' : Drawn} {ch : List Addr} (I : Inv X pins σ H s)
    (hch : ∀ b ∈ ch, (b ∈ X.ex ∨ X.s₀.heap.objs.size ≤ b) ∧ b ≠ X.env.locals ∧ (∀ x c, X.env.cells.lookup x = some c → c ≠ b) ∧ ∀ p ∈ X.pn ++ pins, p.1 ≠ b)
    (keep : ∀ b o, b ≠ X.env.locals → b ∉ X.fs → b ∉ ch → s.heap.get? b = some o → H b = none → h'.get? b = some o)
    (slot : ∀ b o, b ≠ X.env.locals → b ∈ X.fs → b ∉ ch → s.heap.get? b = some o → H b = none → ∃ sl, h'.get? b = some { o with slots := sl }) (free : ∀ b o, b ∉ ch → s.heap.get? b = some o → H b = none → H' b = none)
    (there : ∀ b o, b ∉ ch → s.heap.get? b = some o → ∃ o', h'.get? b = some o')
    (tups : ∀ b xs, H b = some (.tup xs) → H' b = some (.tup xs)) (frzs : ∀ b o u, H b = some (.frz o u) → H' b = some (.frz o u)) (tbls : ∀ b ps, H b = some (.tbl ps) → ∃ more, H' b = some (.tbl (ps ++ more)))
    (ns : ∀ m, s.heap.Ns X.env.locals m → h'.Ns X.env.locals m) (hok : HOk X.prog X.w H' h') (hg : AllBare g') :
    Inv X pins σ H' { s with heap := h', gens := g', drawn := d', toks := t' } := by
  have neL : ∀ b o, X.s₀.heap.get? b = some o → b ≠ X.env.locals := fun b o e => Nat.ne_of_lt (Nat.lt_of_lt_of_le (Heap.lt_size e) I.ok.above)
  have neC : ∀ b o, X.s₀.heap.get? b = some o → b ∉ X.ex → b ∉ ch := fun b o e hx hb => by
    rcases (hch b hb).1 with z | z
    · exact hx z
    · exact absurd (Nat.lt_of_lt_of_le (Heap.lt_size e) z) (Nat.lt_irrefl _)
  have cellK : ∀ x c, X.env.cells.lookup x = some c → ∀ v, s.heap.IsCell c v → h'.IsCell c v := fun x c e v ⟨o, ho, hd⟩ => by
    have nch : c ∉ ch := fun z => (hch c z).2.2.1 x c e rfl
    by_cases hc : c ∈ X.fs
    · obtain ⟨sl, q⟩ := slot c o (I.cne x c e) hc nch ho (I.freeC x c e)
      exact ⟨_, q, hd⟩
    · exact ⟨o, keep c o (I.cne x c e) hc nch ho (I.freeC x c e), hd⟩
  refine ⟨I.ok, I.os, hg, ⟨fun b o e n hb hx => ?_, fun b o e n hb hx => ?_, fun b o e n hx => ?_, fun b o e hx => ?_, fun b xs e => tups b xs (I.base.tups b xs e), fun b o xs e => frzs b o xs (I.base.frzs b o xs e), fun b ps e => ?_⟩, ?_, fun x c e => ?_, ?_, fun x c e => ?_, fun p hp => ?_, hok, I.len⟩
  · exact keep b o (neL b o e) hb (neC b o e hx) (I.base.keep b o e n hb hx) (I.base.free b o e n hx)
  · obtain ⟨sl, e1⟩ := I.base.slot b o e n hb hx
    obtain ⟨sl', e2⟩ := slot b _ (neL b o e) hb (neC b o e hx) e1 (I.base.free b o e n hx)
    exact ⟨sl', e2⟩
  · obtain ⟨o', e1⟩ := I.base.there b o e hx
    exact free b o' (neC b o e hx) e1 (I.base.free b o e n hx)
  · obtain ⟨o', e1⟩ := I.base.there b o e hx
    exact there b o' (neC b o e hx) e1
  · obtain ⟨m1, e1⟩ := I.base.tbls b ps e
    obtain ⟨m2, e2⟩ := tbls b _ e1
    exact ⟨m1 ++ m2, by rw [e2, Array.append_assoc]⟩
  · obtain ⟨m, hn, hl⟩ := I.loc
    refine ⟨m, ns m hn, fun i x v e1 e2 e3 => ?_⟩
    obtain ⟨u, r, l⟩ := hl i x v e1 e2 e3
    refine ⟨u, r, ?_⟩
    rcases l with l | ⟨k, c, e, z⟩
    · exact .inl l
    · exact .inr ⟨k, c, e, cellK x c e _ z⟩
  · obtain ⟨v, z⟩ := I.cell x c e
    exact ⟨v, cellK x c e v z⟩
  · obtain ⟨m, ⟨o, _, _, ho, _⟩, _⟩ := I.loc
    exact free _ o (fun z => (hch _ z).2.1 rfl) ho I.free
  · obtain ⟨v, o, ho, hd⟩ := I.cell x c e
    exact free c o (fun z => (hch c z).2.2.1 x c e rfl) ho (I.freeC x c e)
  · obtain ⟨e, n, ne, nf, d⟩ := I.pin p hp
    have nch : p.1 ∉ ch := fun z => (hch p.1 z).2.2.2 p hp rfl
    exact ⟨keep p.1 p.2 ne nf nch e n, free p.1 p.2 nch e n, ne, nf, d⟩
/-- .. where the frame's own object is kept too -/
theorem Inv.un {t' : Nat} (I : Inv X pins σ H s) (u : Un X.fs [] H H' s.heap h') (hok : HOk X.prog X.w H' h') : Inv X pins σ H' { s with heap := h', toks := t' } := by
  obtain ⟨m, ⟨o, es, ep, ho, r⟩, _⟩ := id I.loc
  obtain ⟨sl, hL⟩ := u.any ho I.free (by simp)
  exact I.step (g' := s.gens) (d' := s.drawn) (ch := []) (fun _ z => nomatch z) (fun b o _ hb _ e n => u.keep b o e n hb (by simp)) (fun b o _ hb _ e n => u.slot b o e n hb (by simp)) (fun b o _ e n => u.free b o e n (by simp)) (fun b o _ e => u.there b o e (by simp)) u.tups u.frzs u.tbls (fun m' hm => by
    obtain ⟨o', es', ep', ho', r'⟩ := hm
    rw [ho] at ho'; cases ho'
    exact ⟨_, es', ep', hL, r'⟩) hok I.bare
/-- behind a call (or a comprehension's block): the slots of this frame may have changed too, the records at ch may have turned -/
theorem Inv.call {g' : Array GenState} {t' : Nat} {d' : Drawn} {ch : List Addr} (I : Inv X pins σ H s) (u : Un (frs X.stack) ch H H' s.heap h') (hok : HOk X.prog X.w H' h') (hg : AllBare g')
    (hch : ∀ b ∈ ch, (b ∈ X.ex ∨ X.s₀.heap.objs.size ≤ b) ∧ b ≠ X.env.locals ∧ (∀ x c, X.env.cells.lookup x = some c → c ≠ b) ∧ ∀ p ∈ X.pn ++ pins, p.1 ≠ b) :
    Inv X pins σ H' { s with heap := h', gens := g', drawn := d', toks := t' } := by
  obtain ⟨m, ⟨o, es, ep, ho, r⟩, _⟩ := id I.loc
  obtain ⟨sl, hL⟩ := u.any ho I.free fun z => (hch _ z).2.1 rfl
  exact I.step (ch := ch) hch (fun b o hL hb hc e n => u.keep b o e n (fun z => (List.mem_cons.mp (I.stkSub b z)).elim hL hb) hc) (fun b o _ _ hc e n => u.any e n hc) (fun b o hc e n => u.free b o e n hc) (fun b o hc e => u.there b o e hc) u.tups u.frzs u.tbls (fun m' hm => by
    obtain ⟨o', es', ep', ho', r'⟩ := hm
    rw [ho] at ho'; cases ho'
    exact ⟨_, es', ep', hL, r'⟩) hok hg
/-- an untracked record of ours (an iterator) has turned -/
theorem Inv.turned {t' : Nat} {it : Addr} (I : Inv X pins σ H s) (k : ∀ b o, b ≠ it → s.heap.get? b = some o → h'.get? b = some o) (hn : H it = none) (hL : it ≠ X.env.locals)
    (h1 : it ∈ X.ex ∨ X.s₀.heap.objs.size ≤ it) (h2 : ∀ x c, X.env.cells.lookup x = some c → c ≠ it) (h3 : ∀ p ∈ X.pn ++ pins, p.1 ≠ it) : Inv X pins σ H { s with heap := h', toks := t' } := by
  have nit : ∀ b u, H b = some u → b ≠ it := fun b u e z => by rw [z, hn] at e; cases e
  refine I.step (g' := s.gens) (d' := s.drawn) (ch := [it]) (fun b hb => ?_) (fun b o _ _ hc e _ => k b o (fun z => hc (by simp [z])) e) (fun b o _ _ hc e _ => ⟨o.slots, k b o (fun z => hc (by simp [z])) e⟩) (fun _ _ _ _ n => n)
    (fun b o hc e => ⟨o, k b o (fun z => hc (by simp [z])) e⟩) (fun _ _ e => e) (fun _ _ _ e => e) (fun b ps e => ⟨#[], by rw [e]; simp⟩) (fun m hm => ?_) (fun b u e => ?_) I.bare
  · have e : b = it := by simpa using hb
    subst e
    exact ⟨h1, hL, h2, h3⟩
  · obtain ⟨o, es, ep, ho, r⟩ := hm
    exact ⟨o, es, ep, k _ o (Ne.symm hL) ho, r⟩
  · refine (I.hok b u e).stay (fun c v hc q => k c v ?_ q) (fun _ q => q) fun _ _ q => q
    rcases hc with z | z
    · rw [z]; exact nit b u e
    · exact nit c _ z
theorem Inv.tok (I : Inv X pins σ H s) (t : Nat) : Inv X pins σ H { s with toks := t } := I.un (h' := s.heap) (t' := t) Un.refl I.hok
/-- all objects kept -/
theorem Inv.kept {t' : Nat} (I : Inv X pins σ H s) (k : ∀ b u, s.heap.get? b = some u → h'.get? b = some u) : Inv X pins σ H { s with heap := h', toks := t' } := I.un (Un.kept k) (I.hok.kept k)
/-- a new object laid and tracked -/
theorem Inv.laid {a : Addr} {o : HO} {t' : Nat} (I : Inv X pins σ H s) (k : ∀ b u, s.heap.get? b = some u → h'.get? b = some u) (hp : s.heap.objs.size ≤ a) (new : ObjOk X.prog X.w (upd H a o) h' a o) :
    Inv X pins σ (upd H a o) { s with heap := h', toks := t' } := I.un (Un.laid k hp (I.hok.fresh hp)) (I.hok.laid k hp new)
/-- an object written -/
theorem Inv.write {x e : Addr} {o : HO} {t' : Nat} (I : Inv X pins σ H s) (mu : Mut (H x)) (he : e = x ∨ H e = some (.own x)) (k : ∀ b u, b ≠ e → s.heap.get? b = some u → h'.get? b = some u) (heo : ∃ u, h'.get? e = some u)
    (new : ObjOk X.prog X.w (upd H x o) h' x o) : Inv X pins σ (upd H x o) { s with heap := h', toks := t' } := I.un (Un.write mu he k heo) (I.hok.write mu he k heo new)
/-- forgetting slots, pins -/
theorem Inv.weak {σ' : List (Option V)} (I : Inv X pins σ H s) (hl : σ'.length = σ.length) (w : ∀ (i : Nat) v, σ'[i]? = some (some v) → σ[i]? = some (some v)) : Inv X pins σ' H s :=
  ⟨I.ok, I.os, I.bare, I.base, let ⟨m, hn, hl'⟩ := I.loc; ⟨m, hn, fun i x v e1 e2 e3 => hl' i x v e1 (w i v e2) e3⟩, I.cell, I.free, I.freeC, I.pin, I.hok, hl.trans I.len⟩
theorem Inv.pins_of {pins' : List (Addr × Obj)} (I : Inv X pins σ H s) (h : ∀ p ∈ pins', s.heap.get? p.1 = some p.2 ∧ H p.1 = none ∧ p.1 ≠ X.env.locals ∧ p.1 ∉ X.fs ∧ ∀ v, p.2.data ≠ .cell v) : Inv X pins' σ H s :=
  ⟨I.ok, I.os, I.bare, I.base, I.loc, I.cell, I.free, I.freeC, fun p hp => (List.mem_append.mp hp).elim (fun z => I.pin p (List.mem_append_left _ z)) (h p), I.hok, I.len⟩

theorem nodup_ix {N : List Str} (hN : N.Nodup) {i j : Nat} {x : Str} (a : N[i]? = some x) (b : N[j]? = some x) : i = j := by
  obtain ⟨h1, e1⟩ := List.getElem?_eq_some_iff.mp a
  obtain ⟨h2, e2⟩ := List.getElem?_eq_some_iff.mp b
  exact (List.getElem_inj hN).mp (e1.trans e2.symm)

/-- a name is stored; what changed -/
theorem store_ok2 {M : Model} {A : Around} {E : Value → Shared → Prop} {i : Nat} {x : Str} {v : V} {u : Value} {Q : Unit → Shared → Prop} (I : Inv X pins σ H s) (hN : X.N.Nodup) (hi : X.N[i]? = some x) (hx : Loc X.env.scope x) (r : RelV v u)
    (h : ∀ s', Inv X pins (σ.set i (some v)) H s' → (∃ a, Heap.SameBut a s.heap s'.heap ∧ (a = X.env.locals ∨ X.env.cells.lookup x = some a)) → Q () s') (hf : X.fn x = true ∨ X.env.scope.names.lookup x = some .local := by first | exact .inl rfl | exact .inr rfl | assumption) : wpAny M A (storeName X.env x u) Q E s := by
  obtain ⟨m, hn, hl⟩ := id I.loc
  have hcls : (X.env.scope.kind == .class || (X.env.scope.kind == .module && X.env.locals != X.env.globals)) = false := by rw [I.ok.kind]; rfl
  have hiσ : i < σ.length := by rw [I.len]; exact (List.getElem?_eq_some_iff.mp hi).1
  have cne := I.cne
  have tracked : ∀ {a : Addr} {h' : Heap}, (∃ o, s.heap.get? a = some o ∧ H a = none) → Heap.SameBut a s.heap h' → HOk X.prog X.w H h' := fun {a h'} ha hs b ob e => by
    obtain ⟨_, _, hfree⟩ := ha
    refine (I.hok b ob e).stay (fun c w' hc q => (hs.2 c ?_).trans q) (fun _ q => q) fun _ _ q => q
    rintro rfl
    rcases hc with rfl | hc
    · rw [hfree] at e; cases e
    · rw [hfree] at hc; cases hc
  rcases hx with hk | hk
  · refine wpAny_storeName_local hk hn (fun h' hn' hs => ?_) hcls
    obtain ⟨oL, _, _, hoL, _⟩ := id hn
    refine h _ ⟨I.ok, I.os, I.bare, ⟨fun b o e n hb hx => ?_, fun b o e n hb hx => ?_, I.base.free, fun b o e hx => ?_, I.base.tups, I.base.frzs, I.base.tbls⟩, ⟨_, hn', fun j y v' e1 e2 e3 => ?_⟩, fun y c e => ?_, I.free, I.freeC, fun p hp => ?_, tracked ⟨oL, hoL, I.free⟩ hs, by simpa using I.len⟩ ⟨_, hs, .inl rfl⟩
    · exact (hs.2 b (Nat.ne_of_lt (Nat.lt_of_lt_of_le (Heap.lt_size e) I.ok.above))).trans (I.base.keep b o e n hb hx)
    · obtain ⟨sl, e1⟩ := I.base.slot b o e n hb hx
      exact ⟨sl, (hs.2 b (Nat.ne_of_lt (Nat.lt_of_lt_of_le (Heap.lt_size e) I.ok.above))).trans e1⟩
    · obtain ⟨o', e1⟩ := I.base.there b o e hx
      exact ⟨o', (hs.2 b (Nat.ne_of_lt (Nat.lt_of_lt_of_le (Heap.lt_size e) I.ok.above))).trans e1⟩
    · by_cases hj : j = i
      · subst hj
        rw [hi] at e1; cases e1
        rw [List.getElem?_set_self hiσ] at e2
        cases e2
        exact ⟨u, r, .inl ⟨hk, by simp⟩⟩
      · rw [List.getElem?_set_ne (Ne.symm hj)] at e2
        obtain ⟨u', r', q⟩ := hl j y v' e1 e2 e3
        refine ⟨u', r', ?_⟩
        rcases q with ⟨k, e⟩ | ⟨k, c, e, z⟩
        · refine .inl ⟨k, ?_⟩
          have : y ≠ x := fun e => hj (nodup_ix hN e1 (e ▸ hi))
          simp [this, e]
        · exact .inr ⟨k, c, e, z.sameBut hs (cne y c e)⟩
    · obtain ⟨w', z⟩ := I.cell y c e
      exact ⟨w', z.sameBut hs (cne y c e)⟩
    · obtain ⟨e, n, ne, nf, d⟩ := I.pin p hp
      exact ⟨(hs.2 p.1 ne).trans e, n, ne, nf, d⟩
  · have hfn : X.fn x = true := by
      rcases hf with z | z
      · exact z
      · rw [z] at hk; cases hk
    obtain ⟨c, hc⟩ := I.ok.has x (.inl hk)
    obtain ⟨w', z⟩ := I.cell x c hc
    refine wpAny_storeName_cell I.ok.kind hk hc z (fun h' hc' hs => ?_)
    obtain ⟨oc, hoc, hocd⟩ := id z
    refine h { s with heap := h' } ⟨I.ok, I.os, I.bare, ⟨fun b o e n hb hx => ?_, fun b o e n hb hx => ?_, I.base.free, fun b o e hx => ?_, I.base.tups, I.base.frzs, I.base.tbls⟩, ⟨m, hn.sameBut hs (Ne.symm (cne x c hc)), fun j y v' e1 e2 e3 => ?_⟩, fun y c' e => ?_, I.free, I.freeC, fun p hp => ?_, tracked ⟨oc, hoc, I.freeC x c hc⟩ hs, by simpa using I.len⟩ ⟨c, hs, .inr hc⟩
    · exact (hs.2 b (Nat.ne_of_lt (Nat.lt_of_lt_of_le (Heap.lt_size e) (I.ok.cab x c hfn hc)))).trans (I.base.keep b o e n hb hx)
    · obtain ⟨sl, e1⟩ := I.base.slot b o e n hb hx
      exact ⟨sl, (hs.2 b (Nat.ne_of_lt (Nat.lt_of_lt_of_le (Heap.lt_size e) (I.ok.cab x c hfn hc)))).trans e1⟩
    · obtain ⟨o', e1⟩ := I.base.there b o e hx
      exact ⟨o', (hs.2 b (Nat.ne_of_lt (Nat.lt_of_lt_of_le (Heap.lt_size e) (I.ok.cab x c hfn hc)))).trans e1⟩
    · by_cases hj : j = i
      · subst hj
        rw [hi] at e1; cases e1
        rw [List.getElem?_set_self hiσ] at e2
        cases e2
        exact ⟨u, r, .inr ⟨.inl hk, c, hc, hc'⟩⟩
      · rw [List.getElem?_set_ne (Ne.symm hj)] at e2
        obtain ⟨u', r', q⟩ := hl j y v' e1 e2 e3
        refine ⟨u', r', ?_⟩
        rcases q with q | ⟨k, c', e, z'⟩
        · exact .inl q
        · refine .inr ⟨k, c', e, z'.sameBut hs ?_⟩
          rintro rfl
          exact hj (nodup_ix hN e1 (I.ok.inj _ _ _ e hc ▸ hi))
    · by_cases hcc : c' = c
      · subst hcc; exact ⟨_, hc'⟩
      · obtain ⟨w2, z2⟩ := I.cell y c' e
        exact ⟨w2, z2.sameBut hs hcc⟩
    · obtain ⟨e, n, ne, nf, d⟩ := I.pin p hp
      refine ⟨(hs.2 p.1 ?_).trans e, n, ne, nf, d⟩
      intro q
      rw [q, hoc] at e
      have q' : oc = p.2 := Option.some.inj e
      exact d w' (by rw [← q']; exact hocd)
theorem store_ok {M : Model} {A : Around} {E : Value → Shared → Prop} {i : Nat} {x : Str} {v : V} {u : Value} {Q : Unit → Shared → Prop} (I : Inv X pins σ H s) (hN : X.N.Nodup) (hi : X.N[i]? = some x) (hx : Loc X.env.scope x) (r : RelV v u)
    (h : ∀ s', Inv X pins (σ.set i (some v)) H s' → Q () s') (hf : X.fn x = true ∨ X.env.scope.names.lookup x = some .local := by first | exact .inl rfl | exact .inr rfl | assumption) : wpAny M A (storeName X.env x u) Q E s :=
  store_ok2 I hN hi hx r (fun s' I' _ => h s' I') hf
/-- behind a call or a block, the state as it is -/
theorem Inv.call' {s' : Shared} {ch : List Addr} (I : Inv X pins σ H s) (ho : s'.os = s.os) (u : Un (frs X.stack) ch H H' s.heap s'.heap) (hok : HOk X.prog X.w H' s'.heap) (hg : AllBare s'.gens)
    (hch : ∀ b ∈ ch, (b ∈ X.ex ∨ X.s₀.heap.objs.size ≤ b) ∧ b ≠ X.env.locals ∧ (∀ x c, X.env.cells.lookup x = some c → c ≠ b) ∧ ∀ p ∈ X.pn ++ pins, p.1 ≠ b) : Inv X pins σ H' s' := by
  obtain ⟨h', g', d', t', o'⟩ := s'
  have e : o' = s.os := ho
  subst e
  exact I.call (g' := g') (t' := t') (d' := d') u hok hg hch
end

/-! ### the judgements -/
/-- an exception: its class, its own dict's address (where it has one), the abstract heap behind it -/
abbrev XK := Value → Option Addr → Hp → Prop
abbrev St := List (Option V)
abbrev VK := V → Hp → Prop
/-- an expression's reading; a test's; an argument list's -/
abbrev TE := St → Hp → VK → Prop
abbrev TT := St → Hp → (Bool → Hp → Prop) → Prop
abbrev TA := St → Hp → (List V → Hp → Prop) → Prop
/-- what is wanted behind a statement -/
structure Ends where
  nx : St → Hp → Prop
  rt : VK
  bk : St → Hp → Prop := fun _ _ => False
  ct : St → Hp → Prop := fun _ _ => False
abbrev TS := Ends → St → Hp → Prop

def EP (X : Cx) (pins : List (Addr × Obj)) (σ : St) (Q : VK) (u : Value) (s' : Shared) : Prop := ∃ v H', Inv X pins σ H' s' ∧ RelV v u ∧ Q v H'
def TP (X : Cx) (pins : List (Addr × Obj)) (σ : St) (Q : Bool → Hp → Prop) (b : Bool) (s' : Shared) : Prop := ∃ H', Inv X pins σ H' s' ∧ Q b H'
def AP (X : Cx) (pins : List (Addr × Obj)) (σ : St) (Q : List V → Hp → Prop) (us : List Value) (s' : Shared) : Prop := ∃ vs H', Inv X pins σ H' s' ∧ Vals vs us ∧ Q vs H'
def SP (X : Cx) (pins : List (Addr × Obj)) (D : Ends) (f : Flow) (s' : Shared) : Prop :=
  match f with
  | .next => ∃ σ' H', Inv X pins σ' H' s' ∧ D.nx σ' H'
  | .brk => ∃ σ' H', Inv X pins σ' H' s' ∧ D.bk σ' H'
  | .cont => ∃ σ' H', Inv X pins σ' H' s' ∧ D.ct σ' H'
  | .ret u => ∃ v σ' H', Inv X pins σ' H' s' ∧ RelV v u ∧ D.rt v H'

def PE (X : Cx) (e : Expr) (t : TE) : Prop :=
  ∀ (pins : List (Addr × Obj)) (s : Shared) (σ : St) (H : Hp) (Q : VK), Inv X pins σ H s → t σ H Q → wpAny (model X.prog X.w) X.A (eval e X.env) (EP X pins σ Q) X.xe s
def PT (X : Cx) (e : Expr) (t : TT) : Prop :=
  ∀ (pins : List (Addr × Obj)) (s : Shared) (σ : St) (H : Hp) (Q : Bool → Hp → Prop), Inv X pins σ H s → t σ H Q → wpAny (model X.prog X.w) X.A (isTrue e X.env (eval e X.env)) (TP X pins σ Q) X.xe s
/-- a test whatever its 'whole' is (and, or) -/
def PW (X : Cx) (e : Expr) (t : TT) : Prop :=
  ∀ (whole : Sem Value) (pins : List (Addr × Obj)) (s : Shared) (σ : St) (H : Hp) (Q : Bool → Hp → Prop), Inv X pins σ H s → t σ H Q → wpAny (model X.prog X.w) X.A (isTrue e X.env whole) (TP X pins σ Q) X.xe s
theorem PW.pt {X : Cx} {e : Expr} {t : TT} (h : PW X e t) : PT X e t := h _
/-- an argument list (no star), from the left -/
def PA (X : Cx) (es : List Expr) (t : TA) : Prop :=
  ∀ (pos : Pos) (pins : List (Addr × Obj)) (s : Shared) (σ : St) (H : Hp) (Q : List V → Hp → Prop), Inv X pins σ H s → t σ H Q → wpAny (model X.prog X.w) X.A (spliced (backTo pos (starEach es X.env))) (AP X pins σ Q) X.xe s
def PS (X : Cx) (st : Stmt) (t : TS) : Prop :=
  ∀ (pins : List (Addr × Obj)) (s : Shared) (σ : St) (H : Hp) (D : Ends), Inv X pins σ H s → t D σ H → wpAny (model X.prog X.w) X.A (exec st X.env) (SP X pins D) X.xe s
def PSs (X : Cx) (st : List Stmt) (t : TS) : Prop :=
  ∀ (pins : List (Addr × Obj)) (s : Shared) (σ : St) (H : Hp) (D : Ends), Inv X pins σ H s → t D σ H → wpAny (model X.prog X.w) X.A (execs st X.env) (SP X pins D) X.xe s
/-- weaken the end -/
theorem thn {α : Type} {t : Sem α} {Q Q' : α → Shared → Prop} {M : Model} {A : Around} {E : Value → Shared → Prop} {s : Shared} (h : wpAny M A t Q E s) (hQ : ∀ a s, Q a s → Q' a s) : wpAny M A t Q' E s := wpAny_mono h hQ fun _ _ x => x
end L2

namespace L2
open PySem PySem.Spec PyProof.Rows
section
variable {X : Cx}

/-- two expressions in a row -/
theorem bin {a b : Expr} {ta tb : TE} (ha : PE X a ta) (hb : PE X b tb) {pins : List (Addr × Obj)} {s : Shared} {σ : St} {H : Hp} {R : V → V → Hp → Prop} (I : Inv X pins σ H s) (h : ta σ H fun x H1 => tb σ H1 fun y H2 => R x y H2)
    {α : Type} {Q : α → Shared → Prop} {f : Value → Value → Sem α}
    (hf : ∀ v u s2 x y H2, Inv X pins σ H2 s2 → RelV x v → RelV y u → R x y H2 → wpAny (model X.prog X.w) X.A (f v u) Q X.xe s2) :
    wpAny (model X.prog X.w) X.A (eval a X.env) (fun v s₁ => wpAny (model X.prog X.w) X.A (eval b X.env) (fun u s₂ => wpAny (model X.prog X.w) X.A (f v u) Q X.xe s₂) X.xe s₁) X.xe s := by
  refine thn (ha pins s σ H _ I h) fun v s1 ⟨x, H1, I1, r1, q1⟩ => ?_
  refine thn (hb pins s1 σ H1 _ I1 q1) fun u s2 ⟨y, H2, I2, r2, q2⟩ => ?_
  exact hf v u s2 x y H2 I2 r1 r2 q2

/-! ### names and constants -/
def tVar (i : Nat) : TE := fun σ H Q => ∃ v, σ[i]? = some (some v) ∧ Q v H
def tC (v : V) : TE := fun _ H Q => Q v H
theorem pe_var {i : Nat} {x : Str} {pos : Pos} (hN : X.N[i]? = some x) (hv : Vis X.env.scope x) (hd : (x == ("__debug__" : Str)) = false := by decide) (hcd : (x == ("__classdict__" : Str)) = false := by decide) : PE X (.Name x pos) (tVar i) := by
  intro pins s σ H Q I h
  obtain ⟨v, e, h⟩ := h
  obtain ⟨m, hn, hl⟩ := I.loc
  obtain ⟨u, r, l⟩ := hl i x v hN e hv
  have fin : EP X pins σ Q u s := ⟨v, H, I, r, h⟩
  rcases l with ⟨hk, hm⟩ | ⟨hk, c, hc, hcell⟩
  · exact wpAny_Name (wpAny_loadName_local I.ok.kind hk hn hm fin) hd
  · rcases hk with hk | hk
    · exact wpAny_Name (wpAny_loadName_cell I.ok.kind hk hc hcell fin) hd
    · exact wpAny_Name (wpAny_loadName_free I.ok.kind hk hc hcell fin hcd) hd
theorem pe_int {i j pos} : PE X (.Constant (.int i) j pos) (tC (.int i)) := fun _ _ _ H _ I h => wpAny_Constant_int ⟨.int i, H, I.tok _, ⟨_, rfl⟩, h⟩
theorem pe_bl {b j pos} : PE X (.Constant (.bool b) j pos) (tC (.bl b)) := fun _ _ _ H _ I h => Constant_bool ⟨.bl b, H, I, rfl, h⟩
theorem pe_non {j pos} : PE X (.Constant .none j pos) (tC .non) := fun _ _ _ H _ I h => Constant_none ⟨.non, H, I, rfl, h⟩
theorem pe_str {x j pos} : PE X (.Constant (.str x) j pos) (tC (.str x)) := fun _ _ _ H _ I h => Calls.Constant_str ⟨.str x, H, I.tok _, ⟨_, rfl⟩, h⟩

/-- a global name of the def -/
def Gl (X : Cx) (x : Str) : Prop := X.env.kindOf x = some .globalImplicit
theorem ld_glob {E : Value → Shared → Prop} {pins : List (Addr × Obj)} {s : Shared} {σ : St} {H : Hp} {x : Str} {u : Value} {pos : Pos} {Q : Value → Shared → Prop} (I : Inv X pins σ H s) (hg : Gl X x) (hm : X.mg x = some u) (h : Q u s)
    (hd : (x == ("__debug__" : Str)) = false := by decide) : wpAny (model X.prog X.w) X.A (eval (.Name x pos) X.env) Q E s :=
  Calls.Name_function_global I.ok.kind hg (Calls.loadGlobal_global (by rw [I.ok.glob]; exact I.mod.glob.keeps I.bk) hm h) hd
theorem ld_blt {E : Value → Shared → Prop} {pins : List (Addr × Obj)} {s : Shared} {σ : St} {H : Hp} {x : Str} {u : Value} {pos : Pos} {Q : Value → Shared → Prop} (I : Inv X pins σ H s) (hg : Gl X x) (hm : X.mg x = none) (hv : bootBuiltins x = some u) (h : Q u s)
    (hn : x ≠ "__name__" := by decide) (hd : (x == ("__debug__" : Str)) = false := by decide) : wpAny (model X.prog X.w) X.A (eval (.Name x pos) X.env) Q E s := by
  obtain ⟨mb, h1, h2⟩ := I.mod.blt
  exact Calls.Name_function_global I.ok.kind hg (Calls.loadGlobal_builtin (by rw [I.ok.glob]; exact I.mod.glob.keeps I.bk) hm (by rw [I.ok.blt]; exact h1.keeps I.bk) ((h2 x hn).trans hv) h) hd
/-- a module's constant, a class, a function, as a value -/
theorem pe_glob {x : Str} {v : V} {u : Value} {pos : Pos} (hg : Gl X x) (hm : X.mg x = some u) (r : RelV v u) (hd : (x == ("__debug__" : Str)) = false := by decide) : PE X (.Name x pos) (tC v) :=
  fun _ _ _ H _ I h => ld_glob I hg hm ⟨v, H, I, r, h⟩ hd
theorem pe_bltn {x : Str} {v : V} {u : Value} {pos : Pos} (hg : Gl X x) (hm : X.mg x = none) (hv : bootBuiltins x = some u) (r : RelV v u) (hn : x ≠ "__name__" := by decide) (hd : (x == ("__debug__" : Str)) = false := by decide) : PE X (.Name x pos) (tC v) :=
  fun _ _ _ H _ I h => ld_blt I hg hm hv ⟨v, H, I, r, h⟩ hn hd

/-! ### arithmetic -/
/-- two ints -/
def t2I (ta tb : TE) (k : Int → Int → Hp → Prop) : St → Hp → Prop := fun σ H => ta σ H fun x H1 => tb σ H1 fun y H2 => ∃ i j, x = .int i ∧ y = .int j ∧ k i j H2
def tAdd (ta tb : TE) : TE := fun σ H Q => t2I ta tb (fun i j H2 => Q (.int (i + j)) H2) σ H
def tSub (ta tb : TE) : TE := fun σ H Q => t2I ta tb (fun i j H2 => Q (.int (i - j)) H2) σ H
/-- the left factor below 2^64 -/
def tMul (ta tb : TE) : TE := fun σ H Q => t2I ta tb (fun i j H2 => (-(2 ^ 64) < i ∧ i < 2 ^ 64) ∧ Q (.int (i * j)) H2) σ H
variable {a b : Expr} {ta tb : TE} {pos : Pos}
theorem pe_add (ha : PE X a ta) (hb : PE X b tb) : PE X (.BinOp a .Add b pos) (tAdd ta tb) := by
  intro pins s σ H Q I h
  refine wpAny_BinOp (bin ha hb I h fun v u s2 x y H2 I2 rx ry q => ?_)
  obtain ⟨i, j, rfl, rfl, q⟩ := q
  obtain ⟨t, rfl⟩ := rx
  obtain ⟨t', rfl⟩ := ry
  exact add_int ⟨.int _, H2, I2.tok _, ⟨_, rfl⟩, q⟩
theorem pe_sub (ha : PE X a ta) (hb : PE X b tb) : PE X (.BinOp a .Sub b pos) (tSub ta tb) := by
  intro pins s σ H Q I h
  refine wpAny_BinOp (bin ha hb I h fun v u s2 x y H2 I2 rx ry q => ?_)
  obtain ⟨i, j, rfl, rfl, q⟩ := q
  obtain ⟨t, rfl⟩ := rx
  obtain ⟨t', rfl⟩ := ry
  exact sub_int ⟨.int _, H2, I2.tok _, ⟨_, rfl⟩, q⟩
theorem pe_mul (ha : PE X a ta) (hb : PE X b tb) : PE X (.BinOp a .Mult b pos) (tMul ta tb) := by
  intro pins s σ H Q I h
  refine wpAny_BinOp (bin ha hb I h fun v u s2 x y H2 I2 rx ry q => ?_)
  obtain ⟨i, j, rfl, rfl, ⟨q1, q2⟩, q⟩ := q
  obtain ⟨t, rfl⟩ := rx
  obtain ⟨t', rfl⟩ := ry
  exact mul_int ⟨.int _, H2, I2.tok _, ⟨_, rfl⟩, q⟩ (.of_left (intBits_le_64 q1 q2))

/-! ### comparisons -/
def PC (X : Cx) (op : CmpOp) (a b : Expr) (t : TE) : Prop :=
  ∀ (pins : List (Addr × Obj)) (s : Shared) (σ : St) (H : Hp) (Q : VK), Inv X pins σ H s → t σ H Q →
    wpAny (model X.prog X.w) X.A (eval a X.env) (fun v s₁ => wpAny (model X.prog X.w) X.A (eval b X.env) (fun u s₂ => wpAny (model X.prog X.w) X.A (compareOp op v u) (EP X pins σ Q) X.xe s₂) X.xe s₁) X.xe s
theorem nobehind (b : Expr) {op : CmpOp} (h : op ≠ .In) (h2 : op ≠ .NotIn) : behindInMarks op b = false := by
  have e1 : (op == CmpOp.In) = false := by cases op <;> first | rfl | exact absurd rfl h
  have e2 : (op == CmpOp.NotIn) = false := by cases op <;> first | rfl | exact absurd rfl h2
  cases b <;> simp [behindInMarks, e1, e2]
def tCmp (p : Int → Int → Bool) (ta tb : TE) : TE := fun σ H Q => t2I ta tb (fun i j H2 => Q (.bl (p i j)) H2) σ H
abbrev tLt : TE → TE → TE := tCmp fun i j => decide (i < j)
abbrev tLe : TE → TE → TE := tCmp fun i j => decide (i ≤ j)
abbrev tGt : TE → TE → TE := tCmp fun i j => decide (j < i)
abbrev tGe : TE → TE → TE := tCmp fun i j => decide (j ≤ i)
abbrev tEqI : TE → TE → TE := tCmp fun i j => decide (i = j)
abbrev tNeI : TE → TE → TE := tCmp fun i j => !decide (i = j)
/-- a comparison of two ints, by its rule -/
theorem pc_int {op : CmpOp} {p : Int → Int → Bool} (ha : PE X a ta) (hb : PE X b tb)
    (rule : ∀ (i j : Int) (t u : Tok) (Q : Value → Shared → Prop) (s : Shared), Q (.bool (p i j)) s → wpAny (model X.prog X.w) X.A (compareOp op (.int i t) (.int j u)) Q X.xe s) : PC X op a b (tCmp p ta tb) := by
  intro pins s σ H Q I h
  refine bin ha hb I h fun v u s2 x y H2 I2 rx ry q => ?_
  obtain ⟨i, j, rfl, rfl, q⟩ := q
  obtain ⟨t, rfl⟩ := rx
  obtain ⟨t', rfl⟩ := ry
  exact rule i j t t' _ s2 ⟨.bl _, H2, I2, rfl, q⟩
theorem pc_lt (ha : PE X a ta) (hb : PE X b tb) : PC X .Lt a b (tLt ta tb) := pc_int ha hb fun _ _ _ _ _ _ h => lt_int h
theorem pc_le (ha : PE X a ta) (hb : PE X b tb) : PC X .LtE a b (tLe ta tb) := pc_int ha hb fun _ _ _ _ _ _ h => le_int h
theorem pc_gt (ha : PE X a ta) (hb : PE X b tb) : PC X .Gt a b (tGt ta tb) := pc_int ha hb fun _ _ _ _ _ _ h => gt_int h
theorem pc_ge (ha : PE X a ta) (hb : PE X b tb) : PC X .GtE a b (tGe ta tb) := pc_int ha hb fun _ _ _ _ _ _ h => ge_int h
theorem pc_eqI (ha : PE X a ta) (hb : PE X b tb) : PC X .Eq a b (tEqI ta tb) := pc_int ha hb fun _ _ _ _ _ _ h => eq_int (by rw [Bool.beq_eq_decide_eq]; exact h)
theorem pc_neI (ha : PE X a ta) (hb : PE X b tb) : PC X .NotEq a b (tNeI ta tb) := pc_int ha hb fun _ _ _ _ _ _ h => ne_int (by rw [bne, Bool.beq_eq_decide_eq]; exact h)
/-- is None -/
def tIsN (ta : TE) : TE := fun σ H Q => ta σ H fun x H1 => Q (.bl (decide (x = .non))) H1
def tNotN (ta : TE) : TE := fun σ H Q => ta σ H fun x H1 => Q (.bl (!decide (x = .non))) H1
theorem RelV.none_iff {x : V} {v : Value} (r : RelV x v) : (v == Value.none) = decide (x = .non) := by
  cases x with
  | non => cases r; rfl
  | bl _ => cases r; rfl
  | int _ => obtain ⟨t, rfl⟩ := r; rfl
  | str _ => obtain ⟨t, rfl⟩ := r; rfl
  | byt _ => obtain ⟨t, rfl⟩ := r; rfl
  | flt _ => obtain ⟨t, rfl⟩ := r; rfl
  | ref _ => cases r; rfl
  | ty _ => cases r; rfl
theorem pc_isN {j pos'} (ha : PE X a ta) : PC X .Is a (.Constant .none j pos') (tIsN ta) := by
  intro pins s σ H Q I h
  refine thn (ha pins s σ H _ I h) fun v s1 ⟨x, H1, I1, r1, q1⟩ => ?_
  exact Constant_none (is_none_gen ⟨.bl _, H1, I1, by rw [r1.none_iff]; rfl, q1⟩)
theorem pc_notN {j pos'} (ha : PE X a ta) : PC X .IsNot a (.Constant .none j pos') (tNotN ta) := by
  intro pins s σ H Q I h
  refine thn (ha pins s σ H _ I h) fun v s1 ⟨x, H1, I1, r1, q1⟩ => ?_
  exact Constant_none (isnot_none_gen ⟨.bl _, H1, I1, by rw [r1.none_iff]; rfl, q1⟩)
/-- a comparison as a value, as a test -/
def tB (t : TE) : TT := fun σ H Q => t σ H fun x H1 => ∃ c, x = .bl c ∧ Q c H1
theorem pe_cmp {op : CmpOp} {t : TE} (h : PC X op a b t) (h1 : behindInMarks op b = false := by first | exact nobehind _ (by decide) (by decide) | rfl) : PE X (.Compare a [op] [b] pos) t := fun pins s σ H Q I hw => wpAny_Compare1 (h pins s σ H Q I hw) h1
theorem pt_cmp {op : CmpOp} {t : TE} (h : PC X op a b t) (h1 : behindInMarks op b = false := by first | exact nobehind _ (by decide) (by decide) | rfl) : PT X (.Compare a [op] [b] pos) (tB t) := by
  intro pins s σ H Q I hw
  refine wpAny_isTrue_Compare1 (thn (h pins s σ H _ I hw) fun v s1 h1 => thn h1 fun u s2 h2 => thn h2 fun c s3 ⟨x, H1, I1, r1, q1⟩ => ?_) h1
  obtain ⟨d, rfl, q⟩ := q1
  cases r1
  exact wpAny_truthy_bool ⟨H1, I1, q⟩
/-- an expression whose value is a bool, as a test -/
theorem pt_val {e : Expr} {t : TE} (h : PE X e t) (he : ∀ whole, isTrue e X.env whole = (do let v ← whole; standAt e.pos; holding [v] (truthy v)) := by intro _; rfl) : PT X e (tB t) := by
  intro pins s σ H Q I hw
  refine isTrue_plain (thn (h pins s σ H _ I hw) fun v s1 ⟨x, H1, I1, r1, q1⟩ => ?_) (he _)
  obtain ⟨d, rfl, q⟩ := q1
  cases r1
  exact wpAny_truthy_bool ⟨H1, I1, q⟩

/-! ### and, or, not -/
variable {tA tB' : TT} {rest : List Expr}
def tAnd (t u : TT) : TT := fun σ H Q => t σ H fun c H1 => if c = true then u σ H1 Q else Q false H1
def tOr (t u : TT) : TT := fun σ H Q => t σ H fun c H1 => if c = true then Q true H1 else u σ H1 Q
def tNot (t : TT) : TT := fun σ H Q => t σ H fun c H1 => Q (!c) H1
theorem pw_and1 (ha : PT X a tA) : PW X (.BoolOp .And [a] pos) tA := by
  intro wh pins s σ H Q I h
  refine isTrue_and (thn (ha pins s σ H Q I h) fun c s1 e => ?_)
  cases c with
  | true => exact isTrue_and_nil e
  | false => exact e
theorem pw_or1 (ha : PT X a tA) : PW X (.BoolOp .Or [a] pos) tA := by
  intro wh pins s σ H Q I h
  refine isTrue_or (thn (ha pins s σ H Q I h) fun c s1 e => ?_)
  cases c with
  | false => exact isTrue_or_nil e
  | true => exact e
theorem pw_and (ha : PT X a tA) (hb : PW X (.BoolOp .And (b :: rest) pos) tB') : PW X (.BoolOp .And (a :: b :: rest) pos) (tAnd tA tB') := by
  intro wh pins s σ H Q I h
  refine isTrue_and (thn (ha pins s σ H _ I h) fun c s1 ⟨H1, I1, q1⟩ => ?_)
  cases c with
  | true => exact hb wh pins s1 σ H1 Q I1 q1
  | false => exact ⟨H1, I1, q1⟩
theorem pw_or (ha : PT X a tA) (hb : PW X (.BoolOp .Or (b :: rest) pos) tB') : PW X (.BoolOp .Or (a :: b :: rest) pos) (tOr tA tB') := by
  intro wh pins s σ H Q I h
  refine isTrue_or (thn (ha pins s σ H _ I h) fun c s1 ⟨H1, I1, q1⟩ => ?_)
  cases c with
  | true => exact ⟨H1, I1, q1⟩
  | false => exact hb wh pins s1 σ H1 Q I1 q1
theorem pt_not (ha : PT X a tA) : PT X (.UnaryOp .Not a pos) (tNot tA) := by
  intro pins s σ H Q I h
  exact isTrue_not (ha pins s σ H (fun c H1 => Q (!c) H1) I h)
/-- .. as values (bools) -/
def tAndV (ta tb : TE) : TE := fun σ H Q => ta σ H fun x H1 => ∃ c, x = .bl c ∧ if c = true then tb σ H1 Q else Q (.bl false) H1
def tOrV (ta tb : TE) : TE := fun σ H Q => ta σ H fun x H1 => ∃ c, x = .bl c ∧ if c = true then Q (.bl true) H1 else tb σ H1 Q
def tNotV (ta : TE) : TE := fun σ H Q => ta σ H fun x H1 => ∃ c, x = .bl c ∧ Q (.bl (!c)) H1
theorem pe_one {op} {t : TE} (h : PE X a t) : PE X (.BoolOp op [a] pos) t := fun pins s σ H Q I hw => BoolOp_one (h pins s σ H Q I hw)
theorem pe_and (ha : PE X a ta) (hb : PE X (.BoolOp .And (b :: rest) pos) tb) : PE X (.BoolOp .And (a :: b :: rest) pos) (tAndV ta tb) := by
  intro pins s σ H Q I h
  refine BoolOp_and (thn (ha pins s σ H _ I h) fun v s1 ⟨x, H1, I1, r1, q1⟩ => ?_)
  obtain ⟨c, rfl, q1⟩ := q1
  cases r1
  refine wpAny_truthy_bool ?_
  cases c with
  | true => exact hb pins s1 σ H1 Q I1 q1
  | false => exact ⟨.bl false, H1, I1, rfl, q1⟩
theorem pe_or (ha : PE X a ta) (hb : PE X (.BoolOp .Or (b :: rest) pos) tb) : PE X (.BoolOp .Or (a :: b :: rest) pos) (tOrV ta tb) := by
  intro pins s σ H Q I h
  refine BoolOp_or (thn (ha pins s σ H _ I h) fun v s1 ⟨x, H1, I1, r1, q1⟩ => ?_)
  obtain ⟨c, rfl, q1⟩ := q1
  cases r1
  refine wpAny_truthy_bool ?_
  cases c with
  | false => exact hb pins s1 σ H1 Q I1 q1
  | true => exact ⟨.bl true, H1, I1, rfl, q1⟩
theorem pe_not (ha : PE X a ta) : PE X (.UnaryOp .Not a pos) (tNotV ta) := by
  intro pins s σ H Q I h
  refine UnaryOp_ (thn (ha pins s σ H _ I h) fun v s1 ⟨x, H1, I1, r1, q1⟩ => ?_)
  obtain ⟨c, rfl, q1⟩ := q1
  cases r1
  exact not_of (wpAny_truthy_bool ⟨.bl (!c), H1, I1, rfl, q1⟩)
/-- a if t else b -/
def tIf (t : TT) (ta tb : TE) : TE := fun σ H Q => t σ H fun c H1 => if c = true then ta σ H1 Q else tb σ H1 Q
theorem pe_ifExp {c : Expr} (hc : PT X c tA) (ha : PE X a ta) (hb : PE X b tb) : PE X (.IfExp c a b pos) (tIf tA ta tb) := by
  intro pins s σ H Q I h
  refine wpAny_IfExp (thn (hc pins s σ H _ I h) fun d s1 ⟨H1, I1, q1⟩ => ?_)
  cases d with
  | true => exact ha pins s1 σ H1 Q I1 q1
  | false => exact hb pins s1 σ H1 Q I1 q1
end
end L2

namespace L2
open PySem PySem.Spec PyProof.Rows

/-! ### a list, a tuple that is read: tracked, frozen, or an object of the module -/
def SqL (K : PySem.W.Frag) (H : Hp) (a : Addr) (xs : List V) : Prop :=
  Rd H a (.lst xs) ∨
    ∃ (o : Obj) (its : Array Value) (n : Nat), K.lookup a = some o ∧ o.cls = .type "list" ∧ o.dict = none ∧ o.data = .seq its n ∧ its.size ≤ sizeLine ∧ Vals xs its.toList
def SqT (K : PySem.W.Frag) (H : Hp) (a : Addr) (xs : List V) : Prop :=
  Rd H a (.tup xs) ∨
    ∃ (o : Obj) (its : Array Value) (n : Nat), K.lookup a = some o ∧ o.cls = .type "tuple" ∧ o.data = .seq its n ∧ its.size ≤ sizeLine ∧ Vals xs its.toList
def absV : Value → Option V
  | .none => some .non
  | .bool b => some (.bl b)
  | .int i _ => some (.int i)
  | .str x _ => some (.str x)
  | .bytes b _ => some (.byt b)
  | .float b _ => some (.flt b)
  | .ref a => some (.ref a)
  | .type n => some (.ty n)
  | _ => none
theorem RelV.abs {x : V} {u : Value} (r : RelV x u) : absV u = some x := by
  cases x with
  | non => cases r; rfl
  | bl _ => cases r; rfl
  | int _ => obtain ⟨t, rfl⟩ := r; rfl
  | str _ => obtain ⟨t, rfl⟩ := r; rfl
  | byt _ => obtain ⟨t, rfl⟩ := r; rfl
  | flt _ => obtain ⟨t, rfl⟩ := r; rfl
  | ref _ => cases r; rfl
  | ty _ => cases r; rfl
theorem RelV.inj {x y : V} {u : Value} (r : RelV x u) (q : RelV y u) : x = y := Option.some.inj (r.abs.symm.trans q.abs)
theorem Vals.inj : ∀ {xs ys : List V} {us : List Value}, Vals xs us → Vals ys us → xs = ys
  | _, _, _, .nil, .nil => rfl
  | _, _, _, .cons r t, .cons r' t' => by rw [r.inj r', Vals.inj t t']
section
variable {X : Cx} {pins : List (Addr × Obj)} {σ : St} {H : Hp} {s : Shared} {a : Addr} {xs ys : List V}
theorem SqL.of {K : PySem.W.Frag} (h : H a = some (.lst xs)) : SqL K H a xs := .inl (.inl h)
theorem SqT.of {K : PySem.W.Frag} (h : H a = some (.tup xs)) : SqT K H a xs := .inl (.inl h)
theorem Inv.list (I : Inv X pins σ H s) (h : SqL X.K H a xs) : ∃ its : List Value, Vals xs its ∧ PlainL s.heap a its.toArray ∧ xs.length ≤ sizeLine := by
  rcases h with h | ⟨o, its, n, hk, hc, hd, hs, hz, r⟩
  · obtain ⟨z, its, n, r, e⟩ := h.ok I.hok
    exact ⟨its, r, ⟨_, n, e, rfl, rfl, rfl⟩, z⟩
  · refine ⟨its.toList, r, ⟨o, n, I.kIn a o hk, hc, hd, by simpa using hs⟩, ?_⟩
    have e := r.length
    simp only [Array.length_toList] at e
    omega
theorem Inv.tuple (I : Inv X pins σ H s) (h : SqT X.K H a xs) : ∃ its : List Value, Vals xs its ∧ IsTup s.heap a its.toArray ∧ xs.length ≤ sizeLine := by
  rcases h with h | ⟨o, its, n, hk, hc, hs, hz, r⟩
  · obtain ⟨z, its, r, p⟩ := h.ok I.hok
    exact ⟨its, r, p, z⟩
  · refine ⟨its.toList, r, ⟨o, I.kIn a o hk, hc, n, by simpa using hs⟩, ?_⟩
    have e := r.length
    simp only [Array.length_toList] at e
    omega
theorem Inv.list_inj (I : Inv X pins σ H s) (h : SqL X.K H a xs) (h' : SqL X.K H a ys) : xs = ys := by
  obtain ⟨its, r, ⟨o, n, e, _, _, d⟩, _⟩ := I.list h
  obtain ⟨its', r', ⟨o', n', e', _, _, d'⟩, _⟩ := I.list h'
  rw [e] at e'; cases e'
  rw [d] at d'
  injection d' with d1 _
  have : its = its' := by simpa using congrArg Array.toList d1
  subst this
  exact r.inj r'
theorem Inv.tuple_inj (I : Inv X pins σ H s) (h : SqT X.K H a xs) (h' : SqT X.K H a ys) : xs = ys := by
  obtain ⟨its, r, ⟨o, e, _, n, d⟩, _⟩ := I.tuple h
  obtain ⟨its', r', ⟨o', e', _, n', d'⟩, _⟩ := I.tuple h'
  rw [e] at e'; cases e'
  rw [d] at d'
  injection d' with d1 _
  have : its = its' := by simpa using congrArg Array.toList d1
  subst this
  exact r.inj r'
end

/-! ### another wish about exceptions -/
abbrev Cx.wish (X : Cx) (E : Value → Shared → Prop) : Cx := { X with xe := E }
/-- no exception leaves -/
abbrev Cx.nox (X : Cx) : Cx := X.wish fun _ _ => False
theorem Cx.Ok.wish {X : Cx} (ok : X.Ok) (E : Value → Shared → Prop) : (X.wish E).Ok :=
  ⟨ok.mod, ok.kind, ok.glob, ok.blt, ok.above, ok.inj, ok.has, ok.cab, ok.hd, ok.frames, ok.stk, ok.exf, ok.bs, ok.bsz, ok.noex, ok.exfs, ok.funs, ok.frf⟩
theorem Cx.Ok.unwish {X : Cx} {E : Value → Shared → Prop} (ok : (X.wish E).Ok) : X.Ok :=
  ⟨ok.mod, ok.kind, ok.glob, ok.blt, ok.above, ok.inj, ok.has, ok.cab, ok.hd, ok.frames, ok.stk, ok.exf, ok.bs, ok.bsz, ok.noex, ok.exfs, ok.funs, ok.frf⟩
section
variable {X : Cx} {pins : List (Addr × Obj)} {σ : St} {H : Hp} {s : Shared} {E : Value → Shared → Prop}
theorem Inv.wish (I : Inv X pins σ H s) (E : Value → Shared → Prop) : Inv (X.wish E) pins σ H s := ⟨I.ok.wish E, I.os, I.bare, I.base, I.loc, I.cell, I.free, I.freeC, I.pin, I.hok, I.len⟩
theorem Inv.unwish (I : Inv (X.wish E) pins σ H s) : Inv X pins σ H s := ⟨I.ok.unwish, I.os, I.bare, I.base, I.loc, I.cell, I.free, I.freeC, I.pin, I.hok, I.len⟩
theorem SP.unwish {D : Ends} {f : Flow} {s' : Shared} (h : SP (X.wish E) pins D f s') : SP X pins D f s' := by
  cases f with
  | next => obtain ⟨σ', H', I, q⟩ := h; exact ⟨σ', H', I.unwish, q⟩
  | brk => obtain ⟨σ', H', I, q⟩ := h; exact ⟨σ', H', I.unwish, q⟩
  | cont => obtain ⟨σ', H', I, q⟩ := h; exact ⟨σ', H', I.unwish, q⟩
  | ret u => obtain ⟨v, σ', H', I, r, q⟩ := h; exact ⟨v, σ', H', I.unwish, r, q⟩
theorem PE.nox {e : Expr} {t : TE} (h : PE X.nox e t) : PE X e t := fun pins s σ H Q I hw =>
  wpAny_mono (h pins s σ H Q (I.wish _) hw) (fun _ _ ⟨v, H', I', r, q⟩ => ⟨v, H', I'.unwish, r, q⟩) fun _ _ z => False.elim z
theorem PT.nox {e : Expr} {t : TT} (h : PT X.nox e t) : PT X e t := fun pins s σ H Q I hw =>
  wpAny_mono (h pins s σ H Q (I.wish _) hw) (fun _ _ ⟨H', I', q⟩ => ⟨H', I'.unwish, q⟩) fun _ _ z => False.elim z
theorem PSs.nox {st : List Stmt} {t : TS} (h : PSs X.nox st t) : PSs X st t := fun pins s σ H D I hw =>
  wpAny_mono (h pins s σ H D (I.wish _) hw) (fun _ _ q => q.unwish) fun _ _ z => False.elim z
end

/-! ### blocks and small statements -/
section
variable {X : Cx} {st : Stmt} {rest : List Stmt} {t u : TS} {e : Expr} {te : TE} {pos : Pos}
def tNext : TS := fun D σ H => D.nx σ H
def tSeq (t u : TS) : TS := fun D σ H => t { D with nx := u D } σ H
theorem pss_nil : PSs X [] tNext := fun _ _ σ H _ I h => wpAny_execs_nil ⟨σ, H, I, h⟩
theorem pss_cons (h1 : PS X st t) (h2 : PSs X rest u) : PSs X (st :: rest) (tSeq t u) := by
  intro pins s σ H D I h
  refine wpAny_execs_cons (thn (h1 pins s σ H { D with nx := u D } I h) fun f s1 q => ?_)
  cases f with
  | next =>
    obtain ⟨σ', H', I', q⟩ := q
    exact h2 pins s1 σ' H' D I' q
  | ret v => exact q
  | brk => exact q
  | cont => exact q
theorem pss_one (h1 : PS X st t) : PSs X [st] t := by
  intro pins s σ H D I h
  refine wpAny_execs_cons (thn (h1 pins s σ H D I h) fun f s1 q => ?_)
  cases f with
  | next => exact wpAny_execs_nil q
  | ret v => exact q
  | brk => exact q
  | cont => exact q
def tBreak : TS := fun D σ H => D.bk σ H
def tCont : TS := fun D σ H => D.ct σ H
theorem ps_pass : PS X (.Pass pos) tNext := fun _ _ σ H _ I h => wpAny_Pass ⟨σ, H, I, h⟩
theorem ps_break : PS X (.Break pos) tBreak := fun _ _ σ H _ I h => wpAny_Break ⟨σ, H, I, h⟩
theorem ps_continue : PS X (.Continue pos) tCont := fun _ _ σ H _ I h => wpAny_Continue ⟨σ, H, I, h⟩
/-- in a def's body nothing is shown -/
theorem Inv.quiet {pins : List (Addr × Obj)} {σ : St} {H : Hp} {s : Shared} (I : Inv X pins σ H s) : interactive X.env = false := by simp [interactive, I.ok.kind]
/-- a docstring -/
theorem ps_doc {x j pos pos'} : PS X (.Expr (.Constant (.str x) j pos) pos') tNext := fun _ s σ H _ I h => wpAny_Expr (Calls.Constant_str (show SP X _ _ .next { s with toks := s.toks + 1 } from ⟨σ, H, I.tok _, h⟩)) I.quiet
/-- an expression whose value is dropped -/
def tDrop (te : TE) : TS := fun D σ H => te σ H fun _ H1 => D.nx σ H1
theorem ps_expr (he : PE X e te) (hs : swapsWith e none pos.line X.env = pure false := by rfl) : PS X (.Expr e pos) (tDrop te) := by
  intro pins s σ H D I h
  exact wpAny_Expr_any (thn (he pins s σ H _ I h) fun v s1 ⟨x, H1, I1, r1, q1⟩ => ⟨σ, H1, I1, q1⟩) I.quiet hs
def tRet (te : TE) : TS := fun D σ H => te σ H D.rt
theorem ps_ret (he : PE X e te) : PS X (.Return (some e) pos) (tRet te) := by
  intro pins s σ H D I h
  exact wpAny_Return_some (thn (he pins s σ H _ I h) fun v s1 ⟨x, H1, I1, r1, q1⟩ => ⟨x, σ, H1, I1, r1, q1⟩)
def tRetN : TS := fun D _ H => D.rt .non H
theorem ps_retN : PS X (.Return none pos) tRetN := fun _ _ σ H _ I h => wpAny_Return_none ⟨.non, σ, H, I, rfl, h⟩
def tIfS (c : TT) (t u : TS) : TS := fun D σ H => c σ H fun b H1 => if b = true then t D σ H1 else u D σ H1
theorem ps_if {c : Expr} {a b : List Stmt} {tc : TT} (hc : PT X c tc) (ha : PSs X a t) (hb : PSs X b u) : PS X (.If c a b pos) (tIfS tc t u) := by
  intro pins s σ H D I h
  refine wpAny_If (thn (hc pins s σ H _ I h) fun d s1 ⟨H1, I1, q1⟩ => ?_)
  cases d with
  | true => exact ha pins s1 σ H1 D I1 q1
  | false => exact hb pins s1 σ H1 D I1 q1
/-- code that the proof never comes to -/
def tNever : TS := fun _ _ _ => False
theorem ps_never : PS X st tNever := fun _ _ _ _ _ _ h => h.elim
theorem pss_never {sts : List Stmt} : PSs X sts tNever := fun _ _ _ _ _ _ h => h.elim
end

/-! ### targets -/
abbrev TG := V → St → Hp → (St → Hp → Prop) → Prop
abbrev TGs := List V → St → Hp → (St → Hp → Prop) → Prop
def PG (X : Cx) (target : Expr) (t : TG) : Prop :=
  ∀ (pins : List (Addr × Obj)) (s : Shared) (σ : St) (H : Hp) (v : V) (u : Value) (Q : St → Hp → Prop), Inv X pins σ H s → RelV v u → t v σ H Q →
    wpAny (model X.prog X.w) X.A (assign target X.env u) (fun _ s' => ∃ σ' H', Inv X pins σ' H' s' ∧ Q σ' H') X.xe s
/-- several targets, one after another -/
def PGs (X : Cx) (ts : List Expr) (t : TGs) : Prop :=
  ∀ (pins : List (Addr × Obj)) (s : Shared) (σ : St) (H : Hp) (vs : List V) (us : List Value) (Q : St → Hp → Prop), Inv X pins σ H s → Vals vs us → t vs σ H Q →
    wpAny (model X.prog X.w) X.A (assignInOrder ((assignEach ts X.env).map (·.2)) us) (fun _ s' => ∃ σ' H', Inv X pins σ' H' s' ∧ Q σ' H') X.xe s
/-- o[i] = v, by values -/
abbrev TSet := V → V → V → Hp → (Hp → Prop) → Prop
def PSet (X : Cx) (t : TSet) : Prop :=
  ∀ (pins : List (Addr × Obj)) (s : Shared) (σ : St) (H : Hp) (o i v : V) (ov iv u : Value) (Q : Hp → Prop), Inv X pins σ H s → RelV o ov → RelV i iv → RelV v u → t o i v H Q →
    wpAny (model X.prog X.w) X.A (setItem ov iv u) (fun _ s' => ∃ H', Inv X pins σ H' s' ∧ Q H') X.xe s
/-- a op= b, by values -/
abbrev TIp := V → V → Hp → VK → Prop
def PIp (X : Cx) (op : Operator) (t : TIp) : Prop :=
  ∀ (pins : List (Addr × Obj)) (s : Shared) (σ : St) (H : Hp) (x y : V) (v u : Value) (Q : VK), Inv X pins σ H s → RelV x v → RelV y u → t x y H Q →
    wpAny (model X.prog X.w) X.A (inplaceOp op v u) (EP X pins σ Q) X.xe s
section
variable {X : Cx} {pos : Pos}
def gName (i : Nat) : TG := fun v σ H Q => Q (σ.set i (some v)) H
theorem pg_name {i : Nat} {x : Str} (hN : X.N.Nodup) (hi : X.N[i]? = some x) (hx : Loc X.env.scope x) (hf : X.fn x = true ∨ X.env.scope.names.lookup x = some .local := by first | exact .inl rfl | exact .inr rfl | assumption) : PG X (.Name x pos) (gName i) := by
  intro pins s σ H v u Q I r h
  exact wpAny_assign_Name (store_ok I hN hi hx r (fun s' I' => ⟨_, H, I', h⟩) hf)
def gNil : TGs := fun vs σ H Q => vs = [] ∧ Q σ H
def gCons (t : TG) (u : TGs) : TGs := fun vs σ H Q => ∃ v r, vs = v :: r ∧ t v σ H fun σ' H' => u r σ' H' Q
theorem pgs_nil : PGs X [] gNil := by
  intro pins s σ H vs us Q I r h
  obtain ⟨e, h⟩ := h
  subst e
  cases r
  exact assignInOrder_nil ⟨σ, H, I, h⟩
theorem pgs_cons {e : Expr} {es : List Expr} {t : TG} {u : TGs} (h1 : PG X e t) (h2 : PGs X es u)
    (hs : (assignEach (e :: es) X.env).map (·.2) = assign e X.env :: (assignEach es X.env).map (·.2) := by rfl) : PGs X (e :: es) (gCons t u) := by
  intro pins s σ H vs us Q I r h
  obtain ⟨v, vr, e1, h⟩ := h
  subst e1
  cases r with
  | cons r rr =>
    rw [hs]
    refine assignInOrder_cons (thn (h1 pins s σ H _ _ _ I r h) fun _ s1 ⟨σ1, H1, I1, q1⟩ => ?_)
    exact h2 pins s1 σ1 H1 _ _ Q I1 rr q1
/-- (a, b, ..) = a tuple of that length -/
def gTup (K : PySem.W.Frag) (n : Nat) (t : TGs) : TG := fun v σ H Q => ∃ a xs, v = .ref a ∧ SqT K H a xs ∧ xs.length = n ∧ t xs σ H Q
theorem pg_tup {es : List Expr} {k : Nat} {t : TGs} {n : Nat} (hc : X.calm = true) (h : PGs X es t)
    (hn : (assignEach es X.env).length = n := by rfl) (hst : (assignEach es X.env).findIdx? (·.1) = none := by rfl) : PG X (.Tuple es k pos) (gTup X.K n t) := by
  intro pins s σ H v u Q I r hw
  obtain ⟨a, xs, e1, hq, hl, hw⟩ := hw
  subst e1
  cases r
  obtain ⟨its, rv, ht, hz⟩ := I.tuple hq
  refine assign_Tuple_tuple (I.ok.hd hc) ht (by simp [hn, ← hl, rv.length]) hst fun h' hx => ?_
  have I1 : Inv X pins σ H { s with heap := h' } := I.kept (t' := s.toks) fun b o e => hx b o (Nat.ne_of_lt (Heap.lt_size e)) e
  exact h pins _ σ H xs _ Q I1 (by simpa using rv) hw
/-- o[i] = .. -/
def gSub (to ti : TE) (t : TSet) : TG := fun v σ H Q => to σ H fun o H1 => ti σ H1 fun i H2 => t o i v H2 fun H3 => Q σ H3
theorem pg_sub {o i : Expr} {to ti : TE} {t : TSet} (ho : PE X o to) (hi : PE X i ti) (hs : PSet X t)
    (ha : ∀ v, assign (.Subscript o i pos) X.env v = (do
      let ov ← holding [v] (eval o X.env)
      let iv ← holding [v, ov] (eval i X.env)
      standAt pos
      holding [v, ov, iv] (setItem ov iv v)
      release [v, ov, iv] []) := by intro _; rfl) : PG X (.Subscript o i pos) (gSub to ti t) := by
  intro pins s σ H v u Q I r h
  rw [ha]
  refine wpAny_bind (wpAny_holding (thn (ho pins s σ H _ I h) fun ov s1 ⟨x, H1, I1, r1, q1⟩ => ?_))
  refine wpAny_bind (wpAny_holding (thn (hi pins s1 σ H1 _ I1 q1) fun iv s2 ⟨y, H2, I2, r2, q2⟩ => ?_))
  refine wpAny_bind (wpAny_standAt (wpAny_bind (wpAny_holding (thn (hs pins s2 σ H2 x y v ov iv u _ I2 r1 r2 r q2) fun _ s3 ⟨H3, I3, q3⟩ => ?_))))
  exact wpAny_release ⟨σ, H3, I3, q3⟩
/-- target = value -/
def tAsg (te : TE) (g : TG) : TS := fun D σ H => te σ H fun x H1 => g x σ H1 D.nx
theorem ps_asg {tg e : Expr} {te : TE} {g : TG} (he : PE X e te) (hg : PG X tg g) (hs : swapsWithSole [tg] e pos.line X.env = pure false := by rfl) (hw : swappedStores [tg] e X.env = pure none := by rfl)
    (h1 : (assignEach [tg] X.env).map (·.2) = [assign tg X.env] := by rfl) : PS X (.Assign [tg] e pos) (tAsg te g) := by
  intro pins s σ H D I h
  refine wpAny_Assign_stores (thn (he pins s σ H _ I h) fun v s1 ⟨x, H1, I1, r1, q1⟩ => ?_) hs hw
  rw [h1]
  exact thn (hg pins s1 σ H1 x v _ I1 r1 q1) fun _ s2 q => q
/-- name = value -/
theorem ps_set {i : Nat} {x : Str} {e : Expr} {te : TE} {pos' : Pos} (hN : X.N.Nodup) (hi : X.N[i]? = some x) (hx : Loc X.env.scope x) (he : PE X e te) (hs : swapsWith e (some (.Name x pos')) pos.line X.env = pure false := by rfl) (hf : X.fn x = true ∨ X.env.scope.names.lookup x = some .local := by first | exact .inl rfl | exact .inr rfl | assumption) :
    PS X (.Assign [.Name x pos'] e pos) (tAsg te (gName i)) := by
  intro pins s σ H D I h
  refine wpAny_Assign_Name (thn (he pins s σ H _ I h) fun v s1 ⟨y, H1, I1, r1, q1⟩ => ?_) hs
  exact store_ok I1 hN hi hx r1 (fun s2 I2 => ⟨_, H1, I2, q1⟩) hf
/-- a, b = x, y with plain local names: stored from the right; the pair itself is not tracked (the opening rows as in PyProof/Rows/TupAssign.lean:23) -/
def tPar (i j : Nat) (ta : TA) : TS := fun D σ H => ta σ H fun vs H1 => ∃ v w, vs = [v, w] ∧ D.nx ((σ.set i (some v)).set j (some w)) H1
theorem ps_par {i j : Nat} {x y : Str} {a b : Expr} {ta : TA} {px py pt : Pos} {kt k2 pt2} (hc : X.calm = true) (hN : X.N.Nodup) (hi : X.N[i]? = some x) (hj : X.N[j]? = some y) (hij : i ≠ j)
    (hx : X.env.scope.names.lookup x = some .local) (hy : X.env.scope.names.lookup y = some .local) (ha : PA X [a, b] ta)
    (hw : swappedStores [.Tuple [.Name x px, .Name y py] kt pt] (.Tuple [a, b] k2 pt2) X.env = pure (some [x, y]))
    (hs : swapsWithSole [.Tuple [.Name x px, .Name y py] kt pt] (.Tuple [a, b] k2 pt2) pos.line X.env = pure false := by rfl) :
    PS X (.Assign [.Tuple [.Name x px, .Name y py] kt pt] (.Tuple [a, b] k2 pt2) pos) (tPar i j ta) := by
  intro pins s σ H D I h
  rw [exec_Assign_arm]
  refine wpAny_bind (wpAny_standAt ?_)
  rw [hs]
  refine wpAny_bind (wpAny_pure ?_)
  rw [if_neg (by decide)]
  refine wpAny_bind (Tuple_ (thn (ha _ pins s σ H _ I h) fun us s1 ⟨vs, H1, I1, r1, q1⟩ => ?_))
  obtain ⟨v, w, e1, q1⟩ := q1
  subst e1
  obtain ⟨u1, u2, rfl, rv, rw'⟩ : ∃ u1 u2, us = [u1, u2] ∧ RelV v u1 ∧ RelV w u2 := by
    cases r1 with
    | cons p q =>
      cases q with
      | cons p' q' =>
        cases q'
        exact ⟨_, _, rfl, p, p'⟩
  refine wpAny_newObj_type ?_ (by show 2 ≤ sizeLine; decide)
  have I2 : Inv X pins σ H1 { s1 with heap := s1.heap.push { cls := .type "tuple", data := .seq [u1, u2].toArray } } := I1.kept (t' := s1.toks) fun b o e => Heap.get?_push_of_some _ e
  rw [hw]
  refine wpAny_bind (wpAny_pure ?_)
  show wpAny (model X.prog X.w) X.A (do rule "assign.swapped-stores"; let items ← unpackItems (.ref s1.heap.objs.size) 2 none; assignInOrder [fun v => bindName X.env y v, fun v => bindName X.env x v] items.reverse; pure Flow.next) _ _ _
  refine wpAny_bind (wpAny_rule (wpAny_bind (unpackItems_tuple (items := #[u1, u2]) (I.ok.hd hc) (IsTup.new s1.heap _) fun h' hx' => ?_)))
  have I3 := I2.kept (h' := h') (t' := s1.toks) fun b o e => hx' b o (Nat.ne_of_lt (Heap.lt_size e)) e
  show wpAny _ _ (assignInOrder [fun v => bindName X.env y v, fun v => bindName X.env x v] [u2, u1] >>= fun _ => pure Flow.next) _ _ _
  refine wpAny_bind (assignInOrder_cons (wpAny_bindName (store_ok I3 hN hj (.inl hy) rw' (fun s2 I4 => ?_) (.inr hy))))
  refine assignInOrder_cons (wpAny_bindName (store_ok I4 hN hi (.inl hx) rv (fun s3 I5 => assignInOrder_nil (wpAny_pure ?_)) (.inr hx)))
  rw [List.set_comm _ _ (Ne.symm hij)] at I5
  exact ⟨_, H1, I5, q1⟩
/-- name op= e -/
def tAug (i : Nat) (te : TE) (ti : TIp) : TS := fun D σ H => ∃ x, σ[i]? = some (some x) ∧ te σ H fun y H1 => ti x y H1 fun z H2 => D.nx (σ.set i (some z)) H2
theorem ps_aug {i : Nat} {x : Str} {e : Expr} {te : TE} {op : Operator} {ti : TIp} {pos' : Pos} (hN : X.N.Nodup) (hi : X.N[i]? = some x) (hx : Loc X.env.scope x) (he : PE X e te) (ho : PIp X op ti) (hf : X.fn x = true ∨ X.env.scope.names.lookup x = some .local := by first | exact .inl rfl | exact .inr rfl | assumption) :
    PS X (.AugAssign (.Name x pos') op e pos) (tAug i te ti) := by
  intro pins s σ H D I h
  obtain ⟨v, e1, h⟩ := h
  obtain ⟨m, hn, hl⟩ := I.loc
  have vis : Vis X.env.scope x := by rcases hx with k | k; exact .inl k; exact .inr (.inl k)
  obtain ⟨u, r, l⟩ := hl i x v hi e1 vis
  refine wpAny_AugAssign_Name ?_
  have go : wpAny (model X.prog X.w) X.A (eval e X.env) (fun w s₂ => wpAny (model X.prog X.w) X.A (inplaceOp op u w) (fun r s₃ => wpAny (model X.prog X.w) X.A (storeName X.env x r) (fun _ => SP X pins D .next) X.xe s₃) X.xe s₂) X.xe s := by
    refine thn (he pins s σ H _ I h) fun w s1 ⟨y, H1, I1, r1, q1⟩ => ?_
    refine thn (ho pins s1 σ H1 v y u w _ I1 r r1 q1) fun z s2 ⟨zv, H2, I2, r2, q2⟩ => ?_
    exact store_ok I2 hN hi hx r2 (fun s3 I3 => ⟨_, H2, I3, q2⟩) hf
  rcases l with ⟨hk, hm⟩ | ⟨hk, c, hc, hcell⟩
  · exact wpAny_loadName_local I.ok.kind hk hn hm go
  · rcases hk with hk | hk
    · exact wpAny_loadName_cell I.ok.kind hk hc hcell go
    · rcases hx with k | k
      · have : X.env.scope.names.lookup x = some .free := hk
        rw [k] at this; cases this
      · have : X.env.scope.names.lookup x = some .free := hk
        rw [k] at this; cases this
/-- o[i] op= e -/
def tAugS (to ti te : TE) (tget : V → V → Hp → VK → Prop) (tip : TIp) (tset : TSet) : TS := fun D σ H => to σ H fun o H1 => ti σ H1 fun i H2 => tget o i H2 fun x H3 => te σ H3 fun y H4 => tip x y H4 fun z H5 => tset o i z H5 fun H6 => D.nx σ H6
/-- o[i], by values -/
def PGet (X : Cx) (t : V → V → Hp → VK → Prop) : Prop :=
  ∀ (pins : List (Addr × Obj)) (s : Shared) (σ : St) (H : Hp) (o i : V) (ov iv : Value) (Q : VK), Inv X pins σ H s → RelV o ov → RelV i iv → t o i H Q →
    wpAny (model X.prog X.w) X.A (getItem ov iv) (EP X pins σ Q) X.xe s
theorem ps_augS {o i e : Expr} {to ti te : TE} {tget : V → V → Hp → VK → Prop} {tip : TIp} {tset : TSet} {op : Operator} {tpos : Pos} (ho : PE X o to) (hi : PE X i ti) (hg : PGet X tget) (he : PE X e te) (hp : PIp X op tip) (hs : PSet X tset)
    (ha : ∀ ov iv new, augStore i ov iv new = (do holding [new, ov, iv] (setItem ov iv new); release [new, ov, iv] []; pure .next) := by intros; rfl) : PS X (.AugAssign (.Subscript o i tpos) op e pos) (tAugS to ti te tget tip tset) := by
  intro pins s σ H D I h
  refine wpAny_AugAssign_SubscriptAny (thn (ho pins s σ H _ I h) fun ov s1 ⟨x1, H1, I1, r1, q1⟩ => ?_) ha
  refine thn (hi pins s1 σ H1 _ I1 q1) fun iv s2 ⟨x2, H2, I2, r2, q2⟩ => ?_
  refine thn (hg pins s2 σ H2 x1 x2 ov iv _ I2 r1 r2 q2) fun old s3 ⟨x3, H3, I3, r3, q3⟩ => ?_
  refine thn (he pins s3 σ H3 _ I3 q3) fun v s4 ⟨x4, H4, I4, r4, q4⟩ => ?_
  refine thn (hp pins s4 σ H4 x3 x4 old v _ I4 r3 r4 q4) fun new s5 ⟨x5, H5, I5, r5, q5⟩ => ?_
  exact thn (hs pins s5 σ H5 x1 x2 x5 ov iv new _ I5 r1 r2 r5 q5) fun _ s6 ⟨H6, I6, q6⟩ => ⟨σ, H6, I6, q6⟩
/-- ints -/
def ipI (f : Int → Int → Int) : TIp := fun x y H Q => ∃ i j, x = .int i ∧ y = .int j ∧ Q (.int (f i j)) H
theorem ip_add : PIp X .Add (ipI fun i j => i + j) := by
  intro pins s σ H x y v u Q I r1 r2 h
  obtain ⟨i, j, e1, e2, q⟩ := h
  subst e1; subst e2
  obtain ⟨t, rfl⟩ := r1
  obtain ⟨t', rfl⟩ := r2
  exact iadd_int ⟨.int _, H, I.tok _, ⟨_, rfl⟩, q⟩
theorem ip_sub : PIp X .Sub (ipI fun i j => i - j) := by
  intro pins s σ H x y v u Q I r1 r2 h
  obtain ⟨i, j, e1, e2, q⟩ := h
  subst e1; subst e2
  obtain ⟨t, rfl⟩ := r1
  obtain ⟨t', rfl⟩ := r2
  exact isub_int ⟨.int _, H, I.tok _, ⟨_, rfl⟩, q⟩
end

/-! ### while -/
section
variable {X : Cx} {pos : Pos}
/-- the invariant W with its measure -/
def tWhile (c : TT) (tb : TS) : TS := fun D σ H => ∃ W : Nat → St → Hp → Prop, (∃ m, W m σ H) ∧ ∀ m σ H, W m σ H →
  c σ H fun b H1 => if b = true then ∃ N : St → Hp → Prop, (∀ σ' H', N σ' H' → ∃ m', m' < m ∧ W m' σ' H') ∧ tb { D with nx := N, ct := N, bk := D.nx } σ H1 else D.nx σ H1
theorem ps_while {c : Expr} {body : List Stmt} {tc : TT} {tb : TS} (hp : PassesOwn (model X.prog X.w) X.A X.env X.xe) (hc : PT X c tc) (hb : PSs X body tb) : PS X (.While c body [] pos) (tWhile tc tb) := by
  intro pins s σ H D I h
  obtain ⟨W, ⟨m0, w0⟩, turn⟩ := h
  refine wpAny_While (codeAny_whileLoop (fun n s' => ∃ σ' H', Inv X pins σ' H' s' ∧ W n σ' H') ?_ m0 ⟨σ, H, I, w0⟩)
  rintro n s1 ⟨σ1, H1, I1, w1⟩
  refine wpAny_passesOwn hp (thn (hc pins s1 σ1 H1 _ I1 (turn n σ1 H1 w1)) fun b s2 ⟨H2, I2, q2⟩ => ?_)
  cases b with
  | true =>
    obtain ⟨N, hN, q2⟩ := q2
    rw [if_pos rfl]
    refine wpAny_passesOwn hp (thn (hb pins s2 σ1 H2 _ I2 q2) fun f s3 q3 => ?_)
    cases f with
    | next =>
      obtain ⟨σ3, H3, I3, n3⟩ := q3
      obtain ⟨m', hm, w3⟩ := hN σ3 H3 n3
      exact ⟨m', hm, σ3, H3, I3, w3⟩
    | cont =>
      obtain ⟨σ3, H3, I3, n3⟩ := q3
      obtain ⟨m', hm, w3⟩ := hN σ3 H3 n3
      exact ⟨m', hm, σ3, H3, I3, w3⟩
    | brk => exact q3
    | ret v => exact q3
  | false =>
    rw [if_neg Bool.false_ne_true]
    exact wpAny_execs_nil ⟨σ1, H2, I2, q2⟩
end

/-! ### what a loop or a comprehension walks -/
/-- at turn i: it yields x (the heap may grow), or it stops -/
structure It where
  go : Nat → Hp → Prop
  yld : Nat → Hp → V → Hp → Prop
  stop : Nat → Hp → Prop
/-- the iterator's own objects may turn: they are not the frame's, not pinned, younger than the entry (or a comprehension's own) -/
def FpOk (X : Cx) (pins : List (Addr × Obj)) (H : Hp) (b : Addr) : Prop :=
  H b = none ∧ b ≠ X.env.locals ∧ b ∉ X.fs ∧ (b ∈ X.ex ∨ X.s₀.heap.objs.size ≤ b) ∧ (∀ x c, X.env.cells.lookup x = some c → c ≠ b) ∧ ∀ p ∈ X.pn ++ pins, p.1 ≠ b
theorem Inv.fpOk {X : Cx} {pins : List (Addr × Obj)} {σ : St} {H H' : Hp} {s : Shared} {b : Addr} (I : Inv X pins σ H s) (hb : s.heap.objs.size ≤ b) (hn : H' b = none) : FpOk X pins H' b := by
  refine ⟨hn, Nat.ne_of_gt (Nat.lt_of_lt_of_le I.lt hb), I.nofs hb, .inr (Nat.le_trans I.sz hb), fun x c e z => ?_, fun p hp z => ?_⟩
  · obtain ⟨v, q⟩ := I.cell x c e
    exact absurd (Nat.lt_of_lt_of_le q.lt (by rw [z]; exact hb)) (Nat.lt_irrefl _)
  · exact absurd (Nat.lt_of_lt_of_le (Heap.lt_size (I.pin p hp).1) (by rw [z]; exact hb)) (Nat.lt_irrefl _)
structure Turn (P : Program) (w : World) (K : PySem.W.Frag) (tg : Expr) (J : It) (fp : List Addr) (it : Addr) (tn : Nat → Heap → Prop) : Prop where
  mem : it ∈ fp
  obj : ∀ i h, tn i h → ∀ b ∈ fp, ∃ o, h.get? b = some o ∧ ∀ v, o.data ≠ .cell v
  keep : ∀ i h h', tn i h → (∀ b ∈ fp, ∀ o, h.get? b = some o → h'.get? b = some o) → tn i h'
  item : ∀ (X : Cx), X.prog = P → X.w = w → X.K = K → X.calm = true → ∀ (i : Nat) (pins : List (Addr × Obj)) (s : Shared) (σ : St) (H : Hp) (E : Value → Shared → Prop), Inv X pins σ H s → (∀ b ∈ fp, FpOk X pins H b) → tn i s.heap → J.go i H →
    wpAny (model P w) X.A (pyNext (.ref it)) (fun r s1 => ∃ u, r = some u ∧
      wpAny (model P w) X.A (letOwnedTupleGo tg (.ref it) u) (fun _ s2 => ∃ x H', Inv X pins σ H' s2 ∧ RelV x u ∧ J.yld i H x H' ∧ tn (i + 1) s2.heap ∧ ∀ b ∈ fp, H' b = none) E s1) E s
  done : ∀ (X : Cx), X.prog = P → X.w = w → X.K = K → X.calm = true → ∀ (i : Nat) (pins : List (Addr × Obj)) (s : Shared) (σ : St) (H : Hp) (E : Value → Shared → Prop), Inv X pins σ H s → (∀ b ∈ fp, FpOk X pins H b) → tn i s.heap → J.stop i H →
    wpAny (model P w) X.A (pyNext (.ref it)) (fun r s1 => r = none ∧ Inv X pins σ H s1) E s
  self : ∀ (A : Around) (i : Nat) (s : Shared) (Q : Value → Shared → Prop) (E : Value → Shared → Prop), tn i s.heap → Q (.ref it) s → wpAny (model P w) A (pyIter (.ref it)) Q E s
abbrev TI := St → Hp → (It → Hp → Prop) → Prop
/-- an iterator has come -/
def PIE (X : Cx) (pins : List (Addr × Obj)) (σ : St) (tg : Expr) (R : It → Hp → Prop) (itv : Value) (s2 : Shared) : Prop :=
  ∃ (it : Addr) (fp : List Addr) (tn : Nat → Heap → Prop) (J : It) (H' : Hp), itv = .ref it ∧ Inv X pins σ H' s2 ∧ Turn X.prog X.w X.K tg J fp it tn ∧ tn 0 s2.heap ∧ (∀ b ∈ fp, FpOk X pins H' b) ∧ R J H'
def PI (X : Cx) (tg iter : Expr) (wi : TI) : Prop :=
  ∀ (pins : List (Addr × Obj)) (s : Shared) (σ : St) (H : Hp) (R : It → Hp → Prop), Inv X pins σ H s → wi σ H R →
    wpAny (model X.prog X.w) X.A (eval iter X.env) (fun v s1 => wpAny (model X.prog X.w) X.A (pyIter v) (PIE X pins σ tg R) X.xe s1) X.xe s

/-- the step ahead of the store is nothing for an iterator that keeps no tuple -/
theorem go_of {M : Model} {A : Around} {E : Value → Shared → Prop} {s : Shared} {tg : Expr} {it : Addr} {u : Value} {o : Obj} {n : String} {vs : Array Value} {Q : Unit → Shared → Prop} (ho : s.heap.get? it = some o) (hc : o.cls = .type n) (hd : o.data = .fields vs)
    (hn : ["enumerate", "zip", "dict_itemiterator", "dict_reverseitemiterator", "odict_iterator", "itertools.zip_longest", "itertools.pairwise"].contains n = false) (hQ : Q () s) : wpAny M A (letOwnedTupleGo tg (.ref it) u) Q E s := by
  unfold letOwnedTupleGo
  cases tg <;> first
    | exact wpAny_pure hQ
    | (cases u <;> first
        | exact wpAny_pure hQ
        | (refine wpAny_bind (wpAny_load ho ?_)
           rw [hc, hd]
           show wpAny M A (if (["enumerate", "zip", "dict_itemiterator", "dict_reverseitemiterator", "odict_iterator", "itertools.zip_longest", "itertools.pairwise"].contains n && vs[0]? == some (rawInt _)) = true then _ else _) Q E s
           rw [if_neg (by intro h; rw [hn, Bool.false_and] at h; cases h)]
           exact wpAny_pure hQ))

/-- the list at a, as it stands at each turn (a loop may append to it) -/
def Itl (K : PySem.W.Frag) (a : Addr) : It :=
  ⟨fun i H => ∃ xs x, SqL K H a xs ∧ xs[i]? = some x, fun i H x H' => H' = H ∧ ∀ xs, SqL K H a xs → xs[i]? = some x, fun i H => ∃ xs, SqL K H a xs ∧ xs.length ≤ i⟩
def Itt (K : PySem.W.Frag) (a : Addr) : It :=
  ⟨fun i H => ∃ xs x, SqT K H a xs ∧ xs[i]? = some x, fun i H x H' => H' = H ∧ ∀ xs, SqT K H a xs → xs[i]? = some x, fun i H => ∃ xs, SqT K H a xs ∧ xs.length ≤ i⟩
/-- lo, lo + 1, .. (n of them) -/
def Itr (lo : Int) (n : Nat) : It := ⟨fun i _ => i < n, fun i H x H' => H' = H ∧ x = .int (lo + i), fun i _ => n ≤ i⟩
theorem turn_list {P : Program} {w : World} {K : PySem.W.Frag} {tg : Expr} (a it : Addr) : Turn P w K tg (Itl K a) [it] it (fun i h => h.IsListIter it a i) where
  mem := by simp
  obj := fun i h st b hb => by
    have e : b = it := by simpa using hb
    subst e
    obtain ⟨o, e, c, d⟩ := st
    exact ⟨o, e, fun v z => by rw [d] at z; cases z⟩
  keep := fun i h h' st k => st.at fun o e => k it (by simp) o e
  item := by
    intro X hP hw hK hc i pins s σ H E I hf st hg
    subst hP hw hK
    obtain ⟨xs, x, hq, hx⟩ := hg
    obtain ⟨its, rv, p, hz⟩ := I.list hq
    obtain ⟨u, hu, ru⟩ := rv.get hx
    obtain ⟨f0, f1, f2, f3, f4, f5⟩ := hf it (by simp)
    refine wpAny_pyNext_list_item st p.isList (x := u) (by simpa using hu) fun h' st' sb => ?_
    have I1 : Inv X pins σ H { s with heap := h' } := I.turned (t' := s.toks) (fun b o hb e => (sb.2 b hb).trans e) f0 f1 f3 f4 f5
    obtain ⟨o, e, c, d⟩ := id st'
    exact ⟨u, rfl, go_of (s := { s with heap := h' }) e c d (by decide) ⟨x, H, I1, ru, ⟨rfl, fun ys hy => by rw [I.list_inj hy hq]; exact hx⟩, st', fun b hb => (hf b hb).1⟩⟩
  done := by
    intro X hP hw hK hc i pins s σ H E I hf st hg
    subst hP hw hK
    obtain ⟨xs, hq, hx⟩ := hg
    obtain ⟨its, rv, p, hz⟩ := I.list hq
    obtain ⟨f0, f1, f2, f3, f4, f5⟩ := hf it (by simp)
    have hl := rv.length
    exact wpAny_pyNext_list_end (I.ok.hd hc) st p.isList (by simp; omega) fun h' eb => ⟨rfl, I.turned (t' := s.toks) (fun b o hb e => eb b o hb e) f0 f1 f3 f4 f5⟩
  self := fun _ _ _ _ _ st h => wpAny_pyIter_listiter st h
theorem turn_tuple {P : Program} {w : World} {K : PySem.W.Frag} {tg : Expr} (a it : Addr) : Turn P w K tg (Itt K a) [it] it (fun i h => h.IsTupleIter it a i) where
  mem := by simp
  obj := fun i h st b hb => by
    have e : b = it := by simpa using hb
    subst e
    obtain ⟨o, e, c, d⟩ := st
    exact ⟨o, e, fun v z => by rw [d] at z; cases z⟩
  keep := fun i h h' st k => st.at fun o e => k it (by simp) o e
  item := by
    intro X hP hw hK hc i pins s σ H E I hf st hg
    subst hP hw hK
    obtain ⟨xs, x, hq, hx⟩ := hg
    obtain ⟨its, rv, p, hz⟩ := I.tuple hq
    obtain ⟨u, hu, ru⟩ := rv.get hx
    obtain ⟨f0, f1, f2, f3, f4, f5⟩ := hf it (by simp)
    refine wpAny_pyNext_tuple_item st (show s.heap.IsTuple a its.toArray from p) (x := u) (by simpa using hu) fun h' st' sb => ?_
    have I1 : Inv X pins σ H { s with heap := h' } := I.turned (t' := s.toks) (fun b o hb e => (sb.2 b hb).trans e) f0 f1 f3 f4 f5
    obtain ⟨o, e, c, d⟩ := id st'
    exact ⟨u, rfl, go_of (s := { s with heap := h' }) e c d (by decide) ⟨x, H, I1, ru, ⟨rfl, fun ys hy => by rw [I.tuple_inj hy hq]; exact hx⟩, st', fun b hb => (hf b hb).1⟩⟩
  done := by
    intro X hP hw hK hc i pins s σ H E I hf st hg
    subst hP hw hK
    obtain ⟨xs, hq, hx⟩ := hg
    obtain ⟨its, rv, p, hz⟩ := I.tuple hq
    obtain ⟨f0, f1, f2, f3, f4, f5⟩ := hf it (by simp)
    have hl := rv.length
    exact wpAny_pyNext_tuple_end (I.ok.hd hc) st (show s.heap.IsTuple a its.toArray from p) (by simp; omega) fun h' eb => ⟨rfl, I.turned (t' := s.toks) (fun b o hb e => eb b o hb e) f0 f1 f3 f4 f5⟩
  self := fun _ _ _ _ _ st h => wpAny_pyIter_tupleiter st h
theorem turn_range {P : Program} {w : World} {K : PySem.W.Frag} {tg : Expr} (it : Addr) (lo : Int) (n : Nat) : Turn P w K tg (Itr lo n) [it] it (fun i h => IsRangeIter h it (lo + (i : Nat) * 1) ((n : Int) - (i : Nat)) 1) where
  mem := by simp
  obj := fun i h st b hb => by
    have e : b = it := by simpa using hb
    subst e
    exact ⟨_, st, fun v z => by
      have z' : Data.fields _ = Data.cell v := z
      cases z'⟩
  keep := fun i h h' st k => k it (by simp) _ st
  item := by
    intro X hP hw hK hc i pins s σ H E I hf st hg
    subst hP hw hK
    obtain ⟨f0, f1, f2, f3, f4, f5⟩ := hf it (by simp)
    have W := Walks.range (prog := X.prog) (w := X.w) (I.ok.hd hc) it lo 1 n
    refine W.item i s _ _ hg st fun v h' tk hv st' kk => ?_
    obtain ⟨t, rfl⟩ := hv
    have I1 : Inv X pins σ H { s with heap := h', toks := tk } := I.turned (fun b o hb e => kk b o (by simpa using hb) e) f0 f1 f3 f4 f5
    refine ⟨_, rfl, go_of (s := { s with heap := h', toks := tk }) (n := "range_iterator") st' rfl rfl (by decide) ⟨.int (lo + i), H, I1, ⟨t, ?_⟩, ⟨rfl, rfl⟩, st', fun b hb => (hf b hb).1⟩⟩
    rw [Int.mul_one]
  done := by
    intro X hP hw hK hc i pins s σ H E I hf st hg
    subst hP hw hK
    obtain ⟨f0, f1, f2, f3, f4, f5⟩ := hf it (by simp)
    exact wpAny_pyNext_range_end (I.ok.hd hc) st (by have : n ≤ i := hg; omega) fun h' eb => ⟨rfl, I.turned (t' := s.toks) (fun b o hb e => eb b o hb e) f0 f1 f3 f4 f5⟩
  self := fun _ _ _ _ _ st h => wpAny_pyIter_rangeiter st h
end L2

namespace L2
open PySem PySem.Spec PyProof.Rows
section
variable {X : Cx} {tg : Expr}
def iList (K : PySem.W.Frag) (tl : TE) : TI := fun σ H R => tl σ H fun x H1 => ∃ a, x = .ref a ∧ (∃ xs, SqL K H1 a xs) ∧ R (Itl K a) H1
def iTup (K : PySem.W.Frag) (tl : TE) : TI := fun σ H R => tl σ H fun x H1 => ∃ a, x = .ref a ∧ (∃ xs, SqT K H1 a xs) ∧ R (Itt K a) H1
theorem pi_list {l : Expr} {tl : TE} (hl : PE X l tl) : PI X tg l (iList X.K tl) := by
  intro pins s σ H R I h
  refine thn (hl pins s σ H _ I h) fun v s1 ⟨x, H1, I1, r1, q1⟩ => ?_
  obtain ⟨a, e, ⟨xs, hq⟩, q⟩ := q1
  subst e
  cases r1
  obtain ⟨its, rv, p, hz⟩ := I1.list hq
  refine wpAny_pyIter_list p.isList ?_
  refine ⟨s1.heap.objs.size, [s1.heap.objs.size], _, _, H1, rfl, I1.kept (t' := s1.toks) fun b o e => Heap.get?_push_of_some _ e, turn_list a _, ⟨_, Heap.get?_push_size _ rfl, rfl, rfl⟩, fun b hb => ?_, q⟩
  have e : b = s1.heap.objs.size := by simpa using hb
  subst e
  exact I1.fpOk (Nat.le_refl _) (I1.hok.fresh (Nat.le_refl _))
theorem pi_tup {l : Expr} {tl : TE} (hl : PE X l tl) : PI X tg l (iTup X.K tl) := by
  intro pins s σ H R I h
  refine thn (hl pins s σ H _ I h) fun v s1 ⟨x, H1, I1, r1, q1⟩ => ?_
  obtain ⟨a, e, ⟨xs, hq⟩, q⟩ := q1
  subst e
  cases r1
  obtain ⟨its, rv, p, hz⟩ := I1.tuple hq
  refine wpAny_pyIter_tuple (show s1.heap.IsTuple a its.toArray from p) ?_
  refine ⟨s1.heap.objs.size, [s1.heap.objs.size], _, _, H1, rfl, I1.kept (t' := s1.toks) fun b o e => Heap.get?_push_of_some _ e, turn_tuple a _, ⟨_, Heap.get?_push_size _ rfl, rfl, rfl⟩, fun b hb => ?_, q⟩
  have e : b = s1.heap.objs.size := by simpa using hb
  subst e
  exact I1.fpOk (Nat.le_refl _) (I1.hok.fresh (Nat.le_refl _))
/-- a range object just made, walked -/
theorem range_it {pins : List (Addr × Obj)} {σ : St} {H : Hp} {s : Shared} {R : It → Hp → Prop} {E : Value → Shared → Prop} {lo hi : Int} {t u v : Tok} {tk : Nat} (I : Inv X pins σ H s) (h1 : -(2 ^ 62) ≤ lo) (h2 : lo < 2 ^ 62) (h3 : -(2 ^ 62) ≤ hi) (h4 : hi < 2 ^ 62)
    (q : R (Itr lo (hi - lo).toNat) H) : wpAny (model X.prog X.w) X.A (pyIter (.ref s.heap.objs.size)) (PIE X pins σ tg R) E { s with heap := s.heap.push { cls := .type "range", data := .fields #[.int lo t, .int hi u, .int 1 v] }, toks := tk } := by
  refine wpAny_pyIter_range (IsRange.new ..) (small_one h1 h2 h3 h4) ?_
  have I1 : Inv X pins σ H { s with heap := s.heap.push { cls := .type "range", data := .fields #[.int lo t, .int hi u, .int 1 v] }, toks := tk } := I.kept fun b o e => Heap.get?_push_of_some _ e
  refine ⟨(s.heap.push { cls := .type "range", data := .fields #[.int lo t, .int hi u, .int 1 v] }).objs.size, [(s.heap.push { cls := .type "range", data := .fields #[.int lo t, .int hi u, .int 1 v] }).objs.size], _, _, H, rfl,
    I1.kept (t' := tk) fun b o e => Heap.get?_push_of_some _ e, turn_range _ lo (hi - lo).toNat, ?_, fun b hb => ?_, q⟩
  · have e1 : lo + ((0 : Nat) : Int) * 1 = lo := by simp
    have e2 : (((hi - lo).toNat : Nat) : Int) - ((0 : Nat) : Int) = Builtin.Range.rangeSize lo hi 1 := by rw [rangeSize_one]; split <;> omega
    show IsRangeIter _ _ (lo + ((0 : Nat) : Int) * 1) ((((hi - lo).toNat : Nat) : Int) - ((0 : Nat) : Int)) 1
    rw [e1, e2]
    exact Heap.get?_push_size _ rfl
  · have e : b = (s.heap.push { cls := .type "range", data := .fields #[.int lo t, .int hi u, .int 1 v] }).objs.size := by simpa using hb
    subst e
    exact I1.fpOk (Nat.le_refl _) (I1.hok.fresh (Nat.le_refl _))
def iRng1 (ta : TA) : TI := fun σ H R => ta σ H fun vs H1 => ∃ j : Int, vs = [.int j] ∧ -(2 ^ 62) ≤ j ∧ j < 2 ^ 62 ∧ R (Itr 0 j.toNat) H1
def iRng2 (ta : TA) : TI := fun σ H R => ta σ H fun vs H1 => ∃ i j : Int, vs = [.int i, .int j] ∧ (-(2 ^ 62) ≤ i ∧ i < 2 ^ 62 ∧ -(2 ^ 62) ≤ j ∧ j < 2 ^ 62) ∧ R (Itr i (j - i).toNat) H1
theorem pi_range1 {a : Expr} {ta : TA} {p pos : Pos} (hg : Gl X "range") (hm : X.mg "range" = none) (ha : PA X [a] ta) (hs : starEach [a] X.env = [(false, eval a X.env)] := by rfl) : PI X tg (.Call (.Name "range" p) [a] [] pos) (iRng1 ta) := by
  intro pins s σ H R I h
  refine Call_ (ld_blt I hg hm boot_range (PyProof.Rows.callWith_type1 (thn (ha pos pins s σ H _ I h) fun us s1 ⟨vs, H1, I1, r1, q1⟩ => ?_) hs rfl))
  obtain ⟨j, e, q1, q2, q⟩ := q1
  subst e
  cases r1 with
  | cons r rr =>
    cases rr
    obtain ⟨t, rfl⟩ := r
    exact call_range_1 (range_it I1 (by omega) (by omega) q1 q2 (by simpa using q))
theorem pi_range2 {a b : Expr} {ta : TA} {p pos : Pos} (hg : Gl X "range") (hm : X.mg "range" = none) (ha : PA X [a, b] ta) (hs : starEach [a, b] X.env = [(false, eval a X.env), (false, eval b X.env)] := by rfl) (hs2 : starEach [b] X.env = [(false, eval b X.env)] := by rfl) :
    PI X tg (.Call (.Name "range" p) [a, b] [] pos) (iRng2 ta) := by
  intro pins s σ H R I h
  refine Call_ (ld_blt I hg hm boot_range (PyProof.Rows.callWith_type1 (thn (ha pos pins s σ H _ I h) fun us s1 ⟨vs, H1, I1, r1, q1⟩ => ?_) (by rw [hs, hs2]) (by rw [hs2]; rfl)))
  obtain ⟨i, j, e, ⟨q1, q2, q3, q4⟩, q⟩ := q1
  subst e
  cases r1 with
  | cons r rr =>
    cases rr with
    | cons r' rr =>
      cases rr
      obtain ⟨t, rfl⟩ := r
      obtain ⟨t', rfl⟩ := r'
      exact call_range_2 (range_it I1 q1 q2 q3 q4 q)

/-! ### for -/
/-- W: the invariant by the turn and a measure; N: what the body is to reach -/
def tFor (wi : TI) (g : TG) (tb : TS) : TS := fun D σ H => wi σ H fun J H1 => ∃ W : Nat → Nat → St → Hp → Prop, (∃ m, W 0 m σ H1) ∧ ∀ i m σ H, W i m σ H →
  (J.stop i H ∧ D.nx σ H) ∨ (J.go i H ∧ ∃ N : St → Hp → Prop, (∀ σ' H', N σ' H' → ∃ m', m' < m ∧ W (i + 1) m' σ' H') ∧ ∀ x H', J.yld i H x H' → g x σ H' fun σ2 H2 => tb { D with nx := N, ct := N, bk := D.nx } σ2 H2)
/-- the records at fp as they stand -/
def pinsAt (fp : List Addr) (h : Heap) : List (Addr × Obj) := fp.filterMap fun b => (h.get? b).map fun o => (b, o)
theorem mem_pinsAt {fp : List Addr} {h : Heap} {b : Addr} {o : Obj} (hb : b ∈ fp) (e : h.get? b = some o) : (b, o) ∈ pinsAt fp h := List.mem_filterMap.mpr ⟨b, hb, by rw [e]; rfl⟩
theorem of_pinsAt {fp : List Addr} {h : Heap} {p : Addr × Obj} (hp : p ∈ pinsAt fp h) : p.1 ∈ fp ∧ h.get? p.1 = some p.2 := by
  obtain ⟨b, hb, e⟩ := List.mem_filterMap.mp hp
  cases q : h.get? b with
  | none => rw [q] at e; cases e
  | some o =>
    rw [q] at e
    have e' : (b, o) = p := Option.some.inj e
    subst e'
    exact ⟨hb, q⟩
theorem Inv.pinned {pins : List (Addr × Obj)} {σ : St} {H : Hp} {s : Shared} {fp : List Addr} (I : Inv X pins σ H s) (hf : ∀ b ∈ fp, FpOk X pins H b) (ho : ∀ b ∈ fp, ∃ o, s.heap.get? b = some o ∧ ∀ v, o.data ≠ .cell v) : Inv X (pins ++ pinsAt fp s.heap) σ H s :=
  I.pins_of fun p hp => (List.mem_append.mp hp).elim (fun z => I.pin p (List.mem_append_right _ z)) fun z => by
    obtain ⟨hb, e⟩ := of_pinsAt z
    obtain ⟨f0, f1, f2, _⟩ := hf p.1 hb
    obtain ⟨o, e', d⟩ := ho p.1 hb
    rw [e] at e'; cases e'
    exact ⟨e, f0, f1, f2, d⟩
theorem Inv.unpinned {pins pl : List (Addr × Obj)} {σ : St} {H : Hp} {s : Shared} (I : Inv X (pins ++ pl) σ H s) : Inv X pins σ H s := I.pins_of fun p hp => I.pin p (List.mem_append_right _ (List.mem_append_left _ hp))
theorem ps_for {iter : Expr} {body : List Stmt} {wi : TI} {g : TG} {tb : TS} {pos : Pos} (hp : PassesOwn (model X.prog X.w) X.A X.env X.xe) (hc : X.calm = true) (hi : PI X tg iter wi) (hg : PG X tg g) (hb : PSs X body tb)
    (hs : ∀ x, foldedSetIterable iter X.env x = pure x := by intro _; rfl) : PS X (.For tg iter body [] pos) (tFor wi g tb) := by
  intro pins s σ H D I h
  refine wpAny_For (thn (hi pins s σ H _ I h) fun v s1 h1 => thn h1 fun itv s2 h2 => ?_) hs
  obtain ⟨it, fp, tn, J, H2, e, I2, T, st2, f2, W, ⟨m0, w0⟩, turn⟩ := h2
  subst e
  -- what stays true of the iterator's objects through the loop
  have stat : ∀ {H' : Hp}, (∀ b ∈ fp, H' b = none) → ∀ b ∈ fp, FpOk X pins H' b := fun hn b hb => ⟨hn b hb, (f2 b hb).2⟩
  refine codeAny_forLoop_any (fun n s' => ∃ i σ' H', Inv X pins σ' H' s' ∧ tn i s'.heap ∧ (∀ b ∈ fp, H' b = none) ∧ W i n σ' H') ?_ m0 ⟨0, σ, H2, I2, st2, fun b hb => (f2 b hb).1, w0⟩
  rintro n s3 ⟨i, σ3, H3, I3, st3, fr3, w3⟩
  rcases turn i n σ3 H3 w3 with ⟨stop, qn⟩ | ⟨go, N, hN, step⟩
  · refine wpAny_passesOwn hp (thn (T.done X rfl rfl rfl hc i pins s3 σ3 H3 X.xe I3 (stat fr3) st3 stop) fun r s4 ⟨hr, I4⟩ => ?_)
    subst hr
    exact wpAny_execs_nil ⟨σ3, H3, I4, qn⟩
  · refine wpAny_passesOwn hp (thn (T.item X rfl rfl rfl hc i pins s3 σ3 H3 X.xe I3 (stat fr3) st3 go) fun r s4 ⟨u, hr, h4⟩ => ?_)
    subst hr
    refine wpAny_passesOwn hp (thn h4 fun _ s5 ⟨x, H5, I5, r5, y5, st5, fr5⟩ => ?_)
    have I5' := I5.pinned (stat fr5) (T.obj _ _ st5)
    refine wpAny_passesOwn hp (thn (hg _ s5 σ3 H5 x u _ I5' r5 (step x H5 y5)) fun _ s6 ⟨σ6, H6, I6, q6⟩ => ?_)
    refine wpAny_passesOwn hp (thn (hb _ s6 σ6 H6 _ I6 q6) fun f s7 q7 => ?_)
    have again : ∀ {σ7 : St} {H7 : Hp}, Inv X (pins ++ pinsAt fp s5.heap) σ7 H7 s7 → N σ7 H7 → ∃ m, m < n ∧ ∃ i σ' H', Inv X pins σ' H' s7 ∧ tn i s7.heap ∧ (∀ b ∈ fp, H' b = none) ∧ W i m σ' H' := fun {σ7 H7} I7 n7 => by
      obtain ⟨m', hm, w7⟩ := hN σ7 H7 n7
      refine ⟨m', hm, i + 1, σ7, H7, I7.unpinned, T.keep _ _ _ st5 fun b hb o e => (I7.pin (b, o) (List.mem_append_right _ (List.mem_append_right _ (mem_pinsAt hb e)))).1, fun b hb => ?_, w7⟩
      obtain ⟨o, e, d⟩ := T.obj _ _ st5 b hb
      exact (I7.pin (b, o) (List.mem_append_right _ (List.mem_append_right _ (mem_pinsAt hb e)))).2.1
    cases f with
    | next => obtain ⟨σ7, H7, I7, n7⟩ := q7; exact again I7 n7
    | cont => obtain ⟨σ7, H7, I7, n7⟩ := q7; exact again I7 n7
    | brk => obtain ⟨σ7, H7, I7, q7⟩ := q7; exact ⟨σ7, H7, I7.unpinned, q7⟩
    | ret v => obtain ⟨x7, σ7, H7, I7, r7, q7⟩ := q7; exact ⟨x7, σ7, H7, I7.unpinned, r7, q7⟩
end

/-! ### the forms one uses -/
/-- over a list that the body leaves as it is -/
theorem for_list {K : PySem.W.Frag} {a : Addr} {xs : List V} {g : TG} {tb : TS} {D : Ends} {σ : St} {H : Hp} (Pv : Nat → St → Hp → Prop) (h0 : Pv 0 σ H) (hl : ∀ i σ H, i ≤ xs.length → Pv i σ H → SqL K H a xs)
    (hs : ∀ i x σ H, xs[i]? = some x → Pv i σ H → g x σ H fun σ2 H2 => tb { D with nx := Pv (i + 1), ct := Pv (i + 1), bk := D.nx } σ2 H2) (hd : ∀ σ H, Pv xs.length σ H → D.nx σ H) :
    ∃ W : Nat → Nat → St → Hp → Prop, (∃ m, W 0 m σ H) ∧ ∀ i m σ H, W i m σ H →
      ((Itl K a).stop i H ∧ D.nx σ H) ∨ ((Itl K a).go i H ∧ ∃ N : St → Hp → Prop, (∀ σ' H', N σ' H' → ∃ m', m' < m ∧ W (i + 1) m' σ' H') ∧ ∀ x H', (Itl K a).yld i H x H' → g x σ H' fun σ2 H2 => tb { D with nx := N, ct := N, bk := D.nx } σ2 H2) := by
  refine ⟨fun i m σ H => m = xs.length - i ∧ i ≤ xs.length ∧ Pv i σ H, ⟨xs.length, by simp, Nat.zero_le _, h0⟩, ?_⟩
  rintro i m σ H ⟨rfl, hi, p⟩
  have q := hl i σ H hi p
  by_cases hlt : i < xs.length
  · refine .inr ⟨⟨xs, xs[i], q, by simp [hlt]⟩, Pv (i + 1), fun σ' H' p' => ⟨xs.length - (i + 1), by omega, rfl, hlt, p'⟩, fun x H' y => ?_⟩
    obtain ⟨e, y⟩ := y
    subst e
    exact hs i x σ _ (y xs q) p
  · have e : i = xs.length := by omega
    subst e
    exact .inl ⟨⟨xs, q, Nat.le_refl _⟩, hd σ H p⟩
theorem for_tup {K : PySem.W.Frag} {a : Addr} {xs : List V} {g : TG} {tb : TS} {D : Ends} {σ : St} {H : Hp} (Pv : Nat → St → Hp → Prop) (h0 : Pv 0 σ H) (hl : ∀ i σ H, i ≤ xs.length → Pv i σ H → SqT K H a xs)
    (hs : ∀ i x σ H, xs[i]? = some x → Pv i σ H → g x σ H fun σ2 H2 => tb { D with nx := Pv (i + 1), ct := Pv (i + 1), bk := D.nx } σ2 H2) (hd : ∀ σ H, Pv xs.length σ H → D.nx σ H) :
    ∃ W : Nat → Nat → St → Hp → Prop, (∃ m, W 0 m σ H) ∧ ∀ i m σ H, W i m σ H →
      ((Itt K a).stop i H ∧ D.nx σ H) ∨ ((Itt K a).go i H ∧ ∃ N : St → Hp → Prop, (∀ σ' H', N σ' H' → ∃ m', m' < m ∧ W (i + 1) m' σ' H') ∧ ∀ x H', (Itt K a).yld i H x H' → g x σ H' fun σ2 H2 => tb { D with nx := N, ct := N, bk := D.nx } σ2 H2) := by
  refine ⟨fun i m σ H => m = xs.length - i ∧ i ≤ xs.length ∧ Pv i σ H, ⟨xs.length, by simp, Nat.zero_le _, h0⟩, ?_⟩
  rintro i m σ H ⟨rfl, hi, p⟩
  have q := hl i σ H hi p
  by_cases hlt : i < xs.length
  · refine .inr ⟨⟨xs, xs[i], q, by simp [hlt]⟩, Pv (i + 1), fun σ' H' p' => ⟨xs.length - (i + 1), by omega, rfl, hlt, p'⟩, fun x H' y => ?_⟩
    obtain ⟨e, y⟩ := y
    subst e
    exact hs i x σ _ (y xs q) p
  · have e : i = xs.length := by omega
    subst e
    exact .inl ⟨⟨xs, q, Nat.le_refl _⟩, hd σ H p⟩
theorem for_range {lo : Int} {n : Nat} {g : TG} {tb : TS} {D : Ends} {σ : St} {H : Hp} (Pv : Nat → St → Hp → Prop) (h0 : Pv 0 σ H)
    (hs : ∀ i σ H, i < n → Pv i σ H → g (.int (lo + i)) σ H fun σ2 H2 => tb { D with nx := Pv (i + 1), ct := Pv (i + 1), bk := D.nx } σ2 H2) (hd : ∀ σ H, Pv n σ H → D.nx σ H) :
    ∃ W : Nat → Nat → St → Hp → Prop, (∃ m, W 0 m σ H) ∧ ∀ i m σ H, W i m σ H →
      ((Itr lo n).stop i H ∧ D.nx σ H) ∨ ((Itr lo n).go i H ∧ ∃ N : St → Hp → Prop, (∀ σ' H', N σ' H' → ∃ m', m' < m ∧ W (i + 1) m' σ' H') ∧ ∀ x H', (Itr lo n).yld i H x H' → g x σ H' fun σ2 H2 => tb { D with nx := N, ct := N, bk := D.nx } σ2 H2) := by
  refine ⟨fun i m σ H => m = n - i ∧ i ≤ n ∧ Pv i σ H, ⟨n, by simp, Nat.zero_le _, h0⟩, ?_⟩
  rintro i m σ H ⟨rfl, hi, p⟩
  by_cases hlt : i < n
  · refine .inr ⟨hlt, Pv (i + 1), fun σ' H' p' => ⟨n - (i + 1), by omega, rfl, hlt, p'⟩, fun x H' y => ?_⟩
    obtain ⟨e, y⟩ := y
    subst e y
    exact hs i σ _ hlt p
  · have e : i = n := by omega
    subst e
    exact .inl ⟨Nat.le_refl _, hd σ H p⟩
/-- while, by a word and a measure of the state -/
theorem while_by {c : TT} {tb : TS} {D : Ends} {σ : St} {H : Hp} (Pv : St → Hp → Prop) (μ : St → Hp → Nat) (h0 : Pv σ H)
    (hs : ∀ σ H, Pv σ H → c σ H fun b H1 => if b = true then tb { D with nx := fun σ' H' => Pv σ' H' ∧ μ σ' H' < μ σ H, ct := fun σ' H' => Pv σ' H' ∧ μ σ' H' < μ σ H, bk := D.nx } σ H1 else D.nx σ H1)
    (mono : ∀ σ H Q Q', (∀ b H1, Q b H1 → Q' b H1) → c σ H Q → c σ H Q') : tWhile c tb D σ H := by
  refine ⟨fun m σ H => m = μ σ H ∧ Pv σ H, ⟨_, rfl, h0⟩, ?_⟩
  rintro m σ H ⟨rfl, p⟩
  refine mono σ H _ _ (fun b H1 q => ?_) (hs σ H p)
  cases b with
  | true => exact ⟨_, fun σ' H' ⟨p', l⟩ => ⟨_, l, rfl, p'⟩, q⟩
  | false => exact q
end L2

namespace L2
open PySem PySem.Spec PyProof.Rows

abbrev R2 := V → V → Hp → VK → Prop
/-- a two-place operation on values: f is binaryOp op, inplaceOp op or compareOp op -/
def OpR (X : Cx) (f : Value → Value → Sem Value) (r : R2) : Prop :=
  ∀ (pins : List (Addr × Obj)) (s : Shared) (σ : St) (H : Hp) (x y : V) (v u : Value) (Q : VK), Inv X pins σ H s → RelV x v → RelV y u → r x y H Q →
    wpAny (model X.prog X.w) X.A (f v u) (EP X pins σ Q) X.xe s
/-- a one-place operation -/
def UnR (X : Cx) (f : Value → Sem Value) (r : V → Hp → VK → Prop) : Prop :=
  ∀ (pins : List (Addr × Obj)) (s : Shared) (σ : St) (H : Hp) (x : V) (v : Value) (Q : VK), Inv X pins σ H s → RelV x v → r x H Q →
    wpAny (model X.prog X.w) X.A (f v) (EP X pins σ Q) X.xe s
/-- a call of a value that is known (a builtin, a type) with values -/
def CallR (X : Cx) (f : Value) (r : List V → Hp → VK → Prop) : Prop :=
  ∀ (pins : List (Addr × Obj)) (s : Shared) (σ : St) (H : Hp) (xs : List V) (us : List Value) (Q : VK), Inv X pins σ H s → Vals xs us → r xs H Q →
    wpAny (model X.prog X.w) X.A (call f us) (EP X pins σ Q) X.xe s
/-- a value's truth -/
def TruR (X : Cx) (r : V → Hp → (Bool → Hp → Prop) → Prop) : Prop :=
  ∀ (pins : List (Addr × Obj)) (s : Shared) (σ : St) (H : Hp) (x : V) (v : Value) (Q : Bool → Hp → Prop), Inv X pins σ H s → RelV x v → r x H Q →
    wpAny (model X.prog X.w) X.A (truthy v) (TP X pins σ Q) X.xe s

def tOp (r : R2) (ta tb : TE) : TE := fun σ H Q => ta σ H fun x H1 => tb σ H1 fun y H2 => r x y H2 Q
def tUn (r : V → Hp → VK → Prop) (ta : TE) : TE := fun σ H Q => ta σ H fun x H1 => r x H1 Q
/-- ints in, under C, and a value out -/
def rI (C : Int → Int → Prop) (g : Int → Int → V) : R2 := fun x y H Q => ∃ i j, x = .int i ∧ y = .int j ∧ C i j ∧ Q (g i j) H
def rI0 (g : Int → Int → V) : R2 := fun x y H Q => ∃ i j, x = .int i ∧ y = .int j ∧ Q (g i j) H
def rU (g : Int → V) : V → Hp → VK → Prop := fun x H Q => ∃ i, x = .int i ∧ Q (g i) H

section
variable {X : Cx} {a b c : Expr} {ta tb tc : TE} {pos : Pos}

theorem binT (ha : PE X a ta) (hb : PE X b tb) {pins : List (Addr × Obj)} {s : Shared} {σ : St} {H : Hp} {R : V → V → Hp → Prop} (I : Inv X pins σ H s)
    (h : ta σ H fun x H1 => tb σ H1 fun y H2 => R x y H2) {Q : Value → Shared → Prop} {f : Value → Value → Sem Value}
    (hf : ∀ v u s2 x y H2, Inv X pins σ H2 s2 → RelV x v → RelV y u → R x y H2 → wpAny (model X.prog X.w) X.A (f v u) Q X.xe s2) :
    wpAny (model X.prog X.w) X.A (eval a X.env) (fun v s₁ => wpAny (model X.prog X.w) X.A (eval b X.env) (fun u s₂ => wpAny (model X.prog X.w) X.A (f v u) Q X.xe s₂) X.xe s₁) X.xe s := by
  refine thn (ha pins s σ H _ I h) fun v s1 ⟨x, H1, I1, r1, q1⟩ => ?_
  refine thn (hb pins s1 σ H1 _ I1 q1) fun u s2 ⟨y, H2, I2, r2, q2⟩ => ?_
  exact hf v u s2 x y H2 I2 r1 r2 q2

theorem pe_op {op : Operator} {r : R2} (ho : OpR X (binaryOp op) r) (ha : PE X a ta) (hb : PE X b tb) : PE X (.BinOp a op b pos) (tOp r ta tb) := by
  intro pins s σ H Q I h
  exact wpAny_BinOp (binT ha hb I h fun v u s2 x y H2 I2 rx ry q => ho pins s2 σ H2 x y v u Q I2 rx ry q)
theorem pe_un {op : UnaryOp} {r : V → Hp → VK → Prop} (ho : UnR X (unaryOp op) r) (ha : PE X a ta) : PE X (.UnaryOp op a pos) (tUn r ta) := by
  intro pins s σ H Q I h
  exact UnaryOp_ (thn (ha pins s σ H _ I h) fun v s1 ⟨x, H1, I1, r1, q1⟩ => ho pins s1 σ H1 x v Q I1 r1 q1)
/-- a op= e at a name: the name's slot i -/
theorem augR {op : Operator} {r : R2} (ho : OpR X (inplaceOp op) r) {pins : List (Addr × Obj)} {s : Shared} {σ : St} {H : Hp} {x y : V} {v u : Value} {Q : VK} (I : Inv X pins σ H s)
    (rx : RelV x v) (ry : RelV y u) (q : r x y H Q) : wpAny (model X.prog X.w) X.A (inplaceOp op v u) (EP X pins σ Q) X.xe s := ho pins s σ H x y v u Q I rx ry q

/-! ### ints -/
theorem opI {f : Value → Value → Sem Value} {C : Int → Int → Prop} {g : Int → Int → Int}
    (rule : ∀ (i j : Int) (t u : Tok) (s : Shared) (Q : Value → Shared → Prop) (E : Value → Shared → Prop), C i j → Q (.int (g i j) s.toks) { s with toks := s.toks + 1 } → wpAny (model X.prog X.w) X.A (f (.int i t) (.int j u)) Q E s) :
    OpR X f (rI C fun i j => .int (g i j)) := by
  intro pins s σ H x y v u Q I rx ry h
  obtain ⟨i, j, rfl, rfl, hc, q⟩ := h
  obtain ⟨t, rfl⟩ := rx
  obtain ⟨t', rfl⟩ := ry
  exact rule i j t t' s _ _ hc ⟨.int (g i j), H, I.tok _, ⟨_, rfl⟩, q⟩
theorem opI0 {f : Value → Value → Sem Value} {g : Int → Int → Int}
    (rule : ∀ (i j : Int) (t u : Tok) (s : Shared) (Q : Value → Shared → Prop) (E : Value → Shared → Prop), Q (.int (g i j) s.toks) { s with toks := s.toks + 1 } → wpAny (model X.prog X.w) X.A (f (.int i t) (.int j u)) Q E s) :
    OpR X f (rI0 fun i j => .int (g i j)) := by
  intro pins s σ H x y v u Q I rx ry h
  obtain ⟨i, j, rfl, rfl, q⟩ := h
  obtain ⟨t, rfl⟩ := rx
  obtain ⟨t', rfl⟩ := ry
  exact rule i j t t' s _ _ ⟨.int (g i j), H, I.tok _, ⟨_, rfl⟩, q⟩
theorem opB0 {f : Value → Value → Sem Value} {g : Int → Int → Bool}
    (rule : ∀ (i j : Int) (t u : Tok) (s : Shared) (Q : Value → Shared → Prop) (E : Value → Shared → Prop), Q (.bool (g i j)) s → wpAny (model X.prog X.w) X.A (f (.int i t) (.int j u)) Q E s) :
    OpR X f (rI0 fun i j => .bl (g i j)) := by
  intro pins s σ H x y v u Q I rx ry h
  obtain ⟨i, j, rfl, rfl, q⟩ := h
  obtain ⟨t, rfl⟩ := rx
  obtain ⟨t', rfl⟩ := ry
  exact rule i j t t' s _ _ ⟨.bl (g i j), H, I, rfl, q⟩

def CDiv (i j : Int) : Prop := 0 < j ∧ j < 1073741824
def CDivN (i j : Int) : Prop := j ≠ 0 ∧ j.natAbs < 1073741824
def CPow (i j : Int) : Prop := 0 ≤ j ∧ j ≤ 1000000 ∧ i.natAbs < 2 ^ 64
def CMul (i j : Int) : Prop := (-(2 ^ 64) < i ∧ i < 2 ^ 64) ∨ (-(2 ^ 64) < j ∧ j < 2 ^ 64)
theorem CMul.ok {i j : Int} (h : CMul i j) : IntMulOk i j := by
  rcases h with ⟨h1, h2⟩ | ⟨h1, h2⟩
  · exact .of_left (intBits_le_64 h1 h2)
  · exact .of_right (intBits_le_64 h1 h2)
theorem two_pow_nn (k : Nat) : (0 : Int) ≤ 2 ^ k := by
  rw [two_pow_cast]
  exact Int.natCast_nonneg _

theorem op_add : OpR X (binaryOp .Add) (rI0 fun i j => .int (i + j)) := opI0 fun _ _ _ _ _ _ _ q => add_int q
theorem op_sub : OpR X (binaryOp .Sub) (rI0 fun i j => .int (i - j)) := opI0 fun _ _ _ _ _ _ _ q => sub_int q
theorem op_mul : OpR X (binaryOp .Mult) (rI CMul fun i j => .int (i * j)) := opI fun _ _ _ _ _ _ _ hc q => mul_int q hc.ok
/-- // by a positive divisor -/
theorem op_fdiv : OpR X (binaryOp .FloorDiv) (rI CDiv fun i j => .int (i / j)) := opI fun i j _ _ _ _ _ hc q => by
  have h1 : (0 : Int) < j := hc.1
  have h2 : j < 1073741824 := hc.2
  exact floordiv_int (by omega) (by rw [Int.fdiv_eq_ediv_of_nonneg i (by omega)]; exact q) (.inl (PyProof.noPylong_small (by omega)))
theorem op_fdivN : OpR X (binaryOp .FloorDiv) (rI CDivN fun i j => .int (i.fdiv j)) := opI fun _ _ _ _ _ _ _ hc q => floordiv_int hc.1 q (.inl (PyProof.noPylong_small hc.2))
/-- % by a positive divisor of any size -/
theorem op_mod : OpR X (binaryOp .Mod) (rI (fun _ j => 0 < j) fun i j => .int (i % j)) := opI fun i j _ _ _ _ _ hc q => by
  have h1 : (0 : Int) < j := hc
  exact mod_int' (by omega) (by rw [Int.fmod_eq_emod_of_nonneg i (by omega)]; exact q)
theorem op_modN : OpR X (binaryOp .Mod) (rI (fun _ j => j ≠ 0) fun i j => .int (i.fmod j)) := opI fun _ _ _ _ _ _ _ hc q => mod_int' hc q
theorem op_pow : OpR X (binaryOp .Pow) (rI CPow fun i j => .int (i ^ j.toNat)) := opI fun _ _ _ _ _ _ _ hc q => pow_int_small hc.1 hc.2.1 hc.2.2 q
theorem op_shl : OpR X (binaryOp .LShift) (rI CPow fun i j => .int (i * 2 ^ j.toNat)) := opI fun _ _ _ _ _ _ _ hc q => lshift_int_small hc.1 hc.2.1 hc.2.2 q
theorem op_shr : OpR X (binaryOp .RShift) (rI (fun _ j => 0 ≤ j) fun i j => .int (i / 2 ^ j.toNat)) := opI fun i j _ _ _ _ _ hc q =>
  rshift_int hc (by rw [Int.fdiv_eq_ediv_of_nonneg i (two_pow_nn _)]; exact q)
theorem op_and : OpR X (binaryOp .BitAnd) (rI0 fun i j => .int (Builtin.bitAnd i j)) := opI0 fun _ _ _ _ _ _ _ q => and_int q
theorem op_or : OpR X (binaryOp .BitOr) (rI0 fun i j => .int (Builtin.bitOr i j)) := opI0 fun _ _ _ _ _ _ _ q => or_int q
theorem op_xor : OpR X (binaryOp .BitXor) (rI0 fun i j => .int (Builtin.bitXor i j)) := opI0 fun _ _ _ _ _ _ _ q => xor_int q

theorem iop_add : OpR X (inplaceOp .Add) (rI0 fun i j => .int (i + j)) := opI0 fun _ _ _ _ _ _ _ q => iadd_int q
theorem iop_sub : OpR X (inplaceOp .Sub) (rI0 fun i j => .int (i - j)) := opI0 fun _ _ _ _ _ _ _ q => isub_int q
theorem iop_mul : OpR X (inplaceOp .Mult) (rI CMul fun i j => .int (i * j)) := opI fun _ _ _ _ _ _ _ hc q => imul_int q hc.ok
theorem iop_fdiv : OpR X (inplaceOp .FloorDiv) (rI CDiv fun i j => .int (i / j)) := opI fun i j _ _ _ _ _ hc q => by
  have h1 : (0 : Int) < j := hc.1
  have h2 : j < 1073741824 := hc.2
  exact ifloordiv_int (by omega) (by rw [Int.fdiv_eq_ediv_of_nonneg i (by omega)]; exact q) (.inl (PyProof.noPylong_small (by omega)))
theorem iop_mod : OpR X (inplaceOp .Mod) (rI (fun _ j => 0 < j) fun i j => .int (i % j)) := opI fun i j _ _ _ _ _ hc q => by
  have h1 : (0 : Int) < j := hc
  exact imod_int (by omega) (by rw [Int.fmod_eq_emod_of_nonneg i (by omega)]; exact q)
theorem iop_shl : OpR X (inplaceOp .LShift) (rI CPow fun i j => .int (i * 2 ^ j.toNat)) := opI fun _ _ _ _ _ _ _ hc q => ilshift_int_small hc.1 hc.2.1 hc.2.2 q
theorem iop_shr : OpR X (inplaceOp .RShift) (rI (fun _ j => 0 ≤ j) fun i j => .int (i / 2 ^ j.toNat)) := opI fun i j _ _ _ _ _ hc q =>
  irshift_int hc (by rw [Int.fdiv_eq_ediv_of_nonneg i (two_pow_nn _)]; exact q)
theorem iop_and : OpR X (inplaceOp .BitAnd) (rI0 fun i j => .int (Builtin.bitAnd i j)) := opI0 fun _ _ _ _ _ _ _ q => iand_int q
theorem iop_or : OpR X (inplaceOp .BitOr) (rI0 fun i j => .int (Builtin.bitOr i j)) := opI0 fun _ _ _ _ _ _ _ q => ior_int q
theorem iop_xor : OpR X (inplaceOp .BitXor) (rI0 fun i j => .int (Builtin.bitXor i j)) := opI0 fun _ _ _ _ _ _ _ q => ixor_int q

theorem unI {f : Value → Sem Value} {g : Int → Int}
    (rule : ∀ (i : Int) (t : Tok) (s : Shared) (Q : Value → Shared → Prop) (E : Value → Shared → Prop), Q (.int (g i) s.toks) { s with toks := s.toks + 1 } → wpAny (model X.prog X.w) X.A (f (.int i t)) Q E s) :
    UnR X f (rU fun i => .int (g i)) := by
  intro pins s σ H x v Q I rx h
  obtain ⟨i, rfl, q⟩ := h
  obtain ⟨t, rfl⟩ := rx
  exact rule i t s _ _ ⟨.int (g i), H, I.tok _, ⟨_, rfl⟩, q⟩
theorem un_neg : UnR X (unaryOp .USub) (rU fun i => .int (-i)) := unI fun _ _ _ _ _ q => neg_int q
theorem un_inv : UnR X (unaryOp .Invert) (rU fun i => .int (Builtin.bitNot i)) := unI fun _ _ _ _ _ q => invert_int q

/-! ### bools among ints: n += (a < b) -/
theorem op_add_ib : OpR X (binaryOp .Add) (fun x y H Q => ∃ i k, x = .int i ∧ y = .bl k ∧ Q (.int (i + b2i k)) H) := by
  intro pins s σ H x y v u Q I rx ry h
  obtain ⟨i, k, rfl, rfl, q⟩ := h
  obtain ⟨t, rfl⟩ := rx
  cases ry
  exact add_int_bool ⟨.int (i + b2i k), H, I.tok _, ⟨_, rfl⟩, q⟩
end

/-! ### comparisons -/
/-- the scalars that == tells apart as data does -/
def scal : V → V → Bool
  | .non, .non => true | .non, .int _ => true | .int _, .non => true | .non, .bl _ => true | .bl _, .non => true | .non, .str _ => true | .str _, .non => true
  | .int _, .int _ => true | .bl _, .bl _ => true | .str _, .str _ => true | .byt _, .byt _ => true
  | .int _, .str _ => true | .str _, .int _ => true | .bl _, .str _ => true | .str _, .bl _ => true
  | _, _ => false
def rEq : R2 := fun x y H Q => scal x y = true ∧ Q (.bl (decide (x = y))) H
def rNe : R2 := fun x y H Q => scal x y = true ∧ Q (.bl (!decide (x = y))) H

theorem dec_int {i j : Int} : decide (V.int i = V.int j) = (i == j) := by
  rw [Bool.eq_iff_iff]
  simp
theorem dec_bl {i j : Bool} : decide (V.bl i = V.bl j) = (i == j) := by
  rw [Bool.eq_iff_iff]
  simp
theorem dec_str {i j : Str} : decide (V.str i = V.str j) = (i == j) := by
  rw [Bool.eq_iff_iff]
  simp
theorem dec_byt {i j : Array UInt8} : decide (V.byt i = V.byt j) = (i.toList == j.toList) := by
  rw [Bool.eq_iff_iff]
  cases i
  cases j
  simp

section
variable {X : Cx} {a b c : Expr} {ta tb tc : TE} {pos : Pos}
theorem fin_bl {pins : List (Addr × Obj)} {σ : St} {H : Hp} {s : Shared} {Q : VK} {k k' : Bool} (I : Inv X pins σ H s) (q : Q (.bl k) H) (e : k = k') : EP X pins σ Q (.bool k') s := by
  subst e
  exact ⟨.bl k, H, I, rfl, q⟩
theorem op_eq : OpR X (compareOp .Eq) rEq := by
  intro pins s σ H x y v u Q I rx ry h
  obtain ⟨hs, q⟩ := h
  cases x with
  | non =>
    cases rx
    cases y with
    | non => cases ry; exact PySem.EqNone.eq_none_none (fin_bl I q (by simp))
    | bl j => cases ry; exact PySem.EqNone.eq_none_bool (fin_bl I q (by simp))
    | int j => obtain ⟨t', rfl⟩ := ry; exact PySem.EqNone.eq_none_int (fin_bl I q (by simp))
    | str j => obtain ⟨t', rfl⟩ := ry; exact PySem.EqNone.eq_none_str (fin_bl I q (by simp))
    | _ => exact absurd (show false = true from hs) Bool.false_ne_true
  | bl i =>
    cases rx
    cases y with
    | non => cases ry; exact PySem.EqNone.eq_bool_none (fin_bl I q (by simp))
    | bl j => cases ry; exact eq_bool (fin_bl I q dec_bl)
    | str j => obtain ⟨t', rfl⟩ := ry; exact PySem.EqMixed.eq_bool_str (fin_bl I q (by simp))
    | _ => exact absurd (show false = true from hs) Bool.false_ne_true
  | int i =>
    obtain ⟨t, rfl⟩ := rx
    cases y with
    | non => cases ry; exact PySem.EqNone.eq_int_none (fin_bl I q (by simp))
    | int j => obtain ⟨t', rfl⟩ := ry; exact eq_int (fin_bl I q dec_int)
    | str j => obtain ⟨t', rfl⟩ := ry; exact PySem.EqMixed.eq_int_str (fin_bl I q (by simp))
    | _ => exact absurd (show false = true from hs) Bool.false_ne_true
  | str i =>
    obtain ⟨t, rfl⟩ := rx
    cases y with
    | non => cases ry; exact PySem.EqNone.eq_str_none (fin_bl I q (by simp))
    | bl j => cases ry; exact PySem.EqMixed.eq_str_bool (fin_bl I q (by simp))
    | int j => obtain ⟨t', rfl⟩ := ry; exact PySem.EqMixed.eq_str_int (fin_bl I q (by simp))
    | str j => obtain ⟨t', rfl⟩ := ry; exact eq_str (fin_bl I q dec_str)
    | _ => exact absurd (show false = true from hs) Bool.false_ne_true
  | byt i =>
    obtain ⟨t, rfl⟩ := rx
    cases y with
    | byt j => obtain ⟨t', rfl⟩ := ry; exact PySem.W.eq_bytes (fin_bl I q dec_byt)
    | _ => exact absurd (show false = true from hs) Bool.false_ne_true
  | _ => cases y <;> exact absurd (show false = true from hs) Bool.false_ne_true
theorem op_ne : OpR X (compareOp .NotEq) rNe := by
  intro pins s σ H x y v u Q I rx ry h
  obtain ⟨hs, q⟩ := h
  cases x with
  | non =>
    cases rx
    cases y with
    | non => cases ry; exact PySem.EqNone.ne_none_none (fin_bl I q (by simp))
    | bl j => cases ry; exact PySem.EqNone.ne_none_bool (fin_bl I q (by simp))
    | int j => obtain ⟨t', rfl⟩ := ry; exact PySem.EqNone.ne_none_int (fin_bl I q (by simp))
    | str j => obtain ⟨t', rfl⟩ := ry; exact PySem.EqNone.ne_none_str (fin_bl I q (by simp))
    | _ => exact absurd (show false = true from hs) Bool.false_ne_true
  | bl i =>
    cases rx
    cases y with
    | non => cases ry; exact PySem.EqNone.ne_bool_none (fin_bl I q (by simp))
    | bl j => cases ry; exact ne_bool (fin_bl I q (congrArg not dec_bl))
    | str j => obtain ⟨t', rfl⟩ := ry; exact PySem.EqMixed.ne_bool_str (fin_bl I q (by simp))
    | _ => exact absurd (show false = true from hs) Bool.false_ne_true
  | int i =>
    obtain ⟨t, rfl⟩ := rx
    cases y with
    | non => cases ry; exact PySem.EqNone.ne_int_none (fin_bl I q (by simp))
    | int j => obtain ⟨t', rfl⟩ := ry; exact ne_int (fin_bl I q (congrArg not dec_int))
    | str j => obtain ⟨t', rfl⟩ := ry; exact PySem.EqMixed.ne_int_str (fin_bl I q (by simp))
    | _ => exact absurd (show false = true from hs) Bool.false_ne_true
  | str i =>
    obtain ⟨t, rfl⟩ := rx
    cases y with
    | non => cases ry; exact PySem.EqNone.ne_str_none (fin_bl I q (by simp))
    | bl j => cases ry; exact PySem.EqMixed.ne_str_bool (fin_bl I q (by simp))
    | int j => obtain ⟨t', rfl⟩ := ry; exact PySem.EqMixed.ne_str_int (fin_bl I q (by simp))
    | str j => obtain ⟨t', rfl⟩ := ry; exact ne_str (fin_bl I q (congrArg not dec_str))
    | _ => exact absurd (show false = true from hs) Bool.false_ne_true
  | byt i =>
    obtain ⟨t, rfl⟩ := rx
    cases y with
    | byt j => obtain ⟨t', rfl⟩ := ry; exact PySem.W.ne_bytes (fin_bl I q (congrArg not dec_byt))
    | _ => exact absurd (show false = true from hs) Bool.false_ne_true
  | _ => cases y <;> exact absurd (show false = true from hs) Bool.false_ne_true

theorem op_lt : OpR X (compareOp .Lt) (rI0 fun i j => .bl (decide (i < j))) := opB0 fun _ _ _ _ _ _ _ q => lt_int q
theorem op_le : OpR X (compareOp .LtE) (rI0 fun i j => .bl (decide (i ≤ j))) := opB0 fun _ _ _ _ _ _ _ q => le_int q
theorem op_gt : OpR X (compareOp .Gt) (rI0 fun i j => .bl (decide (j < i))) := opB0 fun _ _ _ _ _ _ _ q => gt_int q
theorem op_ge : OpR X (compareOp .GtE) (rI0 fun i j => .bl (decide (j ≤ i))) := opB0 fun _ _ _ _ _ _ _ q => ge_int q
theorem op_lt_str : OpR X (compareOp .Lt) (fun x y H Q => ∃ i j, x = .str i ∧ y = .str j ∧ Q (.bl (decide (i.cps.toList < j.cps.toList))) H) := by
  intro pins s σ H x y v u Q I rx ry h
  obtain ⟨i, j, rfl, rfl, q⟩ := h
  obtain ⟨t, rfl⟩ := rx
  obtain ⟨t', rfl⟩ := ry
  exact lt_str (fin_bl I q rfl)
/-- the one string within the other -/
theorem op_in_str : OpR X (compareOp .In) (fun x y H Q => ∃ i j, x = .str i ∧ y = .str j ∧ Q (.bl (!(Builtin.Str.occurrences j i 0 j.length 1).isEmpty)) H) := by
  intro pins s σ H x y v u Q I rx ry h
  obtain ⟨i, j, rfl, rfl, q⟩ := h
  obtain ⟨t, rfl⟩ := rx
  obtain ⟨t', rfl⟩ := ry
  exact in_str (fin_bl I q rfl)

/-- is None, is not None: the right side a value none -/
theorem op_isN : OpR X (compareOp .Is) (fun x y H Q => y = .non ∧ Q (.bl (decide (x = .non))) H) := by
  intro pins s σ H x y v u Q I rx ry h
  obtain ⟨rfl, q⟩ := h
  cases ry
  refine is_none_gen (fin_bl I q ?_)
  cases x <;> first
    | (cases rx; rfl)
    | (obtain ⟨t, rfl⟩ := rx; rfl)
theorem op_notN : OpR X (compareOp .IsNot) (fun x y H Q => y = .non ∧ Q (.bl (!decide (x = .non))) H) := by
  intro pins s σ H x y v u Q I rx ry h
  obtain ⟨rfl, q⟩ := h
  cases ry
  refine isnot_none_gen (fin_bl I q ?_)
  cases x <;> first
    | (cases rx; rfl)
    | (obtain ⟨t, rfl⟩ := rx; rfl)

theorem op_notin_str : OpR X (compareOp .NotIn) (fun x y H Q => ∃ i j, x = .str i ∧ y = .str j ∧ Q (.bl (!(!(Builtin.Str.occurrences j i 0 j.length 1).isEmpty))) H) := by
  intro pins s σ H x y v u Q I rx ry h
  obtain ⟨i, j, rfl, rfl, q⟩ := h
  obtain ⟨t, rfl⟩ := rx
  obtain ⟨t', rfl⟩ := ry
  exact notIn_str (fin_bl I q rfl)
/-- is, is not of two objects that are tracked lists or instances -/
def isObj : HO → Bool
  | .lst _ => true
  | .ins _ _ _ => true
  | _ => false
theorem obj_there {pins : List (Addr × Obj)} {s : Shared} {σ : St} {H : Hp} {a : Addr} {o : HO} (I : Inv X pins σ H s) (h : H a = some o) (p : isObj o = true) : ∃ ob, s.heap.get? a = some ob ∧ ob.cls ≠ .type "tuple" := by
  cases o with
  | lst xs =>
    obtain ⟨_, its, n, _, e⟩ : xs.length ≤ sizeLine ∧ ∃ (its : List Value) (n : Nat), Vals xs its ∧ s.heap.get? a = some { cls := .type "list", data := .seq its.toArray n } := I.hok a _ h
    exact ⟨_, e, (by show Value.type "list" ≠ .type "tuple"; decide +kernel)⟩
  | ins C dx fs =>
    have x := I.hok a _ h
    obtain ⟨_, _, _, e, _⟩ := x
    exact ⟨_, e, (by show Value.ref C ≠ .type "tuple"; exact fun z => by cases z)⟩
  | _ => exact absurd (show false = true from p) Bool.false_ne_true
theorem op_is_ref : OpR X (compareOp .Is) (fun x y H Q => ∃ a b oa ob, x = .ref a ∧ y = .ref b ∧ H a = some oa ∧ isObj oa = true ∧ H b = some ob ∧ isObj ob = true ∧ Q (.bl (decide (a = b))) H) := by
  intro pins s σ H x y v u Q I rx ry h
  obtain ⟨a, b, oa, ob, rfl, rfl, ha, pa, hb, pb, q⟩ := h
  cases rx
  cases ry
  obtain ⟨o1, e1, n1⟩ := obj_there I ha pa
  obtain ⟨o2, e2, _⟩ := obj_there I hb pb
  by_cases z : a = b
  · subst z
    exact wpAny_is_ref_self (fin_bl I q (by simp))
  · exact wpAny_is_ref_other z e1 e2 n1 (fin_bl I q (by simp [z]))
theorem op_isnot_ref : OpR X (compareOp .IsNot) (fun x y H Q => ∃ a b oa ob, x = .ref a ∧ y = .ref b ∧ H a = some oa ∧ isObj oa = true ∧ H b = some ob ∧ isObj ob = true ∧ Q (.bl (!decide (a = b))) H) := by
  intro pins s σ H x y v u Q I rx ry h
  obtain ⟨a, b, oa, ob, rfl, rfl, ha, pa, hb, pb, q⟩ := h
  cases rx
  cases ry
  obtain ⟨o1, e1, n1⟩ := obj_there I ha pa
  obtain ⟨o2, e2, _⟩ := obj_there I hb pb
  by_cases z : a = b
  · subst z
    exact wpAny_isNot_ref_self (fin_bl I q (by simp))
  · exact wpAny_isNot_ref_other z e1 e2 n1 (fin_bl I q (by simp [z]))

/-- two rules for one operation: by cases -/
theorem OpR.or {f : Value → Value → Sem Value} {r r' : R2} (h : OpR X f r) (h' : OpR X f r') : OpR X f (fun x y H Q => r x y H Q ∨ r' x y H Q) := by
  intro pins s σ H x y v u Q I rx ry q
  rcases q with q | q
  · exact h pins s σ H x y v u Q I rx ry q
  · exact h' pins s σ H x y v u Q I rx ry q

theorem nomark (b : Expr) {op : CmpOp} (h : op ≠ .In := by decide) (h2 : op ≠ .NotIn := by decide) : behindInMarks op b = false := by
  have e1 : (op == CmpOp.In) = false := by cases op <;> first | rfl | exact absurd rfl h
  have e2 : (op == CmpOp.NotIn) = false := by cases op <;> first | rfl | exact absurd rfl h2
  cases b <;> simp [behindInMarks, e1, e2]
/-- a comparison as a value; hm: nomark b, or (for in, not in) by with_unfolding_all rfl -/
theorem pe_cmpR {op : CmpOp} {r : R2} (ho : OpR X (compareOp op) r) (ha : PE X a ta) (hb : PE X b tb) (hm : behindInMarks op b = false) : PE X (.Compare a [op] [b] pos) (tOp r ta tb) := by
  intro pins s σ H Q I h
  exact wpAny_Compare1 (binT ha hb I h fun v u s2 x y H2 I2 rx ry q => ho pins s2 σ H2 x y v u Q I2 rx ry q) hm
/-- a reading of a value as a test -/
def tTest (t : TE) : TT := fun σ H Q => t σ H fun x H' => ∃ k, x = .bl k ∧ Q k H'
theorem pt_cmpR {op : CmpOp} {r : R2} (ho : OpR X (compareOp op) r) (ha : PE X a ta) (hb : PE X b tb) (hm : behindInMarks op b = false) : PT X (.Compare a [op] [b] pos) (tTest (tOp r ta tb)) := by
  intro pins s σ H Q I h
  refine wpAny_isTrue_Compare1 (thn (ha pins s σ H _ I h) fun v s1 ⟨x, H1, I1, r1, q1⟩ => thn (hb pins s1 σ H1 _ I1 q1) fun u s2 ⟨y, H2, I2, r2, q2⟩ =>
    thn (ho pins s2 σ H2 x y v u _ I2 r1 r2 q2) fun c s3 ⟨z, H3, I3, r3, k, e, q3⟩ => ?_) hm
  subst e
  cases r3
  exact wpAny_truthy_bool ⟨H3, I3, q3⟩
/-- a op1 b op2 c -/
def tChain (r r' : R2) (ta tb tc : TE) : TE := fun σ H Q => ta σ H fun x H1 => tb σ H1 fun y H2 => r x y H2 fun z H3 => ∃ k, z = .bl k ∧
  (if k = true then tc σ H3 fun w' H4 => r' y w' H4 Q else Q (.bl false) H3)
theorem pe_chain {op op' : CmpOp} {r r' : R2} (ho : OpR X (compareOp op) r) (ho' : OpR X (compareOp op') r') (ha : PE X a ta) (hb : PE X b tb) (hc : PE X c tc)
    (hm : lastMarks [op, op'] [b, c] = false := by with_unfolding_all rfl) : PE X (.Compare a [op, op'] [b, c] pos) (tChain r r' ta tb tc) := by
  intro pins s σ H Q I h
  refine Compare_chain (thn (ha pins s σ H _ I h) fun v s1 ⟨x, H1, I1, r1, q1⟩ => chain_link (thn (hb pins s1 σ H1 _ I1 q1) fun u s2 ⟨y, H2, I2, r2, q2⟩ =>
    thn (ho pins s2 σ H2 x y v u _ I2 r1 r2 q2) fun d s3 ⟨z, H3, I3, r3, k, e, q3⟩ => ?_)) hm
  subst e
  cases r3
  refine wpAny_truthy_bool ?_
  cases k with
  | false => exact ite_ff ⟨.bl false, H3, I3, rfl, q3⟩
  | true => exact ite_tt (chain_last (thn (hc pins s3 σ H3 _ I3 q3) fun w' s4 ⟨z', H4, I4, r4, q4⟩ => ho' pins s4 σ H4 y z' u w' Q I4 r2 r4 q4))
theorem pt_chain {op op' : CmpOp} {r r' : R2} (ho : OpR X (compareOp op) r) (ho' : OpR X (compareOp op') r') (ha : PE X a ta) (hb : PE X b tb) (hc : PE X c tc)
    (hm : lastMarks [op, op'] [b, c] = false := by with_unfolding_all rfl) : PT X (.Compare a [op, op'] [b, c] pos) (tTest (tChain r r' ta tb tc)) := by
  intro pins s σ H Q I h
  refine isTrue_chain (thn (ha pins s σ H _ I h) fun v s1 ⟨x, H1, I1, r1, q1⟩ => test_link (thn (hb pins s1 σ H1 _ I1 q1) fun u s2 ⟨y, H2, I2, r2, q2⟩ =>
    thn (ho pins s2 σ H2 x y v u _ I2 r1 r2 q2) fun d s3 ⟨z, H3, I3, r3, k, e, q3⟩ => ?_)) hm
  subst e
  cases r3
  refine wpAny_truthy_bool ?_
  cases k with
  | false =>
    obtain ⟨k', e', q'⟩ := q3
    cases e'
    exact ite_ff ⟨H3, I3, q'⟩
  | true =>
    refine ite_tt (test_last (thn (hc pins s3 σ H3 _ I3 q3) fun w' s4 ⟨z', H4, I4, r4, q4⟩ => thn (ho' pins s4 σ H4 y z' u w' _ I4 r2 r4 q4) fun d' s5 ⟨z2, H5, I5, r5, k2, e2, q5⟩ => ?_))
    subst e2
    cases r5
    exact wpAny_truthy_bool ⟨H5, I5, q5⟩

/-! ### truth -/
/-- a value's truth by the abstract heap -/
def TruV (K : PySem.W.Frag) (x : V) (H : Hp) (k : Bool) : Prop :=
  match x with
  | .non => k = false
  | .bl b => k = b
  | .int i => k = (i != 0)
  | .str y => y.length ≤ sizeLine ∧ k = ((y.length : Int) != 0)
  | .byt y => y.size ≤ sizeLine ∧ k = ((y.size : Int) != 0)
  | .ref p => (∃ xs, SqL K H p xs ∧ k = !xs.isEmpty) ∨ (∃ xs, SqT K H p xs ∧ k = !xs.isEmpty) ∨ ∃ kvs, H p = some (.dK kvs) ∧ k = !kvs.isEmpty
  | _ => False
theorem isEmpty_kv {κ : Type} {kvs : List (κ × V)} {vs : List (κ × Value)} (r : KV kvs vs) : (!vs.isEmpty) = !kvs.isEmpty := by
  cases r <;> rfl
theorem isEmpty_of {xs : List V} {its : List Value} (r : Vals xs its) : (!its.toArray.isEmpty) = !xs.isEmpty := by
  cases r <;> simp
theorem line63 : (sizeLine : Nat) < 2 ^ 63 := by rw [sizeLine_eq]; decide
theorem tru_ok : TruR X (fun x H Q => ∃ k, TruV X.K x H k ∧ Q k H) := by
  intro pins s σ H x v Q I rx h
  obtain ⟨k, e, q⟩ := h
  have hl := line63
  have hs : sizeLine = 16777216 := sizeLine_eq
  cases x with
  | non =>
    cases rx
    have e' : k = false := e
    subst e'
    exact truthy_none ⟨H, I, q⟩
  | bl b =>
    cases rx
    have e' : k = b := e
    subst e'
    exact wpAny_truthy_bool ⟨H, I, q⟩
  | int i =>
    obtain ⟨t, rfl⟩ := rx
    have e' : k = (i != 0) := e
    subst e'
    exact PySem.P.truthy_int ⟨H, I, q⟩
  | str y =>
    obtain ⟨t, rfl⟩ := rx
    obtain ⟨hy, e'⟩ : y.length ≤ sizeLine ∧ k = ((y.length : Int) != 0) := e
    subst e'
    exact PySem.P.truthy_str (by omega) ⟨H, I.tok _, q⟩
  | byt y =>
    obtain ⟨t, rfl⟩ := rx
    obtain ⟨hy, e'⟩ : y.size ≤ sizeLine ∧ k = ((y.size : Int) != 0) := e
    subst e'
    exact PySem.W.truthy_bytes (by omega) ⟨H, I.tok _, q⟩
  | ref p =>
    cases rx
    have e' : (∃ xs, SqL X.K H p xs ∧ k = !xs.isEmpty) ∨ (∃ xs, SqT X.K H p xs ∧ k = !xs.isEmpty) ∨ ∃ kvs, H p = some (.dK kvs) ∧ k = !kvs.isEmpty := e
    rcases e' with ⟨xs, hx, e'⟩ | ⟨xs, hx, e'⟩ | ⟨kvs, hx, e'⟩
    · subst e'
      obtain ⟨its, r, pl, hz⟩ := I.list hx
      have hlen := r.length
      exact wpAny_truthy_list pl.isList (by simp only [List.size_toArray]; omega) ⟨H, I.tok _, by rw [isEmpty_of r]; exact q⟩
    · subst e'
      obtain ⟨its, r, pl, hz⟩ := I.tuple hx
      have hlen := r.length
      exact truthy_tuple pl (by simp only [List.size_toArray]; omega) ⟨H, I.tok _, by rw [isEmpty_of r]; exact q⟩
    · subst e'
      obtain ⟨hz, hS, vs, r, m⟩ : kvs.length ≤ sizeLine ∧ (p == sysModules) = false ∧ ∃ vs, KV kvs vs ∧ s.heap.DictOf (mixKind X.prog X.w) p vs := I.hok p _ hx
      have hlen : kvs.length = vs.length := Paired.length r
      exact wpAny_truthy_dict hS m (by omega) ⟨H, I.tok _, by rw [isEmpty_kv r]; exact q⟩
  | _ => exact (show False from e).elim
/-- any expression whose test is its value's truth (a name, a call, a subscript, a field ..: he by fun _ => rfl) -/
theorem pt_truth (ha : PE X a ta) (he : ∀ whole, isTrue a X.env whole = (do let v ← whole; standAt a.pos; holding [v] (truthy v))) :
    PT X a (fun σ H Q => ta σ H fun x H' => ∃ k, TruV X.K x H' k ∧ Q k H') := by
  intro pins s σ H Q I h
  exact isTrue_plain (thn (ha pins s σ H _ I h) fun v s1 ⟨x, H1, I1, r1, q1⟩ => tru_ok pins s1 σ H1 x v Q I1 r1 q1) (he _)

/-! ### strs and bytes -/
theorem pe_byt {x : List UInt8} {k : Nat} : PE X (.Constant (.bytes x) k pos) (fun _ H Q => Q (.byt x.toArray) H) := fun _ _ _ H _ I h => PySem.W.Constant_bytes ⟨.byt x.toArray, H, I.tok _, ⟨_, rfl⟩, h⟩
theorem op_add_str : OpR X (binaryOp .Add) (fun x y H Q => ∃ i j, x = .str i ∧ y = .str j ∧ i.length + j.length ≤ sizeLine ∧ Q (.str (i ++ j)) H) := by
  intro pins s σ H x y v u Q I rx ry h
  obtain ⟨i, j, rfl, rfl, hz, q⟩ := h
  obtain ⟨t, rfl⟩ := rx
  obtain ⟨t', rfl⟩ := ry
  exact add_str (fun t' tk => ⟨.str (i ++ j), H, I.tok _, ⟨_, rfl⟩, q⟩) hz
theorem iop_add_str : OpR X (inplaceOp .Add) (fun x y H Q => ∃ i j, x = .str i ∧ y = .str j ∧ i.length + j.length ≤ sizeLine ∧ Q (.str (i ++ j)) H) := by
  intro pins s σ H x y v u Q I rx ry h
  obtain ⟨i, j, rfl, rfl, hz, q⟩ := h
  obtain ⟨t, rfl⟩ := rx
  obtain ⟨t', rfl⟩ := ry
  exact iadd_str (fun t' tk => ⟨.str (i ++ j), H, I.tok _, ⟨_, rfl⟩, q⟩) hz
theorem op_add_byt : OpR X (binaryOp .Add) (fun x y H Q => ∃ i j, x = .byt i ∧ y = .byt j ∧ i.size + j.size ≤ 16777216 ∧ Q (.byt (i ++ j)) H) := by
  intro pins s σ H x y v u Q I rx ry h
  obtain ⟨i, j, rfl, rfl, hz, q⟩ := h
  obtain ⟨t, rfl⟩ := rx
  obtain ⟨t', rfl⟩ := ry
  exact PySem.W.KBy.add_bytes hz (fun t' tk => ⟨.byt (i ++ j), H, I.tok _, ⟨_, rfl⟩, q⟩)

def PlainIxT (b : Expr) : Prop := ∀ o i, subscripted b false o i = operate [o, i] (getItem o i)
/-- s[i], 0 ≤ i < len -/
theorem pe_item_str (ha : PE X a ta) (hb : PE X b tb) (hs : PlainIxT b) :
    PE X (.Subscript a b pos) (tOp (fun x y H Q => ∃ z i c, x = .str z ∧ y = .int i ∧ 0 ≤ i ∧ i < 2 ^ 63 ∧ i < z.length ∧ z.cps[i.toNat]? = some c ∧ Q (.str ⟨#[c]⟩) H) ta tb) := by
  intro pins s σ H Q I h
  refine Subscript_ (binT ha hb I h fun v u s2 x y H2 I2 rx ry q => ?_)
  obtain ⟨z, i, c, rfl, rfl, h0, h63, h1, hc, q⟩ := q
  obtain ⟨t, rfl⟩ := rx
  obtain ⟨t', rfl⟩ := ry
  have e : seqIndex? i z.length = some i.toNat := PySem.StrLaws.seqIndex_nonneg h0 h1
  exact tail_any (typeIs_str s2 z t) slot_str_getitem.lookup (getItem_str (c := c) (by
    have e1 : decide (i < -(2 ^ 63 : Int)) = false := decide_eq_false (by omega)
    have e2 : decide (i ≥ 2 ^ 63) = false := decide_eq_false (by omega)
    rw [e1, e2] <;> rfl) (by rw [e]; exact hc) ⟨.str ⟨#[c]⟩, H2, I2.tok _, ⟨_, rfl⟩, q⟩) (hs _ _)
/-- b[i], 0 ≤ i < len -/
theorem pe_item_byt (ha : PE X a ta) (hb : PE X b tb) (hs : PlainIxT b) :
    PE X (.Subscript a b pos) (tOp (fun x y H Q => ∃ (z : List UInt8) (i : Int), x = .byt z.toArray ∧ y = .int i ∧ z.length ≤ sizeLine ∧ 0 ≤ i ∧ i < z.length ∧ Q (.int ((z.getD i.toNat 0).toNat : Nat)) H) ta tb) := by
  intro pins s σ H Q I h
  refine Subscript_ (binT ha hb I h fun v u s2 x y H2 I2 rx ry q => ?_)
  obtain ⟨z, i, rfl, rfl, hz, h0, h1, q⟩ := q
  obtain ⟨t, rfl⟩ := rx
  obtain ⟨t', rfl⟩ := ry
  have hl : sizeLine = 16777216 := sizeLine_eq
  exact tail_any (PySem.W.typeIs_bytes s2 z.toArray t) PySem.W.FB.slot_bytes_getitem.lookup (PySem.W.getItem_bytes (by omega) h0 h1 ⟨.int ((z.getD i.toNat 0).toNat : Nat), H2, I2.tok _, ⟨_, rfl⟩, q⟩) (hs _ _)

/-! ### scalar builtins, by CallR -/
theorem vals1 {x : V} {us : List Value} (r : Vals [x] us) : ∃ u, us = [u] ∧ RelV x u := by
  cases r with
  | cons r1 r2 => cases r2; exact ⟨_, rfl, r1⟩
theorem vals2 {x y : V} {us : List Value} (r : Vals [x, y] us) : ∃ u w', us = [u, w'] ∧ RelV x u ∧ RelV y w' := by
  cases r with
  | cons r1 r2 =>
    cases r2 with
    | cons r3 r4 => cases r4; exact ⟨_, _, rfl, r1, r3⟩
theorem call_abs : CallR X (.builtin "abs") (fun xs H Q => ∃ i, xs = [.int i] ∧ Q (.int (if i < 0 then -i else i)) H) := by
  intro pins s σ H xs us Q I r h
  obtain ⟨i, rfl, q⟩ := h
  obtain ⟨u, rfl, t, rfl⟩ := vals1 r
  exact call_abs_int fun u tk => ⟨.int (if i < 0 then -i else i), H, I.tok _, ⟨_, rfl⟩, q⟩
theorem call_max2 (hc : X.calm = true) : CallR X (.builtin "max") (fun xs H Q => ∃ i j, xs = [.int i, .int j] ∧ Q (.int (if j > i then j else i)) H) := by
  intro pins s σ H xs us Q I r h
  obtain ⟨i, j, rfl, q⟩ := h
  obtain ⟨u, w', rfl, ⟨t, rfl⟩, ⟨t', rfl⟩⟩ := vals2 r
  refine max_two_ints (I.ok.hd hc) fun h' tk k => ⟨_, H, I.kept k, ?_, q⟩
  by_cases hj : j > i
  · rw [if_pos hj, if_pos hj]; exact ⟨_, rfl⟩
  · rw [if_neg hj, if_neg hj]; exact ⟨_, rfl⟩
theorem call_min2 (hc : X.calm = true) : CallR X (.builtin "min") (fun xs H Q => ∃ i j, xs = [.int i, .int j] ∧ Q (.int (if j < i then j else i)) H) := by
  intro pins s σ H xs us Q I r h
  obtain ⟨i, j, rfl, q⟩ := h
  obtain ⟨u, w', rfl, ⟨t, rfl⟩, ⟨t', rfl⟩⟩ := vals2 r
  refine min_two_ints (I.ok.hd hc) fun h' tk k => ⟨_, H, I.kept k, ?_, q⟩
  by_cases hj : j < i
  · rw [if_pos hj, if_pos hj]; exact ⟨_, rfl⟩
  · rw [if_neg hj, if_neg hj]; exact ⟨_, rfl⟩
theorem call_int1 : CallR X (.type "int") (fun xs H Q => (∃ i, xs = [.int i] ∧ Q (.int i) H) ∨ ∃ k, xs = [.bl k] ∧ Q (.int (if k then 1 else 0)) H) := by
  intro pins s σ H xs us Q I r h
  rcases h with ⟨i, rfl, q⟩ | ⟨k, rfl, q⟩
  · obtain ⟨u, rfl, t, rfl⟩ := vals1 r
    exact call_int_int ⟨.int i, H, I, ⟨_, rfl⟩, q⟩
  · obtain ⟨u, rfl, r1⟩ := vals1 r
    cases r1
    exact call_int_bool ⟨.int (if k then 1 else 0), H, I.tok _, ⟨_, rfl⟩, q⟩
theorem call_bool1 : CallR X (.type "bool") (fun xs H Q => (∃ i, xs = [.int i] ∧ Q (.bl (i != 0)) H) ∨ ∃ k, xs = [.bl k] ∧ Q (.bl k) H) := by
  intro pins s σ H xs us Q I r h
  rcases h with ⟨i, rfl, q⟩ | ⟨k, rfl, q⟩
  · obtain ⟨u, rfl, t, rfl⟩ := vals1 r
    exact call_bool_int ⟨.bl (i != 0), H, I, rfl, q⟩
  · obtain ⟨u, rfl, r1⟩ := vals1 r
    cases r1
    exact call_bool_bool ⟨.bl k, H, I, rfl, q⟩
theorem call_str_int : CallR X (.type "str") (fun xs H Q => ∃ i, xs = [.int i] ∧ i.natAbs.log2 < 1920 ∧ Q (.str (toString i)) H) := by
  intro pins s σ H xs us Q I r h
  obtain ⟨i, rfl, hz, q⟩ := h
  obtain ⟨u, rfl, t, rfl⟩ := vals1 r
  exact PySem.P.str_of_int hz ⟨.str _, H, I.tok _, ⟨_, rfl⟩, q⟩
theorem call_ord : CallR X (.builtin "ord") (fun xs H Q => ∃ x, xs = [.str x] ∧ x.length = 1 ∧ Q (.int (x.cps.getD 0 0 : Nat)) H) := by
  intro pins s σ H xs us Q I r h
  obtain ⟨x, rfl, hz, q⟩ := h
  obtain ⟨u, rfl, t, rfl⟩ := vals1 r
  exact ord_of_one hz ⟨.int _, H, I.tok _, ⟨_, rfl⟩, q⟩
theorem call_chr : CallR X (.builtin "chr") (fun xs H Q => ∃ i, xs = [.int i] ∧ 0 ≤ i ∧ i ≤ 1114111 ∧ Q (.str ⟨#[i.toNat]⟩) H) := by
  intro pins s σ H xs us Q I r h
  obtain ⟨i, rfl, h0, h1, q⟩ := h
  obtain ⟨u, rfl, t, rfl⟩ := vals1 r
  exact chr_of_range h0 h1 ⟨.str _, H, I.tok _, ⟨_, rfl⟩, q⟩
/-- len of a str, a bytes, a list, a tuple -/
def LenV (K : PySem.W.Frag) (x : V) (H : Hp) (n : Nat) : Prop :=
  match x with
  | .str y => y.length ≤ sizeLine ∧ n = y.length
  | .byt y => y.size ≤ sizeLine ∧ n = y.size
  | .ref p => (∃ xs, SqL K H p xs ∧ n = xs.length) ∨ ∃ xs, SqT K H p xs ∧ n = xs.length
  | _ => False
theorem call_len : CallR X (.builtin "len") (fun xs H Q => ∃ x n, xs = [x] ∧ LenV X.K x H n ∧ Q (.int n) H) := by
  intro pins s σ H xs us Q I r h
  obtain ⟨x, n, rfl, e, q⟩ := h
  obtain ⟨u, rfl, rx⟩ := vals1 r
  have hl := line63
  have hs : sizeLine = 16777216 := sizeLine_eq
  cases x with
  | str y =>
    obtain ⟨t, rfl⟩ := rx
    obtain ⟨hy, e'⟩ : y.length ≤ sizeLine ∧ n = y.length := e
    subst e'
    exact len_str (by omega) ⟨.int _, H, I.tok _, ⟨_, rfl⟩, q⟩
  | byt y =>
    obtain ⟨t, rfl⟩ := rx
    obtain ⟨hy, e'⟩ : y.size ≤ sizeLine ∧ n = y.size := e
    subst e'
    exact PySem.W.len_bytes (by omega) ⟨.int _, H, I.tok _, ⟨_, rfl⟩, q⟩
  | ref p =>
    cases rx
    have e' : (∃ xs, SqL X.K H p xs ∧ n = xs.length) ∨ ∃ xs, SqT X.K H p xs ∧ n = xs.length := e
    rcases e' with ⟨xs, hx, e'⟩ | ⟨xs, hx, e'⟩
    · subst e'
      obtain ⟨its, r', pl, hz⟩ := I.list hx
      have hlen := r'.length
      exact Calls.call_len_list pl.isList (by simp only [List.size_toArray]; omega) ⟨.int xs.length, H, I.tok _, ⟨_, by simp only [List.size_toArray]; rw [hlen]⟩, q⟩
    · subst e'
      obtain ⟨its, r', pl, hz⟩ := I.tuple hx
      have hlen := r'.length
      exact len_tuple pl (by simp only [List.size_toArray]; omega) ⟨.int xs.length, H, I.tok _, ⟨_, by simp only [List.size_toArray]; rw [hlen]⟩, q⟩
  | _ => exact (show False from e).elim
/-- divmod: a new tuple -/
theorem call_divmod : CallR X (.builtin "divmod") (fun xs H Q => ∃ i j, xs = [.int i, .int j] ∧ CDiv i j ∧ ∀ p, H p = none → Q (.ref p) (upd H p (.tup [.int (i / j), .int (i % j)]))) := by
  intro pins s σ H xs us Q I r h
  obtain ⟨i, j, rfl, ⟨h1, h2⟩, q⟩ := h
  obtain ⟨u, w', rfl, ⟨t, rfl⟩, ⟨t', rfl⟩⟩ := vals2 r
  refine divmod_int (by omega) ?_ (.inl (PyProof.noPylong_small (by omega)))
  rw [Int.fdiv_eq_ediv_of_nonneg i (by omega), Int.fmod_eq_emod_of_nonneg i (by omega)]
  have hn : H s.heap.objs.size = none := I.hok.fresh (Nat.le_refl _)
  refine ⟨.ref s.heap.objs.size, _, ?_, rfl, q _ hn⟩
  refine I.laid (fun b o e => Heap.get?_push_of_some _ e) (Nat.le_refl _) ⟨by simp only [List.length_cons, List.length_nil]; rw [sizeLine_eq]; decide, [.int (i / j) s.toks, .int (i % j) (s.toks + 1)], .cons ⟨_, rfl⟩ (.cons ⟨_, rfl⟩ .nil), ?_⟩
  exact ⟨_, Heap.get?_push_size s.heap rfl, rfl, 0, rfl⟩
end
end L2

namespace L2
open PySem PySem.Spec PyProof.Rows

/-! ### an instance, its attributes a map -/
structure ObjM (h : Heap) (x dx C : Addr) (mA : Str → Option Value) : Prop where
  obj : h.get? x = some (PySem.W.instObj C dx)
  ns : h.Ns1 dx mA
  ne : dx ≠ x

theorem lookIn_ns {h : Heap} {dx : Addr} {mA : Str → Option Value} (n : h.Ns1 dx mA) : ∃ od, h.get? dx = some od ∧ ∀ name, PySem.W.lookIn name od = some (mA name) := by
  obtain ⟨o, es, ep, ho, hd, hk, _, hm⟩ := n
  refine ⟨o, ho, fun name => ?_⟩
  have e := hm name
  unfold nsFind findBy at e
  rw [← Array.find?_toList] at e
  unfold PySem.W.lookIn
  rw [hd]
  dsimp only
  split
  · rename_i y q
    rw [q] at e
    exact congrArg some e
  · rename_i q
    rw [q] at e
    have a : es.toList.any (·.refKey) = false := by
      rw [List.any_eq_false]
      intro y hy
      obtain ⟨z, t, hkey⟩ := hk y (Array.mem_toList_iff.mp hy)
      simp [DictEntry.refKey, hkey]
    have a' : ¬ es.toList.any (·.refKey) = true := by rw [a]; exact Bool.false_ne_true
    rw [if_neg a']
    exact congrArg some e

theorem ObjM.look {h : Heap} {x dx C : Addr} {mA : Str → Option Value} (I : ObjM h x dx C mA) : ∃ od, PySem.W.InstAt h x (PySem.W.instObj C dx) C (some od) ∧ ∀ name, PySem.W.lookIn name od = some (mA name) :=
  let ⟨od, ho, hl⟩ := lookIn_ns I.ns
  ⟨od, ⟨I.obj, rfl, rfl, ho⟩, hl⟩

section
variable {prog : Program} {w : World} {A : Around} {E : Value → Shared → Prop} {s : Shared} {K : PySem.W.Frag} {x dx C f : Addr} {mA : Str → Option Value} {name : Str} {v : Value}

theorem get_map {expr : Bool} {Q : Value → Shared → Prop} (X : K.In s.heap) (I : ObjM s.heap x dx C mA) (hg : PySem.W.plainGet K C name = true) (hh : PySem.W.hasDictIn K C = true)
    (ha : PySem.W.findIn K (.ref C) name = some none) (hv : mA name = some v) (hv' : PySem.W.handedIn v = true) (h : Q v { s with toks := s.toks + 1 }) :
    wpAny (model prog w) A (getAttr (.ref x) name expr) Q E s := by
  obtain ⟨od, J, hl⟩ := I.look
  exact PySem.W.get_value X J (PySem.W.plainGet_of hg).1 (PySem.W.findObj_own hh ha rfl (by rw [hl, hv])) hv' h

theorem get_const {expr : Bool} {a : Value} {Q : Value → Shared → Prop} (X : K.In s.heap) (I : ObjM s.heap x dx C mA) (hg : PySem.W.plainGet K C name = true) (hh : PySem.W.hasDictIn K C = true)
    (ha : PySem.W.findIn K (.ref C) name = some (some a)) (hn : PySem.W.specialIn K a "__get__" = some none) (hc : PySem.W.copiedNames.contains name = false) (hv : mA name = none) (hv' : PySem.W.handedIn a = true)
    (h : Q a { s with toks := s.toks + 1 }) : wpAny (model prog w) A (getAttr (.ref x) name expr) Q E s := by
  obtain ⟨od, J, hl⟩ := I.look
  exact PySem.W.get_value X J (PySem.W.plainGet_of hg).1 (PySem.W.findObj_cls hh ha hn hv' hc (by rw [hl, hv])) hv' h

theorem get_meth {pl : Sem Bool} {Q : Value × List Value → Shared → Prop} (X : K.In s.heap) (I : ObjM s.heap x dx C mA) (hg : PySem.W.plainGet K C name = true)
    (hf : PySem.W.findIn K (.ref C) name = some (some (.ref f))) (ht : PySem.W.isFn K (.ref f) = true) (hv : mA name = none) (h : Q (.ref f, [.ref x]) s) :
    wpAny (model prog w) A (getMethod (.ref x) name pl) Q E s := by
  obtain ⟨od, J, hl⟩ := I.look
  exact PySem.W.method_fn X J (PySem.W.plainGet_of hg).1 (PySem.W.plainGet_of hg).2 hf (beq_iff_eq.mp ht) (by show (PySem.W.lookIn name od).map (·.isSome) = some false; rw [hl, hv]; rfl) h

theorem set_map {ns : List Str} {Q : Unit → Shared → Prop} (X : K.In s.heap) (I : ObjM s.heap x dx C mA)
    (hs : PySem.W.findIn K (.ref C) "__setattr__" = some (some (.builtin "object.__setattr__"))) (hp : PySem.W.plainOver K C = true) (ht : PySem.W.takerIn K C name = some none) (hh : PySem.W.hasDictIn K C = true)
    (hw : PySem.Within mA ns) (hsz : ns.length ≤ sizeLine)
    (h : ∀ h', ObjM h' x dx C (fun y => if y = name then some v else mA y) → Heap.SameBut dx s.heap h' → Q () { s with heap := h', toks := s.toks + 2 }) :
    wpAny (model prog w) A (setAttr (.ref x) name v) Q E s := by
  obtain ⟨od, J, hl⟩ := I.look
  refine PySem.W.set_plain X J hs (PySem.W.osa_open (s := { s with toks := s.toks + 1 }) (r := none) X J hp ht fun b => ?_)
  obtain ⟨cd, hc, hd'⟩ := PySem.W.any_some hh
  have hx : s.heap.get? x = some ⟨.ref C, some dx, .plain, #[]⟩ := I.obj
  refine wpAny_bind (wpAny_pure (wpAny_bind (wpAny_bind (wpAny_loadPart hx (wpAny_bind (PySem.W.Looks.here (s := { s with toks := s.toks + 1 }) (PySem.W.looks_clsIn X hc) ?_))))))
  rw [hd']
  refine wpAny_pure (a := some dx) (wpAny_bind (wpAny_pure (wpAny_bind ?_)))
  refine wpAny_nsSet1 (s := { s with toks := s.toks + 1 }) I.ns fun h' hn2 hs2 => ?_
  obtain ⟨oD, esD, epD, hoD, hdD, hcD⟩ := hn2.count (PySem.Within.cons name v hw)
  refine wpAny_bind (wpAny_lookBehind hoD (by rw [hdD]; exact pastItsLine_dict (Nat.le_trans hcD (by rw [List.length_cons]; omega))) ?_)
  exact wpAny_pure (h _ ⟨(hs2.2 _ (Ne.symm I.ne)).trans I.obj, hn2, I.ne⟩ hs2)

/-- C(..): the dict at the heap's end, the instance behind it; then its __init__ -/
theorem make_map {R : Result → Shared → Prop} {vs : List Value} {kw : List (Str × Value)} (X : K.In s.heap) (hm : PySem.W.makesIn K C = true)
    (hi : PySem.W.findIn K (.ref C) "__init__" = some (some (.ref f))) (hf : PySem.W.typeIn K (.ref f) = some (.type "function"))
    (h : codeAny (model prog w) (A.under (.builtin "type.__call__" ⟨.ref C :: vs, kw⟩)) (.call (.ref f) ⟨.ref (s.heap.objs.size + 1) :: vs, kw⟩) (PySem.W.InitBack (s.heap.objs.size + 1) R)
      { s with heap := (s.heap.push PySem.W.emptyDict).push (PySem.W.instObj C s.heap.objs.size) }) :
    codeAny (model prog w) A (.call (.ref C) ⟨vs, kw⟩) R s := by
  obtain ⟨hh, g, d, t, os⟩ := s
  exact PySem.W.make_core (PySem.W.makes_of X hm) (PySem.W.looks_findIn X hi) (fun self => PySem.W.bind_fn X self hf) (.inl rfl) h
/-- C() where there is no __init__ but object's -/
theorem make_map0 {R : Result → Shared → Prop} (X : K.In s.heap) (hm : PySem.W.makesIn K C = true)
    (hi : PySem.W.findIn K (.ref C) "__init__" = some (some (.builtin "object.__init__")))
    (hb : ∀ self, PySem.W.Looks (model prog w) s.heap (bindSpecial (.builtin "object.__init__") self) (.builtin "object.__init__", [self]))
    (h : codeAny (model prog w) (A.under (.builtin "type.__call__" ⟨[.ref C], []⟩)) (.call (.builtin "object.__init__") ⟨[.ref (s.heap.objs.size + 1)], []⟩) (PySem.W.InitBack (s.heap.objs.size + 1) R)
      { s with heap := (s.heap.push PySem.W.emptyDict).push (PySem.W.instObj C s.heap.objs.size) }) :
    codeAny (model prog w) A (.call (.ref C) ⟨[], []⟩) R s := by
  obtain ⟨hh, g, d, t, os⟩ := s
  exact PySem.W.make_core (PySem.W.makes_of X hm) (PySem.W.looks_findIn X hi) hb (.inr ⟨rfl, rfl⟩) h
end

/-! ### the attributes as a list of pairs -/
def putF (f : Str) (v : V) : List (Str × V) → List (Str × V)
  | [] => [(f, v)]
  | (g, x) :: r => if g = f then (g, v) :: r else (g, x) :: putF f v r
theorem lookup_putF (f g : Str) (v : V) : ∀ fs : List (Str × V), (putF f v fs).lookup g = if g = f then some v else fs.lookup g
  | [] => by
    show List.lookup g [(f, v)] = _
    by_cases h : g = f
    · have hb : (g == f) = true := beq_iff_eq.mpr h
      simp only [List.lookup, hb, if_pos h]
    · have hb : (g == f) = false := beq_eq_false_iff_ne.mpr h
      simp only [List.lookup, hb, if_neg h]
  | (k, x) :: r => by
    have ih := lookup_putF f g v r
    rw [show putF f v ((k, x) :: r) = (if k = f then (k, v) :: r else (k, x) :: putF f v r) from rfl]
    by_cases hk : k = f
    · rw [if_pos hk]
      by_cases h : g = k
      · have hb : (g == k) = true := beq_iff_eq.mpr h
        simp only [List.lookup, hb, if_pos (h.trans hk)]
      · have hb : (g == k) = false := beq_eq_false_iff_ne.mpr h
        simp only [List.lookup, hb, if_neg (fun e : g = f => h (e.trans hk.symm))]
    · rw [if_neg hk]
      by_cases h : g = k
      · have hb : (g == k) = true := beq_iff_eq.mpr h
        simp only [List.lookup, hb, if_neg (fun e : g = f => hk (h.symm.trans e))]
      · have hb : (g == k) = false := beq_eq_false_iff_ne.mpr h
        simp only [List.lookup, hb]
        exact ih
theorem keys_putF (f : Str) (v : V) : ∀ fs : List (Str × V), f ∈ (putF f v fs).map (·.1) ∧ ∀ g, g ∈ fs.map (·.1) → g ∈ (putF f v fs).map (·.1)
  | [] => ⟨by simp [putF], fun g h => by simp at h⟩
  | (k, x) :: r => by
    obtain ⟨i1, i2⟩ := keys_putF f v r
    rw [show putF f v ((k, x) :: r) = (if k = f then (k, v) :: r else (k, x) :: putF f v r) from rfl]
    by_cases hk : k = f
    · rw [if_pos hk]
      subst hk
      exact ⟨by simp, fun g h => by simpa using h⟩
    · rw [if_neg hk]
      refine ⟨?_, fun g h => ?_⟩
      · rw [List.map_cons]
        exact List.mem_cons_of_mem _ i1
      · rw [List.map_cons] at h ⊢
        rcases List.mem_cons.mp h with e | e
        · exact List.mem_cons.mpr (.inl e)
        · exact List.mem_cons_of_mem _ (i2 g e)
theorem length_putF (f : Str) (v : V) : ∀ fs : List (Str × V), (putF f v fs).length ≤ fs.length + 1
  | [] => by simp [putF]
  | (k, x) :: r => by
    have ih := length_putF f v r
    rw [show putF f v ((k, x) :: r) = (if k = f then (k, v) :: r else (k, x) :: putF f v r) from rfl]
    by_cases hk : k = f
    · rw [if_pos hk, List.length_cons, List.length_cons]; omega
    · rw [if_neg hk, List.length_cons, List.length_cons]; omega

theorem RelO.some_of {v : V} {o : Option Value} (r : RelO (some v) o) : ∃ u, o = some u ∧ RelV v u := by
  cases o with
  | none => exact (show False from r).elim
  | some u => exact ⟨u, rfl, r⟩
theorem RelO.none_of {o : Option Value} (r : RelO none o) : o = none := by
  cases o with
  | none => rfl
  | some u => exact (show False from r).elim
theorem handed_of {v : V} {u : Value} (r : RelV v u) : PySem.W.handedIn u = true := by
  cases v with
  | non => cases (show u = Value.none from r); rfl
  | bl b => cases (show u = Value.bool b from r); rfl
  | int i => obtain ⟨t, e⟩ := (show ∃ t, u = Value.int i t from r); cases e; rfl
  | str x => obtain ⟨t, e⟩ := (show ∃ t, u = Value.str x t from r); cases e; rfl
  | byt b => obtain ⟨t, e⟩ := (show ∃ t, u = Value.bytes b t from r); cases e; rfl
  | flt b => obtain ⟨t, e⟩ := (show ∃ t, u = Value.float b t from r); cases e; rfl
  | ref a => cases (show u = Value.ref a from r); rfl
  | ty n => cases (show u = Value.type n from r); rfl

section
variable {P : Program} {w : World} {H H' : Hp} {h h' : Heap} {a C dx : Addr} {fs fs' : List (Str × V)}
theorem ins_get (hok : HOk P w H h) (e : H a = some (.ins C dx fs)) : ∃ mA, ObjM h a dx C mA ∧ (∀ f, RelO (fs.lookup f) (mA f)) ∧ PySem.Within mA (fs.map (·.1)) ∧ fs.length ≤ 1000 ∧ H dx = some (.own a) := by
  obtain ⟨d, z, ne, ob, mA, n, r, q⟩ := (show ObjOk P w H h a (.ins C dx fs) from hok a _ e)
  exact ⟨mA, ⟨ob, n, ne⟩, r, q, z, d⟩
end

/-! ### what of the text a class must have -/
structure Cls (K : PySem.W.Frag) (C : Addr) : Prop where
  pg : PySem.W.plainGet K C Str.empty = true
  hd : PySem.W.hasDictIn K C = true
  po : PySem.W.plainOver K C = true
  sa : PySem.W.findIn K (.ref C) "__setattr__" = some (some (.builtin "object.__setattr__"))
theorem Cls.get {K : PySem.W.Frag} {C : Addr} (c : Cls K C) (f : Str) : PySem.W.plainGet K C f = true := c.pg
/-- no class of it has the name -/
def NoAttr (K : PySem.W.Frag) (C : Addr) (f : Str) : Prop := PySem.W.findIn K (.ref C) f = some none
theorem NoAttr.taker {K : PySem.W.Frag} {C : Addr} {f : Str} (n : NoAttr K C f) : PySem.W.takerIn K C f = some none := by
  unfold PySem.W.takerIn
  rw [show PySem.W.findIn K (.ref C) f = some none from n]
  rfl
/-- a constant of the class -/
structure Con (K : PySem.W.Frag) (C : Addr) (f : Str) (v : V) (u : Value) : Prop where
  at_ : PySem.W.findIn K (.ref C) f = some (some u)
  rel : RelV v u
  get : PySem.W.specialIn K u "__get__" = some none
  cp : PySem.W.copiedNames.contains f = false
/-- a method: a plain def of the class or of one above it -/
structure Meth (K : PySem.W.Frag) (C : Addr) (m : Str) (f : Addr) : Prop where
  at_ : PySem.W.findIn K (.ref C) m = some (some (.ref f))
  fn : PySem.W.isFn K (.ref f) = true
  kp : PySem.W.keepIn K (.ref f) = true

section
variable {X : Cx} {pins : List (Addr × Obj)} {σ : St} {H : Hp} {s : Shared} {a C dx : Addr} {fs : List (Str × V)} {f : Str} {v : V} {A : Around} {E : Value → Shared → Prop}

theorem getattr_ok {b : Bool} {Q : Value → Shared → Prop} (I : Inv X pins σ H s) (e : H a = some (.ins C dx fs)) (c : Cls X.K C) (n : NoAttr X.K C f) (l : fs.lookup f = some v)
    (h : ∀ u s', Inv X pins σ H s' → RelV v u → Q u s') : wpAny (model X.prog X.w) A (getAttr (.ref a) f b) Q E s := by
  obtain ⟨mA, O, r, _, _, _⟩ := ins_get I.hok e
  obtain ⟨u, hu, ru⟩ := RelO.some_of (v := v) (o := mA f) (by rw [← l]; exact r f)
  exact get_map I.kIn O (c.get f) c.hd n hu (handed_of ru) (h u _ (I.tok _) ru)

theorem getcon_ok {b : Bool} {u : Value} {Q : Value → Shared → Prop} (I : Inv X pins σ H s) (e : H a = some (.ins C dx fs)) (c : Cls X.K C) (k : Con X.K C f v u) (l : fs.lookup f = none)
    (h : ∀ s', Inv X pins σ H s' → Q u s') : wpAny (model X.prog X.w) A (getAttr (.ref a) f b) Q E s := by
  obtain ⟨mA, O, r, _, _, _⟩ := ins_get I.hok e
  have hn : mA f = none := RelO.none_of (by rw [← l]; exact r f)
  exact get_const I.kIn O (c.get f) c.hd k.at_ k.get k.cp hn (handed_of k.rel) (h _ (I.tok _))

theorem getmeth_ok {m : Str} {g : Addr} {pl : Sem Bool} {Q : Value × List Value → Shared → Prop} (I : Inv X pins σ H s) (e : H a = some (.ins C dx fs)) (c : Cls X.K C) (k : Meth X.K C m g) (l : fs.lookup m = none)
    (h : Q (.ref g, [.ref a]) s) : wpAny (model X.prog X.w) A (getMethod (.ref a) m pl) Q E s := by
  obtain ⟨mA, O, r, _, _, _⟩ := ins_get I.hok e
  have hn : mA m = none := RelO.none_of (by rw [← l]; exact r m)
  exact get_meth I.kIn O (c.get m) k.at_ k.fn hn h

theorem setattr_ok {y : V} {u : Value} {Q : Unit → Shared → Prop} (I : Inv X pins σ H s) (e : H a = some (.ins C dx fs)) (c : Cls X.K C) (n : NoAttr X.K C f) (hl : fs.length < 1000) (ry : RelV y u)
    (h : ∀ s', Inv X pins σ (upd H a (.ins C dx (putF f y fs))) s' → Q () s') : wpAny (model X.prog X.w) A (setAttr (.ref a) f u) Q E s := by
  obtain ⟨mA, O, r, wi, _, ho⟩ := ins_get I.hok e
  have hz : (fs.map (·.1)).length ≤ sizeLine := by rw [List.length_map, sizeLine_eq]; omega
  refine set_map I.kIn O c.sa c.po n.taker c.hd wi hz fun h' O' sb => h _ ?_
  have hd : ∃ o, h'.get? dx = some o := let ⟨o, _, _, e', _⟩ := O'.ns; ⟨o, e'⟩
  refine I.write (x := a) (e := dx) (by rw [e]; exact True.intro) (.inr ho) (fun b q hb z => (sb.2 b hb).trans z) hd ?_
  refine ⟨by rw [upd_ne O.ne]; exact ho, ?_, O.ne, O'.obj, _, O'.ns, fun g => ?_, fun g hg => ?_⟩
  · have := length_putF f y fs; omega
  · show RelO ((putF f y fs).lookup g) (if g = f then some u else mA g)
    rw [lookup_putF]
    by_cases q : g = f
    · rw [if_pos q, if_pos q]; exact ry
    · rw [if_neg q, if_neg q]; exact r g
  · by_cases q : g = f
    · rw [q]; exact (keys_putF f y fs).1
    · refine (keys_putF f y fs).2 g (wi g fun z => hg ?_)
      show (if g = f then some u else mA g) = none
      rw [if_neg q]; exact z

/-- a new instance, tracked, without attributes -/
theorem Inv.made (I : Inv X pins σ H s) : Inv X pins σ (upd (upd H s.heap.objs.size (.own (s.heap.objs.size + 1))) (s.heap.objs.size + 1) (.ins C s.heap.objs.size []))
    { s with heap := (s.heap.push PySem.W.emptyDict).push (PySem.W.instObj C s.heap.objs.size) } := by
  have e1 : (s.heap.push PySem.W.emptyDict).get? s.heap.objs.size = some PySem.W.emptyDict := Heap.get?_push_size s.heap rfl
  have e2 : ((s.heap.push PySem.W.emptyDict).push (PySem.W.instObj C s.heap.objs.size)).get? (s.heap.objs.size + 1) = some (PySem.W.instObj C s.heap.objs.size) := by
    have := Heap.get?_push_size (s.heap.push PySem.W.emptyDict) (o := PySem.W.instObj C s.heap.objs.size) rfl
    rwa [Heap.size_push] at this
  have e3 : (s.heap.push PySem.W.emptyDict).Ns s.heap.objs.size (fun _ => none) := ⟨PySem.W.emptyDict, #[], _, e1, rfl, (fun e he => absurd he (by simp)), fun _ => rfl⟩
  have I1 := I.laid (a := s.heap.objs.size) (o := .own (s.heap.objs.size + 1)) (h' := s.heap.push PySem.W.emptyDict) (t' := s.toks) (fun b u q => Heap.get?_push_of_some _ q) (Nat.le_refl _) ⟨_, e1⟩
  refine I1.laid (a := s.heap.objs.size + 1) (o := .ins C s.heap.objs.size []) (t' := s.toks) (fun b u q => Heap.get?_push_of_some _ q) (Nat.le_of_eq (Heap.size_push _ _)) ?_
  have ne : s.heap.objs.size ≠ s.heap.objs.size + 1 := Nat.ne_of_lt (Nat.lt_succ_self _)
  refine ⟨by rw [upd_ne ne, upd_same], Nat.zero_le _, ne, e2, fun _ => none, (Heap.Ns1.of_empty e3).at fun o q => Heap.get?_push_of_some _ q, fun _ => True.intro, fun y hy => absurd rfl hy⟩

/-- e.f where nothing but the object is asked: through attributeBase (super) and the last hold -/
theorem attr_of {prog : Program} {w : World} {env : Env} {e : Expr} {f : Str} {pos : Pos} {s : Shared} {Q : Value → Shared → Prop} (hb : attributeBase e f env (eval e env) = eval e env)
    (h : wpAny (model prog w) A (eval e env) (fun o s₁ => wpAny (model prog w) A (getAttr o f true) Q E s₁) E s) : wpAny (model prog w) A (eval (.Attribute e f pos) env) Q E s :=
  Attribute_any_ h (by rw [arm_eval_Attribute, hb])
end

/-! ### readings and rules -/
/-- e.f, an attribute of the instance -/
def tFld (K : PySem.W.Frag) (ta : TE) (f : Str) : TE := fun σ H Q => ta σ H fun x H1 => ∃ a C dx fs v, x = .ref a ∧ H1 a = some (.ins C dx fs) ∧ Cls K C ∧ NoAttr K C f ∧ fs.lookup f = some v ∧ Q v H1
/-- e.f, a constant of the class -/
def tCon (K : PySem.W.Frag) (ta : TE) (f : Str) : TE := fun σ H Q => ta σ H fun x H1 => ∃ a C dx fs v u, x = .ref a ∧ H1 a = some (.ins C dx fs) ∧ Cls K C ∧ Con K C f v u ∧ fs.lookup f = none ∧ Q v H1
/-- e.f = value -/
def sFld (K : PySem.W.Frag) (ta tv : TE) (f : Str) : TS := fun D σ H => tv σ H fun y H1 => ta σ H1 fun x H2 => ∃ a C dx fs, x = .ref a ∧ H2 a = some (.ins C dx fs) ∧ Cls K C ∧ NoAttr K C f ∧ fs.length < 1000 ∧
  D.nx σ (upd H2 a (.ins C dx (putF f y fs)))
/-- an augmented operator on two values -/
def InOp (X : Cx) (op : Operator) (rd : V → V → Hp → VK → Prop) : Prop :=
  ∀ (pins : List (Addr × Obj)) (s : Shared) (σ : St) (H : Hp) (x y : V) (u v : Value) (Q : VK), Inv X pins σ H s → RelV x u → RelV y v → rd x y H Q → wpAny (model X.prog X.w) X.A (inplaceOp op u v) (EP X pins σ Q) X.xe s
/-- e.f op= value -/
def sFldAug (K : PySem.W.Frag) (ta tv : TE) (rd : V → V → Hp → VK → Prop) (f : Str) : TS := fun D σ H => ta σ H fun x H1 => ∃ a C dx fs v, x = .ref a ∧ H1 a = some (.ins C dx fs) ∧ Cls K C ∧ NoAttr K C f ∧ fs.lookup f = some v ∧
  tv σ H1 fun y H2 => rd v y H2 fun z H3 => ∃ dx' fs', H3 a = some (.ins C dx' fs') ∧ fs'.length < 1000 ∧ D.nx σ (upd H3 a (.ins C dx' (putF f z fs')))

section
variable {X : Cx} {o e value : Expr} {f : Str} {pos pos' tpos : Pos} {ta tv : TE}
theorem pe_fld (he : PE X e ta) (hb : attributeBase e f X.env (eval e X.env) = eval e X.env) : PE X (.Attribute e f pos) (tFld X.K ta f) := by
  intro pins s σ H Q I h
  refine attr_of hb (thn (he pins s σ H _ I h) fun u s1 ⟨x, H1, I1, rx, a, C, dx, fs, v, ex, ea, c, n, l, q⟩ => ?_)
  subst ex
  obtain rfl : u = Value.ref a := rx
  exact getattr_ok I1 ea c n l fun u' s2 I2 ru => ⟨v, H1, I2, ru, q⟩
theorem pe_con (he : PE X e ta) (hb : attributeBase e f X.env (eval e X.env) = eval e X.env) : PE X (.Attribute e f pos) (tCon X.K ta f) := by
  intro pins s σ H Q I h
  refine attr_of hb (thn (he pins s σ H _ I h) fun u s1 ⟨x, H1, I1, rx, a, C, dx, fs, v, u0, ex, ea, c, k, l, q⟩ => ?_)
  subst ex
  obtain rfl : u = Value.ref a := rx
  exact getcon_ok I1 ea c k l fun s2 I2 => ⟨v, H1, I2, k.rel, q⟩
theorem ps_fld (ha : PE X o ta) (hv : PE X value tv) (hs : swapsWith value (some (.Attribute o f pos')) pos.line X.env = pure false) : PS X (.Assign [.Attribute o f pos'] value pos) (sFld X.K ta tv f) := by
  intro pins s σ H D I h
  refine plainObj_wpAny_Assign_Attribute (thn (hv pins s σ H _ I h) fun u s1 ⟨y, H1, I1, ry, q⟩ => thn (ha pins s1 σ H1 _ I1 q) fun ov s2 ⟨x, H2, I2, rx, a, C, dx, fs, ex, ea, c, n, l, q2⟩ => ?_) hs
  subst ex
  obtain rfl : ov = Value.ref a := rx
  exact setattr_ok I2 ea c n l ry fun s3 I3 => ⟨σ, _, I3, q2⟩
theorem ps_fldaug {op : Operator} {rd : V → V → Hp → VK → Prop} (ha : PE X o ta) (hv : PE X value tv) (hop : InOp X op rd) : PS X (.AugAssign (.Attribute o f tpos) op value pos) (sFldAug X.K ta tv rd f) := by
  intro pins s σ H D I h
  refine wpAny_AugAssign_AttributeAny (thn (ha pins s σ H _ I h) fun ov s1 ⟨x, H1, I1, rx, a, C, dx, fs, v, ex, ea, c, n, l, q⟩ => ?_)
  subst ex
  obtain rfl : ov = Value.ref a := rx
  refine getattr_ok I1 ea c n l fun u s2 I2 ru => thn (hv pins s2 σ H1 _ I2 q) fun w3 s3 ⟨y, H2, I3, ry, q3⟩ => thn (hop pins s3 σ H2 v y u w3 _ I3 ru ry q3) fun w4 s4 ⟨z, H3, I4, rz, dx', fs', ea', l', q4⟩ => ?_
  exact setattr_ok I4 ea' c n l' rz fun s5 I5 => ⟨σ, _, I5, q4⟩
def rAdd : V → V → Hp → VK → Prop := fun x y H Q => ∃ i j, x = .int i ∧ y = .int j ∧ Q (.int (i + j)) H
def rSub : V → V → Hp → VK → Prop := fun x y H Q => ∃ i j, x = .int i ∧ y = .int j ∧ Q (.int (i - j)) H
theorem in_add : InOp X .Add rAdd := by
  rintro pins s σ H x y u v Q I rx ry ⟨i, j, rfl, rfl, q⟩
  obtain ⟨t, rfl⟩ := (show ∃ t, u = Value.int i t from rx)
  obtain ⟨t', rfl⟩ := (show ∃ t', v = Value.int j t' from ry)
  exact PyProof.Rows.iadd_int ⟨.int (i + j), H, I.tok _, ⟨_, rfl⟩, q⟩
theorem in_sub : InOp X .Sub rSub := by
  rintro pins s σ H x y u v Q I rx ry ⟨i, j, rfl, rfl, q⟩
  obtain ⟨t, rfl⟩ := (show ∃ t, u = Value.int i t from rx)
  obtain ⟨t', rfl⟩ := (show ∃ t', v = Value.int j t' from ry)
  exact PyProof.Rows.isub_int ⟨.int (i - j), H, I.tok _, ⟨_, rfl⟩, q⟩

/-- what is between an instance and its method: the tree of a method call -/
theorem methcall_of {pl : Sem Bool} {m : Str} {apos : Pos} {args : List Expr} {pins : List (Addr × Obj)} {s : Shared} {σ : St} {H : Hp} {Q : Value → Shared → Prop} {te : TE} (he : PE X e te) (I : Inv X pins σ H s)
    (h : te σ H fun x H1 => ∃ a C dx fs g, x = .ref a ∧ H1 a = some (.ins C dx fs) ∧ Cls X.K C ∧ Meth X.K C m g ∧ fs.lookup m = none ∧
      ∀ s1, Inv X pins σ H1 s1 → wpAny (model X.prog X.w) X.A (callWith pos (.ref g) [.ref a] (backTo pos (starEach args X.env)) (backToKw pos (keywordEach [] X.env))) Q X.xe s1)
    (ht : eval (.Call (.Attribute e m apos) args [] pos) X.env = (do
      let ov ← eval e X.env
      standAt apos.atName
      let (f, first) ← holding [ov] (getMethod ov m pl)
      callWith pos f first (backTo pos (starEach args X.env)) (backToKw pos (keywordEach [] X.env)))) :
    wpAny (model X.prog X.w) X.A (eval (.Call (.Attribute e m apos) args [] pos) X.env) Q X.xe s := by
  refine PySem.W.methodCall_KW (pl := pl) (thn (he pins s σ H _ I h) fun u s1 ⟨x, H1, I1, rx, a, C, dx, fs, g, ex, ea, c, k, l, q⟩ => ?_) ht
  subst ex
  obtain rfl : u = Value.ref a := rx
  exact getmeth_ok I1 ea c k l (q s1 I1)
end

/-! ### isinstance -/
section
variable {X : Cx} {pins : List (Addr × Obj)} {σ : St} {H : Hp} {s : Shared} {A : Around} {E : Value → Shared → Prop} {Q : Value → Shared → Prop} {c : Value} {b : Bool}
/-- the type of a value, as the fragment's deciders take it; for an instance its class -/
inductive TyOf (K : PySem.W.Frag) (H : Hp) : V → Value → Prop where
  | non : TyOf K H .non (.type "NoneType")
  | bl (x : Bool) : TyOf K H (.bl x) (.type "bool")
  | int (i : Int) : TyOf K H (.int i) (.type "int")
  | str (x : Str) : TyOf K H (.str x) (.type "str")
  | flt (x : UInt64) : TyOf K H (.flt x) (.type "float")
  | lst {a : Addr} {xs : List V} (e : H a = some (.lst xs)) : TyOf K H (.ref a) (.type "list")
  | frz {a : Addr} {o : Obj} {xs : List V} (e : H a = some (.frz o (.lst xs))) : TyOf K H (.ref a) (.type "list")
  | tup {a : Addr} {xs : List V} (e : H a = some (.tup xs)) : TyOf K H (.ref a) (.type "tuple")
  | dK {a : Addr} {kvs : List (Key × V)} (e : H a = some (.dK kvs)) : TyOf K H (.ref a) (.type "dict")
  | dT {a : Addr} {kvs : List (List Key × V)} (e : H a = some (.dT kvs)) : TyOf K H (.ref a) (.type "dict")
  | ins {a C dx : Addr} {fs : List (Str × V)} (e : H a = some (.ins C dx fs)) (cl : Cls K C) (ha : PySem.W.findIn K (.ref C) "__class__" = some (some (.builtin "object.__class__")))
      (hn : PySem.W.specialIn K (.builtin "object.__class__") "__get__" = some (some (.builtin "getset_descriptor.__get__"))) (htk : PySem.W.takesIn K (.builtin "object.__class__") = some true)
      (hm : PySem.W.mroIn K C (.type "object") = some true) : TyOf K H (.ref a) (.ref C)
/-- isinstance(x, c) for one class c, a built-in or an own one: kitOne's answer -/
theorem isinst_ok {x : V} {u t : Value} (I : Inv X pins σ H s) (rx : RelV x u) (ty : TyOf X.K H x t) (e : PySem.W.kitOne X.K t c = some b) (h : ∀ tk, Q (.bool b) { s with toks := tk }) :
    wpAny (model X.prog X.w) A (call (.builtin "isinstance") [u, c]) Q E s := by
  cases ty with
  | non => cases (show u = Value.none from rx); exact PySem.W.kia_one PySem.W.kitx_none I.kIn True.intro e (fun z => nomatch z) h
  | bl y => cases (show u = Value.bool y from rx); exact PySem.W.kia_one PySem.W.kitx_bool I.kIn True.intro e (fun z => nomatch z) h
  | int i => obtain ⟨t, q⟩ := (show ∃ t, u = Value.int i t from rx); cases q; exact PySem.W.kia_one PySem.W.kitx_int I.kIn True.intro e (fun z => nomatch z) h
  | str y => obtain ⟨t, q⟩ := (show ∃ t, u = Value.str y t from rx); cases q; exact PySem.W.kia_one PySem.W.kitx_str I.kIn True.intro e (fun z => nomatch z) h
  | flt y => obtain ⟨t, q⟩ := (show ∃ t, u = Value.float y t from rx); cases q; exact PySem.W.kia_one PySem.W.kitx_float I.kIn True.intro e (fun z => nomatch z) h
  | @lst a xs ea =>
    cases (show u = Value.ref a from rx)
    obtain ⟨_, _, n, _, h1⟩ := (show ObjOk X.prog X.w H s.heap a (.lst xs) from I.hok a _ ea)
    exact PySem.W.kia_one PySem.W.kitx_list I.kIn ⟨_, h1, rfl⟩ e (fun z => nomatch z) h
  | @frz a ob xs ea =>
    cases (show u = Value.ref a from rx)
    obtain ⟨_, _, _, n, _, h1⟩ := (show ObjOk X.prog X.w H s.heap a (.frz ob (.lst xs)) from I.hok a _ ea)
    exact PySem.W.kia_one PySem.W.kitx_list I.kIn ⟨_, h1, rfl⟩ e (fun z => nomatch z) h
  | @tup a xs ea =>
    cases (show u = Value.ref a from rx)
    obtain ⟨_, _, _, p⟩ := (show ObjOk X.prog X.w H s.heap a (.tup xs) from I.hok a _ ea)
    obtain ⟨o, h1, h2, _⟩ := p
    exact PySem.W.kia_one PySem.W.kitx_tuple I.kIn ⟨o, h1, h2⟩ e (fun z => nomatch z) h
  | @dK a kvs ea =>
    cases (show u = Value.ref a from rx)
    obtain ⟨_, _, vs, _, p⟩ := (show ObjOk X.prog X.w H s.heap a (.dK kvs) from I.hok a _ ea)
    obtain ⟨o, es, ep, h1, h2, _⟩ := p
    exact PySem.W.kia_one PySem.W.kitx_dict I.kIn ⟨o, h1, h2.1⟩ e (fun z => nomatch z) h
  | @dT a kvs ea =>
    cases (show u = Value.ref a from rx)
    obtain ⟨_, _, xs, _, o, es, ep, h1, h2, _⟩ := (show ObjOk X.prog X.w H s.heap a (.dT kvs) from I.hok a _ ea)
    exact PySem.W.kia_one PySem.W.kitx_dict I.kIn ⟨o, h1, h2.1⟩ e (fun z => nomatch z) h
  | @ins a C dx fs ea cl ha hn htk hm =>
    cases (show u = Value.ref a from rx)
    obtain ⟨mA, O, _⟩ := ins_get I.hok ea
    obtain ⟨od, J, _⟩ := O.look
    exact PySem.W.kia_one (PySem.W.kitx_own (cl.get _) cl.hd ha hn htk hm) I.kIn J e (fun z => nomatch z) h
end
end L2

namespace L2
open PySem PySem.Spec PyProof.Rows

/-! ### room -/
structure Room (k : Nat) (A : Around) : Prop where
  hd : A.handled = none
  dp : A.depth + 3 * k + 5 < recursionLimit
  un : A.units + 16 * k + 200 < cLine
theorem Room.mono {j k : Nat} {A : Around} (r : Room k A) (h : j ≤ k) : Room j A := ⟨r.hd, by have := r.dp; omega, by have := r.un; omega⟩
theorem Room.deeper {k : Nat} {A : Around} (r : Room (k + 1) A) (env : Env) : Room k (A.deeper env) :=
  ⟨r.hd, by have := r.dp; show A.depth + 1 + 3 * k + 5 < _; omega, by have := r.un; show A.units + 3 + 16 * k + 200 < _; omega⟩
theorem Room.in1 {k : Nat} {A : Around} (r : Room (k + 1) A) : Room k A.in1 :=
  ⟨r.hd, by have := r.dp; show A.depth + 3 * k + 5 < _; omega, by have := r.un; show A.units + 1 + 16 * k + 200 < _; omega⟩
theorem make_depth {A : Around} {C : Addr} {us : List Value} {kw : List (Str × Value)} : (A.under (.builtin "type.__call__" ⟨.ref C :: us, kw⟩)).depth = A.depth + 1 := by
  first | rfl | simp [Around.under, Code.weight, Code.isCreation, Code.isGuard, Code.isCaller, Code.frames, Code.isFrame, guardIds]
theorem make_units {A : Around} {C : Addr} {us : List Value} {kw : List (Str × Value)} : (A.under (.builtin "type.__call__" ⟨.ref C :: us, kw⟩)).units = A.units + 1 := by
  first | rfl | simp [Around.under, Code.cUnits, Code.frames, Code.isFrame]
theorem Room.make {k : Nat} {A : Around} (r : Room (k + 1) A) (C : Addr) (us : List Value) (kw : List (Str × Value)) : Room k (A.under (.builtin "type.__call__" ⟨.ref C :: us, kw⟩)) :=
  ⟨r.hd, by have := r.dp; rw [make_depth]; omega, by have := r.un; rw [make_units]; omega⟩
theorem Room.depth {k : Nat} {A : Around} (r : Room k A) : A.depth < recursionLimit := by have := r.dp; omega
theorem Room.units {k : Nat} {A : Around} (r : Room k A) : A.units + 64 < cLine := by have := r.un; omega
theorem Room.units0 {k : Nat} {A : Around} (r : Room k A) : A.units < cLine := by have := r.un; omega

/-! ### argument lists and displays -/
def tNil : TA := fun _ H Q => Q [] H
def tCons (ta : TE) (tr : TA) : TA := fun σ H Q => ta σ H fun x H1 => tr σ H1 fun xs H2 => Q (x :: xs) H2
section
variable {X : Cx} {e : Expr} {es : List Expr} {te : TE} {t : TA} {pos : Pos}
theorem pa_nil : PA X [] tNil := fun _ _ _ _ H Q I h => Calls.spliced_nil ⟨[], H, I, .nil, h⟩
theorem pa_cons (ha : PE X e te) (hr : PA X es t) (hs : starEach (e :: es) X.env = (false, eval e X.env) :: starEach es X.env := by rfl) : PA X (e :: es) (tCons te t) := by
  intro pos pins s σ H Q I h
  rw [hs]
  show wpAny _ _ (spliced ((false, eval e X.env) :: backTo pos (starEach es X.env))) _ _ s
  refine Calls.spliced_cons (thn (ha pins s σ H _ I h) fun u s1 ⟨x, H1, I1, r1, q1⟩ => ?_)
  exact thn (hr pos pins s1 σ H1 _ I1 q1) fun us s2 ⟨xs, H2, I2, r2, q2⟩ => ⟨x :: xs, H2, I2, .cons r1 r2, q2⟩

/-- a tuple, a list of written items -/
def tTup (t : TA) : TE := fun σ H Q => t σ H fun xs H1 => xs.length ≤ sizeLine ∧ ∀ p, H1 p = none → Q (.ref p) (upd H1 p (.tup xs))
def tLst (t : TA) : TE := fun σ H Q => t σ H fun xs H1 => xs.length ≤ sizeLine ∧ ∀ p, H1 p = none → Q (.ref p) (upd H1 p (.lst xs))
theorem pe_tup {x1} (h : PA X es t) : PE X (.Tuple es x1 pos) (tTup t) := by
  intro pins s σ H Q I hq
  refine wpAny_Tuple_spliced (thn (h pos pins s σ H _ I hq) fun us s1 ⟨xs, H1, I1, r, z, q⟩ => ⟨by rw [← r.length]; exact z, ?_⟩)
  have hf : H1 s1.heap.objs.size = none := I1.hok.fresh (Nat.le_refl _)
  refine ⟨.ref s1.heap.objs.size, upd H1 s1.heap.objs.size (.tup xs), I1.laid (t' := s1.toks) (fun b u e => Heap.get?_push_of_some _ e) (Nat.le_refl _) ?_, rfl, q _ hf⟩
  exact ⟨z, us, r, ⟨_, Heap.get?_push_size _ rfl, rfl, _, rfl⟩⟩
theorem pe_lst (h : PA X es t) : PE X (.List es pos) (tLst t) := by
  intro pins s σ H Q I hq
  refine wpAny_List_spliced (thn (h pos pins s σ H _ I hq) fun us s1 ⟨xs, H1, I1, r, z, q⟩ => ⟨by rw [← r.length]; exact z, ?_⟩)
  have hf : H1 s1.heap.objs.size = none := I1.hok.fresh (Nat.le_refl _)
  refine ⟨.ref s1.heap.objs.size, upd H1 s1.heap.objs.size (.lst xs), I1.laid (t' := s1.toks) (fun b u e => Heap.get?_push_of_some _ e) (Nat.le_refl _) ?_, rfl, q _ hf⟩
  exact ⟨z, us, 0, r, Heap.get?_push_size _ rfl⟩
end

/-! ### what a def promises -/
/-- a def's promise: the bound arguments in the parameters' order, the heap, the wanted end, the wanted exception -/
abbrev Sp := List V → Hp → VK → XK → Prop
/-- how an exception lies behind a call (file 08 gives it): the callers' frames, abstract heap and state ahead of the call, the wish, the exception, the state -/
abbrev CXT := List Env → Hp → Shared → XK → Value → Shared → Prop

/-- the state at a call -/
structure Env0 (P : Program) (w : World) (K : PySem.W.Frag) (mg : Str → Option Value) (base : Heap) (A : Around) (outer : List Env) (s : Shared) (H : Hp) : Prop where
  frames : A.frames = some outer
  mod : Mod K mg base
  bs : ∀ b o, base.get? b = some o → s.heap.get? b = some o ∧ H b = none
  bsz : base.objs.size ≤ s.heap.objs.size
  funs : s.heap.FunFrames base outer
  frf : ∀ b ∈ frs outer, H b = none
  hok : HOk P w H s.heap
  bare : AllBare s.gens
/-- a call's end -/
def CE (outer : List Env) (P : Program) (w : World) (H : Hp) (s : Shared) (Q : VK) (u : Value) (s' : Shared) : Prop :=
  ∃ v H', s'.os = s.os ∧ AllBare s'.gens ∧ Un (frs outer) [] H H' s.heap s'.heap ∧ HOk P w H' s'.heap ∧ RelV v u ∧ Q v H'
def CR (CX : CXT) (outer : List Env) (P : Program) (w : World) (H : Hp) (s : Shared) (Q : VK) (E : XK) (r : Result) (s' : Shared) : Prop :=
  match r with
  | .ok (.ret u) => CE outer P w H s Q u s'
  | .ok _ => False
  | .error e => CX outer H s E e s'
structure FnOk (P : Program) (w : World) (K : PySem.W.Frag) (mg : Str → Option Value) (base : Heap) (CX : CXT) (k : Nat) (f : Addr) (fd : FuncData) (ps : List Str) (sp : Sp) : Prop where
  len : ∀ vs H Q E, sp vs H Q E → vs.length = ps.length
  run : ∀ (A : Around) (outer : List Env) (s : Shared) (H : Hp) (args : Args) (us : List Value) (vs : List V) (Q : VK) (E : XK), Room k A → Env0 P w K mg base A outer s H → BindsTo s fd args (ps.zip us) → Vals vs us → sp vs H Q E →
    codeAny (model P w) A (.call (.ref f) args) (CR CX outer P w H s Q E) s
theorem FnOk.mono {P : Program} {w : World} {K : PySem.W.Frag} {mg : Str → Option Value} {base : Heap} {CX : CXT} {j k : Nat} {f : Addr} {fd : FuncData} {ps : List Str} {sp : Sp} (F : FnOk P w K mg base CX j f fd ps sp) (h : j ≤ k) :
    FnOk P w K mg base CX k f fd ps sp := ⟨F.len, fun A outer s H args us vs Q E hr => F.run A outer s H args us vs Q E (hr.mono h)⟩
/-- a weaker promise -/
theorem FnOk.imp {P : Program} {w : World} {K : PySem.W.Frag} {mg : Str → Option Value} {base : Heap} {CX : CXT} {k : Nat} {f : Addr} {fd : FuncData} {ps : List Str} {sp sp' : Sp} (F : FnOk P w K mg base CX k f fd ps sp)
    (h : ∀ vs H Q E, sp' vs H Q E → sp vs H Q E) : FnOk P w K mg base CX k f fd ps sp' :=
  ⟨fun vs H Q E q => F.len vs H Q E (h _ _ _ _ q), fun A outer s H args us vs Q E hr he hb hv hs => F.run A outer s H args us vs Q E hr he hb hv (h _ _ _ _ hs)⟩

theorem Env0.make {P : Program} {w : World} {K : PySem.W.Frag} {mg : Str → Option Value} {base : Heap} {A : Around} {outer : List Env} {s : Shared} {H : Hp} (e : Env0 P w K mg base A outer s H) (C : Addr) (us : List Value) (kw : List (Str × Value)) :
    Env0 P w K mg base (A.under (.builtin "type.__call__" ⟨.ref C :: us, kw⟩)) outer s H := ⟨by first | exact e.frames | (simpa [Around.under, Code.envs, Code.isFrame, pushEnvs] using e.frames), e.mod, e.bs, e.bsz, e.funs, e.frf, e.hok, e.bare⟩
theorem Env0.in1 {P : Program} {w : World} {K : PySem.W.Frag} {mg : Str → Option Value} {base : Heap} {A : Around} {outer : List Env} {s : Shared} {H : Hp} (e : Env0 P w K mg base A outer s H) :
    Env0 P w K mg base A.in1 outer s H := ⟨e.frames, e.mod, e.bs, e.bsz, e.funs, e.frf, e.hok, e.bare⟩

section
variable {X : Cx} {pins : List (Addr × Obj)} {σ : St} {H : Hp} {s s' : Shared}
/-- from a body: what a callee wants -/
theorem Inv.env0 (I : Inv X pins σ H s) : Env0 X.prog X.w X.K X.mg X.base X.A X.stack s H :=
  ⟨I.ok.frames, I.ok.mod, I.bs, Nat.le_trans I.ok.bsz I.sz, I.stack, I.stkFree, I.hok, I.bare⟩
/-- behind a call -/
theorem Inv.after {Q : VK} {u : Value} (I : Inv X pins σ H s) (h : CE X.stack X.prog X.w H s Q u s') : EP X pins σ Q u s' := by
  obtain ⟨v, H', os, bare, un, hok, r, q⟩ := h
  obtain ⟨hh, g, d, t, os'⟩ := s'
  obtain rfl : os' = s.os := os
  exact ⟨v, H', I.call (h' := hh) (g' := g) (d' := d) (t' := t) (ch := []) un hok bare (fun b z => absurd z (by simp)), r, q⟩
end

/-! ### calls -/
/-- f(..): the written arguments, then the defaults dvs; E: what is wanted of an exception -/
def tCall (sp : Sp) (dvs : List V) (E : XK) (t : TA) : TE := fun σ H Q => t σ H fun vs H1 => sp (vs ++ dvs) H1 Q E
/-- o.m(..) of an instance of the class at C -/
def tMeth (C : Addr) (m : Str) (sp : Sp) (dvs : List V) (E : XK) (ta : TE) (t : TA) : TE := fun σ H Q => ta σ H fun x H1 => ∃ a dx fs, x = .ref a ∧ H1 a = some (.ins C dx fs) ∧ fs.lookup m = none ∧
  t σ H1 fun vs H2 => sp (x :: (vs ++ dvs)) H2 Q E
/-- C(..): a new instance and its dict, then __init__ -/
def tMake (C : Addr) (sp : Sp) (dvs : List V) (E : XK) (t : TA) : TE := fun σ H Q => t σ H fun vs H1 => ∀ x dx, H1 x = none → H1 dx = none → dx ≠ x →
  sp (.ref x :: (vs ++ dvs)) (upd (upd H1 dx (.own x)) x (.ins C dx [])) (fun v H2 => v = .non ∧ Q (.ref x) H2) E

/-- how the parameters are bound: us the positional arguments, kw the keywords' values by name, ds the defaults that fill up -/
def Binds (K : PySem.W.Frag) (fd : FuncData) (ps : List Str) (ds : List Value) : Prop :=
  ∀ (s : Shared) (us : List Value), K.In s.heap → (us ++ ds).length = ps.length → BindsTo s fd ⟨us, []⟩ (ps.zip (us ++ ds))
/-- every parameter is given -/
theorem Binds.all {K : PySem.W.Frag} {fd : FuncData} {ps : List Str} (h : ∀ us : List Value, us.length = ps.length → bindArgs fd ⟨us, []⟩ = pure (ps.zip us)) : Binds K fd ps [] := fun s us _ hl => by
  rw [List.append_nil] at hl ⊢
  exact .of_eq (h us hl)

/-- an exception of a callee reaches what this body wants of exceptions -/
def Passes (CX : CXT) (X : Cx) (E : XK) : Prop := ∀ (pins : List (Addr × Obj)) (σ : St) (H : Hp) (s : Shared) (e : Value) (s' : Shared), Inv X pins σ H s → CX X.stack H s E e s' → X.xe e s'

section
variable {X : Cx} {CX : CXT} {k : Nat} {f C : Addr} {fd : FuncData} {ps : List Str} {sp : Sp} {dvs : List V} {ds : List Value} {E : XK} {x m : Str} {p pos apos : Pos} {e o : Expr} {es : List Expr} {ta : TE} {t : TA}

/-- the callee runs -/
theorem run_fn {pins : List (Addr × Obj)} {σ : St} {H : Hp} {s : Shared} {Q : VK} {us : List Value} {vs : List V} (F : FnOk X.prog X.w X.K X.mg X.base CX k f fd ps sp) (hr : Room k X.A) (hb : Binds X.K fd ps ds) (hd : Vals dvs ds) (hx : Passes CX X E)
    (I : Inv X pins σ H s) (r : Vals vs us) (h : sp (vs ++ dvs) H Q E) : wpAny (model X.prog X.w) X.A (call (.ref f) us) (EP X pins σ Q) X.xe s := by
  have r2 : Vals (vs ++ dvs) (us ++ ds) := r.append hd
  have hl : (us ++ ds).length = ps.length := by rw [← r2.length]; exact F.len _ _ _ _ h
  refine wpAny_call (codeAny_mono (F.run X.A X.stack s H ⟨us, []⟩ (us ++ ds) (vs ++ dvs) Q E hr I.env0 (hb s us I.kIn hl) r2 h) fun r s' hq => ?_)
  cases r with
  | error e => exact hx pins σ H s e s' I hq
  | ok fl =>
    cases fl with
    | ret u => exact I.after hq
    | next => exact False.elim hq
    | brk => exact False.elim hq
    | cont => exact False.elim hq

theorem pe_call (F : FnOk X.prog X.w X.K X.mg X.base CX k f fd ps sp) (hr : Room k X.A) (hg : Gl X x) (hm : X.mg x = some (.ref f)) (hk : PySem.W.keepIn X.K (.ref f) = true) (hb : Binds X.K fd ps ds) (hd : Vals dvs ds) (hx : Passes CX X E)
    (ha : PA X (e :: es) t) (hdb : (x == ("__debug__" : Str)) = false := by decide) (he : starEach (e :: es) X.env = (false, eval e X.env) :: starEach es X.env := by rfl) (hpl : (backTo pos (starEach es X.env)).any (·.1) = false := by rfl) :
    PE X (.Call (.Name x p) (e :: es) [] pos) (tCall sp dvs E t) := by
  intro pins s σ H Q I h
  refine wpAny_Call_Name_kw (ld_glob I hg hm ?_ hdb)
  refine PySem.W.callWith_K (h₀ := X.base) I.ok.mod.kin hk (thn (ha pos pins s σ H _ I h) fun us s1 ⟨vs, H1, I1, r, q⟩ => ⟨I1.kIn, ?_⟩) he hpl
  exact run_fn F hr hb hd hx I1 r q
theorem pe_call0 (F : FnOk X.prog X.w X.K X.mg X.base CX k f fd ps sp) (hr : Room k X.A) (hg : Gl X x) (hm : X.mg x = some (.ref f)) (hk : PySem.W.keepIn X.K (.ref f) = true) (hb : Binds X.K fd ps ds) (hd : Vals dvs ds) (hx : Passes CX X E)
    (hdb : (x == ("__debug__" : Str)) = false := by decide) : PE X (.Call (.Name x p) [] [] pos) (tCall sp dvs E tNil) := by
  intro pins s σ H Q I h
  refine wpAny_Call_Name_kw (ld_glob I hg hm ?_ hdb)
  exact PySem.W.callWith_K0 I.kIn hk (run_fn (us := []) F hr hb hd hx I .nil h)

/-- o.m(e, ..) -/
theorem pe_meth {pl : Sem Bool} (he : PE X o ta) (c : Cls X.K C) (hm : Meth X.K C m f) (F : FnOk X.prog X.w X.K X.mg X.base CX k f fd ps sp) (hr : Room k X.A) (hb : Binds X.K fd ps ds) (hd : Vals dvs ds) (hx : Passes CX X E) (ha : PA X (e :: es) t)
    (hst : starEach (e :: es) X.env = (false, eval e X.env) :: starEach es X.env := by rfl) (hpl : (backTo pos (starEach es X.env)).any (·.1) = false := by rfl)
    (ht : eval (.Call (.Attribute o m apos) (e :: es) [] pos) X.env = (do
      let ov ← eval o X.env
      standAt apos.atName
      let (f, first) ← holding [ov] (getMethod ov m pl)
      callWith pos f first (backTo pos (starEach (e :: es) X.env)) (backToKw pos (keywordEach [] X.env))) := by rfl) :
    PE X (.Call (.Attribute o m apos) (e :: es) [] pos) (tMeth C m sp dvs E ta t) := by
  intro pins s σ H Q I h
  refine PySem.W.methodCall_KW (pl := pl) (thn (he pins s σ H _ I h) fun u s1 ⟨x, H1, I1, rx, a, dx, fs, ex, ea, l, q⟩ => ?_) ht
  subst ex
  obtain rfl : u = Value.ref a := rx
  refine getmeth_ok I1 ea c hm l ?_
  refine PySem.W.callWith_K (first := [.ref a]) (h₀ := X.base) I.ok.mod.kin hm.kp (thn (ha pos pins s1 σ H1 _ I1 q) fun us s2 ⟨vs, H2, I2, r, q2⟩ => ⟨I2.kIn, ?_⟩) hst hpl
  exact run_fn (us := .ref a :: us) (vs := .ref a :: vs) F hr hb hd hx I2 (.cons rfl r) q2
/-- o.m() -/
theorem pe_meth0 {pl : Sem Bool} (he : PE X o ta) (c : Cls X.K C) (hm : Meth X.K C m f) (F : FnOk X.prog X.w X.K X.mg X.base CX k f fd ps sp) (hr : Room k X.A) (hb : Binds X.K fd ps ds) (hd : Vals dvs ds) (hx : Passes CX X E)
    (ht : eval (.Call (.Attribute o m apos) [] [] pos) X.env = (do
      let ov ← eval o X.env
      standAt apos.atName
      let (f, first) ← holding [ov] (getMethod ov m pl)
      callWith pos f first (backTo pos (starEach [] X.env)) (backToKw pos (keywordEach [] X.env))) := by rfl) :
    PE X (.Call (.Attribute o m apos) [] [] pos) (tMeth C m sp dvs E ta tNil) := by
  intro pins s σ H Q I h
  refine PySem.W.methodCall_KW (pl := pl) (thn (he pins s σ H _ I h) fun u s1 ⟨x, H1, I1, rx, a, dx, fs, ex, ea, l, q⟩ => ?_) ht
  subst ex
  obtain rfl : u = Value.ref a := rx
  refine getmeth_ok I1 ea c hm l ?_
  exact PySem.W.callWith_K0 (first := [.ref a]) I1.kIn hm.kp (run_fn (us := [.ref a]) (vs := [.ref a]) F hr hb hd hx I1 (.cons rfl .nil) q)

/-- what a class must have to be made -/
structure Mk (K : PySem.W.Frag) (C f : Addr) : Prop where
  makes : PySem.W.makesIn K C = true
  init : PySem.W.findIn K (.ref C) "__init__" = some (some (.ref f))
  fn : PySem.W.isFn K (.ref f) = true
  kp : PySem.W.keepIn K (.ref C) = true

theorem run_make {pins : List (Addr × Obj)} {σ : St} {H : Hp} {s : Shared} {Q : VK} {us : List Value} {vs : List V} (M : Mk X.K C f) (F : FnOk X.prog X.w X.K X.mg X.base CX k f fd ps sp) (hr : Room (k + 1) X.A) (hb : Binds X.K fd ps ds) (hd : Vals dvs ds)
    (hx : Passes CX X E) (I : Inv X pins σ H s) (r : Vals vs us)
    (h : ∀ x dx, H x = none → H dx = none → dx ≠ x → sp (.ref x :: (vs ++ dvs)) (upd (upd H dx (.own x)) x (.ins C dx [])) (fun v H2 => v = .non ∧ Q (.ref x) H2) E) :
    wpAny (model X.prog X.w) X.A (call (.ref C) us) (EP X pins σ Q) X.xe s := by
  have hq := h (s.heap.objs.size + 1) s.heap.objs.size (I.hok.fresh (Nat.le_succ _)) (I.hok.fresh (Nat.le_refl _)) (Nat.ne_of_lt (Nat.lt_succ_self _))
  have I2 := Inv.made (C := C) I
  have r2 : Vals (V.ref (s.heap.objs.size + 1) :: (vs ++ dvs)) (Value.ref (s.heap.objs.size + 1) :: (us ++ ds)) := .cons rfl (r.append hd)
  have hl : (Value.ref (s.heap.objs.size + 1) :: us ++ ds).length = ps.length := by
    have e := r2.length
    rw [F.len _ _ _ _ hq] at e
    exact e.symm
  refine wpAny_call (make_map (f := f) I.kIn M.makes M.init (beq_iff_eq.mp M.fn) (codeAny_mono (F.run _ X.stack _ _ ⟨Value.ref (s.heap.objs.size + 1) :: us, []⟩ (Value.ref (s.heap.objs.size + 1) :: (us ++ ds)) _ _ E (hr.make C us [])
    (I2.env0.make C us []) (hb _ (Value.ref (s.heap.objs.size + 1) :: us) I2.kIn hl) r2 hq) fun r s' hq' => ?_))
  cases r with
  | error e => exact hx pins σ _ _ e s' I2 hq'
  | ok fl =>
    cases fl with
    | ret u =>
      obtain ⟨v, H', I3, rv, ev, q3⟩ := I2.after hq'
      subst ev
      exact ⟨rv, ⟨V.ref (s.heap.objs.size + 1), H', I3, rfl, q3⟩⟩
    | next => exact False.elim hq'
    | brk => exact False.elim hq'
    | cont => exact False.elim hq'
theorem pe_make (M : Mk X.K C f) (F : FnOk X.prog X.w X.K X.mg X.base CX k f fd ps sp) (hr : Room (k + 1) X.A) (hg : Gl X x) (hm : X.mg x = some (.ref C)) (hb : Binds X.K fd ps ds) (hd : Vals dvs ds) (hx : Passes CX X E)
    (ha : PA X (e :: es) t) (hdb : (x == ("__debug__" : Str)) = false := by decide) (he : starEach (e :: es) X.env = (false, eval e X.env) :: starEach es X.env := by rfl) (hpl : (backTo pos (starEach es X.env)).any (·.1) = false := by rfl) :
    PE X (.Call (.Name x p) (e :: es) [] pos) (tMake C sp dvs E t) := by
  intro pins s σ H Q I h
  refine wpAny_Call_Name_kw (ld_glob I hg hm ?_ hdb)
  refine PySem.W.callWith_K (h₀ := X.base) I.ok.mod.kin M.kp (thn (ha pos pins s σ H _ I h) fun us s1 ⟨vs, H1, I1, r, q⟩ => ⟨I1.kIn, ?_⟩) he hpl
  exact run_make M F hr hb hd hx I1 r q
theorem pe_make0 (M : Mk X.K C f) (F : FnOk X.prog X.w X.K X.mg X.base CX k f fd ps sp) (hr : Room (k + 1) X.A) (hg : Gl X x) (hm : X.mg x = some (.ref C)) (hb : Binds X.K fd ps ds) (hd : Vals dvs ds) (hx : Passes CX X E)
    (hdb : (x == ("__debug__" : Str)) = false := by decide) : PE X (.Call (.Name x p) [] [] pos) (tMake C sp dvs E tNil) := by
  intro pins s σ H Q I h
  refine wpAny_Call_Name_kw (ld_glob I hg hm ?_ hdb)
  exact PySem.W.callWith_K0 I.kIn M.kp (run_make (us := []) M F hr hb hd hx I .nil h)
end

/-! ### keywords -/
/-- the values of the keywords, from the left -/
def PK (X : Cx) (kws : List Keyword) (t : TA) : Prop :=
  ∀ (pos : Pos) (pins : List (Addr × Obj)) (s : Shared) (σ : St) (H : Hp) (Q : List V → Hp → Prop), Inv X pins σ H s → t σ H Q → wpAny (model X.prog X.w) X.A (evalAll ((backToKw pos (keywordEach kws X.env)).map (·.2))) (AP X pins σ Q) X.xe s
section
variable {X : Cx} {CX : CXT} {k : Nat} {f C : Addr} {fd : FuncData} {ps ks : List Str} {sp : Sp} {E : XK} {x m : Str} {p pos apos kpos : Pos} {e o : Expr} {es : List Expr} {kws : List Keyword} {te ta : TE} {t tk : TA} {nm : Option Str}
theorem pk_nil : PK X [] tNil := fun _ _ _ _ H Q I h => wpAny_evalAll_nil ⟨[], H, I, .nil, h⟩
theorem pk_cons (ha : PE X e te) (hr : PK X kws t) : PK X (⟨nm, e, kpos⟩ :: kws) (tCons te t) := by
  intro pos pins s σ H Q I h
  show wpAny _ _ (evalAll ((do let v ← eval e X.env; standAt pos; pure v) :: (backToKw pos (keywordEach kws X.env)).map (·.2))) _ _ s
  refine wpAny_evalAll_cons (wpAny_bind (thn (ha pins s σ H _ I h) fun u s1 ⟨x, H1, I1, r1, q1⟩ => wpAny_bind (wpAny_standAt (wpAny_pure ?_))))
  exact thn (hr pos pins s1 σ H1 _ I1 q1) fun us s2 ⟨xs, H2, I2, r2, q2⟩ => ⟨x :: xs, H2, I2, .cons r1 r2, q2⟩

/-- how a call with keywords binds: g puts the positional values us and the keywords' values ws (names ks) in the parameters' order, defaults among them -/
structure KBinds (K : PySem.W.Frag) (fd : FuncData) (ps ks : List Str) (g : List Value → List Value → List Value) (gV : List V → List V → List V) : Prop where
  to : ∀ (s : Shared) (us ws : List Value), K.In s.heap → (g us ws).length = ps.length → BindsTo s fd ⟨us, ks.zip ws⟩ (ps.zip (g us ws))
  rel : ∀ {vs : List V} {us : List Value} {zs : List V} {ws : List Value}, Vals vs us → Vals zs ws → Vals (gV vs zs) (g us ws)
def tCallK (sp : Sp) (gV : List V → List V → List V) (E : XK) (t tk : TA) : TE := fun σ H Q => t σ H fun vs H1 => tk σ H1 fun zs H2 => sp (gV vs zs) H2 Q E
variable {g : List Value → List Value → List Value} {gV : List V → List V → List V}
theorem run_fnk {pins : List (Addr × Obj)} {σ : St} {H : Hp} {s : Shared} {Q : VK} {us ws : List Value} {vs zs : List V} (F : FnOk X.prog X.w X.K X.mg X.base CX k f fd ps sp) (hr : Room k X.A) (hb : KBinds X.K fd ps ks g gV) (hx : Passes CX X E)
    (I : Inv X pins σ H s) (r : Vals vs us) (rz : Vals zs ws) (h : sp (gV vs zs) H Q E) : wpAny (model X.prog X.w) X.A (call (.ref f) us (ks.zip ws)) (EP X pins σ Q) X.xe s := by
  have r2 := hb.rel r rz
  have hl : (g us ws).length = ps.length := by rw [← r2.length]; exact F.len _ _ _ _ h
  refine wpAny_call (codeAny_mono (F.run X.A X.stack s H ⟨us, ks.zip ws⟩ (g us ws) (gV vs zs) Q E hr I.env0 (hb.to s us ws I.kIn hl) r2 h) fun r s' hq => ?_)
  cases r with
  | error e => exact hx pins σ H s e s' I hq
  | ok fl =>
    cases fl with
    | ret u => exact I.after hq
    | next => exact False.elim hq
    | brk => exact False.elim hq
    | cont => exact False.elim hq
/-- f(e, .., k = v, ..) -/
theorem pe_callK (F : FnOk X.prog X.w X.K X.mg X.base CX k f fd ps sp) (hr : Room k X.A) (hg : Gl X x) (hm : X.mg x = some (.ref f)) (hk : PySem.W.keepIn X.K (.ref f) = true) (hb : KBinds X.K fd ps ks g gV) (hx : Passes CX X E)
    (ha : PA X (e :: es) t) (hkw : PK X kws tk) (hall : (backToKw pos (keywordEach kws X.env)).all (·.1.isSome) = true := by rfl) (hks : (backToKw pos (keywordEach kws X.env)).filterMap (·.1) = ks := by rfl)
    (hdb : (x == ("__debug__" : Str)) = false := by decide) (he : starEach (e :: es) X.env = (false, eval e X.env) :: starEach es X.env := by rfl)
    (hpl : ((backTo pos (starEach (e :: es) X.env)).any (·.1) || (backToKw pos (keywordEach kws X.env)).any (·.1.isNone)) = false := by rfl) :
    PE X (.Call (.Name x p) (e :: es) kws pos) (tCallK sp gV E t tk) := by
  intro pins s σ H Q I h
  refine wpAny_Call_Name_kw (ld_glob I hg hm ?_ hdb)
  refine PySem.W.callWith_KW (h₀ := X.base) I.ok.mod.kin hk hall (thn (ha pos pins s σ H _ I h) fun us s1 ⟨vs, H1, I1, r, q⟩ => ?_) hpl he
  refine thn (hkw pos pins s1 σ H1 _ I1 q) fun ws s2 ⟨zs, H2, I2, rz, q2⟩ => ⟨I2.kIn, ?_⟩
  rw [hks]
  exact run_fnk F hr hb hx I2 r rz q2
end

/-! ### a def's body keeps its promise -/
/-- names: the parameters first -/
structure FnScope (N P : List Str) (sc : Scope) : Prop where
  kind : sc.kind = .function
  co : sc.isCoroutine = false
  gen : sc.isGenerator = false
  nd : N.Nodup
  pre : N.take P.length = P
  par : ∀ x ∈ P, sc.names.lookup x = some .local ∨ sc.names.lookup x = some .cell
  nofree : ∀ y ∈ sc.names, y.2 ≠ .free

theorem bindL_out {kindOf : Str → Option NameKind} {x : Str} : ∀ {binds : List (Str × Value)} {m : Str → Option Value}, (∀ v, (x, v) ∉ binds) → bindL kindOf binds m x = m x
  | [], _, _ => rfl
  | (n, v) :: r, m, h => by
    unfold bindL
    rw [bindL_out fun w hw => h w (List.mem_cons_of_mem _ hw)]
    split
    · have : x ≠ n := by rintro rfl; exact h v List.mem_cons_self
      simp [this]
    · rfl
theorem bindC_out {kindOf : Str → Option NameKind} {x : Str} : ∀ {binds : List (Str × Value)} {m : Str → Option Value}, (∀ v, (x, v) ∉ binds) → bindC kindOf binds m x = m x
  | [], _, _ => rfl
  | (n, v) :: r, m, h => by
    unfold bindC
    rw [bindC_out fun w hw => h w (List.mem_cons_of_mem _ hw)]
    split
    · rfl
    · have : x ≠ n := by rintro rfl; exact h v List.mem_cons_self
      simp [this]
theorem bindL_get {kindOf : Str → Option NameKind} {x : Str} {v : Value} : ∀ {P : List Str} {vs : List Value} {i : Nat} {m : Str → Option Value}, P.Nodup → P[i]? = some x → vs[i]? = some v → kindOf x = some .local →
    bindL kindOf (P.zip vs) m x = some v
  | [], _, _, _, _, h, _, _ => by simp at h
  | _ :: _, [], _, _, _, _, h, _ => by simp at h
  | p :: P, w :: vs, 0, m, nd, h1, h2, hk => by
    simp at h1 h2; subst h1; subst h2
    show bindL kindOf ((p, w) :: P.zip vs) m p = _
    unfold bindL
    rw [bindL_out fun v hv => (List.nodup_cons.mp nd).1 (List.of_mem_zip hv).1, if_pos hk]
    simp
  | p :: P, w :: vs, i + 1, m, nd, h1, h2, hk => by
    show bindL kindOf ((p, w) :: P.zip vs) m x = _
    unfold bindL
    exact bindL_get (i := i) (List.nodup_cons.mp nd).2 (by simpa using h1) (by simpa using h2) hk
theorem bindC_get {kindOf : Str → Option NameKind} {x : Str} {v : Value} : ∀ {P : List Str} {vs : List Value} {i : Nat} {m : Str → Option Value}, P.Nodup → P[i]? = some x → vs[i]? = some v → kindOf x ≠ some .local →
    bindC kindOf (P.zip vs) m x = some v
  | [], _, _, _, _, h, _, _ => by simp at h
  | _ :: _, [], _, _, _, _, h, _ => by simp at h
  | p :: P, w :: vs, 0, m, nd, h1, h2, hk => by
    simp at h1 h2; subst h1; subst h2
    show bindC kindOf ((p, w) :: P.zip vs) m p = _
    unfold bindC
    rw [bindC_out fun v hv => (List.nodup_cons.mp nd).1 (List.of_mem_zip hv).1, if_neg hk]
    simp
  | p :: P, w :: vs, i + 1, m, nd, h1, h2, hk => by
    show bindC kindOf ((p, w) :: P.zip vs) m x = _
    unfold bindC
    exact bindC_get (i := i) (List.nodup_cons.mp nd).2 (by simpa using h1) (by simpa using h2) hk

/-- the names' values at the entry -/
def start (N : List Str) (vs : List V) : St := vs.map some ++ List.replicate (N.length - vs.length) none

/-- the context of a def's body, at its entry; an exception leaves the frame, then lies as CX says -/
def cxOf (CX : CXT) (P : Program) (w : World) (K : PySem.W.Frag) (mg : Str → Option Value) (base : Heap) (N : List Str) (qual : Str) (scope : Scope) (f : Addr) (cd : Value) (A : Around) (outer : List Env) (s : Shared) (H : Hp) (E : XK) : Cx where
  prog := P
  w := w
  K := K
  mg := mg
  base := base
  A := A.deeper (envOfC qual scope s.heap.objs.size f cd)
  N := N
  s₀ := s
  H₀ := H
  env := envOfC qual scope s.heap.objs.size f cd
  outer := outer
  stack := envOfC qual scope s.heap.objs.size f cd :: outer
  ex := []
  calm := true
  fn := fun _ => true
  pn := []
  xe := fun e s' => wpAny (model P w) (A.deeper (envOfC qual scope s.heap.objs.size f cd)) (leaving (envOfC qual scope s.heap.objs.size f cd) e) (fun _ s'' => CX outer H s E e s'') (fun e' s'' => CX outer H s E e' s'') s'

theorem cell_has {sc : Scope} {n : Nat} {x : Str} (h : sc.names.lookup x = some .cell) : ∃ c, (cellsFrom n sc.names []).lookup x = some c := by
  have q := PySem.W.cellsFrom_some sc.names n [] (.inl h)
  exact Option.isSome_iff_exists.mp q

theorem inv_start {CX : CXT} {P : Program} {w : World} {K : PySem.W.Frag} {mg : Str → Option Value} {base : Heap} {N ps : List Str} {qual : Str} {scope : Scope} {f : Addr} {cd : Value} {A : Around} {outer : List Env} {s s1 : Shared} {H : Hp} {E : XK} {us : List Value} {vs : List V}
    (S : FnScope N ps scope) (hd : A.handled = none) (e0 : Env0 P w K mg base A outer s H) (hl : vs.length = ps.length) (r : Vals vs us)
    (x : InCallC s s.heap.objs.size (bindL (envOfC qual scope s.heap.objs.size f cd).kindOf (ps.zip us) fun _ => none) (cellsFrom (s.heap.objs.size + 1) scope.names []) (bindC (envOfC qual scope s.heap.objs.size f cd).kindOf (ps.zip us) fun _ => none) s1) :
    Inv (cxOf CX P w K mg base N qual scope f cd A outer s H E) [] (start N vs) H s1 := by
  have hpl : ps.length ≤ N.length := by have := congrArg List.length S.pre; rw [List.length_take] at this; omega
  obtain ⟨h1, tk, rfl, hk⟩ := x.done
  have noA : ∀ b : Addr, b ∉ (cxOf CX P w K mg base N qual scope f cd A outer s H E).ex := fun b z => absurd (show b ∈ ([] : List Addr) from z) (by simp)
  refine ⟨⟨e0.mod, S.kind, rfl, rfl, Nat.le_refl _, fun y z c h1 h2 => ?_, fun y hy => ?_, fun y c _ h => ?_, fun _ => hd, Around.frames_deeper e0.frames, .inr ⟨rfl, rfl⟩, fun b z => absurd z (noA b), e0.bs, e0.bsz, fun b _ _ => noA b, fun b z => absurd z (noA b), e0.funs, e0.frf⟩,
    rfl, e0.bare, Un.kept hk, ⟨_, x.toInCall.ns, fun i y v h1 h2 h3 => ?_⟩, fun y c h => ⟨_, x.cell y c h⟩, e0.hok.fresh (Nat.le_refl _), fun y c h => ?_, fun p hp => absurd (show p ∈ ([] : List (Addr × Obj)) from hp) (by simp), e0.hok.kept hk, ?_⟩
  · exact name_of_addr x.apart (PySem.mem_of_lookup h1) (PySem.mem_of_lookup h2)
  · have hy : scope.names.lookup y = some .cell ∨ scope.names.lookup y = some .free := hy
    rcases hy with hy | hy
    · exact cell_has hy
    · exact absurd rfl (S.nofree _ (PySem.mem_of_lookup hy))
  · exact Nat.le_of_lt (x.above y c (PySem.mem_of_lookup h))
  · have hi : i < vs.length := by
      unfold start at h2
      by_cases hi : i < vs.length
      · exact hi
      · rw [List.getElem?_append_right (by simpa using hi)] at h2
        rw [List.getElem?_replicate] at h2
        split at h2 <;> cases h2
    have ha : vs[i]? = some v := by
      unfold start at h2
      rw [List.getElem?_append_left (by simpa using hi), List.getElem?_map] at h2
      cases e : vs[i]? with
      | none => rw [e] at h2; cases h2
      | some a => rw [e] at h2; cases h2; rfl
    obtain ⟨u, hu, rv⟩ := r.get ha
    have hp : ps[i]? = some y := by
      rw [← S.pre, List.getElem?_take_of_lt (by omega)]; exact h1
    have ndP : ps.Nodup := by rw [← S.pre]; exact S.nd.sublist (List.take_sublist _ _)
    refine ⟨u, rv, ?_⟩
    rcases S.par y (List.mem_of_getElem? hp) with k | k
    · exact .inl ⟨k, bindL_get ndP hp hu k⟩
    · obtain ⟨c, e⟩ := cell_has (n := s.heap.objs.size + 1) k
      refine .inr ⟨.inl k, c, e, ?_⟩
      have q := x.cell y c e
      rw [bindC_get ndP hp hu (by show scope.names.lookup y ≠ _; rw [k]; decide)] at q
      exact q
  · exact e0.hok.fresh (Nat.le_of_lt (x.above y c (PySem.mem_of_lookup h)))
  · unfold start
    show _ = N.length
    rw [List.length_append, List.length_map, List.length_replicate]
    omega

/-- THE RULE: a def (or a method) of the text, by its body. The body's reading t is chosen for each entry; it is run at the parameters' values -/
theorem fn_of {CX : CXT} {P : Program} {w : World} {K : PySem.W.Frag} {mg : Str → Option Value} {base : Heap} {k : Nat} {f : Addr} {name qual : Str} {params : Arguments} {body : List Stmt} {scope : Scope} {dV kV doc pm cdv ct oc : Value} {an od : Option Addr}
    {osl : Array (Option Value)} {N ps : List Str} {sp : Sp} (lk : K.lookup f = some ⟨oc, od, .func (PySem.W.fnOf name qual params body scope dV kV doc pm an cdv ct), osl⟩) (hcd : PySem.W.codeIn K cdv qual = true) (S : FnScope N ps scope)
    (len : ∀ vs H Q E, sp vs H Q E → vs.length = ps.length)
    (hbody : ∀ (A : Around) (outer : List Env) (s : Shared) (H : Hp) (vs : List V) (Q : VK) (E : XK), Room k (A.deeper (envOfC qual scope s.heap.objs.size f cdv)) → sp vs H Q E →
      ∃ t, PSs (cxOf CX P w K mg base N qual scope f cdv A outer s H E) body t ∧ t { nx := fun _ H' => Q .non H', rt := Q } (start N vs) H) :
    FnOk P w K mg base CX (k + 1) f (PySem.W.fnOf name qual params body scope dV kV doc pm an cdv ct) ps sp := by
  refine ⟨len, fun A outer s H args us vs Q E hr e0 hb r hsp => ?_⟩
  have hl := len _ _ _ _ hsp
  have KX : K.In s.heap := e0.mod.kin.keeps fun b o e => (e0.bs b o e).1
  have lim : s.heap.NoLimit := e0.mod.nolimit.keeps fun b o e => (e0.bs b o e).1
  have hkind : ∀ y ∈ ps.zip us, scope.names.lookup y.1 = some .local ∨ (scope.names.lookup y.1 = some .cell ∧ ((cellsFrom (s.heap.objs.size + 1) scope.names []).lookup y.1).isSome = true) := fun ⟨n, v⟩ hy => by
    rcases S.par n (List.of_mem_zip hy).1 with q | q
    · exact .inl q
    · exact .inr ⟨q, PySem.W.cellsFrom_some _ _ _ (.inl q)⟩
  refine codeAny_call_function hr.depth (KX _ _ lk) rfl S.co S.gen rfl (PySem.W.codeRec_of KX hcd) (hb _ _ _ _ ?_)
  refine wpAny_newFunctionEnv_cells S.kind hkind fun env he s1 x => ?_
  subst he
  refine ⟨lim.keeps x.toInCall.keep, codeAny_func ?_⟩
  obtain ⟨t, ht, hq⟩ := hbody A outer s H vs Q E (hr.deeper _) hsp
  have I : Inv (cxOf CX P w K mg base N qual scope f cdv A outer s H E) [] (start N vs) H s1 := inv_start S hr.hd e0 hl r x
  refine wpAny_mono (ht [] s1 (start N vs) H _ I hq) (fun fl s' hs => ?_) fun e s' hs => hs
  have fin : ∀ {σ' : St} {H' : Hp} {v : V} {u : Value}, Inv (cxOf CX P w K mg base N qual scope f cdv A outer s H E) [] σ' H' s' → RelV v u → Q v H' → CE outer P w H s Q u s' :=
    fun {σ' H' v u} J rv q => ⟨v, H', J.os, J.bare, J.base, J.hok, rv, q⟩
  cases fl with
  | ret u =>
    obtain ⟨v, σ', H', J, rv, q⟩ := hs
    exact fin J rv q
  | next =>
    obtain ⟨σ', H', J, q⟩ := hs
    exact fin (v := V.non) (u := Value.none) J rfl q
  | brk =>
    obtain ⟨_, _, _, q⟩ := hs
    exact False.elim q
  | cont =>
    obtain ⟨_, _, _, q⟩ := hs
    exact False.elim q
end L2

namespace L2
open PySem PySem.Spec PyProof.Rows
section
variable {X : Cx} {x : Str} {p pos : Pos} {e : Expr} {es : List Expr} {t : TA} {id T : String} {r : List V → Hp → VK → Prop}

def tCB (r : List V → Hp → VK → Prop) (t : TA) : TE := fun σ H Q => t σ H fun vs H1 => r vs H1 Q
/-- f(e, ..), f a built-in function -/
theorem pe_callB (hc : CallR X (.builtin id) r) (hg : Gl X x) (hm : X.mg x = none) (hv : bootBuiltins x = some (.builtin id)) (ha : PA X (e :: es) t) (hn : x ≠ "__name__" := by decide) (hdb : (x == ("__debug__" : Str)) = false := by decide)
    (he : starEach (e :: es) X.env = (false, eval e X.env) :: starEach es X.env := by rfl) (hpl : (backTo pos (starEach es X.env)).any (·.1) = false := by rfl) : PE X (.Call (.Name x p) (e :: es) [] pos) (tCB r t) := by
  intro pins s σ H Q I h
  refine wpAny_Call_Name_kw (ld_blt I hg hm hv ?_ hn hdb)
  exact PyProof.Rows.callWith_builtin1 (thn (ha pos pins s σ H _ I h) fun us s1 ⟨vs, H1, I1, r1, q1⟩ => hc pins s1 σ H1 vs us Q I1 r1 q1) he hpl
/-- T(e, ..), T a built-in type -/
theorem pe_callTy (hc : CallR X (.type T) r) (hg : Gl X x) (hm : X.mg x = none) (hv : bootBuiltins x = some (.type T)) (ha : PA X (e :: es) t) (hn : x ≠ "__name__" := by decide) (hdb : (x == ("__debug__" : Str)) = false := by decide)
    (he : starEach (e :: es) X.env = (false, eval e X.env) :: starEach es X.env := by rfl) (hpl : (backTo pos (starEach es X.env)).any (·.1) = false := by rfl) : PE X (.Call (.Name x p) (e :: es) [] pos) (tCB r t) := by
  intro pins s σ H Q I h
  refine wpAny_Call_Name_kw (ld_blt I hg hm hv ?_ hn hdb)
  exact PyProof.Rows.callWith_type1 (thn (ha pos pins s σ H _ I h) fun us s1 ⟨vs, H1, I1, r1, q1⟩ => hc pins s1 σ H1 vs us Q I1 r1 q1) he hpl
/-- T() -/
theorem pe_callTy0 (hc : CallR X (.type T) r) (hg : Gl X x) (hm : X.mg x = none) (hv : bootBuiltins x = some (.type T)) (hn : x ≠ "__name__" := by decide) (hdb : (x == ("__debug__" : Str)) = false := by decide) :
    PE X (.Call (.Name x p) [] [] pos) (tCB r tNil) := by
  intro pins s σ H Q I h
  refine wpAny_Call_Name_kw (ld_blt I hg hm hv ?_ hn hdb)
  exact PyProof.Rows.callWith_type0 (hc pins s σ H [] [] Q I .nil h)
end
end L2

namespace HT
open PySem PyProof.Rows

/-- t < u of tuples of ints -/
def lexLt : List Int → List Int → Bool
  | [], [] => false
  | [], _ :: _ => true
  | _ :: _, [] => false
  | x :: xs, y :: ys => if x = y then lexLt xs ys else decide (x < y)
theorem lexLt_cons (x y : Int) (xs ys : List Int) : lexLt (x :: xs) (y :: ys) = if x = y then lexLt xs ys else decide (x < y) := rfl
theorem lexLt_nil_nil : lexLt [] [] = false := rfl
theorem lexLt_nil_cons (y : Int) (ys : List Int) : lexLt [] (y :: ys) = true := rfl
theorem lexLt_cons_nil (x : Int) (xs : List Int) : lexLt (x :: xs) [] = false := rfl

theorem eqAt_int (A : Around) (s : Shared) (a : Int) (t : Tok) (c : Int) (u : Tok) : ∃ e, SeqAt.EqAt A s (.int a t) (.int c u) e ∧ (e = true ↔ a = c) :=
  ⟨(a == c), SeqAt.EqAt.int_int a t c u, by simp⟩
theorem rcLt_int (A : Around) (s : Shared) (a : Int) (t : Tok) (c : Int) (u : Tok) (prog : Program) (w : World) (E : Value → Shared → Prop) (Q : Value → Shared → Prop) (h : Q (.bool (decide (a < c))) s) :
    wpAny (model prog w) A (richCompare .Lt (.int a t) (.int c u)) Q E s :=
  (PyProof.Rows.lt_int h : wpAny (model prog w) A (compareOp .Lt (.int a t) (.int c u)) Q E s)

section
open PySem.SeqAt
open PySem.AutoSeq1 (wpAny_loadPart')
open PySem.MeetsSeq PySem.MeetsSeq2 PySem.MeetsSeq3

theorem tuple_lt_ints (l b : Addr) (items items2 : Array Value) (n n2 : Nat) (dd dd2 : Option Addr) (sl sl2 : Array (Option Value)) (ns ms : List Int) (hi : IntsAre items.toList ns) (hj : IntsAre items2.toList ms) :
    Meets (Builtin.«tuple.__lt__» ⟨[.ref l, .ref b], []⟩)
      (fun _ R s => s.heap.get? l = some { cls := .type "tuple", dict := dd, data := .seq items n, slots := sl } ∧ s.heap.get? b = some { cls := .type "tuple", dict := dd2, data := .seq items2 n2, slots := sl2 } ∧
        R (.ok (.ret (.bool (lexLt ns ms)))) s) :=
  .of_wp fun prog w A R s h => by
    obtain ⟨hp, g, d, tk, os⟩ := s; obtain ⟨hl, hb, h⟩ := h
    have f2 := AutoSeq1.sub_tuple_tuple
    have z1 : items.size = ns.length := by rw [← hi.length]; simp
    have z2 : items2.size = ms.length := by rw [← hj.length]; simp
    wp_walk using wpAny_loadPart' hl, wpAny_loadPart' hb, wpAny_forIn_list _ (fun rest b s' => b.1 = none ∧ s' = ⟨hp, g, d, tk, os⟩ ∧ ∃ (vs ws : List Value) (ns' ms' : List Int), rest = vs.zip ws ∧
      IntsAre vs ns' ∧ IntsAre ws ms' ∧ ns'.length + items2.size = ms'.length + items.size ∧ R (.ok (.ret (.bool (lexLt ns' ms')))) ⟨hp, g, d, tk, os⟩) _
    case turn =>
      rintro ⟨y, x⟩ rest b s' ⟨hb', rfl, vs, ws, ns', ms', hz, hvi, hwi, hlen, hR⟩
      cases hvi with
      | nil => rw [List.zip_nil_left] at hz; cases hz
      | cons a t hvi' =>
        cases hwi with
        | nil => rw [List.zip_nil_right] at hz; cases hz
        | cons c u hwi' =>
          rw [List.zip_cons_cons] at hz
          injection hz with hyx hrest
          injection hyx with hy hx
          subst hy hx
          rw [lexLt_cons] at hR
          simp only [List.length_cons] at hlen
          obtain ⟨e, he, hiff⟩ := eqAt_int A.in1 ⟨hp, g, d, tk, os⟩ a t c u
          refine wpAny_bind (he prog w _ _ ?_)
          cases e with
          | true =>
            rw [if_pos (hiff.mp rfl)] at hR
            wp_walk
            exact ⟨rfl, rfl, _, _, _, _, hrest, hvi', hwi', by omega, hR⟩
          | false =>
            rw [if_neg (fun q => absurd (hiff.mpr q) Bool.false_ne_true)] at hR
            have hri := rcLt_int A.in1 ⟨hp, g, d, tk, os⟩ a t c u prog w
            wp_walk using hri
            exact ⟨_, rfl, by simpa using hR⟩
    case fin =>
      rintro ⟨b1, b2⟩ s' ⟨hb', rfl, vs, ws, ns', ms', hz, hvi, hwi, hlen, hR⟩
      simp only at hb'
      subst hb'
      have hv : lexLt ns' ms' = decide (items.size < items2.size) := by
        cases hvi with
        | nil =>
          cases hwi with
          | nil =>
            simp only [List.length_nil] at hlen
            rw [lexLt_nil_nil]
            exact (decide_eq_false (by omega)).symm
          | cons c u hw =>
            simp only [List.length_nil, List.length_cons] at hlen
            rw [lexLt_nil_cons]
            exact (decide_eq_true (by omega)).symm
        | cons a t hv =>
          cases hwi with
          | nil =>
            simp only [List.length_nil, List.length_cons] at hlen
            rw [lexLt_cons_nil]
            exact (decide_eq_false (by omega)).symm
          | cons c u hw =>
            rw [List.zip_cons_cons] at hz
            cases hz
      rw [hv] at hR
      wp_walk
      exact ⟨_, rfl, by simpa [Builtin.Tuple.tupleCompareSizes] using hR⟩
    case h =>
      exact ⟨rfl, rfl, items.toList, items2.toList, ns, ms, rfl, hi, hj, by omega, h⟩
end

section
variable {prog : Program} {w : World} {A : Around} {E : Value → Shared → Prop} {s : Shared}

theorem lt_tupInts {l b : Addr} {items items2 : Array Value} {ns ms : List Int} {Q : Value → Shared → Prop} (hl : IsTup s.heap l items) (hb : IsTup s.heap b items2) (hi : IntsAre items.toList ns) (hj : IntsAre items2.toList ms)
    (hu : A.units < cLine) (h : Q (.bool (lexLt ns ms)) s) : wpAny (model prog w) A (compareOp .Lt (.ref l) (.ref b)) Q E s := by
  obtain ⟨⟨cls, dd, data, sl⟩, ho, hc, n, hd⟩ := id hl
  obtain ⟨⟨cls2, dd2, data2, sl2⟩, ho2, hc2, n2, hd2⟩ := id hb
  simp only at hc hd hc2 hd2
  subst hc hd hc2 hd2
  exact richCompare_meets_room (op := .Lt) ⟨_, ho, rfl⟩ ⟨_, ho2, rfl⟩ PySem.F.slot_tuple_lt PySem.F.entry_tuple_lt (PySem.F.args_tuple_lt_2 _ _) (tuple_lt_ints l b items items2 n n2 dd dd2 sl sl2 ns ms hi hj)
    ⟨ho, ho2, show Value.bool (lexLt ns ms) ≠ Value.notImplemented ∧ Q (.bool (lexLt ns ms)) s from ⟨(fun x => nomatch x), h⟩⟩ hu

/-- t + u, t not empty -/
theorem cat_tup {t b : Addr} {vs ws : List Value} {Q : Value → Shared → Prop} (ht : IsTup s.heap t vs.toArray) (hb : IsTup s.heap b ws.toArray) (hv : vs ≠ [])
    (h1 : ws = [] → Q (.ref t) s) (h2 : ws ≠ [] → Q (.ref s.heap.objs.size) { s with heap := s.heap.push { cls := .type "tuple", data := .seq (vs ++ ws).toArray } })
    (hsz : vs.length + ws.length ≤ sizeLine) : wpAny (model prog w) A (binaryOp .Add (.ref t) (.ref b)) Q E s := by
  obtain ⟨⟨cls, dd, data, sl⟩, ho, hc, n, hd⟩ := id ht
  obtain ⟨⟨cls2, dd2, data2, sl2⟩, ho2, hc2, n2, hd2⟩ := id hb
  simp only at hc hd hc2 hd2
  subst hc hd hc2 hd2
  have e : vs.toArray ++ ws.toArray = (vs ++ ws).toArray := by simp
  by_cases hw : ws = []
  · exact concat_meets ⟨_, ho, rfl⟩ ⟨_, ho2, rfl⟩ noFill_tuple_add seq_tuple_add PySem.F.slot_tuple_add PySem.F.entry_tuple_add (PySem.F.args_tuple_add_2 _ _)
      (tuple_addW1 t b vs.toArray ws.toArray n n2 dd dd2 sl sl2 (by simpa using hv) (by simp [hw])) ⟨ho, ho2, h1 hw⟩
  · refine concat_meets ⟨_, ho, rfl⟩ ⟨_, ho2, rfl⟩ noFill_tuple_add seq_tuple_add PySem.F.slot_tuple_add PySem.F.entry_tuple_add (PySem.F.args_tuple_add_2 _ _)
      (tuple_addW2 t b vs.toArray ws.toArray n n2 dd dd2 sl sl2 (by simpa using hv) (by simpa using hw) (by rw [List.size_toArray, List.size_toArray]; exact hsz)) ⟨ho, ho2, ?_⟩
    rw [e]
    exact h2 hw

/-! ### t[a:b], not the whole -/
/-- a slice's bound as a place among n (d where it is left out) -/
def sIx (n d : Nat) : Option Int → Nat
  | none => d
  | some v => if v < 0 then (v + (n : Int)).toNat else min v.toNat n
theorem sIx_none (n d : Nat) : sIx n d none = d := rfl
theorem sIx_nat (n d k : Nat) : sIx n d (some (k : Int)) = min k n := by
  show (if (k : Int) < 0 then ((k : Int) + (n : Int)).toNat else min (k : Int).toNat n) = min k n
  rw [if_neg (by omega), Int.toNat_natCast]
theorem sIx_le (n d : Nat) (hd : d ≤ n) (o : Option Int) : sIx n d o ≤ n := by
  cases o with
  | none => exact hd
  | some v =>
    show (if v < 0 then (v + (n : Int)).toNat else min v.toNat n) ≤ n
    by_cases hv : v < 0
    · rw [if_pos hv]; omega
    · rw [if_neg hv]; exact Nat.min_le_right _ _
theorem clip_eq (v : Int) (n d : Nat) : (if v < 0 then max (v + (n : Int)) 0 else min v (n : Int)) = ((sIx n d (some v) : Nat) : Int) := by
  show (if v < 0 then max (v + (n : Int)) 0 else min v (n : Int)) = (((if v < 0 then (v + (n : Int)).toNat else min v.toNat n) : Nat) : Int)
  by_cases hv : v < 0
  · simp only [if_pos hv]; omega
  · simp only [if_neg hv]; omega
theorem adjust_gen (lo hi : Option Int) (n : Nat) : Builtin.Slice.sliceAdjust lo hi 1 (n : Int) = (((sIx n 0 lo : Nat) : Int), ((sIx n n hi : Nat) : Int)) := by
  have h1 : ¬ ((1 : Int) < 0) := by omega
  unfold Builtin.Slice.sliceAdjust
  simp only [h1, if_false]
  refine Prod.ext ?_ ?_
  · cases lo with
    | none => rfl
    | some v => exact clip_eq v n 0
  · cases hi with
    | none => rfl
    | some v => exact clip_eq v n n
theorem places_gen (i j : Nat) : Builtin.Slice.slicePlaces (i : Int) (j : Int) 1 = j - i := by
  unfold Builtin.Slice.slicePlaces
  have h1 : (1 : Int) > 0 := by omega
  simp only [h1, if_true, Int.ediv_one]
  split <;> omega
theorem slicePart_ {v : Value} {o : Option Int} {Q : Option Int → Shared → Prop} (p : IsPart v o) (h : Q o s) : wpAny (model prog w) A (Builtin.Slice.slicePartIndex v) Q E s := by
  cases p with
  | none => exact slicePart_none h
  | int i t => exact slicePart_int h
theorem sliceApplied_gen {sl : Addr} {vl vu : Value} {lo hi : Option Int} {n : Nat} {Q : Int × Int × Nat → Shared → Prop} (hs : s.heap.IsSliceOf sl vl vu .none) (pl : IsPart vl lo) (pu : IsPart vu hi)
    (h : Q (((sIx n 0 lo : Nat) : Int), 1, sIx n n hi - sIx n 0 lo) s) : wpAny (model prog w) A (Builtin.Slice.sliceApplied (.ref sl) (pure (n : Int))) Q E s := by
  obtain ⟨os, hos, hcs, hds⟩ := id hs
  unfold Builtin.Slice.sliceApplied Builtin.Slice.sliceFields
  refine wpAny_bind (wpAny_bind (wpAny_field hos hds (x := vl) rfl (wpAny_bind (wpAny_field hos hds (x := vu) rfl (wpAny_bind (wpAny_field hos hds (x := .none) rfl (wpAny_pure ?_)))))))
  refine wpAny_bind (slicePart_none ?_)
  show wpAny _ _ (if ((1 : Int) == 0) = true then _ else _) _ _ s
  rw [if_neg (by decide)]
  refine wpAny_bind (slicePart_ pl (wpAny_bind (slicePart_ pu (wpAny_bind (wpAny_pure ?_)))))
  show wpAny _ _ (match Builtin.Slice.sliceAdjust lo hi 1 (n : Int) with | (lo, hi) => pure (lo, (1 : Int), Builtin.Slice.slicePlaces lo hi 1)) _ _ s
  rw [adjust_gen lo hi n]
  show wpAny _ _ (pure (((sIx n 0 lo : Nat) : Int), (1 : Int), Builtin.Slice.slicePlaces ((sIx n 0 lo : Nat) : Int) ((sIx n n hi : Nat) : Int) 1)) _ _ s
  rw [places_gen]
  exact wpAny_pure h
theorem pick_gen (xs : Array Value) (i k : Nat) : ((List.range k).filterMap fun (m : Nat) => xs[((i : Int) + (m : Int) * 1).toNat]?).toArray = ((xs.toList.drop i).take k).toArray := by
  have e : (fun (m : Nat) => xs[((i : Int) + (m : Int) * 1).toNat]?) = fun m => xs[i + m]? := by
    funext m
    have : ((i : Int) + (m : Int) * 1).toNat = i + m := by omega
    rw [this]
  rw [e]
  have := pick_run xs i k
  rw [List.filterMap_map] at this
  have e2 : ((fun x => xs[x]?) ∘ fun x => i + x) = fun m => xs[i + m]? := rfl
  rw [e2] at this
  rw [this]

theorem getItem_tuple_cut {t sl : Addr} {items : Array Value} {vl vu : Value} {lo hi : Option Int} {Q : Value → Shared → Prop} (ht : IsTup s.heap t items) (hs : s.heap.IsSliceOf sl vl vu .none) (pl : IsPart vl lo) (pu : IsPart vu hi)
    (hw : ¬ (sIx items.size 0 lo = 0 ∧ sIx items.size items.size hi = items.size))
    (h : Q (.ref s.heap.objs.size) { s with heap := s.heap.push { cls := .type "tuple", data := .seq ((items.toList.drop (sIx items.size 0 lo)).take (sIx items.size items.size hi - sIx items.size 0 lo)).toArray } })
    (hsz : items.size ≤ sizeLine) : wpAny (model prog w) A (getItem (.ref t) (.ref sl)) Q E s := by
  have htake : sizeOk (.seq ((items.toList.drop (sIx items.size 0 lo)).take (sIx items.size items.size hi - sIx items.size 0 lo)).toArray) := by
    show ((items.toList.drop (sIx items.size 0 lo)).take (sIx items.size items.size hi - sIx items.size 0 lo)).toArray.size ≤ sizeLine
    rw [List.size_toArray, List.length_take, List.length_drop, Array.length_toList]
    omega
  have hj : sIx items.size items.size hi ≤ items.size := sIx_le _ _ (Nat.le_refl _) hi
  obtain ⟨os, hos, hcs, hds⟩ := id hs
  have hTs : s.TypeIs (.ref sl) "slice" := ⟨os, hos, hcs⟩
  unfold getItem
  try with_reducible refine wpAny_holding ?_
  first | refine wpAny_bind (wpAny_pure ?_) | skip
  refine wpAny_bind (wpAny_sequenceKey ht.typeIs (by decide) ?_)
  refine wpAny_bind (wpAny_callSpecial?_slot (name := Str.ofString "__getitem__") ht.typeIs PyProof.Rows.slot_tuple_getitem
    (wpAny_call_entry PyProof.Rows.slot_tuple_getitem ht.typeIs entry_tuple_getitem ?_ (args_tuple_getitem _ _)))
  show wpAny _ _ (Builtin.Tuple.tupleItemsOf (.ref t) >>= _) _ _ s
  refine wpAny_bind (tupleItemsOf_ ht ?_)
  refine wpAny_bind (wpAny_typeOf hTs ?_)
  rw [if_pos (by decide)]
  refine wpAny_bind (sliceApplied_gen hs pl pu ?_)
  have hno : ¬ ((((sIx items.size 0 lo : Nat) : Int) == 0 && (1 : Int) == 1 && (sIx items.size items.size hi - sIx items.size 0 lo) == items.size) = true) := by
    intro q
    rw [Bool.and_eq_true, Bool.and_eq_true] at q
    have q1 : ((sIx items.size 0 lo : Nat) : Int) = 0 := eq_of_beq q.1.1
    have q2 : sIx items.size items.size hi - sIx items.size 0 lo = items.size := eq_of_beq q.2
    exact hw ⟨by omega, by omega⟩
  show wpAny _ _ (if (((sIx items.size 0 lo : Nat) : Int) == 0 && (1 : Int) == 1 && (sIx items.size items.size hi - sIx items.size 0 lo) == items.size) = true then _ else _) _ _ s
  rw [if_neg hno, pick_gen]
  first
    | exact wpAny_bind (m := Builtin.Tuple.tupleExact _) (wpAny_newObj_type (wpAny_pure ⟨_, rfl, wpAny_pure h⟩) htake)
    | exact wpAny_bind (m := Builtin.Tuple.tupleExact _) (wpAny_newObj_type (wpAny_bind (wpAny_pure (wpAny_pure ⟨_, rfl, wpAny_pure h⟩))) htake)
    | exact wpAny_bind (wpAny_bind (m := Builtin.Tuple.tupleExact _) (wpAny_newObj_type (wpAny_pure (wpAny_pure ⟨_, rfl, wpAny_pure h⟩)) htake))
    | exact wpAny_bind (wpAny_bind (m := Builtin.Tuple.tupleExact _) (wpAny_newObj_type (wpAny_pure ⟨_, rfl, wpAny_pure h⟩) htake))
end
end HT

namespace L2
open PySem PySem.Spec PyProof.Rows

/-! ### the parts of a slice -/
abbrev TO := St → Hp → (Option Int → Hp → Prop) → Prop
/-- a slice's part (left out, or an int) -/
def PO (X : Cx) (e : Option Expr) (t : TO) : Prop :=
  ∀ (pins : List (Addr × Obj)) (s : Shared) (σ : St) (H : Hp) (Q : Option Int → Hp → Prop), Inv X pins σ H s → t σ H Q →
    wpAny (model X.prog X.w) X.A (evalPart e X.env) (fun u s' => ∃ o H', Inv X pins σ H' s' ∧ IsPart u o ∧ Q o H') X.xe s
def tNoPart : TO := fun _ H Q => Q none H
def tPart (t : TE) : TO := fun σ H Q => t σ H fun x H1 => ∃ i, x = .int i ∧ Q (some i) H1

theorem intsAre_of {ns : List Int} : ∀ {us : List Value}, Vals (ns.map V.int) us → IntsAre us ns := by
  induction ns with
  | nil => intro us r; rw [List.map_nil] at r; cases r; exact .nil
  | cons n ns ih =>
    intro us r
    rw [List.map_cons] at r
    cases r with
    | cons r1 r2 =>
      obtain ⟨t, e⟩ := r1
      subst e
      exact .cons n t (ih r2)

section
variable {X : Cx} {e : Expr} {te : TE} {lo hi : Option Expr} {tl th : TO} {pos p2 : Pos}

theorem po_none : PO X none tNoPart := by
  intro pins s σ H Q I h
  rw [evalPart_none]
  exact wpAny_pure ⟨none, H, I, .none, h⟩
theorem po_some (h : PE X e te) : PO X (some e) (tPart te) := by
  intro pins s σ H Q I hw
  rw [evalPart_some]
  refine thn (h pins s σ H _ I hw) fun u s1 ⟨x, H1, I1, r1, q1⟩ => ?_
  obtain ⟨i, rfl, q⟩ := q1
  obtain ⟨t, rfl⟩ := r1
  exact ⟨some i, H1, I1, .int i t, q⟩

/-- what a slice of a value is, by values: the slice object stands at sl -/
def SlR (X : Cx) (r : V → Option Int → Option Int → Hp → VK → Prop) : Prop :=
  ∀ (pins : List (Addr × Obj)) (s : Shared) (σ : St) (H : Hp) (x : V) (v vl vu : Value) (lo hi : Option Int) (sl : Addr) (Q : VK), Inv X pins σ H s → RelV x v → s.heap.IsSliceOf sl vl vu .none → IsPart vl lo → IsPart vu hi → r x lo hi H Q →
    ∃ T id, typeLookup (.type T) "__getitem__" = pure (some (.builtin id)) ∧ s.TypeIs v T ∧ wpAny (model X.prog X.w) X.A (getItem v (.ref sl)) (EP X pins σ Q) X.xe s
theorem SlR.or {r r' : V → Option Int → Option Int → Hp → VK → Prop} (h : SlR X r) (h' : SlR X r') : SlR X (fun x lo hi H Q => r x lo hi H Q ∨ r' x lo hi H Q) := by
  intro pins s σ H x v vl vu lo hi sl Q I rx hs pl pu q
  rcases q with q | q
  · exact h pins s σ H x v vl vu lo hi sl Q I rx hs pl pu q
  · exact h' pins s σ H x v vl vu lo hi sl Q I rx hs pl pu q
def tSl (r : V → Option Int → Option Int → Hp → VK → Prop) (te : TE) (tl th : TO) : TE := fun σ H Q => te σ H fun x H1 => tl σ H1 fun l H2 => th σ H2 fun u H3 => r x l u H3 Q
/-- a[lo:hi], any a -/
theorem pe_slice {r : V → Option Int → Option Int → Hp → VK → Prop} (hr : SlR X r) (he : PE X e te) (hl : PO X lo tl) (hu : PO X hi th) : PE X (.Subscript e (.Slice lo hi none p2) pos) (tSl r te tl th) := by
  intro pins s σ H Q I h
  refine Subscript_ (thn (he pins s σ H _ I h) fun v s1 ⟨x, H1, I1, r1, q1⟩ => ?_)
  refine wpAny_Slice (thn (hl pins s1 σ H1 _ I1 q1) fun vl s2 ⟨l, H2, I2, pl, q2⟩ => thn (hu pins s2 σ H2 _ I2 q2) fun vu s3 ⟨u, H3, I3, pu, q3⟩ => ?_)
  rw [evalPart_none]
  refine wpAny_pure ?_
  have I4 : Inv X pins σ H3 { s3 with heap := s3.heap.push { cls := .type "slice", data := .fields #[vl, vu, .none] } } := I3.kept (t' := s3.toks) fun b ob q => Heap.get?_push_of_some _ q
  obtain ⟨T, id, hT, ht, hg⟩ := hr pins { s3 with heap := s3.heap.push { cls := .type "slice", data := .fields #[vl, vu, .none] } } σ H3 x v vl vu l u s3.heap.objs.size Q I4 r1 (Heap.IsSliceOf.new ..) pl pu q3
  show wpAny (model X.prog X.w) X.A (subscriptTail e (.Slice lo hi none p2) v (.ref s3.heap.objs.size)) (EP X pins σ Q) X.xe { s3 with heap := s3.heap.push { cls := .type "slice", data := .fields #[vl, vu, .none] } }
  exact tail_any (ops := [.ref s3.heap.objs.size, v]) ht hT hg (by with_unfolding_all rfl)

/-- the items of xs[lo:hi] -/
def cutV (xs : List V) (lo hi : Option Int) : List V := (xs.drop (HT.sIx xs.length 0 lo)).take (HT.sIx xs.length xs.length hi - HT.sIx xs.length 0 lo)
theorem cutV_length (xs : List V) (lo hi : Option Int) : (cutV xs lo hi).length ≤ xs.length := by
  unfold cutV
  rw [List.length_take, List.length_drop]
  omega
/-- t[lo:hi], not the whole of it (the whole would be t itself) -/
def rSlT (K : PySem.W.Frag) : V → Option Int → Option Int → Hp → VK → Prop := fun x lo hi H Q => ∃ a xs, x = .ref a ∧ SqT K H a xs ∧
  ¬ (HT.sIx xs.length 0 lo = 0 ∧ HT.sIx xs.length xs.length hi = xs.length) ∧ ∀ p, H p = none → Q (.ref p) (upd H p (.tup (cutV xs lo hi)))
theorem sl_tup : SlR X (rSlT X.K) := by
  intro pins s σ H x v vl vu lo hi sl Q I rx hs pl pu h
  obtain ⟨a, xs, rfl, hx, hw, q⟩ := h
  cases rx
  obtain ⟨its, r, ht, hz⟩ := I.tuple hx
  have hlen : its.toArray.size = xs.length := by rw [List.size_toArray]; exact r.length.symm
  refine ⟨"tuple", _, PyProof.Rows.slot_tuple_getitem.lookup, ht.typeIs, ?_⟩
  refine HT.getItem_tuple_cut ht hs pl pu (by rw [hlen]; exact hw) ?_ (by rw [hlen]; exact hz)
  rw [hlen]
  refine ⟨.ref s.heap.objs.size, _, I.laid (t' := s.toks) (o := .tup (cutV xs lo hi)) (fun b ob q => Heap.get?_push_of_some _ q) (Nat.le_refl _) ?_, rfl, q _ (I.hok.fresh (Nat.le_refl _))⟩
  exact ⟨Nat.le_trans (cutV_length xs lo hi) hz, _, (r.drop (HT.sIx xs.length 0 lo)).take (HT.sIx xs.length xs.length hi - HT.sIx xs.length 0 lo), IsTup.new _ _⟩

/-! ### t < u, t + u -/
def rLtT (K : PySem.W.Frag) : R2 := fun x y H Q => ∃ a b ns ms, x = .ref a ∧ y = .ref b ∧ SqT K H a (ns.map V.int) ∧ SqT K H b (ms.map V.int) ∧ Q (.bl (HT.lexLt ns ms)) H
theorem op_ltT (hu : X.A.units < cLine) : OpR X (compareOp .Lt) (rLtT X.K) := by
  intro pins s σ H x y v u Q I rx ry h
  obtain ⟨a, b, ns, ms, rfl, rfl, ha, hb, q⟩ := h
  cases rx
  cases ry
  obtain ⟨its, r1, p1, _⟩ := I.tuple ha
  obtain ⟨its2, r2, p2, _⟩ := I.tuple hb
  have i1 : IntsAre its.toArray.toList ns := intsAre_of r1
  have i2 : IntsAre its2.toArray.toList ms := intsAre_of r2
  exact HT.lt_tupInts p1 p2 i1 i2 hu ⟨.bl (HT.lexLt ns ms), H, I, rfl, q⟩
/-- t + u, t not empty: u empty gives t itself -/
def rCatT (K : PySem.W.Frag) : R2 := fun x y H Q => ∃ a b xs ys, x = .ref a ∧ y = .ref b ∧ SqT K H a xs ∧ SqT K H b ys ∧ xs ≠ [] ∧ xs.length + ys.length ≤ sizeLine ∧
  (ys = [] → Q (.ref a) H) ∧ (ys ≠ [] → ∀ p, H p = none → Q (.ref p) (upd H p (.tup (xs ++ ys))))
theorem Vals.nil_iff {xs : List V} {us : List Value} (r : Vals xs us) : us = [] ↔ xs = [] := by
  cases r with
  | nil => simp
  | cons _ _ => simp
theorem op_catT : OpR X (binaryOp .Add) (rCatT X.K) := by
  intro pins s σ H x y v u Q I rx ry h
  obtain ⟨a, b, xs, ys, rfl, rfl, ha, hb, hx, hz, q1, q2⟩ := h
  cases rx
  cases ry
  obtain ⟨its, r1, p1, _⟩ := I.tuple ha
  obtain ⟨its2, r2, p2, _⟩ := I.tuple hb
  refine HT.cat_tup p1 p2 (fun z => hx (r1.nil_iff.mp z)) (fun z => ⟨.ref a, H, I, rfl, q1 (r2.nil_iff.mp z)⟩) (fun z => ?_) (by rw [← r1.length, ← r2.length]; exact hz)
  refine ⟨.ref s.heap.objs.size, _, I.laid (t' := s.toks) (o := .tup (xs ++ ys)) (fun b ob q => Heap.get?_push_of_some _ q) (Nat.le_refl _) ?_, rfl, q2 (fun w => z (r2.nil_iff.mpr w)) _ (I.hok.fresh (Nat.le_refl _))⟩
  exact ⟨by rw [List.length_append]; exact hz, _, r1.append r2, IsTup.new _ _⟩
/-- tuple(t) -/
theorem call_tupleT : CallR X (.type "tuple") (fun xs H Q => ∃ a ys, xs = [.ref a] ∧ SqT X.K H a ys ∧ Q (.ref a) H) := by
  intro pins s σ H xs us Q I r h
  obtain ⟨a, ys, rfl, ha, q⟩ := h
  obtain ⟨u, rfl, ru⟩ := vals1 r
  cases ru
  obtain ⟨its, _, p1, _⟩ := I.tuple ha
  exact call_tuple_same (items := its.toArray) p1 ⟨.ref a, H, I, rfl, q⟩
end
end L2

namespace L2
open PySem PySem.Spec PyProof.Rows

/-! ### places -/
/-- the place that an index of any sign means -/
def ixN (n : Nat) (i : Int) : Option Nat := if 0 ≤ i then (if i < n then some i.toNat else none) else if -(n : Int) ≤ i then some (i + n).toNat else none
def atI {α : Type} (xs : List α) (i : Int) : Option α := (ixN xs.length i).bind fun j => xs[j]?
theorem ixN_seq {n : Nat} {i : Int} {j : Nat} (h : ixN n i = some j) : seqIndex? i n = some j ∧ j < n ∧ -(n : Int) ≤ i ∧ i < n := by
  unfold ixN at h
  by_cases h0 : 0 ≤ i
  · rw [if_pos h0] at h
    by_cases h1 : i < n
    · rw [if_pos h1] at h
      have e : i.toNat = j := Option.some.inj h
      exact ⟨by rw [seqIndex_of h0 h1, e], by omega, by omega, h1⟩
    · rw [if_neg h1] at h; cases h
  · rw [if_neg h0] at h
    by_cases h1 : -(n : Int) ≤ i
    · rw [if_pos h1] at h
      have e : (i + n).toNat = j := Option.some.inj h
      exact ⟨by rw [seqIndex_neg (by omega) h1, e], by omega, h1, by omega⟩
    · rw [if_neg h1] at h; cases h
theorem atI_get {α : Type} {xs : List α} {i : Int} {v : α} (h : atI xs i = some v) : ∃ j, seqIndex? i xs.length = some j ∧ xs[j]? = some v ∧ j < xs.length ∧ -(xs.length : Int) ≤ i ∧ i < xs.length := by
  unfold atI at h
  cases e : ixN xs.length i with
  | none => rw [e] at h; cases h
  | some j =>
    rw [e] at h
    obtain ⟨h1, h2, h3, h4⟩ := ixN_seq e
    exact ⟨j, h1, h, h2, h3, h4⟩
theorem atI_nat {α : Type} {xs : List α} {j : Nat} {v : α} (h : xs[j]? = some v) : atI xs (j : Int) = some v := by
  have hj : j < xs.length := (List.getElem?_eq_some_iff.mp h).1
  have e : ixN xs.length (j : Int) = some j := by
    unfold ixN
    rw [if_pos (by omega), if_pos (by omega)]; simp
  unfold atI; rw [e]; exact h
theorem atI_last {α : Type} (xs : List α) (v : α) : atI (xs ++ [v]) (-1) = some v := by
  have hl : (xs ++ [v]).length = xs.length + 1 := by simp
  have e : ixN (xs ++ [v]).length (-1) = some xs.length := by
    unfold ixN
    rw [hl, if_neg (by decide), if_pos (by omega)]
    congr 1
    omega
  unfold atI
  rw [e]
  show (xs ++ [v])[xs.length]? = some v
  simp

/-! ### what may be subscripted -/
/-- what stands as an index of a plain subscript -/
def PlainIx (b : Expr) : Prop := ∀ o i, subscripted b false o i = operate [o, i] (getItem o i)
/-- a subscript by values -/
def IxR (X : Cx) (r : R2) : Prop :=
  ∀ (value slice : Expr) (pins : List (Addr × Obj)) (s : Shared) (σ : St) (H : Hp) (x y : V) (v u : Value) (Q : VK), Inv X pins σ H s → RelV x v → RelV y u → r x y H Q →
    subscripted slice false v u = operate [v, u] (getItem v u) → wpAny (model X.prog X.w) X.A (subscriptTail value slice v u) (EP X pins σ Q) X.xe s
/-- a call of a builtin's method by values: the receiver, the arguments -/
def MtR (X : Cx) (id : String) (r : V → List V → Hp → VK → Prop) : Prop :=
  ∀ (pins : List (Addr × Obj)) (s : Shared) (σ : St) (H : Hp) (x : V) (xs : List V) (v : Value) (us : List Value) (Q : VK), Inv X pins σ H s → RelV x v → Vals xs us → r x xs H Q →
    wpAny (model X.prog X.w) X.A (call (.builtin id) (v :: us)) (EP X pins σ Q) X.xe s
section
variable {X : Cx} {a b : Expr} {ta tb : TE} {pos : Pos}
theorem IxR.or {r r' : R2} (h : IxR X r) (h' : IxR X r') : IxR X (fun x y H Q => r x y H Q ∨ r' x y H Q) := by
  intro value slice pins s σ H x y v u Q I rx ry q hs
  rcases q with q | q
  · exact h value slice pins s σ H x y v u Q I rx ry q hs
  · exact h' value slice pins s σ H x y v u Q I rx ry q hs
theorem MtR.or {id : String} {r r' : V → List V → Hp → VK → Prop} (h : MtR X id r) (h' : MtR X id r') : MtR X id (fun x xs H Q => r x xs H Q ∨ r' x xs H Q) := by
  intro pins s σ H x xs v us Q I rx rs q
  rcases q with q | q
  · exact h pins s σ H x xs v us Q I rx rs q
  · exact h' pins s σ H x xs v us Q I rx rs q
/-- a[b] -/
theorem pe_ix {r : R2} (hr : IxR X r) (ha : PE X a ta) (hb : PE X b tb) (hs : PlainIx b) : PE X (.Subscript a b pos) (tOp r ta tb) := by
  intro pins s σ H Q I h
  exact Subscript_ (binT ha hb I h fun v u s2 x y H2 I2 rx ry q => hr a b pins s2 σ H2 x y v u Q I2 rx ry q (hs _ _))

def rIxL (K : PySem.W.Frag) : R2 := fun x y H Q => ∃ p xs i v, x = .ref p ∧ y = .int i ∧ SqL K H p xs ∧ atI xs i = some v ∧ Q v H
def rIxT (K : PySem.W.Frag) : R2 := fun x y H Q => ∃ p xs i v, x = .ref p ∧ y = .int i ∧ SqT K H p xs ∧ atI xs i = some v ∧ Q v H
def rIxS : R2 := fun x y H Q => ∃ z i c, x = .str z ∧ y = .int i ∧ z.length ≤ sizeLine ∧ atI z.cps.toList i = some c ∧ Q (.str ⟨#[c]⟩) H
theorem ix_list : IxR X (rIxL X.K) := by
  intro value slice pins s σ H x y v u Q I rx ry h hs
  obtain ⟨p, xs, i, z, rfl, rfl, hq, he, q⟩ := h
  cases rx
  obtain ⟨t, rfl⟩ := ry
  obtain ⟨its, r, pl, hz⟩ := I.list hq
  obtain ⟨j, h1, h2, h3, h4, h5⟩ := atI_get he
  obtain ⟨w, ew, rw'⟩ := r.get h2
  have hl := r.length
  have hn := line63
  have fin : EP X pins σ Q w s := ⟨z, H, I, rw', q⟩
  by_cases h0 : 0 ≤ i
  · have hj : i.toNat = j := by
      rw [seqIndex_of h0 h5] at h1
      exact Option.some.inj h1
    exact item_listR pl.isList h0 (by omega) (by rw [hj]; simpa using ew) fin hs
  · have hj : (i + (its.toArray.size : Int)).toNat = j := by
      rw [seqIndex_neg (by omega) h4] at h1
      rw [List.size_toArray, ← hl]
      exact Option.some.inj h1
    exact subscriptTail_builtinR (x := w) pl.isList.typeIs slot_list_getitem.lookup
      (wpAny_getItem_list_neg (Q := fun r s' => r = w ∧ EP X pins σ Q r s') pl.isList (by omega) (by rw [List.size_toArray] <;> omega) (by omega) (by rw [hj]; simpa using ew) ⟨rfl, fin⟩) hs
theorem ix_tup : IxR X (rIxT X.K) := by
  intro value slice pins s σ H x y v u Q I rx ry h hs
  obtain ⟨p, xs, i, z, rfl, rfl, hq, he, q⟩ := h
  cases rx
  obtain ⟨t, rfl⟩ := ry
  obtain ⟨its, r, pl, hz⟩ := I.tuple hq
  obtain ⟨j, h1, h2, h3, h4, h5⟩ := atI_get he
  obtain ⟨w, ew, rw'⟩ := r.get h2
  have hl := r.length
  have hn := line63
  have fin : EP X pins σ Q w s := ⟨z, H, I, rw', q⟩
  exact subscriptTail_builtinR (x := w) pl.typeIs slot_tuple_getitem.lookup
    (getItem_tuple (j := j) (Q := fun r s' => r = w ∧ EP X pins σ Q r s') pl (by omega) (by omega) (by rw [List.size_toArray, ← hl]; exact h1) (by simpa using ew) ⟨rfl, fin⟩) hs
theorem ix_str : IxR X rIxS := by
  intro value slice pins s σ H x y v u Q I rx ry h hs
  obtain ⟨z, i, c, rfl, rfl, hz, he, q⟩ := h
  obtain ⟨t, rfl⟩ := rx
  obtain ⟨t', rfl⟩ := ry
  obtain ⟨j, h1, h2, h3, h4, h5⟩ := atI_get he
  have hl : z.cps.toList.length = z.length := by simp [Str.length]
  rw [hl] at h1 h4 h5
  have hn := line63
  exact tail_any (typeIs_str s z t) slot_str_getitem.lookup (getItem_str (c := c) (by
    have e1 : decide (i < -(2 ^ 63 : Int)) = false := decide_eq_false (by omega)
    have e2 : decide (i ≥ 2 ^ 63) = false := decide_eq_false (by omega)
    rw [e1, e2, Bool.or_false]) (by rw [h1]; simpa using h2) ⟨.str ⟨#[c]⟩, H, I.tok _, ⟨_, rfl⟩, q⟩) hs
/-- list, tuple or str -/
def rIx (K : PySem.W.Frag) : R2 := fun x y H Q => rIxL K x y H Q ∨ rIxT K x y H Q ∨ rIxS x y H Q
theorem ix_seq : IxR X (rIx X.K) := ix_list.or (ix_tup.or ix_str)

/-! ### xs[i] = v, any sign -/
/-- the list's object behind a store -/
theorem mapSeq_set (its : List Value) (n j : Nat) (u : Value) : Obj.mapSeq (·.setIfInBounds j u) { cls := .type "list", data := .seq its.toArray n } = { cls := .type "list", data := .seq (its.set j u).toArray n } := by
  simp [Obj.mapSeq]
theorem Inv.lst {pins : List (Addr × Obj)} {σ : St} {H : Hp} {s : Shared} {p : Addr} {xs : List V} (I : Inv X pins σ H s) (h : H p = some (.lst xs)) :
    ∃ (its : List Value) (n : Nat), Vals xs its ∧ s.heap.get? p = some { cls := .type "list", data := .seq its.toArray n } ∧ xs.length ≤ sizeLine := by
  obtain ⟨z, its, n, r, e⟩ := I.hok p _ h
  exact ⟨its, n, r, e, z⟩
/-- the list at p is written by an update of its object -/
theorem Inv.lstUpd {pins : List (Addr × Obj)} {σ : St} {H : Hp} {s : Shared} {p : Addr} {xs ys : List V} {its its' : List Value} {n n' : Nat} {f : Obj → Obj} (I : Inv X pins σ H s) (h : H p = some (.lst xs))
    (ho : s.heap.get? p = some { cls := .type "list", data := .seq its.toArray n }) (hf : f { cls := .type "list", data := .seq its.toArray n } = { cls := .type "list", data := .seq its'.toArray n' }) (r : Vals ys its') (hz : ys.length ≤ sizeLine) (t : Nat) :
    Inv X pins σ (upd H p (.lst ys)) { s with heap := s.heap.update p f, toks := t } := by
  have e : (s.heap.update p f).get? p = some { cls := .type "list", data := .seq its'.toArray n' } := by
    rw [Heap.get?_update_self f ho (by rw [hf] <;> rfl), hf]
  refine I.write (x := p) (e := p) (by rw [h]; trivial) (.inl rfl) (fun b u hb q => (Heap.get?_update_other _ _ (Ne.symm hb)).trans q) ⟨_, e⟩ ?_
  exact ⟨hz, its', n', r, e⟩
def rSetL : V → V → V → Hp → (Hp → Prop) → Prop := fun o i v H Q => ∃ p xs k j, o = .ref p ∧ i = .int k ∧ H p = some (.lst xs) ∧ ixN xs.length k = some j ∧ Q (upd H p (.lst (xs.set j v)))
theorem set_list : PSet X rSetL := by
  intro pins s σ H o i v ov iv u Q I ro ri rv h
  obtain ⟨p, xs, k, j, rfl, rfl, hp, hj, q⟩ := h
  cases ro
  obtain ⟨t, rfl⟩ := ri
  obtain ⟨its, n, r, ho, hz⟩ := I.lst hp
  obtain ⟨h1, h2, h3, h4⟩ := ixN_seq hj
  have hl := r.length
  have hn := line63
  have I' : Inv X pins σ (upd H p (.lst (xs.set j v))) { s with heap := s.heap.update p (Obj.mapSeq (·.setIfInBounds j u)) } :=
    I.lstUpd hp ho (mapSeq_set its n j u) (r.set rv j) (by rw [List.length_set]; exact hz) s.toks
  by_cases h0 : 0 ≤ k
  · have hk : k.toNat = j := by
      rw [seqIndex_of h0 h4] at h1
      exact Option.some.inj h1
    exact PySem.W.ki_setAt ho h0 (by omega) (by rw [List.size_toArray, ← hl]; exact h4) (by rw [hk]; exact ⟨_, I', q⟩)
  · have hk : (k + (its.toArray.size : Int)).toNat = j := by
      rw [seqIndex_neg (by omega) h3] at h1
      rw [List.size_toArray, ← hl]
      exact Option.some.inj h1
    exact PySem.W.ki_setBack ho (by omega) (by rw [List.size_toArray, ← hl]; exact h3) (by omega) (by rw [hk]; exact ⟨_, I', q⟩)

/-! ### slices -/
theorem slice_bounds (lo hi : Option Int) (n : Nat) : (sliceBounds lo hi none n).1 = ((HT.sIx n 0 lo : Nat) : Int) ∧ (sliceBounds lo hi none n).2.1 = ((HT.sIx n n hi : Nat) : Int) ∧ (sliceBounds lo hi none n).2.2 = 1 := by
  refine ⟨?_, ?_, rfl⟩
  · cases lo with
    | none => simp [sliceBounds, HT.sIx]
    | some i =>
      simp only [sliceBounds, HT.sIx, Option.getD_none, show (1 : Int) > 0 by decide, if_true]
      by_cases h : i < 0
      · simp only [h, if_true] <;> omega
      · simp only [h, if_false] <;> omega
  · cases hi with
    | none => simp [sliceBounds, HT.sIx]
    | some i =>
      simp only [sliceBounds, HT.sIx, Option.getD_none, show (1 : Int) > 0 by decide, if_true]
      by_cases h : i < 0
      · simp only [h, if_true] <;> omega
      · simp only [h, if_false] <;> omega
theorem slicePick_cut (its : List Value) (lo hi : Option Int) : slicePick its.toArray lo hi none = ((its.drop (HT.sIx its.length 0 lo)).take (HT.sIx its.length its.length hi - HT.sIx its.length 0 lo)).toArray := by
  obtain ⟨h1, h2, h3⟩ := slice_bounds lo hi its.toArray.size
  unfold slicePick
  rw [h1, h2, h3]
  simp only [sliceRange_one, pick_run, List.size_toArray] <;> rfl
/-- xs[lo:hi] of a list: a new list -/
def rSlL (K : PySem.W.Frag) : V → Option Int → Option Int → Hp → VK → Prop := fun x lo hi H Q => ∃ a xs, x = .ref a ∧ SqL K H a xs ∧ ∀ p, H p = none → Q (.ref p) (upd H p (.lst (cutV xs lo hi)))
theorem sl_list : SlR X (rSlL X.K) := by
  intro pins s σ H x v vl vu lo hi sl Q I rx hs pl pu h
  obtain ⟨a, xs, rfl, hx, q⟩ := h
  cases rx
  obtain ⟨its, r, ht, hz⟩ := I.list hx
  have hlen := r.length
  refine ⟨"list", _, slot_list_getitem.lookup, ht.isList.typeIs, ?_⟩
  refine wpAny_getItem_list_slice ht.isList hs pl pu .none (by simp) ?_ (by rw [List.size_toArray] <;> omega)
  rw [slicePick_cut, ← hlen]
  refine ⟨.ref s.heap.objs.size, _, I.laid (t' := s.toks) (o := .lst (cutV xs lo hi)) (fun b ob q => Heap.get?_push_of_some _ q) (Nat.le_refl _) ?_, rfl, q _ (I.hok.fresh (Nat.le_refl _))⟩
  exact ⟨Nat.le_trans (cutV_length xs lo hi) hz, _, 0, (r.drop (HT.sIx xs.length 0 lo)).take (HT.sIx xs.length xs.length hi - HT.sIx xs.length 0 lo), Heap.get?_push_size _ rfl⟩

/-! ### in, not in: flat items -/
def flatV : V → Bool
  | .non => true
  | .bl _ => true
  | .int _ => true
  | .str _ => true
  | _ => false
/-- == of flat values -/
def eqV : V → V → Bool
  | .non, .non => true
  | .bl a, .bl b => a == b
  | .bl a, .int b => (if a then 1 else 0) == b
  | .int a, .bl b => a == (if b then 1 else 0)
  | .int a, .int b => a == b
  | .str a, .str b => a == b
  | _, _ => false
theorem eqAt_V {A : Around} {s : Shared} {y x : V} {u v : Value} (ry : RelV y u) (rx : RelV x v) (fy : flatV y = true) (fx : flatV x = true) : SeqAt.EqAt A s u v (eqV y x) := by
  cases y with
  | non =>
    cases ry
    cases x with
    | non => cases rx; exact SeqAt.EqAt.same _
    | bl b => cases rx; exact SeqAt.EqAt.none_bool b
    | int b => obtain ⟨t, rfl⟩ := rx; exact SeqAt.EqAt.none_int b t
    | str b => obtain ⟨t, rfl⟩ := rx; exact SeqAt.EqAt.none_str b t
    | _ => exact absurd (show false = true from fx) Bool.false_ne_true
  | bl a =>
    cases ry
    cases x with
    | non => cases rx; exact SeqAt.EqAt.bool_none a
    | bl b => cases rx; exact SeqAt.EqAt.bool_bool a b
    | int b => obtain ⟨t, rfl⟩ := rx; exact SeqAt.EqAt.bool_int a b t
    | str b => obtain ⟨t, rfl⟩ := rx; exact SeqAt.EqAt.bool_str a b t
    | _ => exact absurd (show false = true from fx) Bool.false_ne_true
  | int a =>
    obtain ⟨t', rfl⟩ := ry
    cases x with
    | non => cases rx; exact SeqAt.EqAt.int_none a t'
    | bl b => cases rx; exact SeqAt.EqAt.int_bool a t' b
    | int b => obtain ⟨t, rfl⟩ := rx; exact SeqAt.EqAt.int_int a t' b t
    | str b => obtain ⟨t, rfl⟩ := rx; exact SeqAt.EqAt.int_str a t' b t
    | _ => exact absurd (show false = true from fx) Bool.false_ne_true
  | str a =>
    obtain ⟨t', rfl⟩ := ry
    cases x with
    | non => cases rx; exact SeqAt.EqAt.str_none a t'
    | bl b => cases rx; exact SeqAt.EqAt.str_bool a t' b
    | int b => obtain ⟨t, rfl⟩ := rx; exact SeqAt.EqAt.str_int a t' b t
    | str b => obtain ⟨t, rfl⟩ := rx; exact SeqAt.EqAt.str_str a t' b t
    | _ => exact absurd (show false = true from fx) Bool.false_ne_true
  | _ => exact absurd (show false = true from fy) Bool.false_ne_true
/-- the items' answers, read off the values (a value's own answer does not lean on its token) -/
def eqU (x : V) (u : Value) : Bool := match u with
  | .none => eqV .non x
  | .bool b => eqV (.bl b) x
  | .int i _ => eqV (.int i) x
  | .str z _ => eqV (.str z) x
  | _ => false
theorem eqU_of {x y : V} {u : Value} (r : RelV y u) (f : flatV y = true) : eqU x u = eqV y x := by
  cases y with
  | non => cases r; rfl
  | bl b => cases r; rfl
  | int i => obtain ⟨t, rfl⟩ := r; rfl
  | str z => obtain ⟨t, rfl⟩ := r; rfl
  | _ => exact absurd (show false = true from f) Bool.false_ne_true
theorem any_eqU {x : V} : ∀ {xs : List V} {us : List Value}, Vals xs us → xs.all flatV = true → us.any (eqU x) = xs.any fun y => eqV y x
  | _, _, .nil, _ => rfl
  | y :: xs, u :: us, .cons r t, f => by
    rw [List.all_cons, Bool.and_eq_true] at f
    rw [List.any_cons, List.any_cons, eqU_of r f.1, any_eqU t f.2]
theorem mem_eqAt {A : Around} {s : Shared} {x : V} {v : Value} (rx : RelV x v) (fx : flatV x = true) : ∀ {xs : List V} {us : List Value}, Vals xs us → xs.all flatV = true → ∀ u ∈ us, SeqAt.EqAt A s u v (eqU x u)
  | _, _, .nil, _ => fun u hu => by cases hu
  | y :: xs, u :: us, .cons r t, f => fun u' hu => by
    rw [List.all_cons, Bool.and_eq_true] at f
    rcases List.mem_cons.mp hu with rfl | hu
    · rw [eqU_of r f.1]; exact eqAt_V r rx f.1 fx
    · exact mem_eqAt rx fx t f.2 u' hu
def inV (x : V) (xs : List V) : Bool := xs.any fun y => eqV y x
/-- x in a list or tuple of flat items -/
def rIn (K : PySem.W.Frag) (neg : Bool) : R2 := fun x y H Q => ∃ p xs, y = .ref p ∧ (SqL K H p xs ∨ SqT K H p xs) ∧ flatV x = true ∧ xs.all flatV = true ∧ Q (.bl (if neg then !inV x xs else inV x xs)) H
theorem op_in_seq : OpR X (compareOp .In) (rIn X.K false) := by
  intro pins s σ H x y v u Q I rx ry h
  obtain ⟨p, xs, rfl, hq, fx, fs, q⟩ := h
  cases ry
  rcases hq with hq | hq
  · obtain ⟨its, r, pl, hz⟩ := I.list hq
    refine SeqAt.in_listAt (eqU x) pl.isList (fun w hw => mem_eqAt rx fx r fs w (by simpa using hw)) ⟨.bl _, H, I, rfl, ?_⟩
    rw [show its.toArray.any (eqU x) = its.any (eqU x) by simp, any_eqU r fs]
    exact q
  · obtain ⟨its, r, pl, hz⟩ := I.tuple hq
    refine SeqAt.in_tupleAt (eqU x) pl (fun w hw => mem_eqAt rx fx r fs w (by simpa using hw)) ⟨.bl _, H, I, rfl, ?_⟩
    rw [show its.toArray.any (eqU x) = its.any (eqU x) by simp, any_eqU r fs]
    exact q
theorem op_notIn_seq : OpR X (compareOp .NotIn) (rIn X.K true) := by
  intro pins s σ H x y v u Q I rx ry h
  obtain ⟨p, xs, rfl, hq, fx, fs, q⟩ := h
  cases ry
  rcases hq with hq | hq
  · obtain ⟨its, r, pl, hz⟩ := I.list hq
    refine SeqAt.notIn_listAt (eqU x) pl.isList (fun w hw => mem_eqAt rx fx r fs w (by simpa using hw)) ⟨.bl _, H, I, rfl, ?_⟩
    rw [show its.toArray.any (eqU x) = its.any (eqU x) by simp, any_eqU r fs]
    exact q
  · obtain ⟨its, r, pl, hz⟩ := I.tuple hq
    refine SeqAt.notIn_tupleAt (eqU x) pl (fun w hw => mem_eqAt rx fx r fs w (by simpa using hw)) ⟨.bl _, H, I, rfl, ?_⟩
    rw [show its.toArray.any (eqU x) = its.any (eqU x) by simp, any_eqU r fs]
    exact q
theorem op_notIn_str : OpR X (compareOp .NotIn) (fun x y H Q => ∃ i j, x = .str i ∧ y = .str j ∧ Q (.bl (!(!(Builtin.Str.occurrences j i 0 j.length 1).isEmpty))) H) := by
  intro pins s σ H x y v u Q I rx ry h
  obtain ⟨i, j, rfl, rfl, q⟩ := h
  obtain ⟨t, rfl⟩ := rx
  obtain ⟨t', rfl⟩ := ry
  exact notIn_str ⟨.bl _, H, I, rfl, q⟩

/-! ### len, list(x), tuple(x) of any list or tuple that is read -/
theorem call_len_seq : CallR X (.builtin "len") (fun xs H Q => ∃ p ys, xs = [.ref p] ∧ (SqL X.K H p ys ∨ SqT X.K H p ys) ∧ Q (.int ys.length) H) := by
  intro pins s σ H xs us Q I r h
  obtain ⟨p, ys, rfl, hq, q⟩ := h
  obtain ⟨u, rfl, rx⟩ := vals1 r
  cases rx
  have hn := line63
  rcases hq with hq | hq
  · obtain ⟨its, r', pl, hz⟩ := I.list hq
    have hlen := r'.length
    exact Calls.call_len_list pl.isList (by simp only [List.size_toArray] <;> omega) ⟨.int ys.length, H, I.tok _, ⟨s.toks + 1, by rw [List.size_toArray, hlen]⟩, q⟩
  · obtain ⟨its, r', pl, hz⟩ := I.tuple hq
    have hlen := r'.length
    exact len_tuple pl (by simp only [List.size_toArray] <;> omega) ⟨.int ys.length, H, I.tok _, ⟨s.toks + 1, by rw [List.size_toArray, hlen]⟩, q⟩
theorem call_len_str : CallR X (.builtin "len") (fun xs H Q => ∃ z, xs = [.str z] ∧ z.length ≤ sizeLine ∧ Q (.int z.length) H) := by
  intro pins s σ H xs us Q I r h
  obtain ⟨z, rfl, hz, q⟩ := h
  obtain ⟨u, rfl, t, rfl⟩ := vals1 r
  have hn := line63
  exact len_str (by omega) ⟨.int z.length, H, I.tok _, ⟨_, rfl⟩, q⟩
theorem CallR.or {f : Value} {r r' : List V → Hp → VK → Prop} (h : CallR X f r) (h' : CallR X f r') : CallR X f (fun xs H Q => r xs H Q ∨ r' xs H Q) := by
  intro pins s σ H xs us Q I rs q
  rcases q with q | q
  · exact h pins s σ H xs us Q I rs q
  · exact h' pins s σ H xs us Q I rs q
theorem call_list_of : CallR X (.type "list") (fun xs H Q => ∃ p ys, xs = [.ref p] ∧ (SqL X.K H p ys ∨ SqT X.K H p ys) ∧ ∀ l, H l = none → Q (.ref l) (upd H l (.lst ys))) := by
  intro pins s σ H xs us Q I r h
  obtain ⟨p, ys, rfl, hq, q⟩ := h
  obtain ⟨u, rfl, rx⟩ := vals1 r
  cases rx
  have fin : ∀ (its : List Value), Vals ys its → ys.length ≤ sizeLine → ∀ (h' : Heap) (c' : Nat), (∀ b o', s.heap.get? b = some o' → h'.get? b = some o') →
      h'.get? s.heap.objs.size = some { cls := .type "list", dict := none, data := .seq its.toArray c', slots := #[] } → EP X pins σ Q (.ref s.heap.objs.size) { s with heap := h' } := fun its r' hz h' c' kp e =>
    ⟨.ref s.heap.objs.size, _, I.laid (t' := s.toks) kp (Nat.le_refl _) (show ObjOk X.prog X.w _ h' _ (.lst ys) from ⟨hz, its, c', r', e⟩), rfl, q _ (I.hok.fresh (Nat.le_refl _))⟩
  rcases hq with hq | hq
  · obtain ⟨its, r', pl, hz⟩ := I.list hq
    have hlen := r'.length
    obtain ⟨o, ho, hc, n, hd⟩ := pl.isList
    exact call_list_seq p (.inl rfl) ho hc hd (fun h' c' kp e => fin its r' hz h' c' kp e) (by simp only [List.size_toArray] <;> omega)
  · obtain ⟨its, r', pl, hz⟩ := I.tuple hq
    have hlen := r'.length
    obtain ⟨o, ho, hc, n, hd⟩ := pl
    exact call_list_seq p (.inr rfl) ho hc hd (fun h' c' kp e => fin its r' hz h' c' kp e) (by simp only [List.size_toArray] <;> omega)
theorem call_tuple_of : CallR X (.type "tuple") (fun xs H Q => ∃ p ys, xs = [.ref p] ∧ ((SqL X.K H p ys ∧ ∀ l, H l = none → Q (.ref l) (upd H l (.tup ys))) ∨ (SqT X.K H p ys ∧ Q (.ref p) H))) := by
  intro pins s σ H xs us Q I r h
  obtain ⟨p, ys, rfl, h⟩ := h
  obtain ⟨u, rfl, rx⟩ := vals1 r
  cases rx
  rcases h with ⟨hq, q⟩ | ⟨hq, q⟩
  · obtain ⟨its, r', pl, hz⟩ := I.list hq
    have hlen := r'.length
    refine call_tuple_list pl.isList (fun h' kp => ?_) (by simp only [List.size_toArray] <;> omega)
    have I1 : Inv X pins σ H { s with heap := h' } := I.kept (t' := s.toks) kp
    have I2 : Inv X pins σ (upd H h'.objs.size (.tup ys)) { s with heap := h'.push { cls := .type "tuple", data := .seq its.toArray } } :=
      I1.laid (t' := s.toks) (fun b o e => Heap.get?_push_of_some _ e) (Nat.le_refl _) (show ObjOk X.prog X.w _ _ _ (.tup ys) from ⟨hz, its, r', IsTup.new _ _⟩)
    exact ⟨.ref h'.objs.size, _, I2, rfl, q _ (I1.hok.fresh (Nat.le_refl _))⟩
  · obtain ⟨its, r', pl, hz⟩ := I.tuple hq
    exact call_tuple_same pl ⟨.ref p, H, I, rfl, q⟩

/-! ### the call of a builtin's method: o.m(..) -/
/-- the value is of that builtin type -/
def tyV (K : PySem.W.Frag) (T : String) (x : V) (H : Hp) : Prop := match x with
  | .str _ => T = "str"
  | .int _ => T = "int"
  | .ref p => (T = "list" ∧ ∃ xs, SqL K H p xs) ∨ (T = "tuple" ∧ ∃ o, K.lookup p = some o ∧ o.cls = .type "tuple" ∧ o.dict = none) ∨
      (T = "dict" ∧ ((∃ kvs, H p = some (.dK kvs)) ∨ ∃ kvs, H p = some (.dT kvs))) ∨ (T = "set" ∧ ∃ S n, H p = some (.set S n))
  | _ => False
theorem tyV_is {pins : List (Addr × Obj)} {σ : St} {H : Hp} {s : Shared} {T : String} {x : V} {v : Value} (I : Inv X pins σ H s) (r : RelV x v) (ty : tyV X.K T x H) :
    s.TypeIs v T ∧ ∀ a, v = .ref a → ∃ ob, s.heap.get? a = some ob ∧ ob.dict = none := by
  cases x with
  | str z =>
    obtain ⟨t, rfl⟩ := r
    cases (show T = "str" from ty)
    exact ⟨typeIs_str s z t, fun _ e => nomatch e⟩
  | int i =>
    obtain ⟨t, rfl⟩ := r
    cases (show T = "int" from ty)
    exact ⟨typeIs_int s i t, fun _ e => nomatch e⟩
  | ref p =>
    cases r
    rcases ty with ⟨rfl, xs, hq⟩ | ⟨rfl, o, hk, hc, hd⟩ | ⟨rfl, hk⟩ | ⟨rfl, S, n, hk⟩
    · obtain ⟨its, _, pl, _⟩ := I.list hq
      refine ⟨pl.isList.typeIs, fun a e => ?_⟩
      cases e
      obtain ⟨o, n, e, c, hd, _⟩ := pl
      exact ⟨o, e, hd⟩
    · refine ⟨⟨o, I.kIn p o hk, hc⟩, fun a e => ?_⟩
      cases e
      exact ⟨o, I.kIn _ o hk, hd⟩
    · have z : ∃ o, s.heap.get? p = some o ∧ o.ExactDict := by
        rcases hk with ⟨kvs, hk⟩ | ⟨kvs, hk⟩
        · obtain ⟨_, _, _, _, o, _, _, e, ex, _⟩ := I.hok p _ hk
          exact ⟨o, e, ex⟩
        · obtain ⟨_, _, _, _, o, _, _, e, ex, _⟩ := I.hok p _ hk
          exact ⟨o, e, ex⟩
      obtain ⟨o, e, ex⟩ := z
      refine ⟨⟨o, e, ex.1⟩, fun a e2 => ?_⟩
      cases e2
      exact ⟨o, e, ex.2.1⟩
    · obtain ⟨o, _, _, _, e, ex, _⟩ := I.hok p _ hk
      refine ⟨⟨o, e, ex.1⟩, fun a e2 => ?_⟩
      cases e2
      exact ⟨o, e, ex.2.1⟩
  | _ => exact False.elim ty
def tBM0 (K : PySem.W.Frag) (T : String) (r : V → List V → Hp → VK → Prop) (to : TE) : TE := fun σ H Q => to σ H fun x H1 => tyV K T x H1 ∧ r x [] H1 Q
def tBM (K : PySem.W.Frag) (T : String) (r : V → List V → Hp → VK → Prop) (to : TE) (t : TA) : TE := fun σ H Q => to σ H fun x H1 => tyV K T x H1 ∧ t σ H1 fun xs H2 => r x xs H2 Q
variable {o e : Expr} {es : List Expr} {to : TE} {t : TA} {name : Str} {apos cpos : Pos} {T id : String} {r : V → List V → Hp → VK → Prop}
theorem pe_bm0 (pa : PlainAttrs T) (slot : Slot T name id) (hty : typeOf (.builtin id) = pure (.type "method_descriptor")) (hm : MtR X id r) (ho : PE X o to)
    (hbase : attributeBase o name X.env (eval o X.env) = eval o X.env := by rfl) (hline : (apos.endLine == cpos.line) = true := by rfl) : PE X (.Call (.Attribute o name apos) [] [] cpos) (tBM0 X.K T r to) := by
  intro pins s σ H Q I h
  refine wpAny_Call_method0_late hbase hline (thn (ho pins s σ H _ I h) fun v s1 ⟨x, H1, I1, r1, ty, q1⟩ => ?_)
  obtain ⟨h1, h2⟩ := tyV_is I1 r1 ty
  exact ⟨T, id, pa, slot, hty, h1, h2, Calls.callWith_builtin rfl (PySem.evalArgs_none (hm pins s1 σ H1 x [] v [] Q I1 r1 .nil q1))⟩
theorem pe_bm (pa : PlainAttrs T) (slot : Slot T name id) (hty : typeOf (.builtin id) = pure (.type "method_descriptor")) (hm : MtR X id r) (ho : PE X o to) (ha : PA X (e :: es) t)
    (hbase : attributeBase o name X.env (eval o X.env) = eval o X.env := by rfl)
    (hfew : ((backTo cpos (starEach (e :: es) X.env)).all (fun x => !x.1) && (backToKw cpos (keywordEach [] X.env)).all (fun x => x.1.isSome)
      && decide ((e :: es).length + ([] : List Keyword).length + (if ([] : List Keyword).isEmpty then 0 else 1) < 30)) = true := by rfl)
    (hline : (apos.endLine == cpos.line) = true := by rfl) (hs : starEach (e :: es) X.env = (false, eval e X.env) :: starEach es X.env := by rfl) (hplain : (backTo cpos (starEach es X.env)).any (·.1) = false := by rfl) :
    PE X (.Call (.Attribute o name apos) (e :: es) [] cpos) (tBM X.K T r to t) := by
  intro pins s σ H Q I h
  refine wpAny_Call_method_late hbase hfew hline rfl (thn (ho pins s σ H _ I h) fun v s1 ⟨x, H1, I1, r1, ty, q1⟩ => ?_)
  obtain ⟨h1, h2⟩ := tyV_is I1 r1 ty
  refine ⟨T, id, pa, slot, hty, h1, h2, ?_⟩
  have hA := ha cpos pins s1 σ H1 _ I1 q1
  rw [hs] at hA ⊢
  refine Calls.callWith_builtin (by show (false || (backTo cpos (starEach es X.env)).any (·.1)) = false; rw [hplain] <;> rfl) (Calls.evalArgs_plain ?_)
  exact thn hA fun us s2 ⟨vs, H2, I2, r2, q2⟩ => hm pins s2 σ H2 x vs v us Q I2 r1 r2 q2
/- xs.append(e), list.index on a module's tuple .. are MtR facts of 06m -/
end
end L2

namespace L2
open PySem PySem.Spec PyProof.Rows

def MtM (X : Cx) (id : String) (r : V → List V → Hp → VK → Prop) : Prop :=
  ∀ (pins : List (Addr × Obj)) (s : Shared) (σ : St) (H : Hp) (x : V) (xs : List V) (v : Value) (us : List Value) (Q : VK), Inv X pins σ H s → RelV x v → Vals xs us → r x xs H Q →
    wpAny (model X.prog X.w) X.A (call (.builtin id) (v :: us)) (EP X pins σ Q) X.xe s

/-! ### lists of values -/
theorem Vals.one : ∀ {x : V} {us : List Value}, Vals [x] us → ∃ u, us = [u] ∧ RelV x u
  | _, _, .cons r .nil => ⟨_, rfl, r⟩
theorem Vals.two : ∀ {x y : V} {us : List Value}, Vals [x, y] us → ∃ u v, us = [u, v] ∧ RelV x u ∧ RelV y v
  | _, _, _, .cons r (.cons q .nil) => ⟨_, _, rfl, r, q⟩
theorem Vals.zero : ∀ {us : List Value}, Vals [] us → us = []
  | _, .nil => rfl
theorem Vals.dropLast {xs : List V} {us : List Value} (h : Vals xs us) : Vals xs.dropLast us.dropLast := by
  induction h with
  | nil => exact .nil
  | cons r t ih =>
    cases t with
    | nil => exact .nil
    | cons q t' => exact .cons r ih
theorem Vals.eraseIdx : ∀ {xs : List V} {us : List Value} (i : Nat), Vals xs us → Vals (xs.eraseIdx i) (us.eraseIdx i)
  | _, _, _, .nil => .nil
  | _, _, 0, .cons _ t => t
  | _, _, i + 1, .cons r t => .cons r (Vals.eraseIdx i t)
theorem Vals.reverse {xs : List V} {us : List Value} (h : Vals xs us) : Vals xs.reverse us.reverse := by
  induction h with
  | nil => exact .nil
  | cons r t ih => rw [List.reverse_cons, List.reverse_cons]; exact Vals.append ih (.cons r .nil)
theorem Vals.rep {xs : List V} {us : List Value} (h : Vals xs us) : ∀ k : Nat, Vals (List.replicate k xs).flatten (List.replicate k us).flatten
  | 0 => .nil
  | k + 1 => by
    rw [List.replicate_succ, List.replicate_succ, List.flatten_cons, List.flatten_cons]
    exact Vals.append h (Vals.rep h k)
theorem erase_last {α : Type} (l : List α) : l.eraseIdx (l.length - 1) = l.dropLast := by
  induction l with
  | nil => rfl
  | cons a r ih =>
    cases r with
    | nil => rfl
    | cons b r =>
      have e : (a :: b :: r).length - 1 = ((b :: r).length - 1) + 1 := by
        have h1 : (a :: b :: r).length = r.length + 2 := rfl
        have h2 : (b :: r).length = r.length + 1 := rfl
        omega
      rw [e, List.eraseIdx_cons_succ, ih]
      all_goals rfl
theorem len_erase {α : Type} : ∀ (l : List α) (i : Nat), (l.eraseIdx i).length ≤ l.length
  | [], _ => Nat.le_refl _
  | _ :: _, 0 => Nat.le_succ _
  | _ :: r, i + 1 => Nat.succ_le_succ (len_erase r i)
theorem foldl_rep (its : List Value) : ∀ (k : Nat) (acc : List Value),
    List.foldl (fun x1 x2 => x1 ++ x2) acc.toArray (List.replicate k its.toArray) = (acc ++ (List.replicate k its).flatten).toArray
  | 0, acc => by simp
  | k + 1, acc => by
    have e : acc.toArray ++ its.toArray = (acc ++ its).toArray := by simp
    have e2 : (acc ++ its) ++ (List.replicate k its).flatten = acc ++ (List.replicate (k + 1) its).flatten := by
      rw [List.replicate_succ, List.flatten_cons, List.append_assoc]
    rw [← e2, ← foldl_rep its k (acc ++ its), ← e, List.replicate_succ, List.foldl_cons]

section
variable {X : Cx} {pins : List (Addr × Obj)} {σ : St} {H : Hp} {s : Shared} {l b : Addr} {xs ys zs : List V}

/-! ### the two steps: a tracked list is rewritten, a new list is laid -/
theorem Inv.lset {its its' : List Value} {n : Nat} {f : Array Value → Array Value} {t' : Nat} (I : Inv X pins σ H s) (hH : H l = some (.lst xs))
    (e : s.heap.get? l = some { cls := .type "list", data := .seq its.toArray n }) (hf : f its.toArray = its'.toArray) (hv : Vals ys its') (hz : ys.length ≤ sizeLine) :
    Inv X pins σ (upd H l (.lst ys)) { s with heap := s.heap.update l (Obj.mapSeq f), toks := t' } := by
  have q := PySem.IsL.update e f
  rw [hf] at q
  refine I.write (x := l) (e := l) (by rw [hH]; exact trivial) (.inl rfl) (fun b' u hb hu => (Heap.get?_update_other s.heap (Obj.mapSeq f) (Ne.symm hb)).trans hu) ⟨_, q⟩ ?_
  exact ⟨hz, its', _, hv, q⟩
theorem Inv.lnew {its : List Value} {t' : Nat} (I : Inv X pins σ H s) (hv : Vals ys its) (hz : ys.length ≤ sizeLine) :
    Inv X pins σ (upd H s.heap.objs.size (.lst ys)) { s with heap := s.heap.push { cls := .type "list", data := .seq its.toArray }, toks := t' } :=
  I.laid (fun _ _ q => Heap.get?_push_of_some _ q) (Nat.le_refl _) ⟨hz, its, 0, hv, Heap.get?_push_size _ rfl⟩
theorem Inv.fresh (I : Inv X pins σ H s) : H s.heap.objs.size = none := I.hok.fresh (Nat.le_refl _)
theorem Inv.lstM (I : Inv X pins σ H s) (hH : H l = some (.lst xs)) : xs.length ≤ sizeLine ∧ ∃ (its : List Value) (n : Nat), Vals xs its ∧ xs.length = its.length ∧ s.heap.get? l = some { cls := .type "list", data := .seq its.toArray n } := by
  obtain ⟨z, its, n, r, e⟩ := I.hok l _ hH
  exact ⟨z, its, n, r, r.length, e⟩

theorem notLongL {n : Nat} (h : n ≤ sizeLine) : Builtin.List.listTooLong n = false := by
  unfold Builtin.List.listTooLong
  exact decide_eq_false (by omega)
end

section
variable {X : Cx}

/-! ### methods -/
def rAppend : V → List V → Hp → VK → Prop := fun x vs H Q => ∃ l xs y, x = .ref l ∧ vs = [y] ∧ H l = some (.lst xs) ∧ xs.length < sizeLine ∧ Q .non (upd H l (.lst (xs ++ [y])))
theorem mt_append : MtM X "list.append" rAppend := by
  intro pins s σ H x vs v us Q I rx rv h
  obtain ⟨l, xs, y, rfl, rfl, hH, hz, q⟩ := h
  cases rx
  obtain ⟨u, rfl, ru⟩ := rv.one
  obtain ⟨z, its, n, r, hl, e⟩ := I.lstM hH
  refine call_meets F.slot_list_append ⟨_, e, rfl⟩ F.entry_list_append (F.args_list_append_2 _ _) (PySem.list_append l its.toArray n u (by rw [List.size_toArray]; omega)) ⟨e, ?_⟩
  refine ⟨.non, _, I.lset (its' := its ++ [u]) hH e (by simp) (r.append (.cons ru .nil)) ?_, rfl, q⟩
  rw [List.length_append, List.length_singleton]
  omega

def rExtend : V → List V → Hp → VK → Prop := fun x vs H Q => ∃ l b xs zs, x = .ref l ∧ vs = [.ref b] ∧ H l = some (.lst xs) ∧ H b = some (.lst zs) ∧ xs.length + zs.length ≤ sizeLine ∧ Q .non (upd H l (.lst (xs ++ zs)))
theorem mt_extend : MtM X "list.extend" rExtend := by
  intro pins s σ H x vs v us Q I rx rv h
  obtain ⟨l, b, xs, zs, rfl, rfl, hH, hB, hz, q⟩ := h
  cases rx
  obtain ⟨u, rfl, ru⟩ := rv.one
  cases ru
  obtain ⟨z, its, n, r, hl, e⟩ := I.lstM hH
  obtain ⟨z2, its2, n2, r2, hl2, e2⟩ := I.lstM hB
  have hsz : its.toArray.size + its2.toArray.size ≤ sizeLine := by rw [List.size_toArray, List.size_toArray]; omega
  have hlong : ¬ (!its.toArray.isEmpty && Builtin.List.listTooLong (its.toArray.size + its2.toArray.size)) = true := by
    rw [notLongL hsz, Bool.and_false]
    exact Bool.false_ne_true
  refine call_meets F.slot_list_extend ⟨_, e, rfl⟩ F.entry_list_extend (F.args_list_extend_2 _ _)
    (AutoSeq1.list_extend_list_list_0 l its.toArray n b its2.toArray n2 hlong (by rw [List.size_toArray]; omega) (by omega)) ⟨e, e2, ?_⟩
  refine ⟨.non, _, I.lset (its' := its ++ its2) hH e (by simp) (r.append r2) ?_, rfl, q⟩
  rw [List.length_append]
  omega

def rPop : V → List V → Hp → VK → Prop := fun x vs H Q => ∃ l xs y, x = .ref l ∧ vs = [] ∧ H l = some (.lst xs) ∧ xs[xs.length - 1]? = some y ∧ Q y (upd H l (.lst xs.dropLast))
theorem mt_pop : MtM X "list.pop" rPop := by
  intro pins s σ H x vs v us Q I rx rv h
  obtain ⟨l, xs, y, rfl, rfl, hH, hy, q⟩ := h
  cases rx
  have hus := rv.zero
  subst hus
  obtain ⟨z, its, n, r, hl, e⟩ := I.lstM hH
  obtain ⟨u, hu, ru⟩ := r.get hy
  have hy' : its.toArray[its.toArray.size - 1]? = some u := by
    show its.toArray[its.length - 1]? = some u
    rw [← Array.getElem?_toList, ← hl]
    exact hu
  refine call_meets F.slot_list_pop ⟨_, e, rfl⟩ F.entry_list_pop (F.args_list_pop_1 _) (MeetsSeq.list_pop_last l its.toArray n u hy' (by rw [List.size_toArray]; omega)) ⟨e, ?_⟩
  refine ⟨y, _, I.lset (its' := its.dropLast) hH e ?_ r.dropLast ?_, ru, q⟩
  · show its.toArray.eraseIdxIfInBounds (its.toArray.size - 1) = its.dropLast.toArray
    rw [List.size_toArray, List.eraseIdxIfInBounds_toArray, erase_last]
  · rw [List.length_dropLast]
    omega

def rPopAt : V → List V → Hp → VK → Prop := fun x vs H Q => ∃ l xs i k y, x = .ref l ∧ vs = [.int i] ∧ H l = some (.lst xs) ∧ -(2 ^ 63) ≤ i ∧ i < 2 ^ 63 ∧ seqIndex? i xs.length = some k ∧ xs[k]? = some y ∧ Q y (upd H l (.lst (xs.eraseIdx k)))
theorem mt_popAt : MtM X "list.pop" rPopAt := by
  intro pins s σ H x vs v us Q I rx rv h
  obtain ⟨l, xs, i, k, y, rfl, rfl, hH, h1, h2, hk, hy, q⟩ := h
  cases rx
  obtain ⟨u, rfl, ru⟩ := rv.one
  obtain ⟨t, rfl⟩ := ru
  obtain ⟨z, its, n, r, hl, e⟩ := I.lstM hH
  obtain ⟨w, hw, rw'⟩ := r.get hy
  refine call_meets F.slot_list_pop ⟨_, e, rfl⟩ F.entry_list_pop (F.args_list_pop_2 _ _)
    (MeetsSeq.list_pop_at l its.toArray n i t k w (fitsIndex_both h1 h2) (by rw [List.size_toArray, ← hl]; exact hk) (by rw [← Array.getElem?_toList]; exact hw) (by rw [List.size_toArray]; omega)) ⟨e, ?_⟩
  refine ⟨y, _, I.lset (its' := its.eraseIdx k) hH e ?_ (r.eraseIdx k) ?_, rw', q⟩
  · show its.toArray.eraseIdxIfInBounds k = (its.eraseIdx k).toArray
    rw [List.eraseIdxIfInBounds_toArray]
  · have := len_erase xs k
    omega

def rReverse : V → List V → Hp → VK → Prop := fun x vs H Q => ∃ l xs, x = .ref l ∧ vs = [] ∧ H l = some (.lst xs) ∧ Q .non (upd H l (.lst xs.reverse))
theorem mt_reverse : MtM X "list.reverse" rReverse := by
  intro pins s σ H x vs v us Q I rx rv h
  obtain ⟨l, xs, rfl, rfl, hH, q⟩ := h
  cases rx
  have hus := rv.zero
  subst hus
  obtain ⟨z, its, n, r, hl, e⟩ := I.lstM hH
  refine call_meets F.slot_list_reverse ⟨_, e, rfl⟩ F.entry_list_reverse (F.args_list_reverse_1 _) (AutoSeq1.list_reverse_list_0 l its.toArray n (by rw [List.size_toArray]; omega)) ⟨e, ?_⟩
  refine ⟨.non, _, I.lset (its' := its.reverse) hH e (by simp) r.reverse ?_, rfl, q⟩
  rw [List.length_reverse]
  omega

def rClear : V → List V → Hp → VK → Prop := fun x vs H Q => ∃ l xs, x = .ref l ∧ vs = [] ∧ H l = some (.lst xs) ∧ Q .non (upd H l (.lst []))
theorem mt_clear : MtM X "list.clear" rClear := by
  intro pins s σ H x vs v us Q I rx rv h
  obtain ⟨l, xs, rfl, rfl, hH, q⟩ := h
  cases rx
  have hus := rv.zero
  subst hus
  obtain ⟨z, its, n, r, hl, e⟩ := I.lstM hH
  refine call_meets F.slot_list_clear ⟨_, e, rfl⟩ F.entry_list_clear (F.args_list_clear_1 _) (AutoSeq1.list_clear_list_0 l its.toArray n (by rw [List.size_toArray]; omega)) ⟨e, ?_⟩
  exact ⟨.non, _, I.lset (its' := []) (ys := []) hH e rfl .nil (Nat.zero_le _), rfl, q⟩

/-! ### list + list, list += list, list * int -/
def rCat : R2 := fun x y H Q => ∃ l b xs zs, x = .ref l ∧ y = .ref b ∧ H l = some (.lst xs) ∧ H b = some (.lst zs) ∧ xs.length + zs.length ≤ sizeLine ∧ ∀ p, H p = none → Q (.ref p) (upd H p (.lst (xs ++ zs)))
theorem op_cat : OpR X (binaryOp .Add) rCat := by
  intro pins s σ H x y v u Q I rx ry h
  obtain ⟨l, b, xs, zs, rfl, rfl, hH, hB, hz, q⟩ := h
  cases rx
  cases ry
  obtain ⟨z, its, n, r, hl, e⟩ := I.lstM hH
  obtain ⟨z2, its2, n2, r2, hl2, e2⟩ := I.lstM hB
  refine PySem.P.add_list e e2 ?_ (by rw [List.size_toArray, List.size_toArray]; omega)
  have ea : its.toArray ++ its2.toArray = (its ++ its2).toArray := by simp
  rw [ea]
  exact ⟨.ref _, _, I.lnew (t' := s.toks) (r.append r2) (by rw [List.length_append]; omega), rfl, q _ I.fresh⟩
/-- a list times an int (a negative one is nothing) -/
def rRep : R2 := fun x y H Q => ∃ l k xs, x = .ref l ∧ y = .int k ∧ H l = some (.lst xs) ∧ -(2 ^ 63) ≤ k ∧ k < 2 ^ 63 ∧ xs.length * k.toNat ≤ sizeLine ∧
  ∀ p, H p = none → Q (.ref p) (upd H p (.lst (List.replicate k.toNat xs).flatten))
theorem len_rep {α : Type} (xs : List α) (k : Nat) : (List.replicate k xs).flatten.length = k * xs.length := by
  induction k with
  | zero => simp
  | succ k ih => rw [List.replicate_succ, List.flatten_cons, List.length_append, ih, Nat.succ_mul, Nat.add_comm]
theorem op_rep : OpR X (binaryOp .Mult) rRep := by
  intro pins s σ H x y v u Q I rx ry h
  obtain ⟨l, k, xs, rfl, rfl, hH, h1, h2, hz, q⟩ := h
  cases rx
  obtain ⟨t, rfl⟩ := ry
  obtain ⟨z, its, n, r, hl, e⟩ := I.lstM hH
  have hlen : its.toArray.size * k.toNat ≤ sizeLine := by rw [List.size_toArray, ← hl]; exact hz
  have hcap : ¬ its.toArray.size * k.toNat > (2 ^ 63 - 1) / 8 := by
    have : (sizeLine : Nat) ≤ (2 ^ 63 - 1) / 8 := by decide
    omega
  have hfit : ¬ (!Builtin.List.listFitsIndex k) = true := by
    rw [fitsIndex_both h1 h2]
    exact Bool.false_ne_true
  have hlong : ¬ Builtin.List.listTooLong (its.toArray.size * k.toNat) = true := by
    rw [notLongL hlen]
    exact Bool.false_ne_true
  have hnew : List.foldl (fun x1 x2 => x1 ++ x2) #[] (List.replicate (if its.toArray.isEmpty = true then 0 else k.toNat) its.toArray) = (List.replicate k.toNat its).flatten.toArray := by
    have f0 : ∀ m : Nat, List.foldl (fun x1 x2 => x1 ++ x2) #[] (List.replicate m its.toArray) = (List.replicate m its).flatten.toArray := fun m => by
      have := foldl_rep its m []
      rw [List.nil_append] at this
      exact this
    rw [f0]
    cases its with
    | nil => simp
    | cons a r' => rw [if_neg (by simp)]
  refine wpAny_binaryOp_repeat_ref (T := "list") (U := "int") (by decide) ⟨_, e, rfl⟩ (fun s' => typeIs_int s' k t) noFill_list_mul F.fills_int_mul F.slot_int_rmul repeat_list F.slot_int_index.lookup
    (call_meets F.slot_int_rmul (typeIs_int s k t) F.entry_int_rmul (F.args_int_rmul_2 _ _) (int___rmul___int_list k t l its.toArray n)
      ⟨e, rfl, ⟨_, e, rfl⟩, call_meets F.slot_list_mul ⟨_, e, rfl⟩ F.entry_list_mul (F.args_list_mul_2 _ _) (AutoListH.list___mul___list_int_3 l its.toArray n k t hfit hcap hlong) ⟨e, ?_⟩⟩)
  rw [hnew]
  exact ⟨.ref _, _, I.lnew (t' := s.toks) (r.rep k.toNat) (by rw [len_rep, Nat.mul_comm]; exact hz), rfl, q _ I.fresh⟩

/-! ### del xs[i] -/
theorem del_list {pins : List (Addr × Obj)} {s : Shared} {σ : St} {H : Hp} {l : Addr} {xs : List V} {i : Int} {t : Tok} {k : Nat} {Q : Unit → Shared → Prop} (I : Inv X pins σ H s) (hH : H l = some (.lst xs))
    (h1 : -(2 ^ 63) ≤ i) (h2 : i < 2 ^ 63) (hk : seqIndex? i xs.length = some k) (h : ∀ s', Inv X pins σ (upd H l (.lst (xs.eraseIdx k))) s' → Q () s') :
    wpAny (model X.prog X.w) X.A (delItem (.ref l) (.int i t)) Q X.xe s := by
  obtain ⟨z, its, n, r, hl, e⟩ := I.lstM hH
  refine PySem.P.delItem_list (k := k) e (fitsIndex_both h1 h2) (by rw [List.size_toArray, ← hl]; exact hk) (h _ ?_) (by rw [List.size_toArray]; omega)
  refine I.lset (its' := its.eraseIdx k) (t' := s.toks) hH e ?_ (r.eraseIdx k) ?_
  · show its.toArray.eraseIdxIfInBounds k = (its.eraseIdx k).toArray
    rw [List.eraseIdxIfInBounds_toArray]
  · have := len_erase xs k
    omega
end

/-! ### xs[a:b] = ys -/
section
variable {prog : Program} {w : World} {A : Around} {E : Value → Shared → Prop} {s : Shared}
theorem splice_eq (its its2 : List Value) (a c : Nat) : its.toArray.extract 0 a ++ its2.toArray ++ its.toArray.extract c its.toArray.size = (its.take a ++ its2 ++ its.drop c).toArray := by
  apply Array.toList_inj.mp
  first
    | (simp
       exact List.take_of_length_le (by simp))
    | simp [List.take_of_length_le]
    | simp
theorem bounds_run {a c n : Nat} (hac : a ≤ c) (hc : c ≤ n) : sliceBounds (some (a : Int)) (some (c : Int)) none n = ((a : Int), (c : Int), 1) := by
  simp only [sliceBounds, Option.getD_none]
  have h1 : ¬ ((a : Int) < 0) := by omega
  have h2 : ¬ ((c : Int) < 0) := by omega
  simp only [h1, h2, if_false, show (1 : Int) > 0 by decide, if_true]
  congr 1
  · omega
  · congr 1; omega
set_option maxRecDepth 100000 in
/-- list.__setitem__ with a slice of step one and another list -/
theorem setItem_slice {l b sl : Addr} {items new : Array Value} {n n2 : Nat} {vl vu : Value} {a c : Nat} {Q : Unit → Shared → Prop}
    (e : s.heap.get? l = some { cls := .type "list", data := .seq items n }) (e2 : s.heap.get? b = some { cls := .type "list", data := .seq new n2 }) (hne : l ≠ b)
    (hs : s.heap.IsSliceOf sl vl vu .none) (pl : IsPart vl (some (a : Int))) (pu : IsPart vu (some (c : Int))) (hac : a ≤ c) (hc : c ≤ items.size)
    (hsz : items.size + new.size ≤ sizeLine) (h : Q () { s with heap := s.heap.update l (Obj.mapSeq fun xs => xs.extract 0 a ++ new ++ xs.extract c xs.size) }) :
    wpAny (model prog w) A (setItem (.ref l) (.ref sl) (.ref b)) Q E s := by
  have hl : s.heap.IsList l items := PySem.IsL.isList e
  have hb : s.heap.IsList b new := PySem.IsL.isList e2
  obtain ⟨os, hos, hcs, hds⟩ := id hs
  have hTs : s.TypeIs (.ref sl) "slice" := ⟨os, hos, hcs⟩
  have hstep : ¬ ((rawPart none == rawInt 0) = true) := Bool.false_ne_true
  have hsame : Builtin.List.listSameRef (.ref l) (.ref b) = false := by
    unfold Builtin.List.listSameRef
    exact beq_eq_false_iff_ne.mpr hne
  have hmax : (max (a : Int) (c : Int)).toNat = c := by omega
  have hz' : ((fun xs : Array Value => xs.extract 0 a ++ new ++ xs.extract c xs.size) items).size ≤ sizeLine + 1 := by
    simp only [Array.size_append, Array.size_extract]
    omega
  unfold setItem
  try with_reducible refine wpAny_holding ?_
  first | refine wpAny_bind (wpAny_pure ?_) | skip
  refine wpAny_bind (wpAny_sequenceKey hl.typeIs (by decide) ?_)
  refine wpAny_bind (wpAny_callSpecial?_slot (name := Str.ofString "__setitem__") hl.typeIs slot_list_setitem
    (wpAny_call_entry slot_list_setitem hl.typeIs entry_list_setitem ?_ (args_list_setitem _ _ _)))
  show wpAny _ _ (Builtin.List.listSubscript? (.ref sl) >>= _) _ _ s
  refine wpAny_bind ?_
  unfold Builtin.List.listSubscript?
  refine wpAny_bind (wpAny_specialOf hTs slice_no_index ?_)
  simp only [Option.isNone_none, if_true]
  refine wpAny_pure ?_
  show wpAny _ _ (typeOf (.ref sl) >>= _) _ _ s
  refine wpAny_bind (wpAny_typeOf hTs ?_)
  first
    | rw [if_neg (by decide)]
    | refine PySem.W.KFB.if_not (by decide) ?_
  rw [listSliceParts_eq]
  refine wpAny_bind (wpAny_bind (wpAny_field hos hds (x := .none) rfl (wpAny_bind (wpAny_listPart .none ?_))))
  rw [if_neg hstep]
  refine wpAny_bind (wpAny_field hos hds (x := vl) rfl (wpAny_bind (wpAny_listPart pl ?_)))
  refine wpAny_bind (wpAny_field hos hds (x := vu) rfl (wpAny_bind (wpAny_listPart pu (wpAny_pure ?_))))
  first
    | simp only [hsame, Bool.false_eq_true, if_false]
    | refine PySem.W.KFB.if_not hsame ?_
    | (dsimp only
       rw [if_neg (by rw [hsame]; exact Bool.false_ne_true)])
  refine wpAny_bind (m := Builtin.List.listAllItems (.ref b) "must assign iterable to extended slice") ?_
  unfold Builtin.List.listAllItems
  refine wpAny_bind (wpAny_typeOf hb.typeIs ?_)
  first
    | refine PySem.W.KFB.if_so (by decide) ?_
    | rw [if_pos (by decide)]
    | simp only [beq_self_eq_true, Bool.true_or, if_true]
  unfold Builtin.List.listItems
  refine wpAny_bind (wpAny_seqItems e2 rfl (wpAny_pure ?_))
  refine wpAny_bind (wpAny_bind (wpAny_seqItems e rfl (wpAny_pure ?_)))
  refine wpAny_bind (wpAny_of_eq ((sliceIndices_raw (some (a : Int)) (some (c : Int)) none items.size (by simp)).trans (congrArg (pure : Int × Int × Int → Sem (Int × Int × Int)) (bounds_run hac hc))) ?_)
  show wpAny _ _ (if ((1 : Int) == 1) = true then _ else _) _ _ s
  rw [if_pos (by decide)]
  refine wpAny_bind (wpAny_rule ?_)
  first
    | simp only [notLongL hsz, Bool.false_eq_true, if_false]
    | refine PySem.W.KFB.if_not (notLongL hsz) ?_
  first | refine wpAny_bind (wpAny_pure ?_) | skip
  show wpAny _ _ (updateSeq l (fun xs => xs.extract 0 ((a : Int)).toNat ++ new ++ xs.extract (max (a : Int) (c : Int)).toNat xs.size) >>= _) _ _ s
  rw [hmax, Int.toNat_natCast]
  refine wpAny_bind (wpAny_updateSeq (hz := Nat.le_trans (Nat.le_add_right _ _) hsz) (_hz' := hz') e rfl ?_)
  refine wpAny_bind (wpAny_letGo ?_)
  first
    | exact wpAny_bind (wpAny_pure (wpAny_pure ⟨.none, rfl, wpAny_pure h⟩))
    | exact wpAny_pure ⟨.none, rfl, wpAny_pure h⟩
end

section
variable {X : Cx}
/-- xs[a:c] = ys of another list, at the value level: sl is the slice object that was just made -/
theorem set_slice {pins : List (Addr × Obj)} {s : Shared} {σ : St} {H : Hp} {l b sl : Addr} {xs ys : List V} {a c : Int} {vl vu : Value} {Q : Unit → Shared → Prop} (I : Inv X pins σ H s)
    (hH : H l = some (.lst xs)) (hB : H b = some (.lst ys)) (hne : l ≠ b) (hs : s.heap.IsSliceOf sl vl vu .none) (ra : RelV (.int a) vl) (rc : RelV (.int c) vu) (h0 : 0 ≤ a) (hac : a ≤ c) (hc : c ≤ xs.length)
    (hz : xs.length + ys.length ≤ sizeLine) (h : ∀ s', Inv X pins σ (upd H l (.lst (xs.take a.toNat ++ ys ++ xs.drop c.toNat))) s' → Q () s') :
    wpAny (model X.prog X.w) X.A (setItem (.ref l) (.ref sl) (.ref b)) Q X.xe s := by
  obtain ⟨ta, rfl⟩ := ra
  obtain ⟨tc, rfl⟩ := rc
  obtain ⟨z, its, n, r, hl, e⟩ := I.lstM hH
  obtain ⟨z2, its2, n2, r2, hl2, e2⟩ := I.lstM hB
  obtain ⟨a', rfl⟩ := Int.eq_ofNat_of_zero_le h0
  obtain ⟨c', rfl⟩ := Int.eq_ofNat_of_zero_le (Int.le_trans h0 hac)
  simp only [Int.toNat_natCast] at h
  refine setItem_slice (a := a') (c := c') e e2 hne hs (.int _ _) (.int _ _) (by omega) (by rw [List.size_toArray]; omega) (by rw [List.size_toArray, List.size_toArray]; omega) (h _ ?_)
  refine I.lset (its' := its.take a' ++ its2 ++ its.drop c') (t' := s.toks) hH e ?_ (Vals.append (Vals.append (r.take _) r2) (r.drop _)) ?_
  · exact splice_eq its its2 a' c'
  · rw [List.length_append, List.length_append, List.length_take, List.length_drop]
    omega
end
end L2

namespace Att
open PySem PySem.W PySem.Calls PyProof.Rows

/-! ### the script -/
theorem ints_of_wellAll {P : Params} {h : Heap} : ∀ (ns : List Int) (vs : List Value), WellAll P h vs (ns.map WData.int) → IntsAre vs ns := by
  intro ns
  induction ns with
  | nil =>
    intro vs w
    rw [List.map_nil] at w
    cases w
    exact .nil
  | cons n ns ih =>
    intro vs w
    rw [List.map_cons] at w
    cases w with
    | cons a b =>
      cases a
      exact .cons _ _ (ih _ b)

theorem script_of {l : OpenLaw} {n : Nat} (hn : l.most = some n) {P : Params} {h : Heap} {args : List WData} {vals : List Value}
    (hpre : l.row.toRowW.claim.pre args = true) (hwl : WellAll P h vals args) :
    ∃ a vs ns, vals = [Value.ref a] ∧ args = [WData.list (ns.map WData.int)] ∧ h.get? a = some { cls := .type "list", data := .seq vs.toArray } ∧ IntsAre vs ns ∧ ns.length ≤ n := by
  have hsh : WShape.hasAll [] args [.list .int] = true := (pre_splitW hpre).1
  have hc : l.pre.holds [] { args := args } = true := (pre_splitW hpre).2
  obtain ⟨d, r, rfl, h1, h2⟩ := hasAllW_cons hsh
  obtain rfl := hasAllW_nil h2
  obtain ⟨xs, rfl, h3⟩ := hasW_list h1
  obtain ⟨ns, rfl⟩ := items_int h3
  have hlen : ns.length ≤ n := by
    unfold OpenLaw.pre at hc
    have h4 : (WTm.not (.lt (.lit (.int (n : Int))) (.len (.arg 0)))).holds [] { args := [.list (ns.map .int)] } = true := by
      have h4 := (holds_andW hc).1
      rw [hn] at h4
      exact h4
    have h5 := condW_of h4 (w_not (w_lt w_lit (w_len_list (w_arg rfl))))
    rw [List.length_map] at h5
    refine Nat.le_of_not_lt fun q => ?_
    have q' : (n : Int) < ((ns.length : Nat) : Int) := by omega
    first
      | (rw [decide_eq_true q'] at h5; exact absurd h5 (by decide))
      | (simp at h5; omega)
  cases hwl with
  | cons w1 w2 =>
    cases w2
    cases w1 with
    | list ho hall => exact ⟨_, _, ns, rfl, rfl, ho, ints_of_wellAll ns _ hall, hlen⟩

theorem post_true (l : OpenLaw) (args : List WData) : l.row.toRowW.claim.post args (.bool true) args = true :=
  postW_of (r := l.row.toRowW) (X := (true == true))
    (show WShape.has [] (.bool true) .bool = true by first | rfl | decide | simp [WShape.has, WShape.arms, WShape.armsAll])
    (show (WTm.eq .res (.lit (.bool true))).value [] { args := args, res := some (.bool true), after := args } = some (.bool (true == true)) from w_eq_bool (w_res rfl) w_lit) rfl

/-! ### the attachment: holds_open's last premise (the goal 'hc' behind k_head) from a wpAny of the law's body -/
theorem attach {l : OpenLaw} {n : Nat} {q : Program} {loose : List Str} {XP : (Str → Option Value) → Heap → Prop} {YP : World → Heap → Prop} {d : DefRec} {x : Str}
    (hn : l.most = some n) (hdf : d.params.defaults = [])
    (hbind : ∀ pm cd doc v : Value, bindArgs (docDef d.name d.params d.body d.scope pm cd doc) ⟨[v], []⟩ = pure [(x, v)])
    (hx : d.scope.names.lookup x = some .local ∨ d.scope.names.lookup x = some .cell)
    (hk : d.scope.kind = .function) (hco : d.scope.isCoroutine = false) (hgen : d.scope.isGenerator = false)
    (body : ∀ (w : World) (s₀ s₁ s : Shared) (mg mb : Str → Option Value) (fa : Addr) (o : Obj) (pm cd doc : Value) (a : Addr) (vs : List Value) (ns : List Int),
      Ground q loose [] XP w s₀ mg mb s₁.heap → YP w s₁.heap →
      s₁.heap.get? fa = some o → o.data = .func (docDef d.name d.params d.body d.scope pm cd doc) → s₁.heap.CodeRec cd d.name → mg d.name = some (.ref fa) →
      s₁.heap.get? a = some { cls := .type "list", data := .seq vs.toArray } → IntsAre vs ns → ns.length ≤ n →
      s.gens = #[] → s.os = s₁.os →
      Fr s₁.heap s₁.heap.objs.size s.heap (bindL (envOfC d.name d.scope s₁.heap.objs.size fa cd).kindOf [(x, .ref a)] fun _ => none) →
      Cl s₁.heap.objs.size (cellsFrom (s₁.heap.objs.size + 1) d.scope.names []) s.heap (bindC (envOfC d.name d.scope s₁.heap.objs.size fa cd).kindOf [(x, .ref a)] fun _ => none) →
      wpAny (model l.prog w) (callerA.deeper (envOfC d.name d.scope s₁.heap.objs.size fa cd)) (execs d.body (envOfC d.name d.scope s₁.heap.objs.size fa cd))
        (fun f s' => f = .ret (.bool true) ∧ OldK s₁.heap s'.heap ∧ s'.os = s₁.os ∧ AllBare s'.gens) (fun _ _ => False) s) :
    WalkO q loose XP YP l.row.toRowW d [] (fun f vs => PySem.call f vs) := by
  intro w s₀ s₁ mg mb G Y fa o pm cd doc dV kV ho hd hcd hD hmg hg args vals as hpre hlay hrd hwl hlo
  obtain rfl : dV = .none := Dflts.none hD hdf
  obtain rfl : kV = .none := Dflts.noKw hD
  obtain ⟨a, vs, ns, rfl, rfl, hobj, hints, hlen⟩ := script_of hn hpre hwl
  refine enter_call ?_
  refine call_cells_ret (o := o) (by rw [depth_caller]; decide) ho (fd_plain hd) G.T.nolimit hcd (hbind pm cd doc (.ref a)) (fun y hy => ?_) (fun h₁ tk F X => ?_) hco hgen hk
  · obtain rfl : y = (x, Value.ref a) := List.mem_singleton.mp hy
    rcases hx with e | e
    · exact .inl e
    · exact .inr ⟨e, cellsFrom_some _ _ _ (.inl e)⟩
  · refine wpAny_mono (body w s₀ s₁ { s₁ with heap := h₁, toks := tk } mg mb fa o pm cd doc a vs ns G Y ho (fd_plain hd) hcd hmg hobj hints hlen hg rfl F X) (fun f s' hq => ?_) (fun _ _ hq => hq)
    obtain ⟨rfl, h2, h3, h4⟩ := hq
    exact ⟨.inl ⟨.bool true, .bool true, [], rfl, fun _ => rfl, .bool true, post_true l _, fun _ => ⟨List.Pairwise.nil, fun _ hm => (nomatch hm)⟩⟩, h2, h3, h4⟩

/-- the same from a codeAny of the CALL (for a layer whose function contracts speak of calls) -/
theorem attach_call {l : OpenLaw} {n : Nat} {q : Program} {loose : List Str} {XP : (Str → Option Value) → Heap → Prop} {YP : World → Heap → Prop} {d : DefRec}
    (hn : l.most = some n) (hdf : d.params.defaults = [])
    (call : ∀ (w : World) (s₀ s₁ : Shared) (mg mb : Str → Option Value) (fa : Addr) (o : Obj) (pm cd doc : Value) (a : Addr) (vs : List Value) (ns : List Int),
      Ground q loose [] XP w s₀ mg mb s₁.heap → YP w s₁.heap →
      s₁.heap.get? fa = some o → o.data = .func (docDef d.name d.params d.body d.scope pm cd doc) → s₁.heap.CodeRec cd d.name → mg d.name = some (.ref fa) →
      s₁.heap.get? a = some { cls := .type "list", data := .seq vs.toArray } → IntsAre vs ns → ns.length ≤ n → s₁.gens = #[] →
      codeAny (model l.prog w) callerA (.call (.ref fa) ⟨[.ref a], []⟩) (fun r s' => r = .ok (.ret (.bool true)) ∧ OldK s₁.heap s'.heap ∧ s'.os = s₁.os ∧ AllBare s'.gens) s₁) :
    WalkO q loose XP YP l.row.toRowW d [] (fun f vs => PySem.call f vs) := by
  intro w s₀ s₁ mg mb G Y fa o pm cd doc dV kV ho hd hcd hD hmg hg args vals as hpre hlay hrd hwl hlo
  obtain rfl : dV = .none := Dflts.none hD hdf
  obtain rfl : kV = .none := Dflts.noKw hD
  obtain ⟨a, vs, ns, rfl, rfl, hobj, hints, hlen⟩ := script_of hn hpre hwl
  refine enter_call (codeAny_mono (call w s₀ s₁ mg mb fa o pm cd doc a vs ns G Y ho (fd_plain hd) hcd hmg hobj hints hlen hg) fun r s' hq => ?_)
  obtain ⟨rfl, h2, h3, h4⟩ := hq
  exact ⟨.inl ⟨.bool true, .bool true, [], rfl, fun _ => rfl, .bool true, post_true l _, fun _ => ⟨List.Pairwise.nil, fun _ hm => (nomatch hm)⟩⟩, h2, h3, h4⟩

/-- the same where the top left finished generators (o_head chose holds_openN): nothing may have changed at all and no generator may be left -/
theorem attachN {l : OpenLaw} {n : Nat} {q : Program} {loose : List Str} {XP : (Str → Option Value) → Heap → Prop} {YP : World → Heap → Prop} {d : DefRec} {x : Str}
    (hn : l.most = some n) (hdf : d.params.defaults = [])
    (hbind : ∀ pm cd doc v : Value, bindArgs (docDef d.name d.params d.body d.scope pm cd doc) ⟨[v], []⟩ = pure [(x, v)])
    (hx : d.scope.names.lookup x = some .local ∨ d.scope.names.lookup x = some .cell)
    (hk : d.scope.kind = .function) (hco : d.scope.isCoroutine = false) (hgen : d.scope.isGenerator = false)
    (body : ∀ (w : World) (s₀ s₁ s : Shared) (mg mb : Str → Option Value) (fa : Addr) (o : Obj) (pm cd doc : Value) (a : Addr) (vs : List Value) (ns : List Int),
      Ground q loose [] XP w s₀ mg mb s₁.heap → YP w s₁.heap →
      s₁.heap.get? fa = some o → o.data = .func (docDef d.name d.params d.body d.scope pm cd doc) → s₁.heap.CodeRec cd d.name → mg d.name = some (.ref fa) →
      s₁.heap.get? a = some { cls := .type "list", data := .seq vs.toArray } → IntsAre vs ns → ns.length ≤ n →
      s.gens = #[] → s.os = s₁.os →
      Fr s₁.heap s₁.heap.objs.size s.heap (bindL (envOfC d.name d.scope s₁.heap.objs.size fa cd).kindOf [(x, .ref a)] fun _ => none) →
      Cl s₁.heap.objs.size (cellsFrom (s₁.heap.objs.size + 1) d.scope.names []) s.heap (bindC (envOfC d.name d.scope s₁.heap.objs.size fa cd).kindOf [(x, .ref a)] fun _ => none) →
      wpAny (model l.prog w) (callerA.deeper (envOfC d.name d.scope s₁.heap.objs.size fa cd)) (execs d.body (envOfC d.name d.scope s₁.heap.objs.size fa cd))
        (fun f s' => f = .ret (.bool true) ∧ (∀ b o, s₁.heap.get? b = some o → s'.heap.get? b = some o) ∧ s'.os = s₁.os ∧ s'.gens = #[]) (fun _ _ => False) s) :
    WalkN q loose XP YP l.row.toRowW d [] (fun f vs => PySem.call f vs) := by
  intro w s₀ s₁ mg mb G Y fa o pm cd doc dV kV ho hd hcd hD hmg hg args vals as hpre hlay hrd hwl hlo
  obtain rfl : dV = .none := Dflts.none hD hdf
  obtain rfl : kV = .none := Dflts.noKw hD
  obtain ⟨a, vs, ns, rfl, rfl, hobj, hints, hlen⟩ := script_of hn hpre hwl
  refine enter_callW ?_
  refine call_cells_ret (o := o) (by rw [depth_caller]; decide) ho (fd_plain hd) G.T.nolimit hcd (hbind pm cd doc (.ref a)) (fun y hy => ?_) (fun h₁ tk F X => ?_) hco hgen hk
  · obtain rfl : y = (x, Value.ref a) := List.mem_singleton.mp hy
    rcases hx with e | e
    · exact .inl e
    · exact .inr ⟨e, cellsFrom_some _ _ _ (.inl e)⟩
  · refine wpAny_mono (body w s₀ s₁ { s₁ with heap := h₁, toks := tk } mg mb fa o pm cd doc a vs ns G Y ho (fd_plain hd) hcd hmg hobj hints hlen hg rfl F X) (fun f s' hq => ?_) (fun _ _ hq => hq)
    obtain ⟨rfl, h2, h3, h4⟩ := hq
    exact ⟨.inl ⟨.bool true, .bool true, [], rfl, fun _ => rfl, .bool true, post_true l _, fun _ => ⟨List.Pairwise.nil, fun _ hm => (nomatch hm)⟩⟩, h2, h3, h4⟩

/-! ### rules over ANY heap (no ledger) from facts about the written part K: the library's own take a ledger (News) for what they write -/
section
variable {prog : Program} {w : World} {A : Around} {E : Value → Shared → Prop} {s : Shared} {K : Frag}

/-- a def of the module, or a method (qual 'C.m'), entered: the frame is the next address; cells behind it -/
theorem call_fn {R : Result → Shared → Prop} {name qual : Str} {params : Arguments} {body : List Stmt} {scope : Scope} {dV kV doc pm cdv ct oc : Value} {an od : Option Addr} {osl : Array (Option Value)} {f : Addr} {args : Args} {binds : List (Str × Value)}
    (X : K.In s.heap) (hlim : s.heap.NoLimit) (ho : K.lookup f = some ⟨oc, od, .func (fnOf name qual params body scope dV kV doc pm an cdv ct), osl⟩) (hcd : codeIn K cdv qual = true) (hroom : A.depth < recursionLimit)
    (hbind : BindsTo s (fnOf name qual params body scope dV kV doc pm an cdv ct) args binds)
    (hkind : (binds.all fun y => scope.names.lookup y.1 == some .local || scope.names.lookup y.1 == some .cell) = true)
    (h : ∀ s₁, InCallC s s.heap.objs.size (bindL (envOfC qual scope s.heap.objs.size f cdv).kindOf binds fun _ => none) (cellsFrom (s.heap.objs.size + 1) scope.names [])
        (bindC (envOfC qual scope s.heap.objs.size f cdv).kindOf binds fun _ => none) s₁ →
      wpAny (model prog w) (A.deeper (envOfC qual scope s.heap.objs.size f cdv)) (execs body (envOfC qual scope s.heap.objs.size f cdv))
        (fun fl s' => R (.ok (.ret (match fl with | .ret v => v | _ => .none))) s')
        (fun e s' => wpAny (model prog w) (A.deeper (envOfC qual scope s.heap.objs.size f cdv)) (leaving (envOfC qual scope s.heap.objs.size f cdv) e) (fun _ s'' => R (.error e) s'') (fun e' s'' => R (.error e') s'') s') s₁)
    (hco : scope.isCoroutine = false) (hgen : scope.isGenerator = false) (hk : scope.kind = .function) : codeAny (model prog w) A (.call (.ref f) args) R s := by
  refine codeAny_call_function hroom (X _ _ ho) rfl hco hgen rfl (codeRec_of X hcd) (hbind _ _ _ _ ?_)
  refine wpAny_newFunctionEnv_cells hk (kindsX hkind _) fun env he s₁ x => ?_
  subst he
  exact ⟨hlim.keeps x.toInCall.keep, codeAny_func (h s₁ x)⟩

/-- C(..): dict at size, instance at size + 1, then __init__ -/
theorem make_obj {R : Result → Shared → Prop} {C fI : Addr} {rest : List Value} {kw : List (Str × Value)}
    (X : K.In s.heap) (hm : makesIn K C = true) (hi : findIn K (.ref C) "__init__" = some (some (.ref fI))) (hf : isFn K (.ref fI) = true)
    (h : codeAny (model prog w) (A.under (.builtin "type.__call__" ⟨.ref C :: rest, kw⟩)) (.call (.ref fI) ⟨.ref (s.heap.objs.size + 1) :: rest, kw⟩) (InitBack (s.heap.objs.size + 1) R)
      { s with heap := (s.heap.push emptyDict).push (instObj C s.heap.objs.size) }) : codeAny (model prog w) A (.call (.ref C) ⟨rest, kw⟩) R s := by
  obtain ⟨hh, g, d, t, os⟩ := s
  exact make_core (makes_of X hm) (looks_findIn X hi) (fun self => bind_fn X self (beq_iff_eq.mp hf)) (.inl rfl) h

/-- x.name where the instance's dict holds the name and the class does not -/
theorem get_field {x C : Addr} {ox : Obj} {es : List DictEntry} {n : Nat} {name : Str} {expr : Bool} {v : Value} {Q : Value → Shared → Prop}
    (X : K.In s.heap) (I : PySem.W.InstAt s.heap x ox C (some (dictOf es n))) (hg : plainGet K C name = true) (hh : hasDictIn K C = true) (ha : findIn K (.ref C) name = some none)
    (hl : getL name es = some (some v)) (hv : handedIn v = true) (h : Q v { s with toks := s.toks + 1 }) : wpAny (model prog w) A (getAttr (.ref x) name expr) Q E s :=
  get_value X I (plainGet_of hg).1 (findObj_own hh ha rfl hl) hv h

/-- x.m(..): the method found in the class -/
theorem get_method {x C f : Addr} {ox : Obj} {es : List DictEntry} {n : Nat} {name : Str} {pl : Sem Bool} {Q : Value × List Value → Shared → Prop}
    (X : K.In s.heap) (I : PySem.W.InstAt s.heap x ox C (some (dictOf es n))) (hg : plainGet K C name = true) (hf : findIn K (.ref C) name = some (some (.ref f))) (ht : isFn K (.ref f) = true)
    (hl : getL name es = some none) (h : Q (.ref f, [.ref x]) s) : wpAny (model prog w) A (getMethod (.ref x) name pl) Q E s :=
  method_fn X I (plainGet_of hg).1 (plainGet_of hg).2 hf (beq_iff_eq.mp ht) (by show (lookIn name (dictOf es n)).map _ = _; rw [lookIn_dict, hl]; rfl) h

/-! the whole heap as the ledger: makes every rule that writes through a ledger a rule over any heap -/
def noObjs (h : Heap) : Heap := { h with objs := #[] }
theorem noObjs_get (h : Heap) (b : Addr) : (noObjs h).get? b = none := by
  cases e : (noObjs h).get? b with
  | none => rfl
  | some o => exact absurd (Heap.lt_size e) (Nat.not_lt_zero _)
def ledger (h : Heap) (L d : Addr) : List (Addr × Obj) := (List.range h.objs.size).filterMap fun a => if a = L ∨ a = d then none else (h.get? a).map fun o => (a, o)
theorem mem_ledger {h : Heap} {L d a : Addr} {o : Obj} : (a, o) ∈ ledger h L d ↔ a ≠ L ∧ a ≠ d ∧ h.get? a = some o := by
  unfold ledger
  rw [List.mem_filterMap]
  constructor
  · rintro ⟨b, _, e⟩
    split at e
    · cases e
    · rename_i hb
      obtain ⟨o', ho, e'⟩ := Option.map_eq_some_iff.mp e
      cases e'
      exact ⟨fun q => hb (.inl q), fun q => hb (.inr q), ho⟩
  · rintro ⟨n1, n2, ho⟩
    refine ⟨a, List.mem_range.mpr (Heap.lt_size ho), ?_⟩
    rw [if_neg (show ¬ (a = L ∨ a = d) from fun q => q.elim n1 n2), ho] <;> rfl
theorem news_ledger {h : Heap} {L d : Addr} {od : Obj} (hne : d ≠ L) (ho : h.get? d = some od) : News (noObjs h) L h ([] ++ (d, od) :: ledger h L d) := by
  rintro ⟨a, o⟩ hp
  rcases List.mem_cons.mp hp with e | hp
  · cases e
    exact ⟨ho, hne, noObjs_get _ _⟩
  · obtain ⟨n1, n2, e⟩ := mem_ledger.mp hp
    exact ⟨e, n1, noObjs_get _ _⟩
theorem fr_all {h : Heap} {L : Addr} {m : Str → Option Value} (n : h.Ns L m) : Fr (noObjs h) L h m :=
  ⟨n, fun b o e => (by rw [noObjs_get] at e; cases e), Nat.zero_le _⟩
/-- Upd of the head entry (for append_K, setItem_K ..) -/
theorem upd_ledger {h : Heap} {L d : Addr} {o o' : Obj} : Upd d o o' ((d, o) :: ledger h L d) ((d, o') :: ledger h L d) :=
  .head fun ⟨_, _⟩ hp => (mem_ledger.mp hp).2.1

/-- x.name = v over any heap: L is any namespace of the heap (the frame's, say): its map stays, its object is not told; all else but the dict stays -/
theorem set_field {x C dx L : Addr} {ox : Obj} {m : Str → Option Value} {es es' : List DictEntry} {n n' : Nat} {name : Str} {v : Value} {Q : Unit → Shared → Prop}
    (X : K.In s.heap) (I : PySem.W.InstAt s.heap x ox C (some (dictOf es n))) (hd : ox.dict = some dx) (hL : s.heap.Ns L m) (hne : dx ≠ L)
    (hs : findIn K (.ref C) "__setattr__" = some (some (.builtin "object.__setattr__"))) (hp : plainOver K C = true) (ht : takerIn K C name = some none) (hh : hasDictIn K C = true) (hl : (getL name es).isSome = true)
    (e : (putL name (PyData.keyHash w.params name) (.str name (s.toks + 1)) v es, putN name es n) = (es', n')) (hz : es'.length ≤ 1000)
    (h : ∀ h' : Heap, h'.Ns L m → h'.get? dx = some (dictOf es' n') → (∀ b o, b ≠ dx → b ≠ L → s.heap.get? b = some o → h'.get? b = some o) → Q () { s with heap := h', toks := s.toks + 2 }) :
    wpAny (model prog w) A (setAttr (.ref x) name v) Q E s := by
  obtain ⟨e1, e2⟩ := Prod.mk.inj e
  have hdx : s.heap.get? dx = some (dictOf es n) := by
    have := I.dict
    rw [hd] at this
    exact this
  refine set_plain X I hs (osa_dict (s := { s with toks := s.toks + 1 }) (h₀ := noObjs s.heap) (L := L) (m := m) (od := dictOf es n) (od' := dictOf es' n') (es := es') (n := n') (pre := []) (post := ledger s.heap L dx)
    (fr_all hL) (news_ledger hne hdx) X I hd hp ht hh hl (fun _ q => nomatch q) (fun ⟨_, _⟩ q => (mem_ledger.mp q).2.1) (by rw [putName_dict, e1, e2]) rfl hz fun h' F' N' => ?_)
  exact h h' F'.ns (N'.get (List.Mem.head _)) fun b o n1 n2 ho => N'.get (List.Mem.tail _ (mem_ledger.mpr ⟨n2, n1, ho⟩))
end
end Att

namespace L2
open PySem PySem.Spec PyProof.Rows

theorem vals_ints : ∀ {vs : List Value} {ns : List Int}, IntsAre vs ns → Vals (ns.map V.int) vs
  | _, _, .nil => .nil
  | _, _, .cons n t h => .cons ⟨t, rfl⟩ (vals_ints h)

/-- nothing is tracked but the script, known to the object (or it is an object of the module) -/
def Only (H : Hp) : Prop := ∀ b, H b = none ∨ ∃ o xs, H b = some (.frz o (.lst xs))

/-- THE HEAD: the law's promise, at the heap behind the top. F, the promise of the law's def, may use that base is part of the heap (so K.In base, base.Ns mainGlobals mg stand in Mod) -/
theorem law_call {P : Program} {w : World} {K : PySem.W.Frag} {mg mb : Str → Option Value} {CX : CXT} {k : Nat} {fa a : Addr} {fd : FuncData} {x : Str} {sp : Sp} {s₁ : Shared} {vs : List Value} {ns : List Int}
    (KX : K.In s₁.heap) (hns : s₁.heap.Ns mainGlobals mg) (hb : s₁.heap.Ns builtinsNs mb) (hbb : ∀ x : Str, x ≠ "__name__" → mb x = bootBuiltins x) (hlim : s₁.heap.NoLimit) (hg : s₁.gens = #[])
    (ha : s₁.heap.get? a = some { cls := .type "list", data := .seq vs.toArray }) (hi : IntsAre vs ns) (hl : ns.length ≤ sizeLine) (hr : Room k callerA)
    (F : ∀ base : Heap, K.In base → base.Ns mainGlobals mg → FnOk P w K mg base CX k fa fd [x] sp) (hbind : ∀ (s : Shared) (u : Value), BindsTo s fd ⟨[u], []⟩ [(x, u)])
    (hsp : ∀ H : Hp, Only H → SqL K H a (ns.map V.int) → sp [.ref a] H (fun v _ => v = .bl true) fun _ _ _ => False)
    (hCX : ∀ H e s', CX [] H s₁ (fun _ _ _ => False) e s' → False) :
    codeAny (model P w) callerA (.call (.ref fa) ⟨[.ref a], []⟩) (fun r s' => r = .ok (.ret (.bool true)) ∧ OldK s₁.heap s'.heap ∧ s'.os = s₁.os ∧ AllBare s'.gens) s₁ := by
  have rv := vals_ints hi
  have lenV := hi.length
  -- from an abstract heap in which nothing but the script may be tracked
  have core : ∀ H : Hp, Only H → SqL K H a (ns.map V.int) → HOk P w H s₁.heap → (∀ b, H b ≠ none → b = a) → (H a ≠ none → K.lookup a = none) →
      codeAny (model P w) callerA (.call (.ref fa) ⟨[.ref a], []⟩) (fun r s' => r = .ok (.ret (.bool true)) ∧ OldK s₁.heap s'.heap ∧ s'.os = s₁.os ∧ AllBare s'.gens) s₁ := by
    intro H hO hS hok hA hK
    have base_of : ∀ {b : Addr} {o : Obj}, s₁.heap.get? b = some o → H b = none → (hidT s₁.heap H).get? b = some o := fun e n => hidT_get e n
    have noA : ∀ {b : Addr} {o : Obj} {es : Array DictEntry} {ep : Nat}, s₁.heap.get? b = some o → o.data = .dict es ep → H b = none := fun {b o es ep} e d => by
      cases q : H b with
      | none => rfl
      | some u =>
        have e' : b = a := hA b (by rw [q]; simp)
        subst e'
        rw [ha] at e; cases e
        have d' : Data.seq vs.toArray _ = Data.dict es ep := d
        cases d'
    have nsK : ∀ {b : Addr} {m : Str → Option Value}, s₁.heap.Ns b m → (hidT s₁.heap H).Ns b m := fun {b m} ⟨o, es, ep, e, d, r⟩ => ⟨o, es, ep, base_of e (noA e d), d, r⟩
    have hKb : K.In (hidT s₁.heap H) := fun b o e => base_of (KX b o e) (by
      cases q : H b with
      | none => rfl
      | some u =>
        have e' : b = a := hA b (by rw [q]; simp)
        subst e'
        rw [hK (by rw [q]; simp)] at e; cases e)
    have hM : Mod K mg (hidT s₁.heap H) := ⟨hKb, nsK hns, ⟨mb, nsK hb, hbb⟩, let ⟨mc, h1, h2⟩ := hlim; ⟨mc, nsK h1, h2⟩⟩
    have e0 : Env0 P w K mg (hidT s₁.heap H) callerA [] s₁ H := ⟨rfl, hM, fun b o e => of_hidT e, Nat.le_of_eq (hidT_size _ _), trivial, fun b hb => absurd (show b ∈ ([] : List Addr) from hb) (by simp), hok, .of_eq hg⟩
    refine codeAny_mono ((F _ hKb (nsK hns)).run callerA [] s₁ H ⟨[.ref a], []⟩ [.ref a] [.ref a] _ _ hr e0 (hbind s₁ (.ref a)) (.cons rfl .nil) (hsp H hO hS)) fun r s' h => ?_
    cases r with
    | error e => exact (hCX H e s' h).elim
    | ok fl =>
      cases fl with
      | next => exact False.elim h
      | brk => exact False.elim h
      | cont => exact False.elim h
      | ret u =>
        obtain ⟨v, H', os, bare, un, hok', r', q⟩ := h
        have q' : v = .bl true := q
        subst q'
        obtain rfl : u = Value.bool true := r'
        refine ⟨rfl, OldK.of_keep fun b o e => ?_, os, bare⟩
        cases q : H b with
        | none => exact un.keep b o e q (by intro z; exact absurd (show b ∈ ([] : List Addr) from z) (by simp)) (by simp)
        | some u =>
          rcases hO b with z | ⟨ob, xs, z⟩
          · rw [q] at z; cases z
          · have z2 := un.frzs b ob _ z
            obtain ⟨e1, _⟩ := hok b _ z
            obtain ⟨e2, _⟩ := hok' b _ z2
            rw [e] at e1; cases e1
            exact e2
  cases hk : K.lookup a with
  | some o =>
    -- the script is one of the module's own objects
    have e := KX a o hk
    rw [ha] at e
    cases e
    refine core (fun _ => none) (fun _ => .inl rfl) (.inr ⟨_, vs.toArray, _, hk, rfl, rfl, rfl, by rw [List.size_toArray, lenV]; exact hl, by simpa using rv⟩) (fun b u z => by have z' : (none : Option HO) = some u := z; cases z') (fun b z => absurd rfl z) fun z => absurd rfl z
  | none =>
    refine core (fun b => if b = a then some (.frz { cls := .type "list", data := .seq vs.toArray } (.lst (ns.map V.int))) else none) (fun b => ?_) (.inl (.inr ⟨{ cls := .type "list", data := .seq vs.toArray }, if_pos rfl⟩)) (fun b u z => ?_) (fun b z => ?_) fun _ => hk
    · by_cases hb : b = a
      · exact .inr ⟨_, _, if_pos hb⟩
      · exact .inl (if_neg hb)
    · by_cases hb : b = a
      · have z' := (if_pos hb).symm.trans z
        cases z'
        subst hb
        exact ⟨ha, by rw [List.length_map]; exact hl, vs, _, rv, ha⟩
      · have z' := (if_neg hb).symm.trans z
        cases z'
    · by_cases hb : b = a
      · exact hb
      · exact absurd (if_neg hb) z
end L2

namespace L2
open PySem PySem.Spec PyProof.Rows

abbrev KOf {K : PySem.W.Frag} {h : Heap} (_ : K.In h) : PySem.W.Frag := K

/-- the goal that k_head leaves (case hc), from the law's promise. F gives the function object fd (K's own) once, then the promise over every base -/
theorem walk_of {l : PySem.W.OpenLaw} {n k : Nat} {q : Program} {loose : List Str} {XP : (Str → Option Value) → Heap → Prop} {YP : World → Heap → Prop} {d : DefRec} {K : Params → PySem.W.Frag} {CX : World → CXT} {sp : World → Sp} {x : Str}
    (hn : l.most = some n) (hn2 : n ≤ sizeLine) (hdf : d.params.defaults = []) (hr : Room k callerA)
    (hY : ∀ (w : World) (h : Heap), YP w h → (K w.params).In h)
    (F : ∀ (w : World) (mg : Str → Option Value) (fa : Addr) (h : Heap), (K w.params).In h → h.Ns mainGlobals mg → mg d.name = some (.ref fa) →
      ∃ fd : FuncData, (∀ (s : Shared) (u : Value), BindsTo s fd ⟨[u], []⟩ [(x, u)]) ∧
        ∀ base : Heap, (K w.params).In base → base.Ns mainGlobals mg → FnOk l.prog w (K w.params) mg base (CX w) k fa fd [x] (sp w))
    (hsp : ∀ (w : World) (H : Hp) (a : Addr) (ns : List Int), ns.length ≤ n → Only H → SqL (K w.params) H a (ns.map V.int) → sp w [.ref a] H (fun v _ => v = .bl true) fun _ _ _ => False)
    (hCX : ∀ (w : World) (H : Hp) (s : Shared) (e : Value) (s' : Shared), CX w [] H s (fun _ _ _ => False) e s' → False) :
    PySem.W.WalkO q loose XP YP l.row.toRowW d [] (fun f vs => PySem.call f vs) := by
  refine Att.attach_call hn hdf fun w s₀ s₁ mg mb fa o pm cd doc a vs ns G Y ho hd hcd hmg hobj hints hlen hg => ?_
  have KX := hY w _ Y
  obtain ⟨fd, hb, hF⟩ := F w mg fa _ KX G.T.g hmg
  exact law_call KX G.T.g G.T.b G.T.builtins G.T.nolimit hg hobj hints (Nat.le_trans hlen hn2) hr hF hb (fun H hO hS => hsp w H a ns hlen hO hS) fun H e s' => hCX w H s₁ e s'
/-- the same where the promise hangs on the written part alone: (sp := My.sp_law), no hole under a binder -/
theorem walk_ofK {l : PySem.W.OpenLaw} {n k : Nat} {q : Program} {loose : List Str} {XP : (Str → Option Value) → Heap → Prop} {YP : World → Heap → Prop} {d : DefRec} {K : Params → PySem.W.Frag} {CX : CXT} {sp : PySem.W.Frag → Sp} {x : Str}
    (hn : l.most = some n) (hn2 : n ≤ sizeLine) (hdf : d.params.defaults = []) (hr : Room k callerA)
    (hY : ∀ (w : World) (h : Heap), YP w h → (K w.params).In h)
    (F : ∀ (w : World) (mg : Str → Option Value) (fa : Addr) (h : Heap), (K w.params).In h → h.Ns mainGlobals mg → mg d.name = some (.ref fa) →
      ∃ fd : FuncData, (∀ (s : Shared) (u : Value), BindsTo s fd ⟨[u], []⟩ [(x, u)]) ∧
        ∀ base : Heap, (K w.params).In base → base.Ns mainGlobals mg → FnOk l.prog w (K w.params) mg base CX k fa fd [x] (sp (K w.params)))
    (hsp : ∀ (K : PySem.W.Frag) (H : Hp) (a : Addr) (ns : List Int), ns.length ≤ n → Only H → SqL K H a (ns.map V.int) → sp K [.ref a] H (fun v _ => v = .bl true) fun _ _ _ => False)
    (hCX : ∀ (H : Hp) (s : Shared) (e : Value) (s' : Shared), CX [] H s (fun _ _ _ => False) e s' → False) :
    PySem.W.WalkO q loose XP YP l.row.toRowW d [] (fun f vs => PySem.call f vs) :=
  walk_of (K := K) (CX := fun _ => CX) (sp := fun w => sp (K w.params)) hn hn2 hdf hr hY F (fun w H a ns h1 h2 h3 => hsp (K w.params) H a ns h1 h2 h3) fun _ H s e s' => hCX H s e s'
end L2

/- THE LAST THEOREM (shape; LID, My.* are yours):
   My.Adr: a structure of the addresses that your layer names (classes, functions); My.Txt K t: a structure (Prop) of the equations over K;
   My.txt_mk : {K} {implicit addresses ..} (e1 : nsIn K mainGlobals "law" = some (some (.ref f))) (e2 : K.lookup f = some ⟨oc, od, .func (fnOf "law" "law" params body scope dV kV doc pm an cdv ct), sl⟩) (e3 : codeIn K cdv "law" = true) .. : ∃ t, My.Txt K t

set_option maxRecDepth 100000 in
set_option maxHeartbeats 0 in
theorem PySem.Challenge.cw_LID_holds : PySem.Challenge.rw_LID.Holds := by
  w_on; o_law; k_head; (case hw => w_witness2)
  k_fill
  refine L2.walk_of (l := PySem.Challenge.rw_LID) (n := 63) (k := 40) (x := "script") (CX := fun w => ..) (sp := fun _ => My.sp_law) rfl (by decide) rfl ⟨rfl, by decide, by decide⟩ (fun w h Y => PySem.W.kIn_of Y) ?F ?S ?C
  case F =>
    intro w mg fa h KX G hmg
    have T : ∃ t, My.Txt (L2.KOf KX) t := by
      dsimp only [L2.KOf]                          -- K must stand as «<heap const> w.params» for k_is
      refine' My.txt_mk ?e1 ?e2 ?e3 ..
      (case e1 => PySem.W.k_is)                    -- in the order: a name -> its address -> its object -> its parts
      (case e2 => PySem.W.k_is)
      ..
    obtain ⟨t, T⟩ := T
    have e0 := hmg.symm.trans (PySem.W.mg_of KX G T.law)
    cases e0                                       -- fa is the law's own address
    exact ⟨_, fun s u => .of_eq rfl, fun base kb nb => My.law_fn T kb nb⟩     -- if «.of_eq rfl» comes too early: refine' ⟨_, ?b, fun base kb nb => My.law_fn T kb nb⟩; exact fun s u => .of_eq rfl
  case S => exact fun w H a ns hl hO hS => ..
  case C => exact ..
(the tactic k_is has no namespace: write k_is) -/

/-! SHORT WORDS over the layer: a def of the text, its body, what a loop and a test want. -/
namespace L2
open PySem PySem.Spec PyProof.Rows

/-! ### the text by places -/
/-- the j-th statement of a class's body -/
def inClass (s : Stmt) (j : Nat) : Stmt := match s with
  | .ClassDef _ _ _ body _ _ _ _ _ _ _ => body.getD j (.Pass ⟨0, 0, 0, 0⟩)
  | _ => .Pass ⟨0, 0, 0, 0⟩
def defArgs (s : Stmt) : Arguments := match s with
  | .FunctionDef _ a _ _ _ _ _ _ _ _ => a
  | _ => { posonlyargs := [], args := [], vararg := none, kwonlyargs := [], kw_defaults := [], kwarg := none, defaults := [] }
def defBody (s : Stmt) : List Stmt := match s with
  | .FunctionDef _ _ b _ _ _ _ _ _ _ => b
  | _ => []
def defScope (s : Stmt) : Scope := match s with
  | .FunctionDef _ _ _ _ _ _ sc _ _ _ => sc
  | _ => { kind := .function, names := [], isGenerator := false, isCoroutine := false }

/-! ### no exception leaves a def -/
abbrev CX0 : CXT := fun _ _ _ _ _ _ => False
abbrev E0 : XK := fun _ _ _ => False
theorem pass0 {X : Cx} : Passes CX0 X E0 := fun _ _ _ _ _ _ _ h => h.elim

/-! ### a def (or method) of the text as it stands behind the top -/
structure Fun (K : PySem.W.Frag) (x qual : Str) (st : Stmt) (f : Addr) (fd : FuncData) : Prop where
  ex : ∃ (oc : Value) (od : Option Addr) (kV doc pm : Value) (an : Option Addr) (cdv ct : Value) (osl : Array (Option Value)),
    fd = PySem.W.fnOf x qual (defArgs st) (defBody st) (defScope st) .none kV doc pm an cdv ct ∧ K.lookup f = some ⟨oc, od, .func fd, osl⟩ ∧ PySem.W.codeIn K cdv qual = true
  kp : PySem.W.keepIn K (.ref f) = true
section
variable {P : Program} {w : World} {K : PySem.W.Frag} {mg : Str → Option Value} {base : Heap}
/-- THE RULE for a def: its body as a term of rules, and the reading of that term -/
theorem Fun.ok {x qual : Str} {st : Stmt} {f : Addr} {fd : FuncData} {N ps : List Str} {k : Nat} {sp : Sp} (F : Fun K x qual st f fd) (S : FnScope N ps (defScope st)) (len : ∀ vs H Q E, sp vs H Q E → vs.length = ps.length)
    (hbody : ∀ (cdv : Value) (A : Around) (outer : List Env) (s : Shared) (H : Hp) (vs : List V) (Q : VK) (E : XK), Room k (A.deeper (envOfC qual (defScope st) s.heap.objs.size f cdv)) → sp vs H Q E →
      ∃ t, PSs (cxOf CX0 P w K mg base N qual (defScope st) f cdv A outer s H E).nox (defBody st) t ∧ t { nx := fun _ H' => Q .non H', rt := Q } (start N vs) H) : FnOk P w K mg base CX0 (k + 1) f fd ps sp := by
  obtain ⟨oc, od, kV, doc, pm, an, cdv, ct, osl, rfl, lk, hcd⟩ := F.ex
  refine fn_of lk hcd S len fun A outer s H vs Q E hr hsp => ?_
  obtain ⟨t, h, q⟩ := hbody cdv A outer s H vs Q E hr hsp
  exact ⟨t, h.nox, q⟩
/-- how its arguments bind (no defaults): h is «fun _ _ _ _ _ _ us hl => match us, hl with | [_, _], _ => rfl», one _ a parameter -/
theorem Fun.binds {x qual : Str} {st : Stmt} {f : Addr} {fd : FuncData} {ps : List Str} (F : Fun K x qual st f fd)
    (h : ∀ (kV doc pm : Value) (an : Option Addr) (cdv ct : Value) (us : List Value), us.length = ps.length → bindArgs (PySem.W.fnOf x qual (defArgs st) (defBody st) (defScope st) .none kV doc pm an cdv ct) ⟨us, []⟩ = pure (ps.zip us)) : Binds K fd ps [] := by
  obtain ⟨oc, od, kV, doc, pm, an, cdv, ct, osl, rfl, lk, hcd⟩ := F.ex
  exact .all (h kV doc pm an cdv ct)
theorem fun_mk {x qual : Str} {st : Stmt} {f : Addr} {oc : Value} {od an : Option Addr} {osl : Array (Option Value)} {kV doc pm cdv ct : Value} (l : K.lookup f = some ⟨oc, od, .func (PySem.W.fnOf x qual (defArgs st) (defBody st) (defScope st) .none kV doc pm an cdv ct), osl⟩)
    (c : PySem.W.codeIn K cdv qual = true) (k : PySem.W.keepIn K (.ref f) = true) : Fun K x qual st f (PySem.W.fnOf x qual (defArgs st) (defBody st) (defScope st) .none kV doc pm an cdv ct) := ⟨⟨oc, od, kV, doc, pm, an, cdv, ct, osl, rfl, l, c⟩, k⟩
end
theorem hu_of {A : Around} {k : Nat} (hr : Room k A) : A.units + 1 < cLine := Nat.lt_of_le_of_lt (Nat.add_le_add_left (by decide : 1 ≤ 64) _) hr.units
theorem small1000 {n : Nat} (h : n ≤ 1000) : n < sizeLine := Nat.lt_of_le_of_lt h (by decide)

/-! ### expressions in short: the name that stands in the i-th slot -/
section
variable {X : Cx}
theorem pv (i : Nat) {x : Str} {pos : Pos} (hN : X.N[i]? = some x := by rfl) (hv : Vis X.env.scope x := by first | exact Or.inl rfl | exact Or.inr (Or.inl rfl) | exact Or.inr (Or.inr rfl)) (hd : (x == ("__debug__" : Str)) = false := by decide)
    (hcd : (x == ("__classdict__" : Str)) = false := by decide) : PE X (.Name x pos) (tVar i) := pe_var hN hv hd hcd
end

/-! ### tests -/
theorem iteF {A B : Prop} (h : B) : if false = true then A else B := by
  rw [if_neg Bool.false_ne_true]
  exact h
theorem iteT {A B : Prop} (h : A) : if true = true then A else B := by
  rw [if_pos rfl]
  exact h
theorem ite2 {c A B : Prop} [Decidable c] (h1 : c → A) (h2 : ¬ c → B) : if c then A else B := by
  by_cases h : c
  · rw [if_pos h]
    exact h1 h
  · rw [if_neg h]
    exact h2 h
theorem iteNS {c A B : Prop} [Decidable c] (hc : c) (h : B) : if (!decide c) = true then A else B := by
  rw [decide_eq_true hc]
  exact iteF h

/-! ### heaps -/
/-- all that was tracked is as it was -/
def Same (H H' : Hp) : Prop := ∀ b o, H b = some o → H' b = some o
theorem Same.refl (H : Hp) : Same H H := fun _ _ h => h
theorem Same.trans {H H1 H2 : Hp} (a : Same H H1) (b : Same H1 H2) : Same H H2 := fun c o h => b c o (a c o h)
theorem Same.free {H H' : Hp} (e : Same H H') {l : Addr} (h : H' l = Option.none) : H l = Option.none := by
  cases q : H l with
  | none => rfl
  | some o =>
    rw [e l o q] at h
    cases h
theorem Same.seq {K : PySem.W.Frag} {H H' : Hp} {a : Addr} {xs : List V} (e : Same H H') (h : SqL K H a xs) : SqL K H' a xs := by
  rcases h with (h | ⟨o, h⟩) | h
  · exact .inl (.inl (e _ _ h))
  · exact .inl (.inr ⟨o, e _ _ h⟩)
  · exact .inr h

end L2

set_option Elab.async false
set_option linter.all false
set_option maxRecDepth 100000
namespace L2
open PySem PySem.Spec PyProof.Rows
section
variable {X : Cx}
/-- isinstance(x, T), T a built-in type -/
def rIsi (K : PySem.W.Frag) : List V → Hp → VK → Prop := fun xs H Q => ∃ x T t b, xs = [x, .ty T] ∧ TyOf K H x (.type t) ∧ PySem.W.kitOne K (.type t) (.type T) = some b ∧ Q (.bl b) H
theorem call_isi : CallR X (.builtin "isinstance") (rIsi X.K) := by
  intro pins s σ H xs us Q I r h
  obtain ⟨x, T, t, b, rfl, ty, e, q⟩ := h
  obtain ⟨u, w', rfl, r1, r2⟩ := vals2 r
  cases (show w' = Value.type T from r2)
  exact isinst_ok I r1 ty e fun tk => ⟨.bl b, H, I.tok _, rfl, q⟩
end
section
variable {K : PySem.W.Frag} {H : Hp} {Q : VK} {T t : String}
theorem isi_at {x : V} {b : Bool} (ty : TyOf K H x (.type t)) (one : ∀ t', TyOf K H x (.type t') → t' = t) (e : PySem.W.kitOne K (.type t) (.type T) = some b) : rIsi K [x, .ty T] H Q = Q (.bl b) H := by
  refine propext ⟨fun h => ?_, fun q => ⟨x, T, t, b, rfl, ty, e, q⟩⟩
  obtain ⟨y, T', t', b', e1, ty', e', q⟩ := h
  obtain ⟨rfl, e2⟩ := List.cons.inj e1
  obtain ⟨e3, _⟩ := List.cons.inj e2
  cases e3
  rw [one t' ty', e] at e'
  cases e'
  exact q
theorem one_int {i : Int} : ∀ t', TyOf K H (.int i) (.type t') → t' = "int" := fun _ h => by cases h; rfl
theorem one_bl {i : Bool} : ∀ t', TyOf K H (.bl i) (.type t') → t' = "bool" := fun _ h => by cases h; rfl
theorem one_str {i : Str} : ∀ t', TyOf K H (.str i) (.type t') → t' = "str" := fun _ h => by cases h; rfl
theorem one_non : ∀ t', TyOf K H .non (.type t') → t' = "NoneType" := fun _ h => by cases h; rfl
theorem one_tup {a : Addr} {xs : List V} (e : H a = some (.tup xs)) : ∀ t', TyOf K H (.ref a) (.type t') → t' = "tuple" := fun _ h => by
  cases h with
  | lst q => rw [e] at q; cases q
  | frz q => rw [e] at q; cases q
  | tup q => rfl
  | dK q => rw [e] at q; cases q
  | dT q => rw [e] at q; cases q
theorem one_lst {a : Addr} {xs : List V} (e : H a = some (.lst xs)) : ∀ t', TyOf K H (.ref a) (.type t') → t' = "list" := fun _ h => by
  cases h with
  | lst q => rfl
  | frz q => rfl
  | tup q => rw [e] at q; cases q
  | dK q => rw [e] at q; cases q
  | dT q => rw [e] at q; cases q
theorem one_dK {a : Addr} {xs : List (Key × V)} (e : H a = some (.dK xs)) : ∀ t', TyOf K H (.ref a) (.type t') → t' = "dict" := fun _ h => by
  cases h with
  | lst q => rw [e] at q; cases q
  | frz q => rw [e] at q; cases q
  | tup q => rw [e] at q; cases q
  | dK q => rfl
  | dT q => rfl
theorem isi_int_str {i : Int} : rIsi K [.int i, .ty "str"] H Q = Q (.bl false) H := isi_at (.int i) one_int rfl
theorem isi_int_tuple {i : Int} : rIsi K [.int i, .ty "tuple"] H Q = Q (.bl false) H := isi_at (.int i) one_int rfl
theorem isi_int_int {i : Int} : rIsi K [.int i, .ty "int"] H Q = Q (.bl true) H := isi_at (.int i) one_int rfl
theorem isi_int_bool {i : Int} : rIsi K [.int i, .ty "bool"] H Q = Q (.bl false) H := isi_at (.int i) one_int rfl
theorem isi_bl_str {i : Bool} : rIsi K [.bl i, .ty "str"] H Q = Q (.bl false) H := isi_at (.bl i) one_bl rfl
theorem isi_bl_tuple {i : Bool} : rIsi K [.bl i, .ty "tuple"] H Q = Q (.bl false) H := isi_at (.bl i) one_bl rfl
theorem isi_bl_int {i : Bool} : rIsi K [.bl i, .ty "int"] H Q = Q (.bl true) H := isi_at (.bl i) one_bl rfl
theorem isi_bl_bool {i : Bool} : rIsi K [.bl i, .ty "bool"] H Q = Q (.bl true) H := isi_at (.bl i) one_bl rfl
theorem isi_str_str {i : Str} : rIsi K [.str i, .ty "str"] H Q = Q (.bl true) H := isi_at (.str i) one_str rfl
theorem isi_str_tuple {i : Str} : rIsi K [.str i, .ty "tuple"] H Q = Q (.bl false) H := isi_at (.str i) one_str rfl
theorem isi_str_int {i : Str} : rIsi K [.str i, .ty "int"] H Q = Q (.bl false) H := isi_at (.str i) one_str rfl
theorem isi_str_bool {i : Str} : rIsi K [.str i, .ty "bool"] H Q = Q (.bl false) H := isi_at (.str i) one_str rfl
theorem isi_non_str : rIsi K [.non, .ty "str"] H Q = Q (.bl false) H := isi_at .non one_non rfl
theorem isi_non_tuple : rIsi K [.non, .ty "tuple"] H Q = Q (.bl false) H := isi_at .non one_non rfl
theorem isi_non_int : rIsi K [.non, .ty "int"] H Q = Q (.bl false) H := isi_at .non one_non rfl
theorem isi_non_bool : rIsi K [.non, .ty "bool"] H Q = Q (.bl false) H := isi_at .non one_non rfl
theorem isi_tup_str {a : Addr} {xs : List V} (e : H a = some (.tup xs)) : rIsi K [.ref a, .ty "str"] H Q = Q (.bl false) H := isi_at (.tup e) (one_tup e) rfl
theorem isi_tup_tuple {a : Addr} {xs : List V} (e : H a = some (.tup xs)) : rIsi K [.ref a, .ty "tuple"] H Q = Q (.bl true) H := isi_at (.tup e) (one_tup e) rfl
theorem isi_tup_int {a : Addr} {xs : List V} (e : H a = some (.tup xs)) : rIsi K [.ref a, .ty "int"] H Q = Q (.bl false) H := isi_at (.tup e) (one_tup e) rfl
theorem isi_tup_bool {a : Addr} {xs : List V} (e : H a = some (.tup xs)) : rIsi K [.ref a, .ty "bool"] H Q = Q (.bl false) H := isi_at (.tup e) (one_tup e) rfl
theorem isi_lst_str {a : Addr} {xs : List V} (e : H a = some (.lst xs)) : rIsi K [.ref a, .ty "str"] H Q = Q (.bl false) H := isi_at (.lst e) (one_lst e) rfl
theorem isi_lst_tuple {a : Addr} {xs : List V} (e : H a = some (.lst xs)) : rIsi K [.ref a, .ty "tuple"] H Q = Q (.bl false) H := isi_at (.lst e) (one_lst e) rfl
theorem isi_lst_int {a : Addr} {xs : List V} (e : H a = some (.lst xs)) : rIsi K [.ref a, .ty "int"] H Q = Q (.bl false) H := isi_at (.lst e) (one_lst e) rfl
theorem isi_lst_bool {a : Addr} {xs : List V} (e : H a = some (.lst xs)) : rIsi K [.ref a, .ty "bool"] H Q = Q (.bl false) H := isi_at (.lst e) (one_lst e) rfl
theorem isi_dK_str {a : Addr} {xs : List (Key × V)} (e : H a = some (.dK xs)) : rIsi K [.ref a, .ty "str"] H Q = Q (.bl false) H := isi_at (.dK e) (one_dK e) rfl
theorem isi_dK_tuple {a : Addr} {xs : List (Key × V)} (e : H a = some (.dK xs)) : rIsi K [.ref a, .ty "tuple"] H Q = Q (.bl false) H := isi_at (.dK e) (one_dK e) rfl
theorem isi_dK_int {a : Addr} {xs : List (Key × V)} (e : H a = some (.dK xs)) : rIsi K [.ref a, .ty "int"] H Q = Q (.bl false) H := isi_at (.dK e) (one_dK e) rfl
theorem isi_dK_bool {a : Addr} {xs : List (Key × V)} (e : H a = some (.dK xs)) : rIsi K [.ref a, .ty "bool"] H Q = Q (.bl false) H := isi_at (.dK e) (one_dK e) rfl
theorem rEq_int {i j : Int} : rEq (.int i) (.int j) H Q = Q (.bl (decide (i = j))) H := by
  unfold rEq; rw [show scal (.int i) (.int j) = true from rfl]; simp
theorem rNe_int {i j : Int} : rNe (.int i) (.int j) H Q = Q (.bl (!decide (i = j))) H := by
  unfold rNe; rw [show scal (.int i) (.int j) = true from rfl]; simp
theorem rEq_bl {i j : Bool} : rEq (.bl i) (.bl j) H Q = Q (.bl (decide (i = j))) H := by
  unfold rEq; rw [show scal (.bl i) (.bl j) = true from rfl]; simp
theorem rNe_bl {i j : Bool} : rNe (.bl i) (.bl j) H Q = Q (.bl (!decide (i = j))) H := by
  unfold rNe; rw [show scal (.bl i) (.bl j) = true from rfl]; simp
theorem rEq_str {i j : Str} : rEq (.str i) (.str j) H Q = Q (.bl (decide (i = j))) H := by
  unfold rEq; rw [show scal (.str i) (.str j) = true from rfl]; simp
theorem rNe_str {i j : Str} : rNe (.str i) (.str j) H Q = Q (.bl (!decide (i = j))) H := by
  unfold rNe; rw [show scal (.str i) (.str j) = true from rfl]; simp
theorem cpow_10 {j : Int} : CPow 10 j = (0 ≤ j ∧ j ≤ 1000000) := propext ⟨fun h => ⟨h.1, h.2.1⟩, fun h => ⟨h.1, h.2, by decide⟩⟩
theorem cpow_2 {j : Int} : CPow 2 j = (0 ≤ j ∧ j ≤ 1000000) := propext ⟨fun h => ⟨h.1, h.2.1⟩, fun h => ⟨h.1, h.2, by decide⟩⟩
theorem upd_none {H : Hp} {a b : Addr} {o : HO} : (upd H a o b = none) = (b ≠ a ∧ H b = none) := by
  unfold upd
  refine propext ⟨fun h => ?_, fun h => by rw [if_neg h.1]; exact h.2⟩
  by_cases e : b = a
  · rw [if_pos e] at h; cases h
  · rw [if_neg e] at h; exact ⟨e, h⟩
theorem cxOf_K {CX : CXT} {P : Program} {w : World} {K : PySem.W.Frag} {mg : Str → Option Value} {base : Heap} {N : List Str} {qual : Str} {scope : Scope} {f : Addr} {cd : Value} {A : Around} {outer : List Env} {s : Shared} {H : Hp} {E : XK} : (cxOf CX P w K mg base N qual scope f cd A outer s H E).K = K := rfl
/-! a for, its iterator's reading apart -/
def ForW (J : It) (g : TG) (tb : TS) (D : Ends) (σ : St) (H1 : Hp) : Prop := ∃ W : Nat → Nat → St → Hp → Prop, (∃ m, W 0 m σ H1) ∧ ∀ i m σ H, W i m σ H →
  (J.stop i H ∧ D.nx σ H) ∨ (J.go i H ∧ ∃ N : St → Hp → Prop, (∀ σ' H', N σ' H' → ∃ m', m' < m ∧ W (i + 1) m' σ' H') ∧ ∀ x H', J.yld i H x H' → g x σ H' fun σ2 H2 => tb { D with nx := N, ct := N, bk := D.nx } σ2 H2)
theorem tFor_eq {wi : TI} {g : TG} {tb : TS} {D : Ends} {σ : St} {H : Hp} : tFor wi g tb D σ H = wi σ H fun J H1 => ForW J g tb D σ H1 := rfl
theorem forW_list {K : PySem.W.Frag} {a : Addr} {xs : List V} {g : TG} {tb : TS} {D : Ends} {σ : St} {H : Hp} (Pv : Nat → St → Hp → Prop) (h0 : Pv 0 σ H) (hl : ∀ i σ H, i ≤ xs.length → Pv i σ H → SqL K H a xs)
    (hs : ∀ i x σ H, xs[i]? = some x → Pv i σ H → g x σ H fun σ2 H2 => tb { D with nx := Pv (i + 1), ct := Pv (i + 1), bk := D.nx } σ2 H2) (hd : ∀ σ H, Pv xs.length σ H → D.nx σ H) : ForW (Itl K a) g tb D σ H := for_list Pv h0 hl hs hd
theorem forW_tup {K : PySem.W.Frag} {a : Addr} {xs : List V} {g : TG} {tb : TS} {D : Ends} {σ : St} {H : Hp} (Pv : Nat → St → Hp → Prop) (h0 : Pv 0 σ H) (hl : ∀ i σ H, i ≤ xs.length → Pv i σ H → SqT K H a xs)
    (hs : ∀ i x σ H, xs[i]? = some x → Pv i σ H → g x σ H fun σ2 H2 => tb { D with nx := Pv (i + 1), ct := Pv (i + 1), bk := D.nx } σ2 H2) (hd : ∀ σ H, Pv xs.length σ H → D.nx σ H) : ForW (Itt K a) g tb D σ H := for_tup Pv h0 hl hs hd
theorem forW_range {lo : Int} {n : Nat} {g : TG} {tb : TS} {D : Ends} {σ : St} {H : Hp} (Pv : Nat → St → Hp → Prop) (h0 : Pv 0 σ H)
    (hs : ∀ i σ H, i < n → Pv i σ H → g (.int (lo + i)) σ H fun σ2 H2 => tb { D with nx := Pv (i + 1), ct := Pv (i + 1), bk := D.nx } σ2 H2) (hd : ∀ σ H, Pv n σ H → D.nx σ H) : ForW (Itr lo n) g tb D σ H := for_range Pv h0 hs hd
end
end L2

set_option Elab.async false
set_option linter.all false
set_option maxRecDepth 100000
set_option maxHeartbeats 4000000
namespace L2
open PySem PySem.Spec PyProof.Rows

/-! ### a list comprehension of one clause over one name, with at most one test -/
/-- the context of the block: C its frame, s₀ H₀ the state ahead of it, fp the iterator's records -/
def cxC (X : Cx) (scope : Scope) (cl : List (Str × Addr)) (x : Str) (cs : List Str) (C : Addr) (s₀ : Shared) (H₀ : Hp) (fp : List Addr) : Cx where
  prog := X.prog
  w := X.w
  K := X.K
  mg := X.mg
  base := X.base
  A := X.A
  N := x :: cs
  s₀ := s₀
  H₀ := H₀
  env := compEnvC scope cl C X.env
  outer := X.stack
  stack := X.stack
  ex := fp
  fn := fun y => y == x
  calm := X.calm
  pn := []
  xe := fun _ _ => False
/-- the slots of the block: the clause's name, then what it reads of the frame (by the slots' numbers) -/
def capt (σ : St) (js : List Nat) : St := js.map fun j => (σ[j]?).getD none
/-- what is known of the scope of the block -/
structure CScope (X : Cx) (scope : Scope) (cl : List (Str × Addr)) (x : Str) (cs : List Str) (js : List Nat) : Prop where
  clos : closureFor scope X.env = pure cl
  kind : scope.kind = .function
  nocell : ∀ y ∈ scope.names, y.2 ≠ .cell
  names : ∀ y ∈ scope.names, y.2 = .local → scope.names.lookup y.1 = some .local
  lx : scope.names.lookup x = some .local
  sub : ∀ y c, cl.lookup y = some c → X.env.cells.lookup y = some c
  has : ∀ y, ((relabel scope X.env).names.lookup y = some .cell ∨ (relabel scope X.env).names.lookup y = some .free) → ∃ c, cl.lookup y = some c
  nox : cl.lookup x = none
  nd : (x :: cs).Nodup
  cap : Paired (fun y j => X.N[j]? = some y) cs js
  capk : ∀ y ∈ cs, (X.env.kindOf y = some .cell ∨ X.env.kindOf y = some .free) ∧ ((relabel scope X.env).names.lookup y = some .cell ∨ (relabel scope X.env).names.lookup y = some .free)
/-- the reading: W by the turn, a measure, what is gathered -/
def CompW (J : It) (tc : TT) (te : TE) (τ : St) (fin : List V → Hp → Prop) (H1 : Hp) : Prop := ∃ W : Nat → Nat → List V → Hp → Prop, (∃ m, W 0 m [] H1) ∧ ∀ i m ys H, W i m ys H →
  (J.stop i H ∧ fin ys H) ∨ (J.go i H ∧ ys.length < sizeLine ∧ ∃ N : List V → Hp → Prop, (∀ ys' H', N ys' H' → ∃ m', m' < m ∧ W (i + 1) m' ys' H') ∧ ∀ v H', J.yld i H v H' → tc (some v :: τ) H' fun b H2 => if b = true then te (some v :: τ) H2 (fun y H3 => N (ys ++ [y]) H3) else N ys H2)
def tComp (wi : TI) (js : List Nat) (tc : TT) (te : TE) : TE := fun σ H Q => wi σ H fun J H1 => CompW J tc te (capt σ js) (fun ys H2 => ∀ p, H2 p = none → Q (.ref p) (upd H2 p (.lst ys))) H1
def tYes : TT := fun _ H Q => Q true H
/-- the tests of the clause -/
def PIfs (X : Cx) (ifs : List Expr) (t : TT) : Prop :=
  ∀ (pins : List (Addr × Obj)) (s : Shared) (σ : St) (H : Hp) (Q : Bool → Hp → Prop), Inv X pins σ H s → t σ H Q →
    wpAny (model X.prog X.w) X.A (forIn ifs true fun c r => if r = true then do let ok ← isTrue c X.env (eval c X.env); pure (ForInStep.yield ok) else pure (ForInStep.yield r)) (TP X pins σ Q) X.xe s
theorem pifs_nil {X : Cx} : PIfs X [] tYes := fun _ _ _ H _ I h => wpAny_tests_nil ⟨H, I, h⟩
theorem pifs_one {X : Cx} {c : Expr} {t : TT} (h : PT X c t) : PIfs X [c] t := fun pins s σ H Q I q => wpAny_tests_one (h pins s σ H Q I q)

theorem HOk.track {P : Program} {w : World} {H : Hp} {h : Heap} {a : Addr} {o : HO} (x : HOk P w H h) (hn : H a = none) (new : ObjOk P w (upd H a o) h a o) : HOk P w (upd H a o) h := fun b u e => by
  by_cases hb : b = a
  · subst hb; rw [upd_same] at e; cases e; exact new
  · rw [upd_ne hb] at e
    exact (x b u e).stay (fun c v _ q => q) (fun c q => by rw [upd_ne (ne_of_none q hn)]; exact q) fun c xs q => by rw [upd_ne (ne_of_none q hn)]; exact q

section
variable {X : Cx} {scope : Scope} {cl : List (Str × Addr)} {x : Str} {cs : List Str} {js : List Nat} {pins : List (Addr × Obj)} {σ : St} {H : Hp} {s : Shared}

theorem relabel_kind : (relabel scope X.env).kind = scope.kind := rfl

/-- the block's context stands -/
theorem cxC_ok {C : Addr} {fp : List Addr} (S : CScope X scope cl x cs js) (I : Inv X pins σ H s) (hC : s.heap.objs.size ≤ C) (hf : ∀ b ∈ fp, FpOk X pins H b) (hlt : ∀ b ∈ fp, b < s.heap.objs.size) :
    (cxC X scope cl x cs C s H fp).Ok where
  mod := I.ok.mod
  kind := S.kind
  glob := I.ok.glob
  blt := I.ok.blt
  above := hC
  inj := fun y z c h1 h2 => I.ok.inj y z c (S.sub y c h1) (S.sub z c h2)
  has := fun y h => S.has y h
  cab := fun y c h1 h2 => by
    have e : y = x := eq_of_beq h1
    subst e
    have h2' : cl.lookup y = some c := h2
    rw [S.nox] at h2'
    cases h2'
  hd := I.ok.hd
  frames := I.ok.frames
  stk := .inl rfl
  exf := fun b hb => ⟨fun e => absurd (hlt b hb) (Nat.not_lt.mpr (by rw [show b = C from e]; exact hC)), fun y c h => (hf b hb).2.2.2.2.1 y c (S.sub y c h)⟩
  bs := fun b o e => ⟨(I.bs b o e).1, (I.bs b o e).2⟩
  bsz := Nat.le_trans I.ok.bsz I.sz
  noex := fun b o e hb => by
    rcases (hf b hb).2.2.2.1 with z | z
    · exact I.ok.noex b o e z
    · exact absurd (Nat.lt_of_lt_of_le (Heap.lt_size e) (Nat.le_trans I.ok.bsz z)) (Nat.lt_irrefl _)
  exfs := fun b hb z => by
    rcases List.mem_cons.mp (I.stkSub b z) with e | e
    · exact (hf b hb).2.1 e
    · exact (hf b hb).2.2.1 e
  funs := I.stack
  frf := fun b hb => I.stkFree b hb

theorem paired_get {α β : Type} {F : α → β → Prop} : ∀ {l : List α} {l' : List β} {k : Nat} {a : α}, Paired F l l' → l[k]? = some a → ∃ b, l'[k]? = some b ∧ F a b
  | _, _, _, _, .nil, e => by simp at e
  | _, _, 0, _, .cons r _, e => by simp at e; subst e; exact ⟨_, rfl, r⟩
  | _, _, k + 1, a, .cons _ t, e => by
    obtain ⟨b, h1, h2⟩ := paired_get (k := k) (a := a) t (by simpa using e)
    exact ⟨b, by simpa using h1, h2⟩
theorem capt_len {σ : St} {js : List Nat} : (capt σ js).length = js.length := by unfold capt; rw [List.length_map]
theorem Inv.newfs (I : Inv X pins σ H s) {a : Addr} (h : s.heap.objs.size ≤ a) : a ∉ frs X.stack := fun hb => by
  rcases List.mem_cons.mp (I.stkSub a hb) with e | e
  · exact absurd I.lt (Nat.not_lt.mpr (by rw [← e]; exact h))
  · exact I.nofs h e

/-- at the block's start: the list that is gathered stands at D -/
theorem inv_startC {C D : Addr} {fp : List Addr} {h₁ : Heap} {tk : Nat} {oD : Obj} (S : CScope X scope cl x cs js) (I : Inv X pins σ H s) (hf : ∀ b ∈ fp, FpOk X pins H b) (hlt : ∀ b ∈ fp, b < s.heap.objs.size)
    (hD : s.heap.objs.size ≤ D) (hC : s.heap.objs.size ≤ C) (hDC : D ≠ C) (hns : h₁.Ns C (fun _ => none)) (keep : ∀ b o, s.heap.get? b = some o → h₁.get? b = some o) (eD : h₁.get? D = some oD) (hoD : ∀ v, oD.data ≠ .cell v) :
    Inv (cxC X scope cl x cs C s H fp) [(D, oD)] (none :: capt σ js) H { s with heap := h₁, toks := tk } := by
  refine ⟨cxC_ok S I hC hf hlt, rfl, I.bare, Un.kept keep, ⟨_, hns, fun i y v h1 h2 h3 => ?_⟩, fun y c e => ?_, I.hok.fresh hC, fun y c e => I.freeC y c (S.sub y c e), fun p hp => ?_, I.hok.kept keep, ?_⟩
  · cases i with
    | zero => simp at h2
    | succ k =>
      have h1' : cs[k]? = some y := by
        have z : (x :: cs)[k + 1]? = some y := h1
        simpa using z
      have h2' : (capt σ js)[k]? = some (some v) := by simpa using h2
      obtain ⟨j, ej, ey⟩ := paired_get S.cap h1'
      have e2 : σ[j]? = some (some v) := by
        unfold capt at h2'
        rw [List.getElem?_map, ej] at h2'
        have h3' : (σ[j]?).getD none = some v := by simpa using h2'
        cases q : σ[j]? with
        | none => rw [q] at h3'; cases h3'
        | some w' => rw [q] at h3'; exact congrArg some h3'
      obtain ⟨k1, k2⟩ := S.capk y (List.mem_of_getElem? h1')
      obtain ⟨m, hn, hl⟩ := I.loc
      obtain ⟨u, r, l⟩ := hl j y v ey e2 (by
        rcases k1 with z | z
        · exact .inr (.inl z)
        · exact .inr (.inr z))
      refine ⟨u, r, .inr ⟨k2, ?_⟩⟩
      obtain ⟨c', e'⟩ := S.has y k2
      rcases l with ⟨z, _⟩ | ⟨_, c, ec, z⟩
      · rcases k1 with k1 | k1 <;> (rw [k1] at z; cases z)
      · have e3 := S.sub y c' e'
        rw [ec] at e3
        cases e3
        obtain ⟨o, eo, d⟩ := z
        exact ⟨_, e', o, keep _ _ eo, d⟩
  · obtain ⟨v, o, eo, d⟩ := I.cell y c (S.sub y c e)
    exact ⟨v, o, keep _ _ eo, d⟩
  · have e : p = (D, oD) := by
      rcases List.mem_append.mp hp with z | z
      · exact absurd z (by show p ∉ ([] : List (Addr × Obj)); simp)
      · simpa using z
    subst e
    exact ⟨eD, I.hok.fresh hD, hDC, I.newfs hD, hoD⟩
  · show (none :: capt σ js).length = (x :: cs).length
    rw [List.length_cons, List.length_cons, capt_len, Paired.length S.cap]

/-- the list that is gathered -/
abbrev accO (us : List Value) (n : Nat) : Obj := { cls := .type "list", data := .seq us.toArray n }

/-- the loop: at turn i the values ys are gathered -/
theorem comp_loop {elt iter : Expr} {px pos : Pos} {ifs : List Expr} {tc : TT} {te : TE} {C D it : Addr} {fp : List Addr} {tn : Nat → Heap → Prop} {J : It} {s₂ : Shared} {H₂ : Hp} {R : Result → Shared → Prop} {fin : List V → Hp → Prop} {s₃ : Shared} {o₀ : Option V}
    (hc : X.calm = true) (S : CScope X scope cl x cs js) (hC : s₂.heap.objs.size ≤ C) (hD : s₂.heap.objs.size ≤ D) (hDC : D ≠ C) (hlt : ∀ b ∈ fp, b < s₂.heap.objs.size)
    (T : Turn X.prog X.w X.K (.Name x px) J fp it tn)
    (hcells : ∀ y c, cl.lookup y = some c → c < s₂.heap.objs.size)
    (hfs : ∀ b ∈ fp, b ∉ frs X.stack) (hDfs : D ∉ frs X.stack)
    (hcf : ∀ b ∈ fp, ∀ y c, cl.lookup y = some c → c ≠ b)
    (ht : PIfs (cxC X scope cl x cs C s₂ H₂ fp) ifs tc) (he : PE (cxC X scope cl x cs C s₂ H₂ fp) elt te)
    (I₃ : Inv (cxC X scope cl x cs C s₂ H₂ fp) [] (o₀ :: capt σ js) H₂ s₃) (st : tn 0 s₃.heap) (hn : ∀ b ∈ fp, H₂ b = none) (eD : s₃.heap.get? D = some (accO [] 0)) (hDn : H₂ D = none)
    (hW : CompW J tc te (capt σ js) fin H₂)
    (hR : ∀ s' σ' H' ys us n, Inv (cxC X scope cl x cs C s₂ H₂ fp) [] σ' H' s' → Vals ys us → ys.length ≤ sizeLine → s'.heap.get? D = some (accO us n) → H' D = none → fin ys H' → R (.ok .next) s') :
    codeAny (model X.prog X.w) X.A (.compLoop (.ListComp elt [⟨.Name x px, iter, ifs, 0⟩] scope pos) 0 (.ref it) (.ref D) (compEnvC scope cl C X.env)) R s₃ := by
  obtain ⟨W, ⟨m0, w0⟩, turn⟩ := hW
  have bC : ∀ b ∈ fp, b ≠ C := fun b hb e => absurd (hlt b hb) (Nat.not_lt.mpr (by rw [e]; exact hC))
  have bD : ∀ b ∈ fp, b ≠ D := fun b hb e => absurd (hlt b hb) (Nat.not_lt.mpr (by rw [e]; exact hD))
  have cD : ∀ y c, cl.lookup y = some c → c ≠ D := fun y c h e => absurd (hcells y c h) (Nat.not_lt.mpr (by rw [e]; exact hD))
  have pinD : ∀ {τ : St} {H' : Hp} {s' : Shared} {us : List Value} {k : Nat}, Inv (cxC X scope cl x cs C s₂ H₂ fp) [] τ H' s' → s'.heap.get? D = some (accO us k) → H' D = none → Inv (cxC X scope cl x cs C s₂ H₂ fp) [(D, accO us k)] τ H' s' :=
    fun {τ H' s' us k} I e hn => I.pins_of fun p hp => by
      have ep : p = (D, accO us k) := by simpa using hp
      subst ep
      exact ⟨e, hn, hDC, hDfs, fun v z => by
        have z' : Data.seq us.toArray k = Data.cell v := z
        cases z'⟩
  have fpk : ∀ {H' : Hp} {us : List Value} {k : Nat}, (∀ b ∈ fp, H' b = none) → ∀ b ∈ fp, FpOk (cxC X scope cl x cs C s₂ H₂ fp) [(D, accO us k)] H' b := fun {H' us k} hn b hb =>
    ⟨hn b hb, bC b hb, hfs b hb, .inl hb, fun y c e => hcf b hb y c e, fun p hp => by
      have ep : p = (D, accO us k) := by
        rcases List.mem_append.mp hp with z | z
        · exact absurd (show p ∈ ([] : List (Addr × Obj)) from z) (by simp)
        · simpa using z
      subst ep
      exact Ne.symm (bD b hb)⟩
  refine codeAny_compLoop_tests (env := compEnvC scope cl C X.env) (fun n s' => ∃ i o H' ys us k, Inv (cxC X scope cl x cs C s₂ H₂ fp) [] (o :: capt σ js) H' s' ∧ tn i s'.heap ∧ (∀ b ∈ fp, H' b = none) ∧ Vals ys us ∧ ys.length ≤ sizeLine ∧ s'.heap.get? D = some (accO us k) ∧ H' D = none ∧ W i n ys H') ?_ m0
    ⟨0, o₀, H₂, [], [], 0, I₃, st, hn, .nil, Nat.zero_le _, eD, hDn, w0⟩
  rintro n s4 ⟨i, o, H4, ys, us, k, I4, st4, fr4, rv, hz, eD4, hD4, w4⟩
  have I4' := pinD I4 eD4 hD4
  rcases turn i n ys H4 w4 with ⟨stop, f⟩ | ⟨go, hlen, N, hN, step⟩
  · refine wpAny_mono (T.done (cxC X scope cl x cs C s₂ H₂ fp) rfl rfl rfl hc i [(D, accO us k)] s4 _ H4 (fun _ _ => False) I4' (fpk fr4) st4 stop) (fun r s5 ⟨hr, I5⟩ => ?_) (fun _ _ z => z.elim)
    subst hr
    show R (.ok .next) s5
    exact hR s5 _ H4 ys us k (I5.pins_of fun p hp => absurd hp (by simp)) rv hz (I5.pin (D, accO us k) (List.mem_append_right _ (by simp))).1 hD4 f
  · refine wpAny_mono (T.item (cxC X scope cl x cs C s₂ H₂ fp) rfl rfl rfl hc i [(D, accO us k)] s4 _ H4 (fun _ _ => False) I4' (fpk fr4) st4 go) (fun r s5 ⟨u, hr, h5⟩ => ?_) (fun _ _ z => z.elim)
    subst hr
    show wpAny _ _ (letOwnedTupleGo (.Name x px) (.ref it) u >>= fun _ => assign (.Name x px) (compEnvC scope cl C X.env) u) _ _ s5
    refine wpAny_bind (wpAny_mono h5 (fun _ s6 ⟨v, H6, I6, r6, y6, st6, fr6⟩ => ?_) (fun _ _ z => z.elim))
    have I6' := I6.pinned (fpk fr6) (T.obj _ _ st6)
    refine wpAny_assign_Name (store_ok (X := cxC X scope cl x cs C s₂ H₂ fp) (i := 0) I6' S.nd rfl (.inl (lookup_relabel_local S.lx)) r6 (fun s7 I7 => ?_) (.inl (beq_self_eq_true x)))
    have st7 : ∀ {τ : St} {H' : Hp} {s' : Shared}, Inv (cxC X scope cl x cs C s₂ H₂ fp) ([(D, accO us k)] ++ pinsAt fp s6.heap) τ H' s' → tn (i + 1) s'.heap ∧ ∀ b ∈ fp, H' b = none := fun {τ H' s'} I => by
      refine ⟨T.keep _ _ _ st6 fun b hb o e => (I.pin (b, o) (List.mem_append_right _ (List.mem_append_right _ (mem_pinsAt hb e)))).1, fun b hb => ?_⟩
      obtain ⟨o, e, d⟩ := T.obj _ _ st6 b hb
      exact (I.pin (b, o) (List.mem_append_right _ (List.mem_append_right _ (mem_pinsAt hb e)))).2.1
    have dD : ∀ {τ : St} {H' : Hp} {s' : Shared}, Inv (cxC X scope cl x cs C s₂ H₂ fp) ([(D, accO us k)] ++ pinsAt fp s6.heap) τ H' s' → s'.heap.get? D = some (accO us k) ∧ H' D = none := fun {τ H' s'} I => by
      have q := I.pin (D, accO us k) (List.mem_append_right _ (List.mem_append_left _ (by simp)))
      exact ⟨q.1, q.2.1⟩
    refine wpAny_mono (ht _ s7 _ H6 _ I7 (step v H6 y6)) (fun ok s8 ⟨H8, I8, q8⟩ => ?_) (fun _ _ z => False.elim z)
    cases ok with
    | false =>
      obtain ⟨m', hm, w8⟩ := hN _ _ q8
      exact ⟨m', hm, i + 1, some v, H8, ys, us, k, I8.pins_of fun p hp => absurd hp (by simp), (st7 I8).1, (st7 I8).2, rv, hz, (dD I8).1, (dD I8).2, w8⟩
    | true =>
      rw [if_pos rfl]
      refine wpAny_mono (he _ s8 _ H8 _ I8 q8) (fun xv s9 ⟨y, H9, I9, r9, n9⟩ => ?_) (fun _ _ z => False.elim z)
      obtain ⟨m', hm, w9⟩ := hN _ _ n9
      obtain ⟨eD9, hD9⟩ := dD I9
      have hl := rv.length
      refine call_meets F.slot_list_append ⟨_, eD9, rfl⟩ F.entry_list_append (F.args_list_append_2 _ _) (PySem.list_append D us.toArray k xv (by rw [List.size_toArray]; omega)) ⟨eD9, ?_⟩
      have I9' : Inv (cxC X scope cl x cs C s₂ H₂ fp) [] (some v :: capt σ js) H9 s9 := I9.pins_of fun p hp => absurd hp (by simp)
      have q := PySem.IsL.update eD9 (·.push xv)
      have e1 : us.toArray.push xv = (us ++ [xv]).toArray := by simp
      rw [e1] at q
      have I10 := I9'.turned (h' := s9.heap.update D (Obj.mapSeq (·.push xv))) (t' := s9.toks) (it := D) (fun b o hb e => (Heap.get?_update_other s9.heap _ (Ne.symm hb)).trans e) hD9 hDC (.inr hD) (fun y c e => cD y c e) (fun p hp => absurd (show p ∈ ([] : List (Addr × Obj)) from hp) (by simp))
      refine ⟨m', hm, i + 1, some v, H9, ys ++ [y], us ++ [xv], _, I10, ?_, (st7 I9).2, rv.append (.cons r9 .nil), ?_, q, hD9, w9⟩
      · exact T.keep _ _ _ (st7 I9).1 fun b hb o e => (Heap.get?_update_other s9.heap _ (Ne.symm (bD b hb))).trans e
      · rw [List.length_append, List.length_singleton]
        omega

structure Off (X : Cx) (pins : List (Addr × Obj)) (H : Hp) (C : Addr) : Prop where
  n : H C = none
  l : C ≠ X.env.locals
  y : X.s₀.heap.objs.size ≤ C
  c : ∀ x c, X.env.cells.lookup x = some c → c ≠ C
  p : ∀ p ∈ X.pn ++ pins, p.1 ≠ C
theorem Inv.off {h' : Heap} {t' : Nat} {C : Addr} (I : Inv X pins σ H s) (O : Off X pins H C) (k : Heap.SameBut C s.heap h') : Inv X pins σ H { s with heap := h', toks := t' } :=
  I.turned (fun b o hb e => (k.2 b hb).trans e) O.n O.l (.inr O.y) O.c O.p

theorem comp_block {elt iter : Expr} {px pos : Pos} {ifs : List Expr} {tc : TT} {te : TE} {it : Addr} {fp : List Addr} {tn : Nat → Heap → Prop} {J : It} {E : Value → Shared → Prop} {fin : List V → Hp → Prop} {RR : Value → Addr → Result → Shared → Prop}
    (hc : X.calm = true) (S : CScope X scope cl x cs js) (I : Inv X pins σ H s) (T : Turn X.prog X.w X.K (.Name x px) J fp it tn) (st : tn 0 s.heap) (hf : ∀ b ∈ fp, FpOk X pins H b)
    (ht : ∀ C s₁ H₁, PIfs (cxC X scope cl x cs C s₁ H₁ fp) ifs tc) (he : ∀ C s₁ H₁, PE (cxC X scope cl x cs C s₁ H₁ fp) elt te) (hW : CompW J tc te (capt σ js) fin H)
    (hRR : ∀ D C s' ys H' m, Inv X pins σ (upd H' D (.lst ys)) s' → s'.heap.Ns C m → Off X pins (upd H' D (.lst ys)) C → H' D = none → fin ys H' → RR (.ref D) C (.ok .next) s') :
    wpAny (model X.prog X.w) X.A (newList []) (fun acc s₃ => wpAny (model X.prog X.w) X.A (newFunctionEnv scope X.env.globals cl [] X.env.qual none .none (some X.env)) (fun cenv s₄ =>
      codeAny (model X.prog X.w) X.A (.compStart (.ListComp elt [⟨.Name x px, iter, ifs, 0⟩] scope pos) 0 (.ref it) acc { cenv with scope := relabel scope X.env }) (RR acc cenv.locals) s₄) E s₃) E s := by
  have hlt : ∀ b ∈ fp, b < s.heap.objs.size := fun b hb => by
    obtain ⟨o, e, _⟩ := T.obj _ _ st b hb
    exact Heap.lt_size e
  refine wpAny_newObj_type (wpAny_newFunctionEnv S.nocell (by intro y hy; simp at hy) (fun h₁ hns₁ hsb₁ => ?_) S.kind)
  dsimp only at hns₁ hsb₁ ⊢
  generalize hH2 : s.heap.push { cls := .type "list", dict := none, data := .seq ([] : List Value).toArray } = H2 at hns₁ hsb₁ ⊢
  have hC : H2.objs.size = s.heap.objs.size + 1 := by rw [← hH2, Heap.size_push]
  have hDC : s.heap.objs.size ≠ H2.objs.size := by rw [hC]; exact Nat.ne_of_lt (Nat.lt_succ_self _)
  have hCle : s.heap.objs.size ≤ H2.objs.size := by rw [hC]; exact Nat.le_succ _
  have below : ∀ b, b < s.heap.objs.size → b ≠ H2.objs.size ∧ b ≠ s.heap.objs.size := fun b hb => ⟨by rw [hC]; exact Nat.ne_of_lt (Nat.lt_succ_of_lt hb), Nat.ne_of_lt hb⟩
  have old : ∀ b o, s.heap.get? b = some o → h₁.get? b = some o := fun b o e => hsb₁.extBut b o (below b (Heap.lt_size e)).1 (Heap.get?_push_of_some _ (hH2 ▸ Heap.get?_push_of_some _ e))
  have hacc : h₁.get? s.heap.objs.size = some (accO [] 0) := hsb₁.extBut _ _ hDC (Heap.get?_push_of_some _ (hH2 ▸ Heap.get?_push_size _ rfl))
  have hDn : H s.heap.objs.size = none := I.hok.fresh (Nat.le_refl _)
  have I₁ := inv_startC (C := H2.objs.size) (D := s.heap.objs.size) (tk := s.toks + ([] : List (Str × Value)).length) (oD := accO [] 0) S I hf hlt (Nat.le_refl _) hCle hDC hns₁ old hacc (fun v z => by
    have z' : Data.seq ([] : List Value).toArray 0 = Data.cell v := z
    cases z')
  have I₁' := I₁.pins_of (pins' := []) fun p hp => absurd hp (by simp)
  have stk : tn 0 h₁ := T.keep _ _ _ st fun b _ o e => old b o e
  have loop : codeAny (model X.prog X.w) X.A (.compLoop (.ListComp elt [⟨.Name x px, iter, ifs, 0⟩] scope pos) 0 (.ref it) (.ref s.heap.objs.size) (compEnvC scope cl H2.objs.size X.env)) (RR (.ref s.heap.objs.size) H2.objs.size)
      { s with heap := h₁, toks := s.toks + ([] : List (Str × Value)).length } := by
    refine comp_loop (s₂ := s) (H₂ := H) (fp := fp) (fin := fin) hc S hCle (Nat.le_refl _) hDC hlt T (fun y c e => ?_) (fun b hb z => ?_) (I.newfs (Nat.le_refl _)) (fun b hb y c e => (hf b hb).2.2.2.2.1 y c (S.sub y c e)) (ht _ _ _) (he _ _ _) I₁' stk (fun b hb => (hf b hb).1) hacc hDn hW ?_
    · obtain ⟨v, q⟩ := I.cell y c (S.sub y c e)
      exact q.lt
    · rcases List.mem_cons.mp (I.stkSub b z) with e | e
      · exact (hf b hb).2.1 e
      · exact (hf b hb).2.2.1 e
    · intro s' σ' H' ys us n I' rv hz eD hDn' hfin
      have u' : Un (frs X.stack) fp H H' s.heap s'.heap := I'.base
      have u : Un (frs X.stack) fp H (upd H' s.heap.objs.size (.lst ys)) s.heap s'.heap := ⟨u'.keep, u'.slot, fun b o e n hx => by rw [upd_ne (below b (Heap.lt_size e)).2]; exact u'.free b o e n hx, u'.there,
        fun b xs e => by rw [upd_ne (ne_of_none e hDn)]; exact u'.tups b xs e, fun b o w' e => by rw [upd_ne (ne_of_none e hDn)]; exact u'.frzs b o w' e, fun b ps e => by
          obtain ⟨more, q⟩ := u'.tbls b ps e
          exact ⟨more, by rw [upd_ne (ne_of_none e hDn)]; exact q⟩⟩
      have hok : HOk X.prog X.w (upd H' s.heap.objs.size (.lst ys)) s'.heap := HOk.track I'.hok hDn' ⟨hz, us, n, rv, eD⟩
      have I2 : Inv X pins σ (upd H' s.heap.objs.size (.lst ys)) s' := I.call' (ch := fp) I'.os u hok I'.bare fun b hb => ⟨(hf b hb).2.2.2.1, (hf b hb).2.1, (hf b hb).2.2.2.2.1, (hf b hb).2.2.2.2.2⟩
      obtain ⟨m, hm, _⟩ := I'.loc
      refine hRR _ _ s' ys H' m I2 hm ⟨?_, Ne.symm (below _ I.lt).1, Nat.le_trans I.sz hCle, fun y c e => ?_, fun p hp => ?_⟩ hDn' hfin
      · rw [upd_ne (Ne.symm hDC)]; exact I'.free
      · obtain ⟨v, q⟩ := I.cell y c e
        exact (below _ q.lt).1
      · exact (below _ (Heap.lt_size (I.pin p hp).1)).1
  exact codeAny_compStart_list loop (T.self X.A 0 _ _ _ stk loop)

theorem pe_compG {elt iter : Expr} {px pos : Pos} {ifs : List Expr} {wi : TI} {tc : TT} {te : TE} (hc : X.calm = true) (S : CScope X scope cl x cs js) (hi : PI X (.Name x px) iter wi)
    (ht : ∀ C s₁ H₁ fp, PIfs (cxC X scope cl x cs C s₁ H₁ fp) ifs tc) (he : ∀ C s₁ H₁ fp, PE (cxC X scope cl x cs C s₁ H₁ fp) elt te)
    (hs : ∀ x, foldedSetIterable iter X.env x = pure x := by intro _; rfl) : PE X (.ListComp elt [⟨.Name x px, iter, ifs, 0⟩] scope pos) (tComp wi js tc te) := by
  intro pins s σ H Q I h
  rw [eval_ListComp]
  refine wpAny_comprehension_free (use := none) rfl hs S.clos S.kind S.names (thn (hi pins s σ H _ I h) fun v s1 h1 => thn h1 fun itv s2 h2 => ?_)
  obtain ⟨it, fp, tn, J, H2, e, I2, T, st2, f2, hW⟩ := h2
  subst e
  refine comp_block (RR := fun acc C => compPost (model X.prog X.w) X.A X.xe none (EP X pins σ Q) acc C) hc S I2 T st2 f2 (fun C s₁ H₁ => ht C s₁ H₁ fp) (fun C s₁ H₁ => he C s₁ H₁ fp) hW ?_
  intro D C s' ys H' m I' hm O hD hfin
  exact ⟨m, hm, fun h' k => ⟨.ref D, _, I'.off (t' := s'.toks) O k, rfl, hfin D hD⟩⟩

/-- y = [.. for ..] -/
theorem ps_setCG {i : Nat} {y : Str} {py spos : Pos} {elt iter : Expr} {px pos : Pos} {ifs : List Expr} {wi : TI} {tc : TT} {te : TE} (hN : X.N.Nodup) (hi' : X.N[i]? = some y) (hy : Loc X.env.scope y) (hc : X.calm = true) (S : CScope X scope cl x cs js) (hi : PI X (.Name x px) iter wi)
    (ht : ∀ C s₁ H₁ fp, PIfs (cxC X scope cl x cs C s₁ H₁ fp) ifs tc) (he : ∀ C s₁ H₁ fp, PE (cxC X scope cl x cs C s₁ H₁ fp) elt te)
    (hsw : swapsWith (.ListComp elt [⟨.Name x px, iter, ifs, 0⟩] scope pos) (some (.Name y py)) spos.line X.env = pure true := by rfl)
    (hf : X.fn y = true ∨ X.env.scope.names.lookup y = some .local := by first | exact .inl rfl | exact .inr rfl | assumption)
    (hs : ∀ x, foldedSetIterable iter X.env x = pure x := by intro _; rfl) : PS X (.Assign [.Name y py] (.ListComp elt [⟨.Name x px, iter, ifs, 0⟩] scope pos) spos) (tAsg (tComp wi js tc te) (gName i)) := by
  intro pins s σ H D I h
  rw [exec_Assign_Name_used _ _ _ _ hsw]
  refine wpAny_bind (wpAny_standAt (wpAny_bind ?_))
  show wpAny _ X.A (do let _ ← comprehension (.ListComp elt [⟨.Name x px, iter, ifs, 0⟩] scope pos) scope X.env _ (newList []) false (eval iter X.env) (some (assign (.Name y py) X.env))) _ _ s
  refine wpAny_bind (wpAny_mono (wpAny_comprehension_free (use := some (assign (.Name y py) X.env)) (Q := fun _ s' => SP X pins D .next s') rfl hs S.clos S.kind S.names
    (thn (hi pins s σ H _ I h) fun v s1 h1 => thn h1 fun itv s2 h2 => ?_)) (fun _ s' hq => wpAny_pure (wpAny_pure hq)) fun _ _ e => e)
  obtain ⟨it, fp, tn, J, H2, e, I2, T, st2, f2, hW⟩ := h2
  subst e
  refine comp_block (RR := fun acc C => compPost (model X.prog X.w) X.A X.xe (some (assign (.Name y py) X.env)) (fun _ s' => SP X pins D .next s') acc C) hc S I2 T st2 f2 (fun C s₁ H₁ => ht C s₁ H₁ fp) (fun C s₁ H₁ => he C s₁ H₁ fp) hW ?_
  intro D' C s' ys H' m I' hm O hD hfin
  show wpAny _ X.A (assign (.Name y py) X.env (.ref D')) _ _ s'
  refine wpAny_assign_Name (store_ok2 I' hN hi' hy (v := .ref D') rfl (fun s'' I'' sb => ?_) hf)
  obtain ⟨a, sb, ha⟩ := sb
  have hCa : C ≠ a := by
    rcases ha with e | e
    · rw [e]; exact O.l
    · exact fun z => O.c y a e z.symm
  exact ⟨m, hm.sameBut sb hCa, fun h' k => ⟨_, _, I''.off (t' := s''.toks) O k, hfin D' hD⟩⟩
end

/-! ### the block's scope, by a look at the two scopes -/
def clOf (env : Env) : List (Str × NameKind) → List (Str × Addr) → List (Str × Addr)
  | [], acc => acc
  | (n, k) :: r, acc => if k = .free then clOf env r ((n, (env.cells.lookup n).getD 0) :: acc) else clOf env r acc
theorem closureFor_of {scope : Scope} {env : Env} (h : ∀ y ∈ scope.names, y.2 = .free → (env.cells.lookup y.1).isSome = true) : closureFor scope env = pure (clOf env scope.names []) := by
  simp only [closureFor]
  generalize scope.names = l at h
  have key : ∀ (l : List (Str × NameKind)) (acc : List (Str × Addr)), (∀ y ∈ l, y.2 = .free → (env.cells.lookup y.1).isSome = true) → (do
      let r ← forIn l acc fun x r =>
        if (x.snd == NameKind.free) = true then do
          let c ← cellOf env x.fst
          pure (ForInStep.yield ((x.fst, c) :: r))
        else pure (ForInStep.yield r)
      pure r) = (pure (clOf env l acc) : Sem (List (Str × Addr))) := by
    intro l
    induction l with
    | nil => intro acc _; rfl
    | cons p r ih =>
      obtain ⟨n, k⟩ := p
      intro acc h
      rw [List.forIn_cons]
      by_cases hk : k = .free
      · have e := h (n, k) List.mem_cons_self hk
        obtain ⟨c, ec⟩ := Option.isSome_iff_exists.mp e
        have ec' : env.cells.lookup n = some c := ec
        have e1 : cellOf env n = pure c := by unfold cellOf; rw [ec']
        subst hk
        have e2 : clOf env ((n, NameKind.free) :: r) acc = clOf env r ((n, c) :: acc) := by
          show (if NameKind.free = NameKind.free then clOf env r ((n, (env.cells.lookup n).getD 0) :: acc) else clOf env r acc) = _
          rw [if_pos rfl, ec']; rfl
        rw [e2]
        rw [← ih ((n, c) :: acc) fun y hy => h y (List.mem_cons_of_mem _ hy)]
        simp only [beq_self_eq_true, if_true, e1]
        rfl
      · have e2 : clOf env ((n, k) :: r) acc = clOf env r acc := by
          show (if k = NameKind.free then clOf env r ((n, (env.cells.lookup n).getD 0) :: acc) else clOf env r acc) = _
          rw [if_neg hk]
        rw [e2, ← ih acc fun y hy => h y (List.mem_cons_of_mem _ hy)]
        have hk' : (k == NameKind.free) = false := by simpa using hk
        simp only [hk', Bool.false_eq_true, if_false]
        rfl
  show (forIn l [] _ >>= fun s => pure s) = _
  rw [key l [] h]
  rfl

theorem clOf_look {env : Env} {y : Str} {c : Addr} : ∀ (names : List (Str × NameKind)) (acc : List (Str × Addr)), (∀ z ∈ names, z.2 = .free → (env.cells.lookup z.1).isSome = true) → (∀ z d, acc.lookup z = some d → env.cells.lookup z = some d) →
    (clOf env names acc).lookup y = some c → env.cells.lookup y = some c
  | [], acc, _, ha, h => ha y c h
  | (n, k) :: r, acc, hn, ha, h => by
    unfold clOf at h
    by_cases hk : k = .free
    · rw [if_pos hk] at h
      refine clOf_look r _ (fun z hz => hn z (List.mem_cons_of_mem _ hz)) (fun z d hd => ?_) h
      obtain ⟨c', ec⟩ := Option.isSome_iff_exists.mp (hn (n, k) List.mem_cons_self hk)
      have ec' : env.cells.lookup n = some c' := ec
      rw [List.lookup_cons] at hd
      cases e : z == n with
      | true =>
        rw [e] at hd
        have e' : z = n := eq_of_beq e
        rw [e', ec']
        rw [ec'] at hd
        simpa using hd
      | false => rw [e] at hd; exact ha z d hd
    · rw [if_neg hk] at h
      exact clOf_look r acc (fun z hz => hn z (List.mem_cons_of_mem _ hz)) ha h
theorem clOf_has {env : Env} {y : Str} : ∀ (names : List (Str × NameKind)) (acc : List (Str × Addr)), ((∃ z ∈ names, z = (y, .free)) ∨ (acc.lookup y).isSome = true) → ((clOf env names acc).lookup y).isSome = true
  | [], acc, h => by
    rcases h with ⟨z, hz, _⟩ | h
    · cases hz
    · exact h
  | (n, k) :: r, acc, h => by
    unfold clOf
    by_cases hk : k = .free
    · rw [if_pos hk]
      refine clOf_has r _ ?_
      rcases h with ⟨z, hz, e⟩ | h
      · rcases List.mem_cons.mp hz with q | q
        · right
          have e1 : n = y := by
            have : (n, k) = (y, NameKind.free) := q.symm.trans e
            exact (Prod.mk.inj this).1
          subst e1
          rw [List.lookup_cons, beq_self_eq_true]; rfl
        · exact .inl ⟨z, q, e⟩
      · right
        rw [List.lookup_cons]
        cases e : y == n with
        | true => rfl
        | false => exact h
    · rw [if_neg hk]
      refine clOf_has r _ ?_
      rcases h with ⟨z, hz, e⟩ | h
      · rcases List.mem_cons.mp hz with q | q
        · exact absurd (by
            have : (n, k) = (y, NameKind.free) := q.symm.trans e
            exact (Prod.mk.inj this).2) hk
        · exact .inl ⟨z, q, e⟩
      · exact .inr h
theorem clOf_none {env : Env} {y : Str} : ∀ (names : List (Str × NameKind)) (acc : List (Str × Addr)), (∀ z ∈ names, z.2 = .free → z.1 ≠ y) → acc.lookup y = none → (clOf env names acc).lookup y = none
  | [], acc, _, h => h
  | (n, k) :: r, acc, hn, h => by
    unfold clOf
    by_cases hk : k = .free
    · rw [if_pos hk]
      refine clOf_none r _ (fun z hz => hn z (List.mem_cons_of_mem _ hz)) ?_
      rw [List.lookup_cons]
      have : n ≠ y := hn (n, k) List.mem_cons_self hk
      have e : (y == n) = false := by simpa using Ne.symm this
      rw [e]; exact h
    · rw [if_neg hk]
      exact clOf_none r acc (fun z hz => hn z (List.mem_cons_of_mem _ hz)) h
/-- the look -/
structure CompOk (sc scope : Scope) (N : List Str) (x : Str) (cs : List Str) (js : List Nat) : Prop where
  k1 : scope.kind = .function
  k2 : sc.kind = .function
  nocell : ∀ y ∈ scope.names, y.2 ≠ .cell
  names : ∀ y ∈ scope.names, y.2 = .local → scope.names.lookup y.1 = some .local
  lx : scope.names.lookup x = some .local
  fr : ∀ y ∈ scope.names, y.2 = .free → sc.names.lookup y.1 = some .cell ∧ y.1 ≠ x
  nd : (x :: cs).Nodup
  cap : js.map (fun j => N[j]?) = cs.map some
  capk : ∀ y ∈ cs, sc.names.lookup y = some .cell ∧ scope.names.lookup y = some .free
theorem mem_of_look {α : Type} {y : Str} {k : α} : ∀ {l : List (Str × α)}, l.lookup y = some k → (y, k) ∈ l
  | [], h => by cases h
  | (n, a) :: r, h => by
    rw [List.lookup_cons] at h
    cases e : y == n with
    | true =>
      rw [e] at h
      have e' : y = n := eq_of_beq e
      have e2 : a = k := by simpa using h
      rw [e', e2]; exact List.mem_cons_self
    | false => rw [e] at h; exact List.mem_cons_of_mem _ (mem_of_look h)
theorem paired_of {N : List Str} : ∀ {js : List Nat} {cs : List Str}, js.map (fun j => N[j]?) = cs.map some → Paired (fun y j => N[j]? = some y) cs js
  | [], [], _ => .nil
  | [], _ :: _, h => by simp at h
  | _ :: _, [], h => by simp at h
  | j :: js, c :: cs, h => by
    rw [List.map_cons, List.map_cons] at h
    obtain ⟨h1, h2⟩ := List.cons.inj h
    exact .cons h1 (paired_of h2)
theorem relabel_free {env : Env} {y : Str} (hk : env.scope.kind = .function) (he : env.kindOf y = some .cell) : ∀ {l : List (Str × NameKind)}, l.lookup y = some .free →
    (l.map fun (n, k) => if (k == NameKind.free && env.scope.kind == .function && env.kindOf n == some .cell) then (n, NameKind.cell) else (n, k)).lookup y = some .cell
  | [], h => by cases h
  | (n, k) :: r, h => by
    have ih := @relabel_free env y hk he r
    rw [List.lookup_cons] at h
    show List.lookup y ((if (k == NameKind.free && env.scope.kind == .function && env.kindOf n == some .cell) = true then (n, NameKind.cell) else (n, k)) :: _) = _
    cases e : y == n with
    | true =>
      rw [e] at h
      have e' : y = n := eq_of_beq e
      have e2 : k = .free := by simpa using h
      subst e2 e'
      rw [hk, he]
      simp [List.lookup_cons]
    | false =>
      rw [e] at h
      by_cases hc : (k == NameKind.free && env.scope.kind == .function && env.kindOf n == some .cell) = true
      · rw [if_pos hc]; simp only [List.lookup_cons, e]; exact ih h
      · rw [if_neg hc]; simp only [List.lookup_cons, e]; exact ih h
theorem relabel_back {env : Env} {y : Str} : ∀ {l : List (Str × NameKind)}, (∀ z ∈ l, z.2 ≠ NameKind.cell) →
    ((l.map fun (n, k) => if (k == NameKind.free && env.scope.kind == .function && env.kindOf n == some .cell) then (n, NameKind.cell) else (n, k)).lookup y = some .cell ∨
     (l.map fun (n, k) => if (k == NameKind.free && env.scope.kind == .function && env.kindOf n == some .cell) then (n, NameKind.cell) else (n, k)).lookup y = some .free) → ∃ z ∈ l, z = (y, NameKind.free)
  | [], _, h => by rcases h with h | h <;> cases h
  | (n, k) :: r, hn, h => by
    have ih := @relabel_back env y r fun z hz => hn z (List.mem_cons_of_mem _ hz)
    have h' : List.lookup y ((if (k == NameKind.free && env.scope.kind == .function && env.kindOf n == some .cell) = true then (n, NameKind.cell) else (n, k)) :: r.map fun (n, k) => if (k == NameKind.free && env.scope.kind == .function && env.kindOf n == some .cell) then (n, NameKind.cell) else (n, k)) = some .cell ∨
        List.lookup y ((if (k == NameKind.free && env.scope.kind == .function && env.kindOf n == some .cell) = true then (n, NameKind.cell) else (n, k)) :: r.map fun (n, k) => if (k == NameKind.free && env.scope.kind == .function && env.kindOf n == some .cell) then (n, NameKind.cell) else (n, k)) = some .free := h
    by_cases hc : (k == NameKind.free && env.scope.kind == .function && env.kindOf n == some .cell) = true
    · rw [if_pos hc] at h'
      simp only [List.lookup_cons] at h'
      cases e : y == n with
      | true =>
        have e' : y = n := eq_of_beq e
        have ek : k = .free := by
          rw [Bool.and_eq_true, Bool.and_eq_true] at hc
          simpa using hc.1.1
        exact ⟨(n, k), List.mem_cons_self, by rw [e', ek]⟩
      | false =>
        rw [e] at h'
        obtain ⟨z, hz, ez⟩ := ih h'
        exact ⟨z, List.mem_cons_of_mem _ hz, ez⟩
    · rw [if_neg hc] at h'
      simp only [List.lookup_cons] at h'
      cases e : y == n with
      | true =>
        rw [e] at h'
        have e' : y = n := eq_of_beq e
        have hkc : k ≠ .cell := hn (n, k) List.mem_cons_self
        have ek : k = .free := by
          rcases h' with q | q
          · exact absurd (by simpa using q) hkc
          · simpa using q
        exact ⟨(n, k), List.mem_cons_self, by rw [e', ek]⟩
      | false =>
        rw [e] at h'
        obtain ⟨z, hz, ez⟩ := ih h'
        exact ⟨z, List.mem_cons_of_mem _ hz, ez⟩
/-- in a def's own frame -/
theorem cscope_def {X : Cx} {sc scope : Scope} {x : Str} {cs : List Str} {js : List Nat} {qual : Str} {L f : Addr} {cd : Value} (hE : X.env = envOfC qual sc L f cd) (c : CompOk sc scope X.N x cs js) : CScope X scope (clOf X.env scope.names []) x cs js := by
  have hcs : ∀ y, sc.names.lookup y = some .cell → (X.env.cells.lookup y).isSome = true := fun y h => by
    rw [hE]
    exact PySem.W.cellsFrom_some _ _ _ (.inl h)
  have hn : ∀ y ∈ scope.names, y.2 = .free → (X.env.cells.lookup y.1).isSome = true := fun y hy h => hcs _ (c.fr y hy h).1
  have hk : X.env.scope.kind = .function := by rw [hE]; exact c.k2
  have kd : ∀ y, X.env.kindOf y = sc.names.lookup y := fun y => by rw [hE]; rfl
  refine ⟨closureFor_of hn, c.k1, c.nocell, c.names, c.lx, fun y d h => clOf_look _ _ hn (fun z d h => by cases h) h, fun y h => ?_, clOf_none _ _ (fun z hz h => (c.fr z hz h).2) rfl, c.nd, paired_of c.cap, fun y hy => ?_⟩
  · exact Option.isSome_iff_exists.mp (clOf_has _ _ (.inl (relabel_back c.nocell h)))
  · have q := c.capk y hy
    have q1 : X.env.kindOf y = some .cell := (kd y).trans q.1
    exact ⟨.inl q1, .inl (relabel_free hk q1 q.2)⟩
end L2

set_option Elab.async false
set_option linter.all false
set_option maxRecDepth 100000
set_option maxHeartbeats 4000000
namespace L2
open PySem PySem.Spec PyProof.Rows

/-! ### a comprehension, in short -/
section
variable {X : Cx}
theorem pe_comp (x : Str) (cs : List Str) (js : List Nat) {sc scope : Scope} {qual : Str} {L f : Addr} {cd : Value} {elt iter : Expr} {px pos : Pos} {wi : TI} {te : TE} (hE : X.env = envOfC qual sc L f cd) (c : CompOk sc scope X.N x cs js) (hc : X.calm = true) (hi : PI X (.Name x px) iter wi)
    (he : ∀ C s₁ H₁ fp, PE (cxC X scope (clOf X.env scope.names []) x cs C s₁ H₁ fp) elt te)
    (hs : ∀ x, foldedSetIterable iter X.env x = pure x := by intro _; rfl) : PE X (.ListComp elt [⟨.Name x px, iter, [], 0⟩] scope pos) (tComp wi js tYes te) :=
  pe_compG hc (cscope_def hE c) hi (fun _ _ _ _ => pifs_nil) he hs
theorem pe_compT (x : Str) (cs : List Str) (js : List Nat) {sc scope : Scope} {qual : Str} {L f : Addr} {cd : Value} {elt iter t : Expr} {px pos : Pos} {wi : TI} {tc : TT} {te : TE} (hE : X.env = envOfC qual sc L f cd) (c : CompOk sc scope X.N x cs js) (hc : X.calm = true) (hi : PI X (.Name x px) iter wi)
    (ht : ∀ C s₁ H₁ fp, PT (cxC X scope (clOf X.env scope.names []) x cs C s₁ H₁ fp) t tc) (he : ∀ C s₁ H₁ fp, PE (cxC X scope (clOf X.env scope.names []) x cs C s₁ H₁ fp) elt te)
    (hs : ∀ x, foldedSetIterable iter X.env x = pure x := by intro _; rfl) : PE X (.ListComp elt [⟨.Name x px, iter, [t], 0⟩] scope pos) (tComp wi js tc te) :=
  pe_compG hc (cscope_def hE c) hi (fun _ _ _ _ => pifs_one (ht _ _ _ _)) he hs
theorem ps_setC {i : Nat} {y : Str} {py spos : Pos} (hN : X.N.Nodup) (hi' : X.N[i]? = some y) (hy : Loc X.env.scope y) (x : Str) (cs : List Str) (js : List Nat) {sc scope : Scope} {qual : Str} {L f : Addr} {cd : Value} {elt iter : Expr} {px pos : Pos} {wi : TI} {te : TE} (hE : X.env = envOfC qual sc L f cd) (c : CompOk sc scope X.N x cs js) (hc : X.calm = true) (hi : PI X (.Name x px) iter wi)
    (he : ∀ C s₁ H₁ fp, PE (cxC X scope (clOf X.env scope.names []) x cs C s₁ H₁ fp) elt te)
    (hsw : swapsWith (.ListComp elt [⟨.Name x px, iter, [], 0⟩] scope pos) (some (.Name y py)) spos.line X.env = pure true := by rfl)
    (hf : X.fn y = true ∨ X.env.scope.names.lookup y = some .local := by first | exact .inl rfl | exact .inr rfl | assumption)
    (hs : ∀ x, foldedSetIterable iter X.env x = pure x := by intro _; rfl) : PS X (.Assign [.Name y py] (.ListComp elt [⟨.Name x px, iter, [], 0⟩] scope pos) spos) (tAsg (tComp wi js tYes te) (gName i)) :=
  ps_setCG hN hi' hy hc (cscope_def hE c) hi (fun _ _ _ _ => pifs_nil) he hsw hf hs
end

/-! ### a text, sign by sign -/
def one (c : Nat) : V := .str ⟨#[c]⟩
def Its (x : Str) : It := ⟨fun i _ => i < x.cps.size, fun i H v H' => H' = H ∧ ∃ c, x.cps[i]? = some c ∧ v = one c, fun i _ => x.cps.size ≤ i⟩
theorem turn_str {P : Program} {w : World} {K : PySem.W.Frag} {tg : Expr} (x : Str) (t : Tok) (it : Addr) (ty : String) (hty : ty = "str_ascii_iterator" ∨ ty = "str_iterator") :
    Turn P w K tg (Its x) [it] it (fun i h => h.IsStrIter it ty x t i ∧ i ≤ x.cps.size) where
  mem := by simp
  obj := fun i h st b hb => by
    have e : b = it := by simpa using hb
    subst e
    obtain ⟨⟨o, e, c, d⟩, _⟩ := st
    exact ⟨o, e, fun v z => by rw [d] at z; cases z⟩
  keep := fun i h h' st k => by
    obtain ⟨⟨o, e, r⟩, hi⟩ := st
    exact ⟨⟨o, k it (by simp) o e, r⟩, hi⟩
  item := by
    intro X hP hw hK hc i pins s σ H E I hf st hg
    subst hP hw hK
    obtain ⟨f0, f1, f2, f3, f4, f5⟩ := hf it (by simp)
    have W : Walks X.prog X.w X.A it [it] [it] x.cps.size (SignAt x) (fun i h => h.IsStrIter it ty x t i) := by
      rcases hty with e | e
      · subst e; exact Walks.strAscii (I.ok.hd hc) it x t
      · subst e; exact Walks.strWide (I.ok.hd hc) it x t
    have hg' : i < x.cps.size := hg
    refine W.item i s _ _ hg' st.1 fun v h' tk hv st' kk => ?_
    obtain ⟨c, u, hcx, rfl⟩ := hv
    have I1 : Inv X pins σ H { s with heap := h', toks := tk } := I.turned (fun b o hb e => kk b o (by simpa using hb) e) f0 f1 f3 f4 f5
    obtain ⟨o, e, oc, od⟩ := id st'
    refine ⟨_, rfl, go_of (s := { s with heap := h', toks := tk }) (n := ty) e oc od (by rcases hty with e | e <;> (subst e; decide)) ⟨one c, H, I1, ⟨u, rfl⟩, ⟨rfl, c, hcx, rfl⟩, ⟨st', by omega⟩, fun b hb => (hf b hb).1⟩⟩
  done := by
    intro X hP hw hK hc i pins s σ H E I hf st hg
    subst hP hw hK
    obtain ⟨f0, f1, f2, f3, f4, f5⟩ := hf it (by simp)
    have W : Walks X.prog X.w X.A it [it] [it] x.cps.size (SignAt x) (fun i h => h.IsStrIter it ty x t i) := by
      rcases hty with e | e
      · subst e; exact Walks.strAscii (I.ok.hd hc) it x t
      · subst e; exact Walks.strWide (I.ok.hd hc) it x t
    have hg' : x.cps.size ≤ i := hg
    have ei : i = x.cps.size := Nat.le_antisymm st.2 hg'
    exact W.done s _ _ (ei ▸ st.1) fun h' tk kk => ⟨rfl, I.turned (fun b o hb e => kk b o (by simpa using hb) e) f0 f1 f3 f4 f5⟩
  self := fun A i s Q E st h => by
    rcases hty with e | e
    · subst e; exact wpAny_pyIter_striter_ascii st.1 h
    · subst e; exact wpAny_pyIter_striter_wide st.1 h
section
variable {X : Cx} {tg : Expr}
def iStr (tl : TE) : TI := fun σ H R => tl σ H fun x H1 => ∃ z, x = .str z ∧ R (Its z) H1
theorem pi_str {l : Expr} {tl : TE} (hl : PE X l tl) : PI X tg l (iStr tl) := by
  intro pins s σ H R I h
  refine thn (hl pins s σ H _ I h) fun v s1 ⟨x, H1, I1, r1, q1⟩ => ?_
  obtain ⟨z, e, q⟩ := q1
  subst e
  obtain ⟨t, rfl⟩ := r1
  have fin : ∀ (ty : String), (ty = "str_ascii_iterator" ∨ ty = "str_iterator") → PIE X pins σ tg R (.ref s1.heap.objs.size) { s1 with heap := s1.heap.push { cls := .type ty, data := .fields #[.str z t, .int 0 0] } } := fun ty hty => by
    refine ⟨s1.heap.objs.size, [s1.heap.objs.size], _, _, H1, rfl, I1.kept (t' := s1.toks) fun b o e => Heap.get?_push_of_some _ e, turn_str z t _ ty hty, ⟨⟨_, Heap.get?_push_size _ rfl, rfl, rfl⟩, Nat.zero_le _⟩, fun b hb => ?_, q⟩
    have e : b = s1.heap.objs.size := by simpa using hb
    subst e
    exact I1.fpOk (Nat.le_refl _) (I1.hok.fresh (Nat.le_refl _))
  cases ha : z.cps.all (· < 128)
  · exact wpAny_pyIter_wide ha (fin _ (.inr rfl))
  · exact wpAny_pyIter_ascii ha (fin _ (.inl rfl))
theorem forW_str {z : Str} {g : TG} {tb : TS} {D : Ends} {σ : St} {H : Hp} (Pv : Nat → St → Hp → Prop) (h0 : Pv 0 σ H)
    (hs : ∀ (i : Nat) (c : Nat) σ H, z.cps.toList[i]? = some c → Pv i σ H → g (one c) σ H fun σ2 H2 => tb { D with nx := Pv (i + 1), ct := Pv (i + 1), bk := D.nx } σ2 H2) (hd : ∀ σ H, Pv z.cps.size σ H → D.nx σ H) : ForW (Its z) g tb D σ H := by
  refine ⟨fun i m σ H => m = z.cps.size - i ∧ i ≤ z.cps.size ∧ Pv i σ H, ⟨z.cps.size, by simp, Nat.zero_le _, h0⟩, ?_⟩
  rintro i m σ H ⟨rfl, hi, p⟩
  by_cases hlt : i < z.cps.size
  · refine .inr ⟨hlt, Pv (i + 1), fun σ' H' p' => ⟨z.cps.size - (i + 1), by omega, rfl, hlt, p'⟩, fun x H' y => ?_⟩
    obtain ⟨e, c, hc, rfl⟩ := y
    subst e
    exact hs i c σ _ (by simpa using hc) p
  · have e : i = z.cps.size := by omega
    subst e
    exact .inl ⟨Nat.le_refl _, hd σ H p⟩

/-! ### a comprehension, by what holds at turn i of what is gathered -/
theorem compW_range {lo : Int} {n : Nat} {tc : TT} {te : TE} {τ : St} {fin : List V → Hp → Prop} {H : Hp} (Pv : Nat → List V → Hp → Prop) (h0 : Pv 0 [] H) (hz : ∀ i ys H, i < n → Pv i ys H → ys.length < sizeLine)
    (hs : ∀ i ys H, i < n → Pv i ys H → tc (some (.int (lo + i)) :: τ) H fun b H2 => if b = true then te (some (.int (lo + i)) :: τ) H2 (fun y H3 => Pv (i + 1) (ys ++ [y]) H3) else Pv (i + 1) ys H2) (hd : ∀ ys H, Pv n ys H → fin ys H) : CompW (Itr lo n) tc te τ fin H := by
  refine ⟨fun i m ys H => m = n - i ∧ i ≤ n ∧ Pv i ys H, ⟨n, by simp, Nat.zero_le _, h0⟩, ?_⟩
  rintro i m ys H ⟨rfl, hi, p⟩
  by_cases hlt : i < n
  · refine .inr ⟨hlt, hz i ys H hlt p, Pv (i + 1), fun ys' H' p' => ⟨n - (i + 1), by omega, rfl, hlt, p'⟩, fun x H' y => ?_⟩
    obtain ⟨e, y⟩ := y
    subst e y
    exact hs i ys _ hlt p
  · have e : i = n := by omega
    subst e
    exact .inl ⟨Nat.le_refl _, hd ys H p⟩
theorem compW_list {K : PySem.W.Frag} {a : Addr} {xs : List V} {tc : TT} {te : TE} {τ : St} {fin : List V → Hp → Prop} {H : Hp} (Pv : Nat → List V → Hp → Prop) (h0 : Pv 0 [] H) (hl : ∀ i ys H, i ≤ xs.length → Pv i ys H → SqL K H a xs) (hz : ∀ i ys H, i < xs.length → Pv i ys H → ys.length < sizeLine)
    (hs : ∀ (i : Nat) x ys H, xs[i]? = some x → Pv i ys H → tc (some x :: τ) H fun b H2 => if b = true then te (some x :: τ) H2 (fun y H3 => Pv (i + 1) (ys ++ [y]) H3) else Pv (i + 1) ys H2) (hd : ∀ ys H, Pv xs.length ys H → fin ys H) : CompW (Itl K a) tc te τ fin H := by
  refine ⟨fun i m ys H => m = xs.length - i ∧ i ≤ xs.length ∧ Pv i ys H, ⟨xs.length, by simp, Nat.zero_le _, h0⟩, ?_⟩
  rintro i m ys H ⟨rfl, hi, p⟩
  have q := hl i ys H hi p
  by_cases hlt : i < xs.length
  · refine .inr ⟨⟨xs, xs[i], q, by simp [hlt]⟩, hz i ys H hlt p, Pv (i + 1), fun ys' H' p' => ⟨xs.length - (i + 1), by omega, rfl, hlt, p'⟩, fun x H' y => ?_⟩
    obtain ⟨e, y⟩ := y
    subst e
    exact hs i x ys _ (y xs q) p
  · have e : i = xs.length := by omega
    subst e
    exact .inl ⟨⟨xs, q, Nat.le_refl _⟩, hd ys H p⟩
theorem compW_tup {K : PySem.W.Frag} {a : Addr} {xs : List V} {tc : TT} {te : TE} {τ : St} {fin : List V → Hp → Prop} {H : Hp} (Pv : Nat → List V → Hp → Prop) (h0 : Pv 0 [] H) (hl : ∀ i ys H, i ≤ xs.length → Pv i ys H → SqT K H a xs) (hz : ∀ i ys H, i < xs.length → Pv i ys H → ys.length < sizeLine)
    (hs : ∀ (i : Nat) x ys H, xs[i]? = some x → Pv i ys H → tc (some x :: τ) H fun b H2 => if b = true then te (some x :: τ) H2 (fun y H3 => Pv (i + 1) (ys ++ [y]) H3) else Pv (i + 1) ys H2) (hd : ∀ ys H, Pv xs.length ys H → fin ys H) : CompW (Itt K a) tc te τ fin H := by
  refine ⟨fun i m ys H => m = xs.length - i ∧ i ≤ xs.length ∧ Pv i ys H, ⟨xs.length, by simp, Nat.zero_le _, h0⟩, ?_⟩
  rintro i m ys H ⟨rfl, hi, p⟩
  have q := hl i ys H hi p
  by_cases hlt : i < xs.length
  · refine .inr ⟨⟨xs, xs[i], q, by simp [hlt]⟩, hz i ys H hlt p, Pv (i + 1), fun ys' H' p' => ⟨xs.length - (i + 1), by omega, rfl, hlt, p'⟩, fun x H' y => ?_⟩
    obtain ⟨e, y⟩ := y
    subst e
    exact hs i x ys _ (y xs q) p
  · have e : i = xs.length := by omega
    subst e
    exact .inl ⟨⟨xs, q, Nat.le_refl _⟩, hd ys H p⟩

/-! ### ''.join of single signs -/
theorem strsAre_of {ns : List Nat} : ∀ {us : List Value}, Vals (ns.map one) us → StrsAre us (ns.map fun k => (⟨#[k]⟩ : Str)) := by
  induction ns with
  | nil => intro us r; rw [List.map_nil] at r; cases r; exact .nil
  | cons n ns ih =>
    intro us r
    rw [List.map_cons] at r
    cases r with
    | cons r1 r2 =>
      obtain ⟨t, e⟩ := r1
      subst e
      exact .cons _ t (ih r2)
def rJoin1 (K : PySem.W.Frag) : V → List V → Hp → VK → Prop := fun x vs H Q => ∃ (p : Addr) (cs : List Nat), x = .str (Str.ofString "") ∧ vs = [.ref p] ∧ SqL K H p (cs.map one) ∧ cs.length ≤ 100000 ∧ Q (.str ⟨cs.toArray⟩) H
theorem sum_ones (cs : List Nat) : ((cs.map fun k => (⟨#[k]⟩ : Str)).map (·.length)).sum = cs.length := by
  induction cs with
  | nil => rfl
  | cons c r ih => rw [List.map_cons, List.map_cons, List.sum_cons, ih, List.length_cons]; show 1 + r.length = r.length + 1; omega
theorem join_one (cs : List Nat) : Txt.join (Str.ofString "") (cs.map fun k => (⟨#[k]⟩ : Str)) = ⟨cs.toArray⟩ := by
  have e : Str.ofString "" = ⟨#[]⟩ := by decide
  show Builtin.Str.glued (Str.ofString "") _ = _
  rw [StrLaws.glued_eq_join, e]
  exact PyProof.Rows.join_ones cs
theorem mt_join : MtR X "str.join" (rJoin1 X.K) := by
  intro pins s σ H x vs v us Q I rx rv h
  obtain ⟨p, cs, rfl, rfl, hq, hz, q⟩ := h
  obtain ⟨t, rfl⟩ := rx
  obtain ⟨u, rfl, ru⟩ := vals1 rv
  cases ru
  obtain ⟨its, r, pl, _⟩ := I.list hq
  refine join_list pl.isList (strsAre_of (by simpa using r)) ?_ fun t' k => ⟨.str ⟨cs.toArray⟩, H, I.tok _, ⟨t', by rw [join_one]⟩, q⟩
  have e0 : (Str.ofString "").length = 0 := by decide
  rw [sum_ones, e0]
  omega
/-! ### slices of a text -/
def rSlS : V → Option Int → Option Int → Hp → VK → Prop := fun x lo hi H Q => ∃ z, x = .str z ∧ z.length ≤ sizeLine ∧ Q (.str (Txt.slice z lo hi)) H
theorem sl_str : SlR X rSlS := by
  intro pins s σ H x v vl vu lo hi sl Q I rx hs pl pu h
  obtain ⟨z, rfl, hz, q⟩ := h
  obtain ⟨t, rfl⟩ := rx
  have fin : (if ((1 : Int) == 1 && (Builtin.Str.strSliceIndices lo hi 1 z.length).length == z.length) = true then Made.val (.str z t) else Made.str ⟨((Builtin.Str.strSliceIndices lo hi 1 z.length).filterMap (z.cps[·]?)).toArray⟩).post (EP X pins σ Q) s :=
    post_val_or_str ⟨Nat.le_trans (Txt.slice_le z lo hi) hz, fun t' k => ⟨.str (Txt.slice z lo hi), H, I.tok _, ⟨t', rfl⟩, q⟩⟩
  refine ⟨"str", _, PySem.F.slot_str_getitem.lookup, typeIs_str _ _ _, ?_⟩
  cases pl with
  | none =>
    cases pu with
    | none => exact wpAny_getItem_str_slice (l := none) (u := none) (st := none) hs rfl fin
    | int j tj => exact wpAny_getItem_str_slice (l := none) (u := some (j, tj)) (st := none) hs rfl fin
  | int i ti =>
    cases pu with
    | none => exact wpAny_getItem_str_slice (l := some (i, ti)) (u := none) (st := none) hs rfl fin
    | int j tj => exact wpAny_getItem_str_slice (l := some (i, ti)) (u := some (j, tj)) (st := none) hs rfl fin
end
end L2

set_option Elab.async false
set_option linter.all false
set_option maxRecDepth 100000
set_option maxHeartbeats 4000000
namespace L2
open PySem PySem.Spec PyProof.Rows
/-! ### ord of a sign -/
theorem one_inj {c d : Nat} : (one c = one d) = (c = d) := by
  unfold one
  refine propext ⟨fun h => ?_, fun h => by rw [h]⟩
  injection h with h1
  injection h1 with h2
  simpa using h2
def rOrd : List V → Hp → VK → Prop := fun xs H Q => ∃ c : Nat, xs = [one c] ∧ Q (.int c) H
theorem call_ord1 {X : Cx} : CallR X (.builtin "ord") rOrd := by
  intro pins s σ H xs us Q I r h
  obtain ⟨c, rfl, q⟩ := h
  exact call_ord pins s σ H _ us Q I r ⟨⟨#[c]⟩, rfl, rfl, q⟩

/-! ### stamps -/
def T0 : Int := 2147483647
def tst (cs : List Nat) : Int := cs.foldl (fun (h : Int) (c : Nat) => (31 * h + (c : Int)) % 2147483647) 7
def tot (cs : List Nat) : Int := cs.foldl (fun (h : Int) (c : Nat) => 31 * h + (c : Int)) 7
theorem fold_mod (cs : List Nat) : ∀ h h' : Int, h % 2147483647 = h' % 2147483647 → (cs.foldl (fun (h : Int) (c : Nat) => 31 * h + (c : Int)) h) % 2147483647 = (cs.foldl (fun (h : Int) (c : Nat) => (31 * h + (c : Int)) % 2147483647) h') % 2147483647 := by
  induction cs with
  | nil => intro h h' e; exact e
  | cons c r ih =>
    intro h h' e
    rw [List.foldl_cons, List.foldl_cons]
    exact ih _ _ (by omega)
theorem fold_range (cs : List Nat) : ∀ h : Int, 0 ≤ h → h < 2147483647 → 0 ≤ cs.foldl (fun (h : Int) (c : Nat) => (31 * h + (c : Int)) % 2147483647) h ∧ cs.foldl (fun (h : Int) (c : Nat) => (31 * h + (c : Int)) % 2147483647) h < 2147483647 := by
  induction cs with
  | nil => intro h h0 h1; exact ⟨h0, h1⟩
  | cons c r ih =>
    intro h h0 h1
    rw [List.foldl_cons]
    exact ih _ (by omega) (by omega)
theorem tst_range (cs : List Nat) : 0 ≤ tst cs ∧ tst cs < 2147483647 := fold_range cs 7 (by decide) (by decide)
theorem tot_mod (cs : List Nat) : tot cs % 2147483647 = tst cs := by
  have h := fold_mod cs 7 7 rfl
  have r := tst_range cs
  unfold tot
  rw [h]
  exact Int.emod_eq_of_lt r.1 r.2
theorem tst_snoc (cs : List Nat) (c : Nat) : tst (cs ++ [c]) = (31 * tst cs + (c : Int)) % 2147483647 := by unfold tst; rw [List.foldl_append]; rfl
theorem tot_snoc (cs : List Nat) (c : Nat) : tot (cs ++ [c]) = 31 * tot cs + (c : Int) := by unfold tot; rw [List.foldl_append]; rfl
theorem take_snoc {α : Type} {l : List α} {i : Nat} {c : α} (h : l[i]? = some c) : l.take (i + 1) = l.take i ++ [c] := by
  rw [List.take_add_one, h]; rfl

/-! ### keys as data -/
inductive Kd where
  | num (i : Int)
  | txt (x : Str)
  | tup (ks : List Kd)
mutual
def Kd.st : Kd → Int
  | .num i => i % 2147483647
  | .txt x => tst x.cps.toList
  | .tup ks => Kd.stL 11 ks
def Kd.stL : Int → List Kd → Int
  | h, [] => h
  | h, k :: r => Kd.stL ((Builtin.bitXor (1000003 * h) k.st) % 2147483647) r
end
mutual
def Kd.deep : Kd → Nat
  | .num _ => 0
  | .txt _ => 0
  | .tup ks => Kd.deepL ks + 1
def Kd.deepL : List Kd → Nat
  | [] => 0
  | k :: r => max k.deep (Kd.deepL r)
end
mutual
def IsK (H : Hp) : Kd → V → Prop
  | .num i, v => v = .int i
  | .txt x, v => v = .str x
  | .tup ks, v => ∃ a vs, v = .ref a ∧ H a = some (.tup vs) ∧ vs.length ≤ 1000 ∧ IsKs H ks vs
def IsKs (H : Hp) : List Kd → List V → Prop
  | [], vs => vs = []
  | k :: r, vs => ∃ v vr, vs = v :: vr ∧ IsK H k v ∧ IsKs H r vr
end
/-- the tuples stay -/
def TupS (H H' : Hp) : Prop := ∀ b xs, H b = some (.tup xs) → H' b = some (.tup xs)
theorem Same.tups {H H' : Hp} (s : Same H H') : TupS H H' := fun b xs h => s b _ h
theorem TupS.trans {H H1 H2 : Hp} (a : TupS H H1) (b : TupS H1 H2) : TupS H H2 := fun c xs h => b c xs (a c xs h)
theorem ts_upd_none {H : Hp} {a : Addr} {o : HO} (h : H a = none) : TupS H (upd H a o) := fun b xs e => by rw [upd_ne (ne_of_none e h)]; exact e
theorem ts_upd_lst {H : Hp} {a : Addr} {o : HO} {ys : List V} (h : H a = some (.lst ys)) : TupS H (upd H a o) := fun b xs e => by
  rw [upd_ne (ne_of e h (by intro z; cases z))]; exact e
theorem same_upd_none {H : Hp} {a : Addr} {o : HO} (h : H a = none) : Same H (upd H a o) := fun b u e => by rw [upd_ne (ne_of_none e h)]; exact e
theorem Same.upd {H0 H : Hp} {a : Addr} {o : HO} (s : Same H0 H) (h : H0 a = none) : Same H0 (upd H a o) := fun b u e => by rw [upd_ne (ne_of_none e h)]; exact s b u e
mutual
theorem IsK.same {H H' : Hp} (s : TupS H H') : ∀ {k : Kd} {v : V}, IsK H k v → IsK H' k v
  | .num _, _, h => by unfold IsK at h ⊢; exact h
  | .txt _, _, h => by unfold IsK at h ⊢; exact h
  | .tup ks, _, h => by
    unfold IsK at h ⊢
    obtain ⟨a, vs, e, ha, hz, hk⟩ := h
    exact ⟨a, vs, e, s _ _ ha, hz, IsKs.same s hk⟩
theorem IsKs.same {H H' : Hp} (s : TupS H H') : ∀ {ks : List Kd} {vs : List V}, IsKs H ks vs → IsKs H' ks vs
  | [], _, h => by unfold IsKs at h ⊢; exact h
  | k :: r, _, h => by
    unfold IsKs at h ⊢
    obtain ⟨v, vr, e, h1, h2⟩ := h
    exact ⟨v, vr, e, IsK.same s h1, IsKs.same s h2⟩
end
theorem IsKs.length {H : Hp} : ∀ {ks : List Kd} {vs : List V}, IsKs H ks vs → vs.length = ks.length
  | [], _, h => by unfold IsKs at h; rw [h]; rfl
  | k :: r, _, h => by
    unfold IsKs at h
    obtain ⟨v, vr, rfl, _, h2⟩ := h
    rw [List.length_cons, List.length_cons, IsKs.length h2]
theorem IsKs.get {H : Hp} : ∀ {ks : List Kd} {vs : List V} {i : Nat} {v : V}, IsKs H ks vs → vs[i]? = some v → ∃ k, ks[i]? = some k ∧ IsK H k v
  | [], _, i, v, h, e => by unfold IsKs at h; rw [h] at e; simp at e
  | k :: r, _, 0, v, h, e => by
    unfold IsKs at h
    obtain ⟨w, vr, rfl, h1, _⟩ := h
    simp at e; subst e
    exact ⟨k, rfl, h1⟩
  | k :: r, _, i + 1, v, h, e => by
    unfold IsKs at h
    obtain ⟨w, vr, rfl, _, h2⟩ := h
    obtain ⟨k', e1, e2⟩ := IsKs.get (i := i) h2 (by simpa using e)
    exact ⟨k', by simpa using e1, e2⟩
theorem IsKs.snoc {H : Hp} {k : Kd} {v : V} : ∀ {ks : List Kd} {vs : List V}, IsKs H ks vs → IsK H k v → IsKs H (ks ++ [k]) (vs ++ [v])
  | [], _, h, q => by
    unfold IsKs at h; subst h
    show IsKs H [k] [v]
    unfold IsKs
    exact ⟨v, [], rfl, q, by unfold IsKs; rfl⟩
  | k' :: r, _, h, q => by
    unfold IsKs at h
    obtain ⟨w, vr, rfl, h1, h2⟩ := h
    show IsKs H (k' :: (r ++ [k])) (w :: (vr ++ [v]))
    unfold IsKs
    exact ⟨w, vr ++ [v], rfl, h1, h2.snoc q⟩
theorem IsKs.nil {H : Hp} : IsKs H [] [] := by unfold IsKs; rfl
theorem Kd.deep_le {k : Kd} : ∀ {ks : List Kd}, k ∈ ks → k.deep ≤ Kd.deepL ks
  | [], h => by cases h
  | k' :: r, h => by
    unfold Kd.deepL
    rcases List.mem_cons.mp h with e | e
    · subst e; exact Nat.le_max_left _ _
    · exact Nat.le_trans (Kd.deep_le e) (Nat.le_max_right _ _)
theorem Kd.deepL_le {n : Nat} : ∀ {ks : List Kd}, (∀ k ∈ ks, k.deep ≤ n) → Kd.deepL ks ≤ n
  | [], _ => by unfold Kd.deepL; exact Nat.zero_le _
  | k :: r, h => by
    unfold Kd.deepL
    exact Nat.max_le.mpr ⟨h k List.mem_cons_self, Kd.deepL_le fun k' hk => h k' (List.mem_cons_of_mem _ hk)⟩
theorem Kd.stL_snoc (k : Kd) : ∀ (ks : List Kd) (h : Int), Kd.stL h (ks ++ [k]) = (Builtin.bitXor (1000003 * Kd.stL h ks) k.st) % 2147483647
  | [], h => by rw [List.nil_append]; unfold Kd.stL; unfold Kd.stL; rfl
  | k' :: r, h => by
    rw [List.cons_append]
    show Kd.stL _ (r ++ [k]) = _
    rw [Kd.stL_snoc k r]
    rfl
theorem Kd.stL_range : ∀ (ks : List Kd) (h : Int), 0 ≤ h → h < 2147483647 → 0 ≤ Kd.stL h ks ∧ Kd.stL h ks < 2147483647
  | [], h, h0, h1 => by unfold Kd.stL; exact ⟨h0, h1⟩
  | k :: r, h, h0, h1 => by unfold Kd.stL; exact Kd.stL_range r _ (by omega) (by omega)
theorem Kd.st_range (k : Kd) : 0 ≤ k.st ∧ k.st < 2147483647 := by
  cases k with
  | num i => unfold Kd.st; omega
  | txt x => unfold Kd.st; exact tst_range _
  | tup ks => unfold Kd.st; exact Kd.stL_range ks 11 (by decide) (by decide)
end L2

set_option Elab.async false
set_option linter.all false
set_option maxRecDepth 100000
set_option maxHeartbeats 4000000
namespace L2
open PySem PySem.Spec PyProof.Rows
/-! ### max of a list of ints, with a default -/
def mx : Option Int → List Int → Option Int
  | o, [] => o
  | none, x :: r => mx (some x) r
  | some b, x :: r => mx (some (if x > b then x else b)) r
def bestA : Option (Int × Tok) → Array Value
  | none => #[]
  | some (b, t) => #[.int b t, .int b t]
theorem intsAt : ∀ {us : List Value} {ns : List Int} {i : Nat} (h : IntsAre us ns) (hi : i < ns.length), ∃ v t, us[i]? = some v ∧ v = .int ns[i] t
  | _, _, _, .nil, hi => by simp at hi
  | _, _, 0, .cons n t r, _ => ⟨_, t, rfl, rfl⟩
  | _, _, i + 1, .cons n t r, hi => by
    obtain ⟨v, t', e1, e2⟩ := intsAt (i := i) r (by simpa using hi)
    exact ⟨v, t', by simpa using e1, by simpa using e2⟩
section
variable {prog : Program} {w : World} {A : Around} {R : Result → Shared → Prop}
theorem max_go {l I S : Addr} {items : Array Value} {ns : List Int} {d : Value} (hh : A.handled = none) (hlI : l ≠ I) (hSl : S ≠ l) (hSI : S ≠ I) (hi : IntsAre items.toList ns) :
    ∀ (k i : Nat) (s : Shared) (best : Option (Int × Tok)) (c : Nat), ns.length - i = k → i ≤ ns.length → s.heap.IsListIter I l i → s.heap.IsList l items →
    s.heap.get? S = some { cls := .type "list", data := .seq (bestA best) c } →
    (∀ v h' tk, (match mx (best.map (·.1)) (ns.drop i) with | none => v = d | some b => ∃ t, v = .int b t) → (∀ b o, b ≠ I → b ≠ S → s.heap.get? b = some o → h'.get? b = some o) → R (.ok (.ret v)) { s with heap := h', toks := tk }) →
    codeAny (model prog w) A (.builtin "max.loop" ⟨[.ref I, .none, .ref S], [(Str.ofString "default", d)]⟩) R s := by
  have hname : (toString "max" ++ toString ".loop" : String) = "max.loop" := by decide
  have hlen := hi.length
  have hsz : items.size = ns.length := by simpa using hlen
  intro k
  induction k with
  | zero =>
    intro i s best c hk hle hit hl hS hR
    have hin : i = ns.length := by omega
    refine codeAny_builtin F.entry_max_loop ?_
    rw [Around.under_plainId F.plain_max_loop _]
    show wpAny _ A.in1 (seqItems? (.ref S) >>= _) _ _ s
    refine wpAny_bind (wpAny_seqItems hS rfl ?_)
    show wpAny _ A.in1 (tryCatch (pyNext (.ref I)) _ >>= _) _ _ s
    refine wpAny_bind (wpAny_tryCatch (wpAny_pyNext_list_end (A := A.in1) hh hit hl (by rw [hin, ← hsz]; simp) fun h' eb => ?_))
    have hR' := hR
    rw [List.drop_of_length_le (by omega)] at hR'
    have hS' : h'.get? S = some { cls := .type "list", data := .seq (bestA best) c } := eb S _ hSI hS
    cases best with
    | none =>
      refine wpAny_bind (wpAny_rule (wpAny_pure ?_))
      exact hR' d h' s.toks rfl fun b o hb _ e => eb b o hb e
    | some p =>
      obtain ⟨b0, t0⟩ := p
      show wpAny _ A.in1 (updateSeq S (fun _ => #[]) >>= _) _ _ _
      refine wpAny_bind ?_
      refine wpAny_updateSeq hS' rfl (wpAny_bind (wpAny_letGo (wpAny_pure ?_))) (hz := by show 2 ≤ sizeLine; decide)
      exact hR' (.int b0 t0) _ s.toks ⟨t0, rfl⟩ fun b o hb hb2 e => (Heap.get?_update_other _ _ (Ne.symm hb2)).trans (eb b o hb e)
  | succ k ih =>
    intro i s best c hk hle hit hl hS hR
    have hlt : i < ns.length := by omega
    obtain ⟨v, hv, tv, ev⟩ : ∃ v, items[i]? = some v ∧ ∃ t, v = .int ns[i] t := by
      obtain ⟨v, t, e1, e2⟩ := intsAt hi hlt
      exact ⟨v, by simpa using e1, t, e2⟩
    have hdrop : ns.drop i = ns[i] :: ns.drop (i + 1) := List.drop_eq_getElem_cons hlt
    rw [hdrop] at hR
    refine codeAny_builtin F.entry_max_loop ?_
    rw [Around.under_plainId F.plain_max_loop _]
    show wpAny _ A.in1 (seqItems? (.ref S) >>= _) _ _ s
    refine wpAny_bind (wpAny_seqItems hS rfl ?_)
    show wpAny _ A.in1 (tryCatch (pyNext (.ref I)) _ >>= _) _ _ s
    refine wpAny_bind (wpAny_tryCatch (wpAny_pyNext_list_item hit hl hv fun h' hit' sb => ?_))
    subst ev
    have hS' : h'.get? S = some { cls := .type "list", data := .seq (bestA best) c } := (sb.2 S hSI).trans hS
    have hl' : h'.IsList l items := by
      obtain ⟨o, eo, r⟩ := hl
      exact ⟨o, (sb.2 l hlI).trans eo, r⟩
    cases best with
    | none =>
      show wpAny _ A.in1 (updateSeq S (fun _ => #[.int ns[i] tv, .int ns[i] tv]) >>= _) _ _ _
      refine wpAny_bind ?_
      refine wpAny_updateSeq hS' rfl ?_ (hz := by show 0 ≤ sizeLine; decide)
      rw [hname]
      refine wpAny_pure ⟨plainId_quiet F.plain_max_loop _, ih (i + 1) _ (some (ns[i], tv)) _ (by omega) hlt (hit'.at fun o e => (Heap.get?_update_other _ _ hSI).trans e) ?_ (Heap.get?_update_self _ hS' rfl) fun v h2 tk hm hk => ?_⟩
      · obtain ⟨o, eo, r⟩ := hl'
        exact ⟨o, (Heap.get?_update_other _ _ hSl).trans eo, r⟩
      · exact hR v h2 tk hm fun b o hb hb2 e => hk b o hb hb2 ((Heap.get?_update_other _ _ (Ne.symm hb2)).trans ((sb.2 b hb).trans e))
    | some p =>
      obtain ⟨b0, t0⟩ := p
      show wpAny _ A.in1 (tryCatch (holding [.int ns[i] tv, .int ns[i] tv] (richCompare .Gt (.int ns[i] tv) (.int b0 t0) >>= _)) _ >>= _) _ _ _
      refine wpAny_bind (wpAny_tryCatch (wpAny_holding (wpAny_bind (richCompare_gives (op := .Gt) (typeIs_int _ _ tv) (typeIs_int _ _ t0) F.slot_int_gt F.entry_int_gt (F.args_int_gt_2 _ _) (gives_int_gt _ _ tv t0) (fun x => nomatch x) ?_))))
      refine wpAny_bind (wpAny_holding (wpAny_truthy_bool ?_))
      refine wpAny_bind (wpAny_letGo (wpAny_pure ?_))
      by_cases hb : ns[i] > b0
      · rw [decide_eq_true hb]
        simp only [if_true]
        refine wpAny_bind ?_
        refine wpAny_updateSeq hS' rfl (wpAny_bind (wpAny_letGo ?_)) (hz := by show 2 ≤ sizeLine; decide)
        rw [hname]
        refine wpAny_pure ⟨plainId_quiet F.plain_max_loop _, ih (i + 1) _ (some (ns[i], tv)) _ (by omega) hlt (hit'.at fun o e => (Heap.get?_update_other _ _ hSI).trans e) ?_ (Heap.get?_update_self _ hS' rfl) fun v h2 tk hm hk => ?_⟩
        · obtain ⟨o, eo, r⟩ := hl'
          exact ⟨o, (Heap.get?_update_other _ _ hSl).trans eo, r⟩
        · refine hR v h2 tk ?_ fun b o hb hb2 e => hk b o hb hb2 ((Heap.get?_update_other _ _ (Ne.symm hb2)).trans ((sb.2 b hb).trans e))
          show (match mx (some (if ns[i] > b0 then ns[i] else b0)) (ns.drop (i + 1)) with | none => v = d | some b => ∃ t, v = .int b t)
          rw [if_pos hb]
          exact hm
      · rw [decide_eq_false hb]
        simp only [Bool.false_eq_true, if_false]
        refine wpAny_bind (wpAny_letGo ?_)
        rw [hname]
        refine wpAny_pure ⟨plainId_quiet F.plain_max_loop _, ih (i + 1) _ (some (b0, t0)) c (by omega) hlt hit' hl' hS' fun v h2 tk hm hk => ?_⟩
        refine hR v h2 tk ?_ fun b o hb hb2 e => hk b o hb hb2 ((sb.2 b hb).trans e)
        show (match mx (some (if ns[i] > b0 then ns[i] else b0)) (ns.drop (i + 1)) with | none => v = d | some b => ∃ t, v = .int b t)
        rw [if_neg hb]
        exact hm
theorem args_maxD (a d : Value) : argsOk "max" ⟨[a], [(Str.ofString "default", d)]⟩ := by unfold argsOk; kernel_rfl
end

section
variable {X : Cx} {x : Str} {p pos : Pos} {e d : Expr} {te td : TE}
def orV : Option Int → V → V
  | none, u => u
  | some b, _ => .int b
/-- max(e, default=d), e a list of ints -/
def rMaxD (K : PySem.W.Frag) : V → V → Hp → VK → Prop := fun v u H Q => ∃ (l : Addr) (ns : List Int), v = .ref l ∧ SqL K H l (ns.map V.int) ∧ Q (orV (mx none ns) u) H
theorem call_maxD (hc : X.calm = true) {pins : List (Addr × Obj)} {s : Shared} {σ : St} {H : Hp} {v u : V} {vv uu : Value} {Q : VK} (I : Inv X pins σ H s) (rv : RelV v vv) (ru : RelV u uu) (h : rMaxD X.K v u H Q) :
    wpAny (model X.prog X.w) X.A (call (.builtin "max") [vv] [(Str.ofString "default", uu)]) (EP X pins σ Q) X.xe s := by
  obtain ⟨l, ns, rfl, hq, q⟩ := h
  cases rv
  obtain ⟨its, r, pl, hz⟩ := I.list hq
  have hi : IntsAre its.toArray.toList ns := intsAre_of (by simpa using r)
  have hl : s.heap.IsList l its.toArray := pl.isList
  have hlt : l < s.heap.objs.size := by obtain ⟨_, e, _⟩ := hl; exact Heap.lt_size e
  have hname : (toString "max" ++ toString ".loop" : String) = "max.loop" := by decide
  have body : wpAny (model X.prog X.w) X.A.in1 (Builtin.«max» ⟨[.ref l], [(Str.ofString "default", uu)]⟩) (fun fin s' => match fin with
      | .done f => (match (Except.ok f : Result) with | .ok (.ret v) => EP X pins σ Q v s' | .ok _ => False | .error e => X.xe e s')
      | .again c' => c'.quiet = true ∧ codeAny (model X.prog X.w) X.A c' (fun r s' => match r with | .ok (.ret v) => EP X pins σ Q v s' | .ok _ => False | .error e => X.xe e s') s') X.xe s := by
    show wpAny _ X.A.in1 (Builtin.Builtins.bindParams "max" ["key", "default"] 0 ⟨[], [(Str.ofString "default", uu)]⟩ >>= _) _ _ s
    refine wpAny_bind (wpAny_of_eq (show Builtin.Builtins.bindParams "max" ["key", "default"] 0 ⟨[], [(Str.ofString "default", uu)]⟩ = pure [none, some uu] from rfl) ?_)
    refine wpAny_bind (wpAny_pure ?_)
    refine wpAny_bind (wpAny_pyIter_list hl ?_)
    refine wpAny_bind (wpAny_newObj_type ?_)
    rw [hname]
    refine wpAny_pure ⟨plainId_quiet F.plain_max_loop _, ?_⟩
    generalize eh : s.heap.push { cls := .type "list_iterator", data := .fields #[.ref l, .int 0 0] } = h1
    have hs1 : h1.objs.size = s.heap.objs.size + 1 := by rw [← eh, Heap.size_push]
    have k1 : ∀ b o, s.heap.get? b = some o → h1.get? b = some o := fun b o e => by rw [← eh]; exact Heap.get?_push_of_some _ e
    have hit : h1.IsListIter s.heap.objs.size l 0 := by rw [← eh]; exact ⟨_, Heap.get?_push_size _ rfl, rfl, rfl⟩
    refine max_go (I.ok.hd hc) (Nat.ne_of_lt hlt) (by rw [hs1]; exact Nat.ne_of_gt (Nat.lt_succ_of_lt hlt)) (by rw [hs1]; exact Nat.ne_of_gt (Nat.lt_succ_self _)) hi ns.length 0 _ none 0 rfl (Nat.zero_le _)
      (hit.at fun o e => Heap.get?_push_of_some _ e) ?_ (Heap.get?_push_size _ rfl) fun v h' tk hm hk => ?_
    · obtain ⟨o, e, r⟩ := hl
      exact ⟨o, Heap.get?_push_of_some _ (k1 _ _ e), r⟩
    · have kk : ∀ b o, s.heap.get? b = some o → h'.get? b = some o := fun b o e => hk b o (Nat.ne_of_lt (Heap.lt_size e)) (by rw [hs1]; exact Nat.ne_of_lt (Nat.lt_succ_of_lt (Heap.lt_size e))) (Heap.get?_push_of_some _ (k1 b o e))
      have I' : Inv X pins σ H { s with heap := h', toks := tk } := I.kept kk
      show EP X pins σ Q v { s with heap := h', toks := tk }
      have hm' : (match mx none ns with | none => v = uu | some b => ∃ t, v = .int b t) := hm
      cases em : mx none ns with
      | none =>
        rw [em] at hm' q
        have hm2 : v = uu := hm'
        subst hm2
        exact ⟨u, H, I', ru, q⟩
      | some b =>
        rw [em] at hm' q
        exact ⟨.int b, H, I', hm', q⟩
  refine wpAny_call (codeAny_call_builtin F.plain_max F.entry_max ?_)
  simp only [checkBuiltinCall, F.kind_max]
  cases hsig : Manifest.signature? "max" with
  | none => exact wpAny_pure body
  | some sig =>
    have ha' : Bind.checkArgs "max" sig ⟨[.ref l], [(Str.ofString "default", uu)]⟩ = pure () := by simpa only [argsOk, hsig] using args_maxD (.ref l) uu
    simp only [ha']
    exact wpAny_pure body
def tMaxD (K : PySem.W.Frag) (te td : TE) : TE := fun σ H Q => te σ H fun v H1 => td σ H1 fun u H2 => rMaxD K v u H2 Q
theorem pe_maxD {kp : Pos} (hc : X.calm = true) (hg : Gl X "max") (hm : X.mg "max" = none) (he : PE X e te) (hd : PE X d td)
    (h1 : starEach [e] X.env = [(false, eval e X.env)] := by rfl)
    (h2 : (backToKw pos (keywordEach [⟨some "default", d, kp⟩] X.env)).map (·.2) = [do let v ← eval d X.env; standAt pos; pure v] := by rfl)
    (h3 : (backToKw pos (keywordEach [⟨some "default", d, kp⟩] X.env)).filterMap (·.1) = [Str.ofString "default"] := by rfl)
    (h4 : (backToKw pos (keywordEach [⟨some "default", d, kp⟩] X.env)).all (·.1.isSome) = true := by rfl)
    (h5 : (backToKw pos (keywordEach [⟨some "default", d, kp⟩] X.env)).any (·.1.isNone) = false := by rfl) :
    PE X (.Call (.Name "max" p) [e] [⟨some "default", d, kp⟩] pos) (tMaxD X.K te td) := by
  intro pins s σ H Q I h
  refine wpAny_Call_Name_kw (ld_blt I hg hm boot_max ?_)
  refine callWith_kw ?_ (by rw [h1] <;> rfl) (by rw [h1] <;> rfl) h4 h5
  refine thn ((pa_cons he pa_nil h1) pos pins s σ H (fun vs H1 => match vs with | [v] => td σ H1 fun u H2 => rMaxD X.K v u H2 Q | _ => False) I h) fun us s1 ⟨vs, H1, I1, r1, q1⟩ => ?_
  cases r1 with
  | nil => exact False.elim q1
  | cons ra rb =>
    cases rb with
    | cons _ _ => exact False.elim q1
    | nil =>
      rw [h2, h3]
      refine evalAll_cons (wpAny_bind (thn (hd pins s1 σ H1 _ I1 q1) fun uv s2 ⟨u, H2, I2, r2, q2⟩ => wpAny_bind (wpAny_standAt (wpAny_pure (evalAll_nil ?_)))))
      exact call_maxD hc I2 ra r2 q2
end

/-! ### t[lo:hi], the whole of it too -/
section
variable {X : Cx}
def whole (n : Nat) (lo hi : Option Int) : Prop := HT.sIx n 0 lo = 0 ∧ HT.sIx n n hi = n
instance {n : Nat} {lo hi : Option Int} : Decidable (whole n lo hi) := by unfold whole; exact inferInstance
def rSlTa (K : PySem.W.Frag) : V → Option Int → Option Int → Hp → VK → Prop := fun x lo hi H Q => ∃ a xs, x = .ref a ∧ SqT K H a xs ∧ (whole xs.length lo hi → Q (.ref a) H) ∧ (¬ whole xs.length lo hi → ∀ p, H p = none → Q (.ref p) (upd H p (.tup (cutV xs lo hi))))
theorem getItem_tuple_all {prog : Program} {w : World} {A : Around} {E : Value → Shared → Prop} {s : Shared} {t sl : Addr} {items : Array Value} {vl vu : Value} {lo hi : Option Int} {Q : Value → Shared → Prop} (ht : IsTup s.heap t items) (hs : s.heap.IsSliceOf sl vl vu .none) (pl : IsPart vl lo) (pu : IsPart vu hi)
    (hw : whole items.size lo hi) (h : Q (.ref t) s) : wpAny (model prog w) A (getItem (.ref t) (.ref sl)) Q E s := by
  obtain ⟨os, hos, hcs, hds⟩ := id hs
  have hTs : s.TypeIs (.ref sl) "slice" := ⟨os, hos, hcs⟩
  unfold getItem
  refine wpAny_holding ?_
  refine wpAny_bind (wpAny_sequenceKey ht.typeIs (by decide) ?_)
  refine wpAny_bind (wpAny_callSpecial?_slot (name := Str.ofString "__getitem__") ht.typeIs PyProof.Rows.slot_tuple_getitem
    (wpAny_call_entry PyProof.Rows.slot_tuple_getitem ht.typeIs entry_tuple_getitem ?_ (args_tuple_getitem _ _)))
  show wpAny _ _ (Builtin.Tuple.tupleItemsOf (.ref t) >>= _) _ _ s
  refine wpAny_bind (tupleItemsOf_ ht ?_)
  refine wpAny_bind (wpAny_typeOf hTs ?_)
  rw [if_pos (by decide)]
  refine wpAny_bind (HT.sliceApplied_gen hs pl pu ?_)
  have hyes : (((HT.sIx items.size 0 lo : Nat) : Int) == 0 && (1 : Int) == 1 && (HT.sIx items.size items.size hi - HT.sIx items.size 0 lo) == items.size) = true := by
    rw [hw.1, hw.2]; simp
  show wpAny _ _ (if (((HT.sIx items.size 0 lo : Nat) : Int) == 0 && (1 : Int) == 1 && (HT.sIx items.size items.size hi - HT.sIx items.size 0 lo) == items.size) = true then _ else _) _ _ s
  rw [if_pos hyes]
  refine wpAny_bind ?_
  show wpAny _ _ (typeOf (.ref t) >>= _) _ _ s
  refine wpAny_bind (wpAny_typeOf ht.typeIs (wpAny_pure ?_))
  show wpAny _ _ (if (Value.type "tuple" == Value.type "tuple") = true then _ else _) _ _ s
  rw [if_pos (by decide)]
  exact wpAny_bind (wpAny_rule (wpAny_pure ⟨_, rfl, wpAny_pure h⟩))
theorem sl_tupA : SlR X (rSlTa X.K) := by
  intro pins s σ H x v vl vu lo hi sl Q I rx hs pl pu h
  obtain ⟨a, xs, rfl, hx, q1, q2⟩ := h
  by_cases hw : whole xs.length lo hi
  · cases rx
    obtain ⟨its, r, ht, hz⟩ := I.tuple hx
    have hlen : its.toArray.size = xs.length := by rw [List.size_toArray]; exact r.length.symm
    exact ⟨"tuple", _, PyProof.Rows.slot_tuple_getitem.lookup, ht.typeIs, getItem_tuple_all ht hs pl pu (by rw [hlen]; exact hw) ⟨.ref a, H, I, rfl, q1 hw⟩⟩
  · exact sl_tup pins s σ H (.ref a) v vl vu lo hi sl Q I rx hs pl pu ⟨a, xs, rfl, hx, hw, q2 hw⟩
end
/-! ### while, by what holds and a measure -/
theorem while_of {c : TT} {tb : TS} {D : Ends} {σ : St} {H : Hp} (Pv : St → Hp → Prop) (μ : St → Hp → Nat) (h0 : Pv σ H)
    (hs : ∀ σ H, Pv σ H → c σ H fun b H1 => if b = true then ∃ N : St → Hp → Prop, (∀ σ' H', N σ' H' → ∃ m', m' < μ σ H ∧ m' = μ σ' H' ∧ Pv σ' H') ∧ tb { D with nx := N, ct := N, bk := D.nx } σ H1 else D.nx σ H1) : tWhile c tb D σ H := by
  refine ⟨fun m σ H => m = μ σ H ∧ Pv σ H, ⟨_, rfl, h0⟩, ?_⟩
  rintro m σ H ⟨rfl, p⟩
  exact hs σ H p
end L2

set_option Elab.async false
set_option linter.all false
set_option maxRecDepth 100000
set_option maxHeartbeats 4000000
namespace L2
open PySem PySem.Spec PyProof.Rows
/-! ### a list of lists, used as a stack of rows of keys -/
def RowAt (H : Hp) (r : Addr) (ks : List Kd) : Prop := ∃ vs, H r = some (.lst vs) ∧ IsKs H ks vs
structure Stk (H0 H : Hp) (R : Addr) (rs : List Addr) (kss : List (List Kd)) : Prop where
  hR : H R = some (.lst (rs.map V.ref))
  R0 : H0 R = none
  rs0 : ∀ r ∈ rs, H0 r = none
  nR : R ∉ rs
  nd : rs.Nodup
  rows : Paired (RowAt H) rs kss
  same : Same H0 H
theorem paired_imp {α β : Type} {F G : α → β → Prop} : ∀ {l : List α} {l' : List β}, Paired F l l' → (∀ a ∈ l, ∀ b, F a b → G a b) → Paired G l l'
  | _, _, .nil, _ => .nil
  | _, _, .cons r t, h => .cons (h _ List.mem_cons_self _ r) (paired_imp t fun a ha b => h a (List.mem_cons_of_mem _ ha) b)
theorem paired_snoc {α β : Type} {F : α → β → Prop} {a : α} {b : β} : ∀ {l : List α} {l' : List β}, Paired F l l' → F a b → Paired F (l ++ [a]) (l' ++ [b])
  | _, _, .nil, h => .cons h .nil
  | _, _, .cons r t, h => .cons r (paired_snoc t h)
theorem paired_last {α β : Type} {F : α → β → Prop} {a : α} {b : β} : ∀ {l : List α} {l' : List β}, Paired F (l ++ [a]) (l' ++ [b]) → Paired F l l' ∧ F a b
  | [], [], .cons r .nil => ⟨.nil, r⟩
  | [], c :: l', h => by
    have e := Paired.length h
    simp at e
  | c :: l, [], h => by
    have e := Paired.length h
    simp at e
  | c :: l, d :: l', .cons r t => by
    obtain ⟨h1, h2⟩ := paired_last t
    exact ⟨.cons r h1, h2⟩
section
variable {H0 H H' : Hp} {R r : Addr} {rs : List Addr} {kss : List (List Kd)} {ks : List Kd} {k : Kd} {v : V} {vs : List V}
theorem RowAt.ts (h : RowAt H r ks) (e : ∀ vs, H r = some (.lst vs) → H' r = some (.lst vs)) (t : TupS H H') : RowAt H' r ks := by
  obtain ⟨vs, h1, h2⟩ := h
  exact ⟨vs, e vs h1, h2.same t⟩
theorem Stk.grow (S : Stk H0 H R rs kss) (g : Same H H') : Stk H0 H' R rs kss :=
  ⟨g _ _ S.hR, S.R0, S.rs0, S.nR, S.nd, paired_imp S.rows fun a _ b h => h.ts (fun vs e => g _ _ e) g.tups, S.same.trans g⟩
theorem Stk.len (S : Stk H0 H R rs kss) : rs.length = kss.length := Paired.length S.rows
theorem Stk.start {p : Addr} (g : Same H0 H) (hp : H p = none) (hR : (upd H p (.lst [])) R = none) : Stk H0 (upd (upd H p (.lst [])) R (.lst [.ref p])) R [p] [[]] := by
  rw [upd_none] at hR
  refine ⟨upd_same, g.free hR.2, fun r hr => ?_, fun h => hR.1 (List.mem_singleton.mp h), (by simp), .cons ⟨[], ?_, IsKs.nil⟩ .nil, ?_⟩
  · rw [List.mem_singleton.mp hr]; exact g.free hp
  · rw [upd_ne (Ne.symm hR.1), upd_same]
  · exact (g.upd (g.free hp)).upd (g.free hR.2)
/-- one more key in the last row -/
theorem Stk.put (S : Stk H0 H R (rs ++ [r]) (kss ++ [ks])) (hr : H r = some (.lst vs)) (hv : IsK H k v) : Stk H0 (upd H r (.lst (vs ++ [v]))) R (rs ++ [r]) (kss ++ [ks ++ [k]]) := by
  have t : TupS H (upd H r (.lst (vs ++ [v]))) := ts_upd_lst hr
  have neR : R ≠ r := fun e => S.nR (by rw [e]; simp)
  obtain ⟨p1, p2⟩ := paired_last S.rows
  have nr : r ∉ rs := fun h => by
    have := S.nd
    rw [List.nodup_append] at this
    exact this.2.2 r h r (by simp) rfl
  refine ⟨by rw [upd_ne neR]; exact S.hR, S.R0, S.rs0, S.nR, S.nd, ?_, S.same.upd (S.rs0 r (by simp))⟩
  refine paired_snoc (paired_imp p1 fun a ha b h => h.ts (fun ws e => ?_) t) ⟨vs ++ [v], upd_same, ?_⟩
  · rw [upd_ne (show a ≠ r from fun z => nr (z ▸ ha))]; exact e
  · obtain ⟨ws, e, q⟩ := p2
    rw [hr] at e
    cases e
    exact (q.same t).snoc (hv.same t)
/-- a new row -/
theorem Stk.opened {p : Addr} (S : Stk H0 H R rs kss) (hp : H p = none) : Stk H0 (upd (upd H p (.lst [])) R (.lst (rs.map V.ref ++ [.ref p]))) R (rs ++ [p]) (kss ++ [[]]) := by
  have hRp : R ≠ p := ne_of_none S.hR hp
  have t1 : TupS H (upd H p (.lst [])) := ts_upd_none hp
  have t2 : TupS (upd H p (.lst [])) (upd (upd H p (.lst [])) R (.lst (rs.map V.ref ++ [.ref p]))) := ts_upd_lst (by rw [upd_ne hRp]; exact S.hR)
  have np : ∀ a ∈ rs, a ≠ p := fun a ha => by
    obtain ⟨i, hi⟩ := List.getElem?_of_mem ha
    obtain ⟨b, _, ws, e, _⟩ := paired_get S.rows hi
    exact ne_of_none e hp
  refine ⟨by rw [upd_same, List.map_append]; rfl, S.R0, fun a ha => ?_, fun h => ?_, ?_, ?_, ?_⟩
  · rcases List.mem_append.mp ha with q | q
    · exact S.rs0 a q
    · rw [List.mem_singleton.mp q]; exact S.same.free hp
  · rcases List.mem_append.mp h with q | q
    · exact S.nR q
    · exact hRp (List.mem_singleton.mp q)
  · rw [List.nodup_append]
    exact ⟨S.nd, (by simp), fun a ha b hb e => np a ha (by rw [e]; exact List.mem_singleton.mp hb)⟩
  · refine paired_snoc (paired_imp S.rows fun a ha b h => h.ts (fun ws e => ?_) (t1.trans t2)) ⟨[], ?_, IsKs.nil⟩
    · rw [upd_ne (show a ≠ R from fun z => S.nR (z ▸ ha)), upd_ne (np a ha)]; exact e
    · rw [upd_ne (Ne.symm hRp), upd_same]
  · exact (S.same.upd (S.same.free hp)).upd S.R0
/-- the last row is taken off -/
theorem Stk.popped (S : Stk H0 H R (rs ++ [r]) (kss ++ [ks])) : Stk H0 (upd H R (.lst (rs.map V.ref))) R rs kss ∧ RowAt (upd H R (.lst (rs.map V.ref))) r ks := by
  have t : TupS H (upd H R (.lst (rs.map V.ref))) := ts_upd_lst S.hR
  obtain ⟨p1, p2⟩ := paired_last S.rows
  have nRr : r ≠ R := fun e => S.nR (by rw [← e]; simp)
  refine ⟨⟨upd_same, S.R0, fun a ha => S.rs0 a (List.mem_append_left _ ha), fun h => S.nR (List.mem_append_left _ h), ?_, paired_imp p1 fun a ha b h => h.ts (fun ws e => ?_) t, S.same.upd S.R0⟩, p2.ts (fun ws e => by rw [upd_ne nRr]; exact e) t⟩
  · have := S.nd
    rw [List.nodup_append] at this
    exact this.1
  · rw [upd_ne (show a ≠ R from fun z => S.nR (List.mem_append_left _ (z ▸ ha)))]; exact e
end
/-- what the rows are: depth by the row's number; at most six in each, a row below another one has room for one more -/
structure Shape (kss : List (List Kd)) : Prop where
  lo : 1 ≤ kss.length
  hi : kss.length ≤ 3
  deep : ∀ (j : Nat) ks, kss[j]? = some ks → ∀ k ∈ ks, k.deep + j ≤ 2
  len : ∀ (j : Nat) ks, kss[j]? = some ks → ks.length ≤ 6
  room : ∀ (j : Nat) ks, kss[j]? = some ks → j + 1 < kss.length → ks.length ≤ 5
theorem get_snoc {α : Type} {l : List α} {a b : α} {j : Nat} (h : (l ++ [a])[j]? = some b) : (j < l.length ∧ l[j]? = some b) ∨ (j = l.length ∧ a = b) := by
  by_cases hj : j < l.length
  · rw [List.getElem?_append_left hj] at h; exact .inl ⟨hj, h⟩
  · rw [List.getElem?_append_right (by omega)] at h
    by_cases e : j = l.length
    · rw [e] at h; simp at h; exact .inr ⟨e, h⟩
    · have : j - l.length ≠ 0 := by omega
      obtain ⟨m, em⟩ : ∃ m, j - l.length = m + 1 := ⟨j - l.length - 1, by omega⟩
      rw [em] at h; simp at h
theorem snoc_get {α : Type} {l : List α} {a : α} : (l ++ [a])[l.length]? = some a := by simp
theorem Shape.one : Shape [[]] where
  lo := Nat.le_refl _
  hi := by decide
  deep := fun j ks h k hk => by
    cases j with
    | zero => simp at h; subst h; cases hk
    | succ j => simp at h
  len := fun j ks h => by
    cases j with
    | zero => simp at h; subst h; exact Nat.zero_le _
    | succ j => simp at h
  room := fun j ks h hj => by
    cases j with
    | zero => simp at h; subst h; exact Nat.zero_le _
    | succ j => simp at h
section
variable {kss : List (List Kd)} {ks ks' : List Kd} {k : Kd}
theorem Shape.opened (S : Shape (kss ++ [ks])) (h : (kss ++ [ks]).length < 3) (hl : ks.length < 6) : Shape ((kss ++ [ks]) ++ [[]]) where
  lo := by rw [List.length_append]; exact Nat.le_add_left _ _
  hi := by rw [List.length_append, List.length_singleton]; omega
  deep := fun j q e k hk => by
    rcases get_snoc e with ⟨_, e⟩ | ⟨_, e⟩
    · exact S.deep j q e k hk
    · subst e; cases hk
  len := fun j q e => by
    rcases get_snoc e with ⟨_, e⟩ | ⟨_, e⟩
    · exact S.len j q e
    · subst e; exact Nat.zero_le _
  room := fun j q e hj => by
    rcases get_snoc e with ⟨hj2, e⟩ | ⟨hj2, e⟩
    · rcases get_snoc e with ⟨hj3, e3⟩ | ⟨hj3, e3⟩
      · exact S.room j q e (by rw [List.length_append, List.length_singleton]; omega)
      · subst e3; omega
    · rw [hj2, List.length_append (bs := [[]]), List.length_singleton] at hj; omega
theorem Shape.put (S : Shape (kss ++ [ks])) (hl : ks.length < 6) (hd : k.deep + kss.length ≤ 2) : Shape (kss ++ [ks ++ [k]]) where
  lo := by rw [List.length_append]; exact Nat.le_add_left _ _
  hi := by have := S.hi; rw [List.length_append, List.length_singleton] at this ⊢; exact this
  deep := fun j q e k' hk => by
    rcases get_snoc e with ⟨hj, e⟩ | ⟨hj, e⟩
    · exact S.deep j q (by rw [List.getElem?_append_left hj]; exact e) k' hk
    · subst e
      rcases List.mem_append.mp hk with z | z
      · exact S.deep j ks (by rw [hj]; exact snoc_get) k' z
      · rw [List.mem_singleton.mp z, hj]; exact hd
  len := fun j q e => by
    rcases get_snoc e with ⟨hj, e⟩ | ⟨hj, e⟩
    · exact S.len j q (by rw [List.getElem?_append_left hj]; exact e)
    · subst e; rw [List.length_append, List.length_singleton]; omega
  room := fun j q e hj => by
    rcases get_snoc e with ⟨hj2, e⟩ | ⟨hj2, e⟩
    · exact S.room j q (by rw [List.getElem?_append_left hj2]; exact e) (by rw [List.length_append, List.length_singleton] at hj ⊢; exact hj)
    · rw [hj2, List.length_append, List.length_singleton] at hj; omega
/-- the last row, as a tuple, goes to the row below -/
theorem Shape.closed (S : Shape (kss ++ [ks'] ++ [ks])) : Shape (kss ++ [ks' ++ [.tup ks]]) := by
  have hl := S.hi
  rw [List.length_append, List.length_append, List.length_singleton, List.length_singleton] at hl
  have e1 : (kss ++ [ks'] ++ [ks])[kss.length]? = some ks' := by
    rw [List.getElem?_append_left (by simp)]; exact snoc_get
  have e2 : (kss ++ [ks'] ++ [ks])[kss.length + 1]? = some ks := by
    have := @snoc_get _ (kss ++ [ks']) ks
    rw [List.length_append, List.length_singleton] at this
    exact this
  have S1 : Shape (kss ++ [ks']) := by
    refine ⟨by rw [List.length_append]; exact Nat.le_add_left _ _, by rw [List.length_append, List.length_singleton]; omega, fun j q e => S.deep j q ?_, fun j q e => S.len j q ?_, fun j q e hj => S.room j q ?_ (by rw [List.length_append]; omega)⟩
    all_goals
      have : j < (kss ++ [ks']).length := (List.getElem?_eq_some_iff.mp e).1
      rw [List.getElem?_append_left this]; exact e
  refine S1.put ?_ ?_
  · have := S.room _ _ e1 (by rw [List.length_append, List.length_append, List.length_singleton, List.length_singleton]; omega)
    omega
  · unfold Kd.deep
    have : Kd.deepL ks ≤ 2 - (kss.length + 1) := Kd.deepL_le fun k hk => by
      have := S.deep _ _ e2 k hk
      omega
    omega
end
theorem snoc_of {α : Type} {l : List α} (h : 1 ≤ l.length) : ∃ l' a, l = l' ++ [a] := ⟨l.dropLast, l.getLast (by intro e; rw [e] at h; simp at h), (List.dropLast_concat_getLast _).symm⟩
end L2

set_option Elab.async false
set_option linter.all false
set_option maxRecDepth 100000
set_option maxHeartbeats 4000000
namespace L2
open PySem PySem.Spec PyProof.Rows
theorem atI_ex {α : Type} {l : List α} {i : Int} (h0 : 0 ≤ i) (h1 : i < l.length) : ∃ c, atI l i = some c := by
  have hk : i.toNat < l.length := by omega
  refine ⟨l[i.toNat], ?_⟩
  have e : i = ((i.toNat : Nat) : Int) := by omega
  have q : atI l ((i.toNat : Nat) : Int) = some l[i.toNat] := atI_nat (by simp [hk])
  rw [← e] at q
  exact q
/-- signs gathered over a range -/
theorem compW_ones {n : Nat} {te : TE} {τ : St} {fin : List V → Hp → Prop} {H : Hp} (hn : n ≤ 1000) (hs : ∀ (i : Nat) (Q : VK), i < n → (∀ c, Q (one c) H) → te (some (.int (0 + (i : Int))) :: τ) H Q)
    (hd : ∀ cs : List Nat, cs.length = n → fin (cs.map one) H) : CompW (Itr 0 n) tYes te τ fin H := by
  refine compW_range (fun i ys H' => H' = H ∧ ∃ cs : List Nat, ys = cs.map one ∧ cs.length = i) ⟨rfl, [], rfl, rfl⟩ (fun i ys H' hi h => ?_) (fun i ys H' hi h => ?_) (fun ys H' h => ?_)
  · obtain ⟨rfl, cs, rfl, e⟩ := h
    rw [List.length_map]
    exact small1000 (by omega)
  · obtain ⟨rfl, cs, rfl, e⟩ := h
    exact hs i _ hi fun c => ⟨rfl, cs ++ [c], by rw [List.map_append]; rfl, by rw [List.length_append, List.length_singleton, e]⟩
  · obtain ⟨rfl, cs, rfl, e⟩ := h
    exact hd cs e
/-- .. over a list -/
theorem compW_onesL {K : PySem.W.Frag} {b : Addr} {xs : List V} {te : TE} {τ : St} {fin : List V → Hp → Prop} {H : Hp} (hn : xs.length ≤ 1000) (hb : SqL K H b xs) (hs : ∀ (i : Nat) x (Q : VK), xs[i]? = some x → (∀ c, Q (one c) H) → te (some x :: τ) H Q)
    (hd : ∀ cs : List Nat, cs.length = xs.length → fin (cs.map one) H) : CompW (Itl K b) tYes te τ fin H := by
  refine compW_list (xs := xs) (fun i ys H' => H' = H ∧ ∃ cs : List Nat, ys = cs.map one ∧ cs.length = i) ⟨rfl, [], rfl, rfl⟩ (fun i ys H' _ h => by rw [h.1]; exact hb) (fun i ys H' hi h => ?_) (fun i x ys H' hi h => ?_) (fun ys H' h => ?_)
  · obtain ⟨rfl, cs, rfl, e⟩ := h
    rw [List.length_map]
    exact small1000 (by omega)
  · obtain ⟨rfl, cs, rfl, e⟩ := h
    exact hs i x _ hi fun c => ⟨rfl, cs ++ [c], by rw [List.map_append]; rfl, by rw [List.length_append, List.length_singleton, e]⟩
  · obtain ⟨rfl, cs, rfl, e⟩ := h
    exact hd cs e
/-- what ''.join wants of them -/
theorem join_fin {K : PySem.W.Frag} {H : Hp} {Q : VK} {cs : List Nat} (hn : cs.length ≤ 1000) (q : ∀ H', Same H H' → Q (.str ⟨cs.toArray⟩) H') : ∀ p, H p = none → rJoin1 K (.str (Str.ofString "")) [.ref p] (upd H p (.lst (cs.map one))) Q :=
  fun p hp => ⟨p, cs, rfl, rfl, SqL.of upd_same, by omega, q _ (same_upd_none hp)⟩
theorem mx_some (ns : List Int) : ∀ b : Int, ∃ m, mx (some b) ns = some m ∧ b ≤ m ∧ (∀ n ∈ ns, n ≤ m) ∧ (m = b ∨ m ∈ ns) := by
  induction ns with
  | nil => intro b; exact ⟨b, rfl, Int.le_refl _, (fun n h => by cases h), .inl rfl⟩
  | cons x r ih =>
    intro b
    obtain ⟨m, e, h1, h2, h3⟩ := ih (if x > b then x else b)
    refine ⟨m, e, ?_, fun n hn => ?_, ?_⟩
    · split at h1 <;> omega
    · rcases List.mem_cons.mp hn with q | q
      · subst q
        split at h1 <;> omega
      · exact h2 n q
    · rcases h3 with q | q
      · split at q
        · exact .inr (by rw [q]; exact List.mem_cons_self)
        · exact .inl q
      · exact .inr (List.mem_cons_of_mem _ q)
theorem mx_deep : ∀ (ks : List Kd), orV (mx none (ks.map fun k => (k.deep : Int))) (.int 0) = .int (Kd.deepL ks) := by
  have key : ∀ (ks : List Kd) (b : Nat), mx (some (b : Int)) (ks.map fun k => (k.deep : Int)) = some ((max b (Kd.deepL ks) : Nat) : Int) := by
    intro ks
    induction ks with
    | nil => intro b; show some (b : Int) = some ((max b (Kd.deepL []) : Nat) : Int); unfold Kd.deepL; simp
    | cons k r ih =>
      intro b
      rw [List.map_cons]
      show mx (some (if (k.deep : Int) > (b : Int) then (k.deep : Int) else (b : Int))) _ = _
      have e : (if (k.deep : Int) > (b : Int) then (k.deep : Int) else (b : Int)) = ((max b k.deep : Nat) : Int) := by
        split <;> omega
      rw [e, ih]
      have e2 : Kd.deepL (k :: r) = max k.deep (Kd.deepL r) := by
        rw [Kd.deepL]
      rw [e2]
      congr 2
      omega
  intro ks
  cases ks with
  | nil => rw [List.map_nil]; show V.int 0 = _; unfold Kd.deepL; rfl
  | cons k r =>
    rw [List.map_cons]
    show orV (mx (some (k.deep : Int)) (r.map fun k => (k.deep : Int))) (.int 0) = _
    rw [key r k.deep]
    have e2 : Kd.deepL (k :: r) = max k.deep (Kd.deepL r) := by
      rw [Kd.deepL]
    rw [e2]
    rfl
theorem cut_take {ns : List Int} {n : Nat} : cutV (ns.map V.int) none (some (n : Int)) = (ns.take n).map V.int := by
  unfold cutV
  have e1 : HT.sIx (ns.map V.int).length 0 none = 0 := rfl
  have e2 : HT.sIx (ns.map V.int).length (ns.map V.int).length (some (n : Int)) = min n (ns.map V.int).length := by
    show (if (n : Int) < 0 then ((n : Int) + ((ns.map V.int).length : Int)).toNat else min (n : Int).toNat (ns.map V.int).length) = _
    rw [if_neg (by omega)]; simp
  rw [e1, e2, List.drop_zero, Nat.sub_zero, List.map_take]
  by_cases h : n ≤ (ns.map V.int).length
  · rw [Nat.min_eq_left h]
  · rw [Nat.min_eq_right (by omega), List.take_of_length_le (Nat.le_refl _), List.take_of_length_le (by omega)]
theorem cut_init {ws : List V} : cutV ws none (some (-1)) = ws.take (ws.length - 1) := by
  unfold cutV
  have e1 : HT.sIx ws.length 0 none = 0 := rfl
  have e2 : HT.sIx ws.length ws.length (some (-1)) = ws.length - 1 := by
    show (if (-1 : Int) < 0 then (-1 + (ws.length : Int)).toNat else min (-1 : Int).toNat ws.length) = _
    rw [if_pos (by decide)]; omega
  rw [e1, e2, List.drop_zero, Nat.sub_zero]
theorem IsKs.take {H : Hp} : ∀ {ks : List Kd} {vs : List V} (n : Nat), IsKs H ks vs → IsKs H (ks.take n) (vs.take n)
  | _, _, 0, _ => IsKs.nil
  | [], _, n + 1, h => by unfold IsKs at h; subst h; exact IsKs.nil
  | k :: r, _, n + 1, h => by
    unfold IsKs at h
    obtain ⟨v, vr, rfl, h1, h2⟩ := h
    show IsKs H (k :: r.take n) (v :: vr.take n)
    unfold IsKs
    exact ⟨v, _, rfl, h1, h2.take n⟩
end L2

set_option Elab.async false
set_option linter.all false
set_option maxRecDepth 100000
set_option maxHeartbeats 4000000
namespace L2
open PySem PySem.Spec PyProof.Rows
/-! ### readings that look the tracked object up -/
def lenC : List V → Hp → VK → Prop
  | [.ref p], H, Q => match H p with
    | some (.lst xs) => Q (.int xs.length) H
    | some (.tup xs) => Q (.int xs.length) H
    | _ => False
  | [.str z], H, Q => z.length ≤ sizeLine ∧ Q (.int z.length) H
  | _, _, _ => False
def ixC : R2
  | .ref p, .int i, H, Q => match H p with
    | some (.lst xs) => (match atI xs i with | some v => Q v H | none => False)
    | some (.tup xs) => (match atI xs i with | some v => Q v H | none => False)
    | _ => False
  | _, _, _, _ => False
def appC : V → List V → Hp → VK → Prop
  | .ref l, [y], H, Q => match H l with
    | some (.lst xs) => xs.length < sizeLine ∧ Q .non (upd H l (.lst (xs ++ [y])))
    | _ => False
  | _, _, _, _ => False
def popC : V → List V → Hp → VK → Prop
  | .ref l, [], H, Q => match H l with
    | some (.lst xs) => (match xs[xs.length - 1]? with | some y => Q y (upd H l (.lst xs.dropLast)) | none => False)
    | _ => False
  | _, _, _, _ => False
def tupC : List V → Hp → VK → Prop
  | [.ref p], H, Q => match H p with
    | some (.lst ys) => ∀ t, H t = none → Q (.ref t) (upd H t (.tup ys))
    | some (.tup _) => Q (.ref p) H
    | _ => False
  | _, _, _ => False
section
variable {X : Cx}
theorem call_lenC : CallR X (.builtin "len") lenC := by
  intro pins s σ H xs us Q I r h
  match xs, h with
  | [.ref p], h =>
    have h' : (match H p with | some (.lst xs) => Q (.int xs.length) H | some (.tup xs) => Q (.int xs.length) H | _ => False) := h
    cases e : H p with
    | none => rw [e] at h'; exact h'.elim
    | some o =>
      rw [e] at h'
      cases o with
      | lst ys => exact call_len_seq pins s σ H _ us Q I r ⟨p, ys, rfl, .inl (SqL.of e), h'⟩
      | tup ys => exact call_len_seq pins s σ H _ us Q I r ⟨p, ys, rfl, .inr (SqT.of e), h'⟩
      | _ => exact h'.elim
  | [.str z], h =>
    have h' : z.length ≤ sizeLine ∧ Q (.int z.length) H := h
    exact call_len_str pins s σ H _ us Q I r ⟨z, rfl, h'.1, h'.2⟩
theorem ix_C : IxR X ixC := by
  intro value slice pins s σ H x y v u Q I rx ry h hs
  match x, y, h with
  | .ref p, .int i, h =>
    have h' : (match H p with | some (.lst xs) => (match atI xs i with | some v => Q v H | none => False) | some (.tup xs) => (match atI xs i with | some v => Q v H | none => False) | _ => False) := h
    cases e : H p with
    | none => rw [e] at h'; exact h'.elim
    | some o =>
      rw [e] at h'
      cases o with
      | lst ys =>
        have h2 : (match atI ys i with | some v => Q v H | none => False) := h'
        cases e2 : atI ys i with
        | none => rw [e2] at h2; exact h2.elim
        | some z => rw [e2] at h2; exact ix_list value slice pins s σ H _ _ v u Q I rx ry ⟨p, ys, i, z, rfl, rfl, SqL.of e, e2, h2⟩ hs
      | tup ys =>
        have h2 : (match atI ys i with | some v => Q v H | none => False) := h'
        cases e2 : atI ys i with
        | none => rw [e2] at h2; exact h2.elim
        | some z => rw [e2] at h2; exact ix_tup value slice pins s σ H _ _ v u Q I rx ry ⟨p, ys, i, z, rfl, rfl, SqT.of e, e2, h2⟩ hs
      | _ => exact h'.elim
theorem mt_appC : MtR X "list.append" appC := by
  intro pins s σ H x xs v us Q I rx rv h
  match x, xs, h with
  | .ref l, [y], h =>
    have h' : (match H l with | some (.lst xs) => xs.length < sizeLine ∧ Q .non (upd H l (.lst (xs ++ [y]))) | _ => False) := h
    cases e : H l with
    | none => rw [e] at h'; exact h'.elim
    | some o =>
      rw [e] at h'
      cases o with
      | lst ys => exact mt_append pins s σ H _ _ v us Q I rx rv ⟨l, ys, y, rfl, rfl, e, h'.1, h'.2⟩
      | _ => exact h'.elim
theorem mt_popC : MtR X "list.pop" popC := by
  intro pins s σ H x xs v us Q I rx rv h
  match x, xs, h with
  | .ref l, [], h =>
    have h' : (match H l with | some (.lst xs) => (match xs[xs.length - 1]? with | some y => Q y (upd H l (.lst xs.dropLast)) | none => False) | _ => False) := h
    cases e : H l with
    | none => rw [e] at h'; exact h'.elim
    | some o =>
      rw [e] at h'
      cases o with
      | lst ys =>
        have h2 : (match ys[ys.length - 1]? with | some y => Q y (upd H l (.lst ys.dropLast)) | none => False) := h'
        cases e2 : ys[ys.length - 1]? with
        | none => rw [e2] at h2; exact h2.elim
        | some z => rw [e2] at h2; exact mt_pop pins s σ H _ _ v us Q I rx rv ⟨l, ys, z, rfl, rfl, e, e2, h2⟩
      | _ => exact h'.elim
theorem call_tupC : CallR X (.type "tuple") tupC := by
  intro pins s σ H xs us Q I r h
  match xs, h with
  | [.ref p], h =>
    have h' : (match H p with | some (.lst ys) => ∀ t, H t = none → Q (.ref t) (upd H t (.tup ys)) | some (.tup _) => Q (.ref p) H | _ => False) := h
    cases e : H p with
    | none => rw [e] at h'; exact h'.elim
    | some o =>
      rw [e] at h'
      cases o with
      | lst ys => exact call_tuple_of pins s σ H _ us Q I r ⟨p, ys, rfl, .inl ⟨SqL.of e, h'⟩⟩
      | tup ys => exact call_tuple_of pins s σ H _ us Q I r ⟨p, ys, rfl, .inr ⟨SqT.of e, h'⟩⟩
      | _ => exact h'.elim
end
section
variable {H : Hp} {Q : VK} {p : Addr} {xs : List V} {i : Int} {v y : V} {K : PySem.W.Frag}
theorem lenC_lst (h : H p = some (.lst xs)) : lenC [.ref p] H Q = Q (.int xs.length) H := by
  show (match H p with | some (.lst xs) => Q (.int xs.length) H | some (.tup xs) => Q (.int xs.length) H | _ => False) = _
  rw [h]
theorem lenC_tup (h : H p = some (.tup xs)) : lenC [.ref p] H Q = Q (.int xs.length) H := by
  show (match H p with | some (.lst xs) => Q (.int xs.length) H | some (.tup xs) => Q (.int xs.length) H | _ => False) = _
  rw [h]
theorem ixC_lst (h : H p = some (.lst xs)) (e : atI xs i = some v) : ixC (.ref p) (.int i) H Q = Q v H := by
  show (match H p with | some (.lst xs) => (match atI xs i with | some v => Q v H | none => False) | some (.tup xs) => (match atI xs i with | some v => Q v H | none => False) | _ => False) = _
  rw [h]; dsimp only; rw [e]
theorem ixC_tup (h : H p = some (.tup xs)) (e : atI xs i = some v) : ixC (.ref p) (.int i) H Q = Q v H := by
  show (match H p with | some (.lst xs) => (match atI xs i with | some v => Q v H | none => False) | some (.tup xs) => (match atI xs i with | some v => Q v H | none => False) | _ => False) = _
  rw [h]; dsimp only; rw [e]
theorem appC_lst (h : H p = some (.lst xs)) : appC (.ref p) [y] H Q = (xs.length < sizeLine ∧ Q .non (upd H p (.lst (xs ++ [y])))) := by
  show (match H p with | some (.lst xs) => xs.length < sizeLine ∧ Q .non (upd H p (.lst (xs ++ [y]))) | _ => False) = _
  rw [h]
theorem popC_lst (h : H p = some (.lst (xs ++ [y]))) : popC (.ref p) [] H Q = Q y (upd H p (.lst xs)) := by
  show (match H p with | some (.lst xs) => (match xs[xs.length - 1]? with | some y => Q y (upd H p (.lst xs.dropLast)) | none => False) | _ => False) = _
  rw [h]
  have e : (xs ++ [y])[(xs ++ [y]).length - 1]? = some y := by simp
  dsimp only
  rw [e]
  dsimp only
  rw [List.dropLast_concat]
theorem tupC_lst (h : H p = some (.lst xs)) : tupC [.ref p] H Q = ∀ t, H t = none → Q (.ref t) (upd H t (.tup xs)) := by
  show (match H p with | some (.lst ys) => ∀ t, H t = none → Q (.ref t) (upd H t (.tup ys)) | some (.tup _) => Q (.ref p) H | _ => False) = _
  rw [h]
theorem tyV_lst (h : H p = some (.lst xs)) : tyV K "list" (.ref p) H = True := eq_true (.inl ⟨rfl, xs, SqL.of h⟩)
theorem tyV_str {z : Str} : tyV K "str" (.str z) H = True := eq_true rfl
end
theorem ite_and' {p q A E : Prop} [Decidable p] [Decidable q] : (if p then (if q then A else E) else E) = (if p ∧ q then A else E) := by
  by_cases hp : p <;> by_cases hq : q <;> simp [hp, hq]
/-- rows[-1].append(tuple(rows.pop())) -/
theorem close_go {K : PySem.W.Frag} {H0 H : Hp} {R r r' : Addr} {rs : List Addr} {kss : List (List Kd)} {ks ks' : List Kd} {N : V → Hp → Prop} (S : Stk H0 H R (rs ++ [r'] ++ [r]) (kss ++ [ks'] ++ [ks])) (h1 : ks.length ≤ 6) (h2 : ks'.length ≤ 6)
    (h : ∀ x H1, Stk H0 H1 R (rs ++ [r']) (kss ++ [ks' ++ [.tup ks]]) → N x H1) :
    popC (.ref R) [] H fun x H1 => tupC [x] H1 fun x H1 => ixC (.ref R) (.int (-1)) H1 fun y H1 => tyV K "list" y H1 ∧ appC y [x] H1 fun _ H1 => N x H1 := by
  have e1 : H R = some (.lst ((rs ++ [r']).map V.ref ++ [.ref r])) := by rw [S.hR, List.map_append (l₁ := rs ++ [r'])]; rfl
  obtain ⟨S1, vs, hr, hks⟩ := S.popped
  rw [popC_lst e1, tupC_lst hr]
  intro t ht
  have g : Same (upd H R (.lst ((rs ++ [r']).map V.ref))) (upd (upd H R (.lst ((rs ++ [r']).map V.ref))) t (.tup vs)) := same_upd_none ht
  have S2 := S1.grow g
  have hl := hks.length
  have hk : IsK (upd (upd H R (.lst ((rs ++ [r']).map V.ref))) t (.tup vs)) (.tup ks) (.ref t) := by
    unfold IsK
    exact ⟨t, vs, rfl, upd_same, by omega, hks.same g.tups⟩
  obtain ⟨vs', hr', hks'⟩ := (paired_last S2.rows).2
  have hl' := hks'.length
  have hat : atI ((rs ++ [r']).map V.ref) (-1) = some (.ref r') := by rw [List.map_append]; exact atI_last _ _
  rw [ixC_lst S2.hR hat, tyV_lst hr', appC_lst hr']
  exact ⟨trivial, small1000 (by omega), h _ _ (S2.put hr' hk)⟩
end L2

set_option Elab.async false
set_option linter.all false
set_option maxRecDepth 100000
set_option maxHeartbeats 4000000
namespace L2
open PySem PySem.Spec PyProof.Rows

/-! ### zip of lists and tuples -/
@[reducible] def itT : Bool → String | true => "tuple_iterator" | false => "list_iterator"
def SI : Bool → Heap → Addr → Addr → Nat → Prop
  | true, h, it, a, i => h.IsTupleIter it a i
  | false, h, it, a, i => h.IsListIter it a i
def SQ : Bool → Heap → Addr → Array Value → Prop
  | true, h, a, xs => h.IsTuple a xs
  | false, h, a, xs => h.IsList a xs
theorem SI.at {b : Bool} {h h' : Heap} {it a : Addr} {i : Nat} (x : SI b h it a i) (e : ∀ o, h.get? it = some o → h'.get? it = some o) : SI b h' it a i := by
  cases b with
  | true => obtain ⟨o, ho, r⟩ := x; exact ⟨o, e _ ho, r⟩
  | false => obtain ⟨o, ho, r⟩ := x; exact ⟨o, e _ ho, r⟩
theorem SQ.at {b : Bool} {h h' : Heap} {a : Addr} {xs : Array Value} (x : SQ b h a xs) (e : ∀ o, h.get? a = some o → h'.get? a = some o) : SQ b h' a xs := by
  cases b with
  | true => obtain ⟨o, ho, r⟩ := x; exact ⟨o, e _ ho, r⟩
  | false => obtain ⟨o, ho, r⟩ := x; exact ⟨o, e _ ho, r⟩
theorem SI.obj {b : Bool} {h : Heap} {it a : Addr} {i : Nat} (x : SI b h it a i) : ∃ o, h.get? it = some o ∧ ∀ v, o.data ≠ .cell v := by
  cases b with
  | true => obtain ⟨o, ho, _, d⟩ := x; exact ⟨o, ho, fun v z => by rw [d] at z; cases z⟩
  | false => obtain ⟨o, ho, _, d⟩ := x; exact ⟨o, ho, fun v z => by rw [d] at z; cases z⟩
theorem SQ.lt {b : Bool} {h : Heap} {a : Addr} {xs : Array Value} (x : SQ b h a xs) : a < h.objs.size := by
  cases b with
  | true => obtain ⟨o, ho, _⟩ := x; exact Heap.lt_size ho
  | false => obtain ⟨o, ho, _⟩ := x; exact Heap.lt_size ho

section
variable {prog : Program} {w : World} {A : Around} {E : Value → Shared → Prop} {s : Shared}
theorem wp_loadIfAlive {M : Model} {a : Addr} {Q : Option Obj → Shared → Prop} (h : Q (s.heap.get? a) s) : wpAny M A (loadIfAlive a) Q E s := fun _ _ _ => h
theorem pyIter_seq {b : Bool} {a : Addr} {items : Array Value} {Q : Value → Shared → Prop} (ha : SQ b s.heap a items)
    (hQ : Q (.ref s.heap.objs.size) { s with heap := s.heap.push { cls := .type (itT b), data := .fields #[.ref a, .int 0 0] } }) : wpAny (model prog w) A (pyIter (.ref a)) Q E s := by
  cases b with
  | true => exact wpAny_pyIter_tuple ha hQ
  | false => exact wpAny_pyIter_list ha hQ
theorem nextOf_item {b : Bool} {it a : Addr} {i : Nat} {items : Array Value} {x : Value} {Q : Value → Shared → Prop} (hit : SI b s.heap it a i) (hl : SQ b s.heap a items) (hx : items[i]? = some x)
    (hQ : ∀ h', SI b h' it a (i + 1) → Heap.SameBut it s.heap h' → Q x { s with heap := h' }) : wpAny (model prog w) A (Builtin.SmallTypes.nextOf (.ref it)) Q E s := by
  cases b with
  | false => exact wpAny_nextOf_list_item hit hl hx hQ
  | true =>
    replace hit : s.heap.IsTupleIter it a i := hit
    obtain ⟨o, ho, hc, hd⟩ := id hit
    obtain ⟨ol, hol, _, nl, hdl⟩ := hl
    unfold Builtin.SmallTypes.nextOf
    refine wpAny_bind (wpAny_callSpecial?_slot (name := Str.ofString "__next__") hit.typeIs F.slot_tuple_iterator_next
      (wpAny_call_entry F.slot_tuple_iterator_next hit.typeIs F.entry_tuple_iterator_next ?_ (F.args_tuple_iterator_next_1 _)))
    show wpAny _ _ (field (.ref it) 0 >>= _) _ _ s
    refine wpAny_bind (wpAny_field ho hd (x := .ref a) rfl ?_)
    show wpAny _ _ (if (Value.ref a == Value.none) = true then _ else _) _ _ s
    rw [if_neg (show ¬ ((Value.ref a == Value.none) = true) from Bool.false_ne_true)]
    show wpAny _ _ (field (.ref it) 1 >>= _) _ _ s
    refine wpAny_bind (wpAny_field ho hd (x := .int i 0) rfl ?_)
    show wpAny _ _ (seqItems? (.ref a) >>= _) _ _ s
    refine wpAny_bind (wpAny_seqItems hol hdl ?_)
    simp only [Int.toNat_natCast, hx]
    refine wpAny_bind (wpAny_setField ho hd (by simp) (wpAny_pure ⟨x, rfl, wpAny_pure (hQ _ ?_ (Heap.SameBut.update ..))⟩))
    exact ⟨_, Heap.get?_update_self _ ho (Obj.isFreed_of_fields (Obj.data_mapFields hd _)), (Obj.cls_mapFields ..).trans hc, by
      rw [Obj.data_mapFields hd]; simp [rawInt]⟩
theorem nextOf_end {b : Bool} {it a : Addr} {i : Nat} {items : Array Value} {Q : Value → Shared → Prop} (hh : A.handled = none) (hit : SI b s.heap it a i) (hl : SQ b s.heap a items) (hx : items[i]? = none)
    (hE : ∀ h' e, Heap.ExtBut it s.heap h' → (∃ o, h'.get? e = some o ∧ o.cls = .type "StopIteration") → E (.ref e) { s with heap := h' }) : wpAny (model prog w) A (Builtin.SmallTypes.nextOf (.ref it)) Q E s := by
  cases b with
  | false => exact wpAny_nextOf_list_end hh hit hl hx hE
  | true =>
    replace hit : s.heap.IsTupleIter it a i := hit
    obtain ⟨o, ho, hc, hd⟩ := id hit
    obtain ⟨ol, hol, _, nl, hdl⟩ := hl
    unfold Builtin.SmallTypes.nextOf
    refine wpAny_bind (wpAny_callSpecial?_slot (name := Str.ofString "__next__") hit.typeIs F.slot_tuple_iterator_next
      (wpAny_call_entry F.slot_tuple_iterator_next hit.typeIs F.entry_tuple_iterator_next ?_ (F.args_tuple_iterator_next_1 _)))
    show wpAny _ _ (field (.ref it) 0 >>= _) _ _ s
    refine wpAny_bind (wpAny_field ho hd (x := .ref a) rfl ?_)
    show wpAny _ _ (if (Value.ref a == Value.none) = true then _ else _) _ _ s
    rw [if_neg (show ¬ ((Value.ref a == Value.none) = true) from Bool.false_ne_true)]
    show wpAny _ _ (field (.ref it) 1 >>= _) _ _ s
    refine wpAny_bind (wpAny_field ho hd (x := .int i 0) rfl ?_)
    show wpAny _ _ (seqItems? (.ref a) >>= _) _ _ s
    refine wpAny_bind (wpAny_seqItems hol hdl ?_)
    simp only [Int.toNat_natCast, hx]
    refine wpAny_bind (wpAny_rule (wpAny_bind (wpAny_setField ho hd (by simp) ?_)))
    show wpAny _ _ (newExc (.type "StopIteration") [] >>= _) _ _ _
    refine wpAny_bind ?_
    simp only [newExc, newTuple]
    refine wpAny_bind (wpAny_newObj_type ?_ (by size_fits))
    refine wpAny_bind (m := firstArgMember _ _) (wpAny_of_eq (a := Value.none) (by first | rfl | (simp only [firstArgMember]; rfl)) ?_)
    refine wpAny_newObj_type ?_ (by size_fits)
    simp only [raiseNew]
    refine wpAny_bind (wpAny_handled ?_)
    first | rw [show A.in1.handled = none from hh] | rw [hh]
    refine wpAny_bind (wpAny_pure (wpAny_throw ?_))
    exact hE _ _ (((Heap.SameBut.update ..).extBut.push _).push _) ⟨_, Heap.get?_push_size _ rfl, rfl⟩
/-- a loop over a list whose turns all go on -/
theorem wp_forIn_all {M : Model} {α β : Type} {f : α → β → Sem (ForInStep β)} (I : Nat → β → Shared → Prop) : ∀ (l : List α) (k : Nat) (b : β) (s : Shared) (Q : β → Shared → Prop), I k b s →
    (∀ j x b s, l[j]? = some x → I (k + j) b s → wpAny M A (f x b) (fun r s' => ∃ b', r = .yield b' ∧ I (k + j + 1) b' s') E s) → (∀ b s, I (k + l.length) b s → Q b s) → wpAny M A (forIn l b f) Q E s
  | [], k, b, s, Q, h0, _, hd => by
    rw [List.forIn_nil]
    exact wpAny_pure (hd b s h0)
  | x :: l, k, b, s, Q, h0, hs, hd => by
    rw [List.forIn_cons]
    refine wpAny_bind (wpAny_mono (hs 0 x b s rfl h0) (fun r s' ⟨b', e, h1⟩ => ?_) fun _ _ e => e)
    subst e
    refine wp_forIn_all I l (k + 1) b' s' Q h1 (fun j y b s e h => ?_) (fun b s h => hd b s ?_)
    · have e1 : k + 1 + j = k + (j + 1) := by omega
      rw [e1] at h ⊢
      exact hs (j + 1) y b s (by simpa using e) h
    · have e1 : k + 1 + l.length = k + (x :: l).length := by rw [List.length_cons]; omega
      rw [e1] at h
      exact h
end
abbrev zipO (f0 f1 : Value) (TI TO : Addr) : Obj := { cls := .type "zip", dict := none, data := .fields #[f0, f1, .bool false, .ref TI, .ref TO], slots := #[] }
abbrev tupO (vs : Array Value) : Obj := { cls := .type "tuple", data := .seq vs }
abbrev itsOf (qs : List (Bool × Addr × Addr)) : List Addr := qs.map (·.2.1)
/-- a zip at turn i -/
structure Zp (h : Heap) (z TI TO : Addr) (qs : List (Bool × Addr × Addr)) (i : Nat) (f0 f1 : Value) : Prop where
  hz : h.get? z = some (zipO f0 f1 TI TO)
  ti : h.get? TI = some (tupO ((itsOf qs).map Value.ref).toArray)
  to : ∃ ws : Array Value, ws.size = qs.length ∧ h.get? TO = some (tupO ws)
  it : ∀ q ∈ qs, SI q.1 h q.2.1 q.2.2 i
structure Apart (z TI TO : Addr) (qs : List (Bool × Addr × Addr)) : Prop where
  nd : (z :: TI :: TO :: itsOf qs).Nodup
  sep : ∀ q ∈ qs, q.2.2 ∉ (z :: TI :: TO :: itsOf qs)
  pos : 0 < qs.length
  few : qs.length ≤ 8
section
variable {prog : Program} {w : World} {A : Around} {E : Value → Shared → Prop} {s : Shared} {z TI TO : Addr} {qs : List (Bool × Addr × Addr)} {i : Nat} {f0 f1 : Value}
theorem Apart.zit (D : Apart z TI TO qs) {q} (hq : q ∈ qs) : z ≠ q.2.1 ∧ TI ≠ q.2.1 ∧ TO ≠ q.2.1 := by
  have nd := D.nd
  rw [List.nodup_cons, List.nodup_cons, List.nodup_cons] at nd
  have m : q.2.1 ∈ itsOf qs := List.mem_map.mpr ⟨q, hq, rfl⟩
  refine ⟨fun e => nd.1 ?_, fun e => nd.2.1 ?_, fun e => nd.2.2.1 ?_⟩
  · rw [e]; simp [m]
  · rw [e]; simp [m]
  · rw [e]; exact m
theorem Apart.zz (D : Apart z TI TO qs) : z ≠ TI ∧ z ≠ TO ∧ TI ≠ TO := by
  have nd := D.nd
  rw [List.nodup_cons, List.nodup_cons, List.nodup_cons] at nd
  refine ⟨fun e => nd.1 ?_, fun e => nd.1 ?_, fun e => nd.2.1 ?_⟩ <;> (rw [e]; simp)
theorem Apart.its (D : Apart z TI TO qs) {j k : Nat} {q r} (hj : qs[j]? = some q) (hk : qs[k]? = some r) (hn : j ≠ k) : q.2.1 ≠ r.2.1 := by
  have nd := D.nd
  rw [List.nodup_cons, List.nodup_cons, List.nodup_cons] at nd
  intro e
  have e1 : (itsOf qs)[j]? = some q.2.1 := by rw [List.getElem?_map, hj]; rfl
  have e2 : (itsOf qs)[k]? = some q.2.1 := by rw [List.getElem?_map, hk, e]; rfl
  exact hn (nodup_ixA nd.2.2.2 e1 e2)
where
  nodup_ixA {N : List Addr} (hN : N.Nodup) {i j : Nat} {x : Addr} (a : N[i]? = some x) (b : N[j]? = some x) : i = j := by
    obtain ⟨h1, e1⟩ := List.getElem?_eq_some_iff.mp a
    obtain ⟨h2, e2⟩ := List.getElem?_eq_some_iff.mp b
    exact (List.getElem_inj hN).mp (e1.trans e2.symm)
theorem Apart.seq (D : Apart z TI TO qs) {q} (hq : q ∈ qs) : q.2.2 ≠ z ∧ q.2.2 ≠ TO ∧ ∀ r ∈ qs, q.2.2 ≠ r.2.1 := by
  have n := D.sep q hq
  refine ⟨fun e => n ?_, fun e => n ?_, fun r hr e => n ?_⟩
  · rw [e]; simp
  · rw [e]; simp
  · rw [e]
    have m : r.2.1 ∈ itsOf qs := List.mem_map.mpr ⟨r, hr, rfl⟩
    simp [m]
/-- where it stands amid a turn -/
structure Mid (fr : Bool) (h₀ h : Heap) (z TI TO : Addr) (qs : List (Bool × Addr × Addr)) (i k : Nat) (vals : List Value) : Prop where
  hz : ∃ f0 f1, h.get? z = some (zipO f0 f1 TI TO) ∧ (fr = false → f0 = .none ∨ ∃ T : Addr, f0 = rawInt T)
  to : ∃ ws : Array Value, ws.size = qs.length ∧ h.get? TO = some (tupO ws) ∧ (fr = true → ∀ j, j < k → ws[j]? = vals[j]?)
  it : ∀ (j : Nat) (q : Bool × Addr × Addr), qs[j]? = some q → SI q.1 h q.2.1 q.2.2 (if j < k then i + 1 else i)
  sz : h.objs.size = h₀.objs.size
  keep : ∀ c o, c ≠ z → c ≠ TO → c ∉ itsOf qs → h₀.get? c = some o → h.get? c = some o
/-- what is due at turn i -/
def Due (h : Heap) (qs : List (Bool × Addr × Addr)) (i : Nat) (vals : List Value) : Prop := vals.length = qs.length ∧ ∀ (j : Nat) (q : Bool × Addr × Addr), qs[j]? = some q → ∃ items x, SQ q.1 h q.2.2 items ∧ items[i]? = some x ∧ vals[j]? = some x
/-- one more is drawn -/
theorem Mid.drawn {fr : Bool} {h₀ h h2 : Heap} {k : Nat} {vals : List Value} {q : Bool × Addr × Addr} (D : Apart z TI TO qs) (m : Mid fr h₀ h z TI TO qs i k vals) (hq : qs[k]? = some q) (hs : SI q.1 h2 q.2.1 q.2.2 (i + 1)) (hb : Heap.SameBut q.2.1 h h2)
    (hfr : fr = false) : Mid fr h₀ h2 z TI TO qs i (k + 1) vals := by
  have mq := List.mem_of_getElem? hq
  obtain ⟨d1, d2, d3⟩ := D.zit mq
  obtain ⟨f0, f1, hz, hz2⟩ := m.hz
  obtain ⟨ws, w1, w2, w3⟩ := m.to
  refine ⟨⟨f0, f1, hb.extBut _ _ d1 hz, hz2⟩, ⟨ws, w1, hb.extBut _ _ d3 w2, fun e => by rw [hfr] at e; cases e⟩, fun j r hj => ?_, hb.1.trans m.sz, fun c o c1 c2 c3 e => hb.extBut _ _ (fun x => c3 (by rw [x]; exact List.mem_map.mpr ⟨q, mq, rfl⟩)) (m.keep c o c1 c2 c3 e)⟩
  by_cases hjk : j = k
  · subst hjk
    rw [hq] at hj
    cases hj
    rw [if_pos (Nat.lt_succ_self _)]
    exact hs
  · have z := m.it j r hj
    have e : (if j < k then i + 1 else i) = (if j < k + 1 then i + 1 else i) := by
      by_cases h : j < k
      · rw [if_pos h, if_pos (by omega)]
      · rw [if_neg h, if_neg (by omega)]
    rw [e] at z
    exact z.at fun o x => hb.extBut _ _ (D.its hj hq hjk) x
/-- .. and laid into the tuple kept -/
theorem Mid.kept {h₀ h h2 h3 : Heap} {k : Nat} {vals : List Value} {q : Bool × Addr × Addr} {ws : Array Value} {x : Value} (D : Apart z TI TO qs) (m : Mid true h₀ h z TI TO qs i k vals) (hq : qs[k]? = some q) (hs : SI q.1 h2 q.2.1 q.2.2 (i + 1)) (hb : Heap.SameBut q.2.1 h h2)
    (w1 : ws.size = qs.length) (w3 : ∀ j, j < k → ws[j]? = vals[j]?) (hx : vals[k]? = some x) (hto : h3.get? TO = some (tupO (ws.setIfInBounds k x))) (hb3 : Heap.SameBut TO h2 h3) : Mid true h₀ h3 z TI TO qs i (k + 1) vals := by
  have mq := List.mem_of_getElem? hq
  obtain ⟨d1, d2, d3⟩ := D.zit mq
  obtain ⟨zi, zo, io⟩ := D.zz
  obtain ⟨f0, f1, hz, hz2⟩ := m.hz
  have hk : k < qs.length := (List.getElem?_eq_some_iff.mp hq).1
  refine ⟨⟨f0, f1, hb3.extBut _ _ zo (hb.extBut _ _ d1 hz), fun e => by cases e⟩, ⟨_, by simp [w1], hto, fun _ j hj => ?_⟩, fun j r hj => ?_, (hb3.1.trans hb.1).trans m.sz,
    fun c o c1 c2 c3 e => hb3.extBut _ _ c2 (hb.extBut _ _ (fun x => c3 (by rw [x]; exact List.mem_map.mpr ⟨q, mq, rfl⟩)) (m.keep c o c1 c2 c3 e))⟩
  · by_cases hjk : j = k
    · subst hjk
      rw [hx]
      simp [w1, hk]
    · rw [Array.getElem?_setIfInBounds, if_neg (Ne.symm hjk)]
      exact w3 j (by omega)
  · have mr := List.mem_of_getElem? hj
    obtain ⟨r1, r2, r3⟩ := D.zit mr
    by_cases hjk : j = k
    · subst hjk
      rw [hq] at hj
      cases hj
      rw [if_pos (Nat.lt_succ_self _)]
      exact hs.at fun o x => hb3.extBut _ _ (Ne.symm r3) x
    · have z := m.it j r hj
      have e : (if j < k then i + 1 else i) = (if j < k + 1 then i + 1 else i) := by
        by_cases h : j < k
        · rw [if_pos h, if_pos (by omega)]
        · rw [if_neg h, if_neg (by omega)]
      rw [e] at z
      exact z.at fun o x => hb3.extBut _ _ (Ne.symm r3) (hb.extBut _ _ (D.its hj hq hjk) x)
theorem small8 {n : Nat} (h : n ≤ 8) : n ≤ sizeLine := Nat.le_trans h (by decide)
/-- the next tuple -/
theorem zip_item {vals : List Value} {Q : Value → Shared → Prop} (D : Apart z TI TO qs) (Z : Zp s.heap z TI TO qs i f0 f1) (hf : f0 = .none ∨ ∃ T : Addr, f0 = rawInt T) (hv : Due s.heap qs i vals)
    (hQ : ∀ h' g0 g1, Zp h' z TI TO qs (i + 1) g0 g1 → (g0 = .none ∨ ∃ T : Addr, g0 = rawInt T) → h'.get? s.heap.objs.size = some (tupO vals.toArray) → h'.objs.size = s.heap.objs.size + 1 →
      (∀ c o, c ≠ z → c ≠ TO → c ∉ itsOf qs → s.heap.get? c = some o → h'.get? c = some o) → Q (.ref s.heap.objs.size) { s with heap := h' }) :
    wpAny (model prog w) A (Builtin.«zip.__next__» ⟨[.ref z], []⟩) (fun fin s' => ∃ v, fin = .done (.ret v) ∧ Q v s') E s := by
  obtain ⟨hl, hv⟩ := hv
  obtain ⟨zi, zo, io⟩ := D.zz
  have tin : TI ∉ itsOf qs := fun m => by
    obtain ⟨q, hq, e⟩ := List.mem_map.mp m
    exact (D.zit hq).2.1 e.symm
  have sq : ∀ {c : Nat} {q} {h : Heap} {k : Nat} {fr : Bool}, qs[c]? = some q → Mid fr s.heap h z TI TO qs i k vals → ∃ items x, SQ q.1 h q.2.2 items ∧ items[i]? = some x ∧ vals[c]? = some x := fun {c q h k fr} e m => by
    obtain ⟨items, x, a, b, d⟩ := hv c q e
    obtain ⟨e1, e2, e3⟩ := D.seq (List.mem_of_getElem? e)
    refine ⟨items, x, a.at fun o y => m.keep _ o e1 e2 (fun mm => ?_) y, b, d⟩
    obtain ⟨r, hr, er⟩ := List.mem_map.mp mm
    exact e3 r hr er.symm
  have alls : qs.length ≤ sizeLine := small8 D.few
  have gets : ∀ {j : Nat} {v : Value}, ((itsOf qs).map Value.ref)[j]? = some v → ∃ q, qs[j]? = some q ∧ v = .ref q.2.1 := fun {j v} e => by
    rw [List.getElem?_map, List.getElem?_map] at e
    cases q : qs[j]? with
    | none => rw [q] at e; cases e
    | some r => rw [q] at e; simp at e; exact ⟨r, rfl, e.symm⟩
  show wpAny _ _ (field (.ref z) 2 >>= _) _ _ _
  refine wpAny_bind (wpAny_field Z.hz rfl (x := .bool false) rfl ?_)
  show wpAny _ _ (field (.ref z) 3 >>= _) _ _ _
  refine wpAny_bind (wpAny_field Z.hz rfl (x := .ref TI) rfl ?_)
  refine wpAny_bind (wpAny_seqItems Z.ti rfl ?_)
  show wpAny _ _ (if (((itsOf qs).map Value.ref).toArray.isEmpty) = true then _ else _) _ _ _
  rw [if_neg (by
    have := D.pos
    simp
    intro e
    rw [e] at this
    simp at this)]
  show wpAny _ _ (Builtin.SmallTypes.ownedTupleIsFree (.ref z) >>= _) _ _ _
  refine wpAny_bind (wpAny_mono (Q := fun b s1 => (b = true ∧ s1 = s) ∨ (b = false ∧ ∃ h1 g1, s1 = { s with heap := h1 } ∧ h1.get? z = some (zipO f0 g1 TI TO) ∧ Heap.SameBut z s.heap h1)) ?look (fun b s1 hb => ?_) (fun _ _ e => e))
  case look =>
    unfold Builtin.SmallTypes.ownedTupleIsFree
    refine wpAny_bind (wpAny_field Z.hz rfl (x := f0) rfl ?_)
    rcases hf with rfl | ⟨T, rfl⟩
    · exact wpAny_pure (.inl ⟨rfl, rfl⟩)
    · show wpAny _ _ (loadIfAlive (Int.toNat (T : Int)) >>= _) _ _ _
      refine wpAny_bind (wp_loadIfAlive ?_)
      cases s.heap.get? (Int.toNat (T : Int)) with
      | none => exact wpAny_pure (.inl ⟨rfl, rfl⟩)
      | some o =>
        show wpAny _ _ (field (.ref z) 1 >>= _) _ _ _
        refine wpAny_bind (wpAny_field Z.hz rfl (x := f1) rfl ?_)
        by_cases hb : (f1 != Value.bool true) = true
        · rw [if_pos hb]
          refine wpAny_bind (wpAny_setField_rec Z.hz (by simp) fun h1 hz1 hs1 => wpAny_pure (.inr ⟨rfl, h1, .bool true, rfl, hz1, hs1⟩))
        · rw [if_neg hb]
          exact wpAny_pure (.inr ⟨rfl, s.heap, f1, rfl, Z.hz, rfl, fun _ _ => rfl⟩)
  rcases hb with ⟨rfl, rfl⟩ | ⟨rfl, h1, g1, rfl, hz1, hs1⟩
  · -- the tuple kept is free
    rw [if_pos rfl]
    refine wpAny_bind (wpAny_rule ?_)
    refine wpAny_bind (wpAny_field Z.hz rfl (x := .ref TO) rfl ?_)
    refine wpAny_bind (wpAny_setField_rec Z.hz (by simp) fun h1 hz1 hs1 => ?_)
    have m0 : Mid true s1.heap h1 z TI TO qs i 0 vals := by
      obtain ⟨ws, w1, w2⟩ := Z.to
      refine ⟨⟨_, _, hz1, fun e => by cases e⟩, ⟨ws, w1, hs1.extBut _ _ (Ne.symm zo) w2, fun _ j hj => absurd hj (Nat.not_lt_zero _)⟩, fun j q hj => ?_, hs1.1, fun c o c1 _ _ e => hs1.extBut _ _ c1 e⟩
      have mq := List.mem_of_getElem? hj
      rw [if_neg (Nat.not_lt_zero _)]
      exact (Z.it q mq).at fun o e => hs1.extBut _ _ (Ne.symm (D.zit mq).1) e
    refine wpAny_bind (wp_forIn_all (fun k b s' => b = (none, ()) ∧ ∃ h, s' = { s1 with heap := h } ∧ Mid true s1.heap h z TI TO qs i k vals) _ 0 _ _ _ ⟨rfl, h1, rfl, m0⟩ (fun j x b s' hx hI => ?_) (fun b s' hI => ?_))
    · obtain ⟨rfl, h, rfl, m⟩ := hI
      rw [Nat.zero_add] at m ⊢
      have hx2 : ∃ q, qs[j]? = some q ∧ x = (Value.ref q.2.1, j) := by
        rw [List.getElem?_zipIdx, List.toList_toArray] at hx
        cases e : ((itsOf qs).map Value.ref)[j]? with
        | none => rw [e] at hx; cases hx
        | some v =>
          rw [e] at hx
          obtain ⟨q, hq, rfl⟩ := gets e
          simp at hx
          exact ⟨q, hq, hx.symm⟩
      obtain ⟨q, hq, rfl⟩ := hx2
      obtain ⟨items, y, hs, hy, hvy⟩ := sq hq m
      have hit := m.it j q hq
      rw [if_neg (Nat.lt_irrefl _)] at hit
      refine wpAny_bind (wpAny_onRaise ?_)
      show wpAny _ _ (Builtin.SmallTypes.nextOf (.ref q.2.1) >>= _) _ _ _
      refine wpAny_bind (nextOf_item hit hs hy fun h2 hit2 hb2 => wpAny_pure ?_)
      obtain ⟨ws, w1, w2, w3⟩ := m.to
      have w2' := hb2.extBut _ _ (D.zit (List.mem_of_getElem? hq)).2.2 w2
      refine wpAny_bind (wpAny_seqItems w2' rfl ?_)
      refine wpAny_bind (wpAny_updateSeq w2' rfl ?_ (by rw [w1]; exact alls) (by rw [Array.size_setIfInBounds, w1]; exact Nat.le_succ_of_le alls))
      refine wpAny_bind (wpAny_letGo (wpAny_pure ⟨_, rfl, rfl, _, rfl, m.kept D hq hit2 hb2 w1 (w3 rfl) hvy ?_ (Heap.SameBut.update ..)⟩))
      rw [Heap.get?_update_self _ w2' rfl]
      simp [Obj.mapSeq]
    · obtain ⟨rfl, h, rfl, m⟩ := hI
      rw [Nat.zero_add, List.length_zipIdx, List.toList_toArray, List.length_map, List.length_map] at m
      obtain ⟨ws, w1, w2, w3⟩ := m.to
      have ew : ws.toList = vals := by
        refine List.ext_getElem? fun j => ?_
        by_cases hj : j < qs.length
        · rw [Array.getElem?_toList]; exact w3 rfl j hj
        · rw [List.getElem?_eq_none (by simp; omega), List.getElem?_eq_none (by omega)]
      show wpAny _ _ (seqItems? (.ref TO) >>= _) _ _ _
      refine wpAny_bind (wpAny_seqItems w2 rfl ?_)
      show wpAny _ _ (newTuple ws.toList >>= _) _ _ _
      rw [ew]
      refine wpAny_bind (wpAny_newTuple ?_ (by rw [hl]; exact alls))
      show wpAny _ _ (Builtin.SmallTypes.ownedTupleHandOut (.ref z) (.ref h.objs.size) >>= _) _ _ _
      refine wpAny_bind ?_
      unfold Builtin.SmallTypes.ownedTupleHandOut
      obtain ⟨g0, g1, hz5, _⟩ := m.hz
      have hzlt : z < h.objs.size := Heap.lt_size hz5
      have hz6 : (h.push { cls := .type "tuple", data := .seq vals.toArray }).get? z = some (zipO g0 g1 TI TO) := Heap.get?_push_of_some _ hz5
      refine wpAny_bind (wpAny_setField_rec hz6 (by simp) fun h7 hz7 hs7 => ?_)
      refine wpAny_setField_rec hz7 (by simp) fun h8 hz8 hs8 => ?_
      have up : ∀ c o, c ≠ z → h.get? c = some o → h8.get? c = some o := fun c o c1 e => hs8.extBut _ _ c1 (hs7.extBut _ _ c1 (Heap.get?_push_of_some _ e))
      have hT8 : h8.get? h.objs.size = some (tupO vals.toArray) := hs8.extBut _ _ (Nat.ne_of_gt hzlt) (hs7.extBut _ _ (Nat.ne_of_gt hzlt) (Heap.get?_push_size _ rfl))
      have h8s : h8.objs.size = h.objs.size + 1 := by rw [hs8.1, hs7.1, Heap.size_push]
      have hsz := m.sz
      refine wpAny_pure ⟨_, rfl, ?_⟩
      show Q (.ref h.objs.size) _
      rw [hsz] at hT8 h8s ⊢
      refine hQ h8 (rawInt h.objs.size) (.bool false) ⟨hz8, up _ _ (Ne.symm zi) (m.keep _ _ (Ne.symm zi) io tin Z.ti), ⟨ws, w1, up _ _ (Ne.symm zo) w2⟩, fun q hq => ?_⟩ (.inr ⟨_, rfl⟩) hT8 h8s fun c o c1 c2 c3 e => up c o c1 (m.keep c o c1 c2 c3 e)
      obtain ⟨j, hj⟩ := List.mem_iff_getElem?.mp hq
      have z9 := m.it j q hj
      rw [if_pos (List.getElem?_eq_some_iff.mp hj).1] at z9
      exact z9.at fun o e => up _ o (Ne.symm (D.zit hq).1) e
  · -- it is held
    rw [if_neg (by decide)]
    have m0 : Mid false s.heap h1 z TI TO qs i 0 vals := by
      obtain ⟨ws, w1, w2⟩ := Z.to
      refine ⟨⟨_, _, hz1, fun _ => hf⟩, ⟨ws, w1, hs1.extBut _ _ (Ne.symm zo) w2, fun e => by cases e⟩, fun j q hj => ?_, hs1.1, fun c o c1 _ _ e => hs1.extBut _ _ c1 e⟩
      have mq := List.mem_of_getElem? hj
      rw [if_neg (Nat.not_lt_zero _)]
      exact (Z.it q mq).at fun o e => hs1.extBut _ _ (Ne.symm (D.zit mq).1) e
    show wpAny _ _ (forIn ((itsOf qs).map Value.ref).toArray (none, #[]) _ >>= _) _ _ _
    rw [← Array.forIn_toList]
    refine wpAny_bind (wp_forIn_all (fun k b s' => b = (none, (vals.take k).toArray) ∧ ∃ h, s' = { s with heap := h } ∧ Mid false s.heap h z TI TO qs i k vals) _ 0 _ _ _ ⟨rfl, h1, rfl, m0⟩ (fun j x b s' hx hI => ?_) (fun b s' hI => ?_))
    · obtain ⟨rfl, h, rfl, m⟩ := hI
      rw [Nat.zero_add] at m ⊢
      rw [List.toList_toArray] at hx
      obtain ⟨q, hq, rfl⟩ := gets hx
      obtain ⟨items, y, hs, hy, hvy⟩ := sq hq m
      have hit := m.it j q hq
      rw [if_neg (Nat.lt_irrefl _)] at hit
      refine wpAny_bind (wpAny_holding ?_)
      show wpAny _ _ (Builtin.SmallTypes.nextOf (.ref q.2.1) >>= _) _ _ _
      refine wpAny_bind (nextOf_item hit hs hy fun h2 hit2 hb2 => wpAny_pure ?_)
      refine wpAny_pure ⟨_, rfl, ?_, _, rfl, m.drawn D hq hit2 hb2 rfl⟩
      rw [List.take_add_one, hvy]
      simp
    · obtain ⟨rfl, h, rfl, m⟩ := hI
      rw [Nat.zero_add, List.toList_toArray, List.length_map, List.length_map] at m ⊢
      rw [List.take_of_length_le (by omega)]
      show wpAny _ _ (newTuple (vals.toArray.toList) >>= _) _ _ _
      rw [List.toList_toArray]
      refine wpAny_bind (wpAny_newTuple ?_ (by rw [hl]; exact alls))
      refine wpAny_pure ⟨_, rfl, ?_⟩
      obtain ⟨g0, g2, hz5, hg⟩ := m.hz
      obtain ⟨ws, w1, w2, w3⟩ := m.to
      have up : ∀ c o, h.get? c = some o → (h.push { cls := .type "tuple", data := .seq vals.toArray }).get? c = some o := fun c o e => Heap.get?_push_of_some _ e
      have hT8 : (h.push { cls := .type "tuple", data := .seq vals.toArray }).get? h.objs.size = some (tupO vals.toArray) := Heap.get?_push_size _ rfl
      have h8s : (h.push { cls := .type "tuple", data := .seq vals.toArray }).objs.size = h.objs.size + 1 := Heap.size_push ..
      have hsz := m.sz
      show Q (.ref h.objs.size) _
      rw [hsz] at hT8 h8s ⊢
      refine hQ _ g0 g2 ⟨up _ _ hz5, up _ _ (m.keep _ _ (Ne.symm zi) io tin Z.ti), ⟨ws, w1, up _ _ w2⟩, fun q hq => ?_⟩ (hg rfl) hT8 h8s fun c o c1 c2 c3 e => up c o (m.keep c o c1 c2 c3 e)
      obtain ⟨j, hj⟩ := List.mem_iff_getElem?.mp hq
      have z9 := m.it j q hj
      rw [if_pos (List.getElem?_eq_some_iff.mp hj).1] at z9
      exact z9.at fun o e => up _ o e
/-- the first one has ended -/
theorem zip_end {q : Bool × Addr × Addr} {qr : List (Bool × Addr × Addr)} {items : Array Value} {Q : Fin → Shared → Prop} (hh : A.handled = none) (D : Apart z TI TO (q :: qr)) (Z : Zp s.heap z TI TO (q :: qr) i f0 f1) (hf : f0 = .none ∨ ∃ T : Addr, f0 = rawInt T)
    (hs : SQ q.1 s.heap q.2.2 items) (hx : items[i]? = none)
    (hE : ∀ h' e, (∀ c o, c ≠ z → c ∉ itsOf (q :: qr) → s.heap.get? c = some o → h'.get? c = some o) → (∃ o, h'.get? e = some o ∧ o.cls = .type "StopIteration") → E (.ref e) { s with heap := h' }) :
    wpAny (model prog w) A (Builtin.«zip.__next__» ⟨[.ref z], []⟩) Q E s := by
  have mq : q ∈ q :: qr := List.mem_cons_self
  have qz := (D.zit mq).1
  have lz := (D.seq mq).1
  have notin : ∀ {c : Addr}, c ∉ itsOf (q :: qr) → c ≠ q.2.1 := fun {c} h e => h (by rw [e]; exact List.mem_map.mpr ⟨q, mq, rfl⟩)
  show wpAny _ _ (field (.ref z) 2 >>= _) _ _ _
  refine wpAny_bind (wpAny_field Z.hz rfl (x := .bool false) rfl ?_)
  show wpAny _ _ (field (.ref z) 3 >>= _) _ _ _
  refine wpAny_bind (wpAny_field Z.hz rfl (x := .ref TI) rfl ?_)
  refine wpAny_bind (wpAny_seqItems Z.ti rfl ?_)
  show wpAny _ _ (if (((itsOf (q :: qr)).map Value.ref).toArray.isEmpty) = true then _ else _) _ _ _
  rw [if_neg (by simp)]
  show wpAny _ _ (Builtin.SmallTypes.ownedTupleIsFree (.ref z) >>= _) _ _ _
  refine wpAny_bind (wpAny_mono (Q := fun b s1 => (b = true ∧ s1 = s) ∨ (b = false ∧ ∃ h1 g1, s1 = { s with heap := h1 } ∧ h1.get? z = some (zipO f0 g1 TI TO) ∧ Heap.SameBut z s.heap h1)) ?look (fun b s1 hb => ?_) (fun _ _ e => e))
  case look =>
    unfold Builtin.SmallTypes.ownedTupleIsFree
    refine wpAny_bind (wpAny_field Z.hz rfl (x := f0) rfl ?_)
    rcases hf with rfl | ⟨T, rfl⟩
    · exact wpAny_pure (.inl ⟨rfl, rfl⟩)
    · show wpAny _ _ (loadIfAlive (Int.toNat (T : Int)) >>= _) _ _ _
      refine wpAny_bind (wp_loadIfAlive ?_)
      cases s.heap.get? (Int.toNat (T : Int)) with
      | none => exact wpAny_pure (.inl ⟨rfl, rfl⟩)
      | some o =>
        show wpAny _ _ (field (.ref z) 1 >>= _) _ _ _
        refine wpAny_bind (wpAny_field Z.hz rfl (x := f1) rfl ?_)
        by_cases hb : (f1 != Value.bool true) = true
        · rw [if_pos hb]
          refine wpAny_bind (wpAny_setField_rec Z.hz (by simp) fun h1 hz1 hs1 => wpAny_pure (.inr ⟨rfl, h1, .bool true, rfl, hz1, hs1⟩))
        · rw [if_neg hb]
          exact wpAny_pure (.inr ⟨rfl, s.heap, f1, rfl, Z.hz, rfl, fun _ _ => rfl⟩)
  rcases hb with ⟨rfl, rfl⟩ | ⟨rfl, h1, g1, rfl, hz1, hs1⟩
  · rw [if_pos rfl]
    refine wpAny_bind (wpAny_rule ?_)
    refine wpAny_bind (wpAny_field Z.hz rfl (x := .ref TO) rfl ?_)
    refine wpAny_bind (wpAny_setField_rec Z.hz (by simp) fun h1 hz1 hs1 => ?_)
    refine wpAny_bind ?_
    rw [List.toList_toArray]
    simp only [itsOf, List.map_cons, List.zipIdx_cons, List.forIn_cons]
    refine wpAny_bind (wpAny_bind (wpAny_onRaise ?_))
    show wpAny _ _ (Builtin.SmallTypes.nextOf (.ref q.2.1) >>= _) _ _ _
    refine wpAny_bind (nextOf_end hh ((Z.it q mq).at fun o e => hs1.extBut _ _ (Ne.symm qz) e) (hs.at fun o e => hs1.extBut _ _ lz e) hx fun h2 e hs2 he => ?_)
    obtain ⟨oe, hoe, hce⟩ := he
    have hz2 := hs2 _ _ qz hz1
    have hez : e ≠ z := fun x => by subst x; rw [hz2] at hoe; cases hoe; simp at hce
    exact wpAny_setField_rec hz2 (by simp) fun h3 _ hs3 => hE h3 e (fun c o c1 c2 x => hs3.extBut _ _ c1 (hs2 _ _ (notin c2) (hs1.extBut _ _ c1 x))) ⟨oe, hs3.extBut _ _ hez hoe, hce⟩
  · rw [if_neg (by decide)]
    show wpAny _ _ (forIn ((itsOf (q :: qr)).map Value.ref).toArray (none, #[]) _ >>= _) _ _ _
    rw [← Array.forIn_toList, List.toList_toArray]
    refine wpAny_bind ?_
    simp only [itsOf, List.map_cons, List.forIn_cons]
    refine wpAny_bind (wpAny_bind (wpAny_holding ?_))
    show wpAny _ _ (Builtin.SmallTypes.nextOf (.ref q.2.1) >>= _) _ _ _
    exact wpAny_bind (nextOf_end hh ((Z.it q mq).at fun o e => hs1.extBut _ _ (Ne.symm qz) e) (hs.at fun o e => hs1.extBut _ _ lz e) hx fun h2 e hs2 he => hE h2 e (fun c o c1 c2 x => hs2 _ _ (notin c2) (hs1.extBut _ _ c1 x)) he)
theorem pyNext_zip_item {vals : List Value} {Q : Option Value → Shared → Prop} (D : Apart z TI TO qs) (Z : Zp s.heap z TI TO qs i f0 f1) (hf : f0 = .none ∨ ∃ T : Addr, f0 = rawInt T) (hv : Due s.heap qs i vals)
    (hQ : ∀ h' g0 g1, Zp h' z TI TO qs (i + 1) g0 g1 → (g0 = .none ∨ ∃ T : Addr, g0 = rawInt T) → h'.get? s.heap.objs.size = some (tupO vals.toArray) → h'.objs.size = s.heap.objs.size + 1 →
      (∀ c o, c ≠ z → c ≠ TO → c ∉ itsOf qs → s.heap.get? c = some o → h'.get? c = some o) → Q (some (.ref s.heap.objs.size)) { s with heap := h' }) :
    wpAny (model prog w) A (pyNext (.ref z)) Q E s := by
  have hT : s.TypeIs (.ref z) "zip" := ⟨_, Z.hz, rfl⟩
  unfold pyNext
  exact wpAny_bind (wpAny_attempt (wpAny_callSpecial?_slot (name := Str.ofString "__next__") hT F.slot_zip_next
    (wpAny_call_entry F.slot_zip_next hT F.entry_zip_next
      (zip_item D Z hf hv fun h' g0 g1 a1 a2 a3 a4 a5 => wpAny_pure (hQ h' g0 g1 a1 a2 a3 a4 a5)) (F.args_zip_next_1 _))))
theorem pyNext_zip_end {q : Bool × Addr × Addr} {qr : List (Bool × Addr × Addr)} {items : Array Value} {Q : Option Value → Shared → Prop} (hh : A.handled = none) (D : Apart z TI TO (q :: qr)) (Z : Zp s.heap z TI TO (q :: qr) i f0 f1) (hf : f0 = .none ∨ ∃ T : Addr, f0 = rawInt T)
    (hs : SQ q.1 s.heap q.2.2 items) (hx : items[i]? = none)
    (hQ : ∀ h', (∀ c o, c ≠ z → c ∉ itsOf (q :: qr) → s.heap.get? c = some o → h'.get? c = some o) → Q none { s with heap := h' }) : wpAny (model prog w) A (pyNext (.ref z)) Q E s := by
  have hT : s.TypeIs (.ref z) "zip" := ⟨_, Z.hz, rfl⟩
  unfold pyNext
  refine wpAny_bind (wpAny_attempt (wpAny_callSpecial?_slot (name := Str.ofString "__next__") hT F.slot_zip_next
    (wpAny_call_entry F.slot_zip_next hT F.entry_zip_next (zip_end hh D Z hf hs hx fun h' e hk he => ?_) (F.args_zip_next_1 _))))
  obtain ⟨o, ho, hc⟩ := he
  refine wpAny_bind (wpAny_isInstance (T := "StopIteration") (b := true) ⟨o, ho, hc⟩ isSubtype_stop ?_)
  exact wpAny_pure (hQ _ hk)
theorem pyIter_zip {Q : Value → Shared → Prop} (hz : s.heap.get? z = some (zipO f0 f1 TI TO)) (h : Q (.ref z) s) : wpAny (model prog w) A (pyIter (.ref z)) Q E s := by
  have hT : s.TypeIs (.ref z) "zip" := ⟨_, hz, rfl⟩
  refine wpAny_pyIter_slot hT F.slot_zip_iter (wpAny_call_entry F.slot_zip_iter hT F.entry_zip_iter ?_ (F.args_zip_iter_1 _))
  show wpAny _ _ (ret (.ref z)) _ _ s
  exact wpAny_pure ⟨_, rfl, "zip", _, hT, F.slot_zip_next.lookup, h⟩
theorem go_zip {tg : Expr} {u : Value} {Q : Unit → Shared → Prop} (hz : s.heap.get? z = some (zipO f0 f1 TI TO)) (hQ : ∀ h' g0, (g0 = f0 ∨ g0 = .none) → h'.get? z = some (zipO g0 f1 TI TO) → Heap.SameBut z s.heap h' → Q () { s with heap := h' }) :
    wpAny (model prog w) A (letOwnedTupleGo tg (.ref z) u) Q E s := by
  have same : Q () s := hQ s.heap f0 (.inl rfl) hz ⟨rfl, fun _ _ => rfl⟩
  unfold letOwnedTupleGo
  cases tg <;> first
    | exact wpAny_pure same
    | (cases u <;> first
        | exact wpAny_pure same
        | (refine wpAny_bind (wpAny_load hz ?_)
           show wpAny _ _ (if (["enumerate", "zip", "dict_itemiterator", "dict_reverseitemiterator", "odict_iterator", "itertools.zip_longest", "itertools.pairwise"].contains "zip" && (#[f0, f1, Value.bool false, .ref TI, .ref TO] : Array Value)[0]? == some (rawInt _)) = true then _ else _) Q E s
           split
           · refine wpAny_bind (wpAny_rule ?_)
             show wpAny _ _ (setField (.ref z) 0 .none) Q E s
             exact wpAny_setField_rec hz (by simp) fun h' hz' hs' => hQ h' .none (.inr rfl) hz' hs'
           · exact wpAny_pure same))
end
end L2

set_option Elab.async false
set_option linter.all false
set_option maxRecDepth 100000
set_option maxHeartbeats 4000000
namespace L2
open PySem PySem.Spec PyProof.Rows
/-! ### zip made -/
theorem typeCall_zip3 (a b c : Value) : checkTypeCall "zip" ⟨[a, b, c], []⟩ = pure () := by kernel_rfl
theorem newCall_zip3 (a b c : Value) : checkBuiltinCall "zip.__new__" ⟨[.type "zip", a, b, c], []⟩ = pure () := by kernel_rfl
theorem args_objinit4 (a b c d : Value) : argsOk "object.__init__" ⟨[a, b, c, d], []⟩ := by
  unfold argsOk; rw [signature?_of (id := "object.__init__") (n := ['_', '_', 't', 'i', 'n', 'i', '_', '_']) (o := ['t', 'c', 'e', 'j', 'b', 'o']) (by kernel_rfl) F.owner_object]; kernel_rfl
abbrev itO (b : Bool) (a : Addr) : Obj := { cls := .type (itT b), data := .fields #[.ref a, .int 0 0] }
theorem SI.new {b : Bool} {h : Heap} {it a : Addr} (e : h.get? it = some (itO b a)) : SI b h it a 0 := by
  cases b with
  | true => exact ⟨_, e, rfl, rfl⟩
  | false => exact ⟨_, e, rfl, rfl⟩
abbrev zh1 (h : Heap) (b1 : Bool) (l1 : Addr) : Heap := h.push (itO b1 l1)
abbrev zh2 (h : Heap) (b1 b2 : Bool) (l1 l2 : Addr) : Heap := (zh1 h b1 l1).push (itO b2 l2)
abbrev zh3 (h : Heap) (b1 b2 b3 : Bool) (l1 l2 l3 : Addr) : Heap := (zh2 h b1 b2 l1 l2).push (itO b3 l3)
abbrev zt2 (h : Heap) (b1 b2 : Bool) (l1 l2 : Addr) : Heap := (zh2 h b1 b2 l1 l2).push (tupO #[.ref h.objs.size, .ref (zh1 h b1 l1).objs.size])
abbrev zo2 (h : Heap) (b1 b2 : Bool) (l1 l2 : Addr) : Heap := (zt2 h b1 b2 l1 l2).push (tupO #[.none, .none])
abbrev zz2 (h : Heap) (b1 b2 : Bool) (l1 l2 : Addr) : Heap := (zo2 h b1 b2 l1 l2).push (zipO .none (.bool false) (zh2 h b1 b2 l1 l2).objs.size (zt2 h b1 b2 l1 l2).objs.size)
abbrev zt3 (h : Heap) (b1 b2 b3 : Bool) (l1 l2 l3 : Addr) : Heap := (zh3 h b1 b2 b3 l1 l2 l3).push (tupO #[.ref h.objs.size, .ref (zh1 h b1 l1).objs.size, .ref (zh2 h b1 b2 l1 l2).objs.size])
abbrev zo3 (h : Heap) (b1 b2 b3 : Bool) (l1 l2 l3 : Addr) : Heap := (zt3 h b1 b2 b3 l1 l2 l3).push (tupO #[.none, .none, .none])
abbrev zz3 (h : Heap) (b1 b2 b3 : Bool) (l1 l2 l3 : Addr) : Heap := (zo3 h b1 b2 b3 l1 l2 l3).push (zipO .none (.bool false) (zh3 h b1 b2 b3 l1 l2 l3).objs.size (zt3 h b1 b2 b3 l1 l2 l3).objs.size)
theorem meets_zip2 (b1 b2 : Bool) (l1 l2 : Addr) (xs ys : Array Value) :
    Meets (Builtin.«zip.__new__» ⟨[.type "zip", .ref l1, .ref l2], []⟩) (fun _ R s => SQ b1 s.heap l1 xs ∧ SQ b2 s.heap l2 ys ∧ R (.ok (.ret (.ref (zo2 s.heap b1 b2 l1 l2).objs.size))) { s with heap := zz2 s.heap b1 b2 l1 l2 }) :=
  .of_wp fun prog w A R s h => by
    obtain ⟨hp, g, d, tk, os⟩ := s; obtain ⟨hl1, hl2, h⟩ := h
    have hsub := sub_zip
    have hL1 : SQ b1 (Shared.heap ⟨hp, g, d, tk, os⟩) l1 xs := hl1
    have hL2 : SQ b2 (Shared.heap ⟨hp.push (itO b1 l1), g, d, tk, os⟩) l2 ys := hl2.at fun o e => Heap.get?_push_of_some _ e
    wp_walk using pyIter_seq hL1, pyIter_seq hL2
    exact ⟨_, rfl, h⟩
theorem meets_zip3 (b1 b2 b3 : Bool) (l1 l2 l3 : Addr) (xs ys zs : Array Value) :
    Meets (Builtin.«zip.__new__» ⟨[.type "zip", .ref l1, .ref l2, .ref l3], []⟩) (fun _ R s => SQ b1 s.heap l1 xs ∧ SQ b2 s.heap l2 ys ∧ SQ b3 s.heap l3 zs ∧ R (.ok (.ret (.ref (zo3 s.heap b1 b2 b3 l1 l2 l3).objs.size))) { s with heap := zz3 s.heap b1 b2 b3 l1 l2 l3 }) :=
  .of_wp fun prog w A R s h => by
    obtain ⟨hp, g, d, tk, os⟩ := s; obtain ⟨hl1, hl2, hl3, h⟩ := h
    have hsub := sub_zip
    have hL1 : SQ b1 (Shared.heap ⟨hp, g, d, tk, os⟩) l1 xs := hl1
    have hL2 : SQ b2 (Shared.heap ⟨hp.push (itO b1 l1), g, d, tk, os⟩) l2 ys := hl2.at fun o e => Heap.get?_push_of_some _ e
    have hL3 : SQ b3 (Shared.heap ⟨(hp.push (itO b1 l1)).push (itO b2 l2), g, d, tk, os⟩) l3 zs := hl3.at fun o e => Heap.get?_push_of_some _ (Heap.get?_push_of_some _ e)
    wp_walk using pyIter_seq hL1, pyIter_seq hL2, pyIter_seq hL3
    exact ⟨_, rfl, h⟩
section
variable {prog : Program} {w : World} {A : Around} {E : Value → Shared → Prop} {s : Shared}
theorem call_zip2 {b1 b2 : Bool} {l1 l2 : Addr} {xs ys : Array Value} {Q : Value → Shared → Prop} (hl1 : SQ b1 s.heap l1 xs) (hl2 : SQ b2 s.heap l2 ys)
    (h : ∀ h', Zp h' (s.heap.objs.size + 4) (s.heap.objs.size + 2) (s.heap.objs.size + 3) [(b1, s.heap.objs.size, l1), (b2, s.heap.objs.size + 1, l2)] 0 .none (.bool false) → 
      (∀ c o, s.heap.get? c = some o → h'.get? c = some o) → Q (.ref (s.heap.objs.size + 4)) { s with heap := h' }) :
    wpAny (model prog w) A (call (.type "zip") [.ref l1, .ref l2]) Q E s := by
  refine callType_new F.called_zip (by decide) (F.typeCall_zip_2 _ _) (F.newCall_zip_2 _ _) (fun obj => F.args_object_init_3 obj _ _) F.entry_zip_new
    (meets_zip2 b1 b2 l1 l2 xs ys) ⟨hl1, hl2, ?_⟩
  have z1 : (zh1 s.heap b1 l1).objs.size = s.heap.objs.size + 1 := Heap.size_push ..
  have z2 : (zh2 s.heap b1 b2 l1 l2).objs.size = s.heap.objs.size + 2 := by rw [Heap.size_push, z1]
  have z3 : (zt2 s.heap b1 b2 l1 l2).objs.size = s.heap.objs.size + 3 := by rw [Heap.size_push, z2]
  have z4 : (zo2 s.heap b1 b2 l1 l2).objs.size = s.heap.objs.size + 4 := by rw [Heap.size_push, z3]
  have g5 : (zz2 s.heap b1 b2 l1 l2).get? (zo2 s.heap b1 b2 l1 l2).objs.size = some _ := Heap.get?_push_size _ rfl
  have g4 : (zz2 s.heap b1 b2 l1 l2).get? (zt2 s.heap b1 b2 l1 l2).objs.size = some _ := Heap.get?_push_of_some _ (Heap.get?_push_size _ rfl)
  have g3 : (zz2 s.heap b1 b2 l1 l2).get? (zh2 s.heap b1 b2 l1 l2).objs.size = some _ := Heap.get?_push_of_some _ (Heap.get?_push_of_some _ (Heap.get?_push_size _ rfl))
  have g2 : (zz2 s.heap b1 b2 l1 l2).get? (zh1 s.heap b1 l1).objs.size = some (itO b2 l2) := Heap.get?_push_of_some _ (Heap.get?_push_of_some _ (Heap.get?_push_of_some _ (Heap.get?_push_size _ rfl)))
  have g1 : (zz2 s.heap b1 b2 l1 l2).get? s.heap.objs.size = some (itO b1 l1) := Heap.get?_push_of_some _ (Heap.get?_push_of_some _ (Heap.get?_push_of_some _ (Heap.get?_push_of_some _ (Heap.get?_push_size _ rfl))))
  show _ ∧ _
  rw [z2, z3, z4] at g5
  rw [z1, z2] at g3
  rw [z3] at g4
  rw [z1] at g2
  rw [z4]
  refine ⟨⟨_, g5, rfl⟩, h _ ⟨g5, g3, ⟨_, rfl, g4⟩, fun q hq => ?_⟩ fun c o x => ?_⟩
  · rcases List.mem_cons.mp hq with rfl | hq
    · exact .new g1
    · rw [List.mem_singleton.mp hq]; exact .new g2
  · exact Heap.get?_push_of_some _ (Heap.get?_push_of_some _ (Heap.get?_push_of_some _ (Heap.get?_push_of_some _ (Heap.get?_push_of_some _ x))))
theorem call_zip3 {b1 b2 b3 : Bool} {l1 l2 l3 : Addr} {xs ys zs : Array Value} {Q : Value → Shared → Prop} (hl1 : SQ b1 s.heap l1 xs) (hl2 : SQ b2 s.heap l2 ys) (hl3 : SQ b3 s.heap l3 zs)
    (h : ∀ h', Zp h' (s.heap.objs.size + 5) (s.heap.objs.size + 3) (s.heap.objs.size + 4) [(b1, s.heap.objs.size, l1), (b2, s.heap.objs.size + 1, l2), (b3, s.heap.objs.size + 2, l3)] 0 .none (.bool false) → 
      (∀ c o, s.heap.get? c = some o → h'.get? c = some o) → Q (.ref (s.heap.objs.size + 5)) { s with heap := h' }) :
    wpAny (model prog w) A (call (.type "zip") [.ref l1, .ref l2, .ref l3]) Q E s := by
  refine callType_new F.called_zip (by decide) (typeCall_zip3 _ _ _) (newCall_zip3 _ _ _) (fun obj => args_objinit4 obj _ _ _) F.entry_zip_new
    (meets_zip3 b1 b2 b3 l1 l2 l3 xs ys zs) ⟨hl1, hl2, hl3, ?_⟩
  have z1 : (zh1 s.heap b1 l1).objs.size = s.heap.objs.size + 1 := Heap.size_push ..
  have z2 : (zh2 s.heap b1 b2 l1 l2).objs.size = s.heap.objs.size + 2 := by rw [Heap.size_push, z1]
  have z3 : (zh3 s.heap b1 b2 b3 l1 l2 l3).objs.size = s.heap.objs.size + 3 := by rw [Heap.size_push, z2]
  have z4 : (zt3 s.heap b1 b2 b3 l1 l2 l3).objs.size = s.heap.objs.size + 4 := by rw [Heap.size_push, z3]
  have z5 : (zo3 s.heap b1 b2 b3 l1 l2 l3).objs.size = s.heap.objs.size + 5 := by rw [Heap.size_push, z4]
  have g6 : (zz3 s.heap b1 b2 b3 l1 l2 l3).get? (zo3 s.heap b1 b2 b3 l1 l2 l3).objs.size = some _ := Heap.get?_push_size _ rfl
  have g5 : (zz3 s.heap b1 b2 b3 l1 l2 l3).get? (zt3 s.heap b1 b2 b3 l1 l2 l3).objs.size = some _ := Heap.get?_push_of_some _ (Heap.get?_push_size _ rfl)
  have g4 : (zz3 s.heap b1 b2 b3 l1 l2 l3).get? (zh3 s.heap b1 b2 b3 l1 l2 l3).objs.size = some _ := Heap.get?_push_of_some _ (Heap.get?_push_of_some _ (Heap.get?_push_size _ rfl))
  have g3 : (zz3 s.heap b1 b2 b3 l1 l2 l3).get? (zh2 s.heap b1 b2 l1 l2).objs.size = some (itO b3 l3) := Heap.get?_push_of_some _ (Heap.get?_push_of_some _ (Heap.get?_push_of_some _ (Heap.get?_push_size _ rfl)))
  have g2 : (zz3 s.heap b1 b2 b3 l1 l2 l3).get? (zh1 s.heap b1 l1).objs.size = some (itO b2 l2) := Heap.get?_push_of_some _ (Heap.get?_push_of_some _ (Heap.get?_push_of_some _ (Heap.get?_push_of_some _ (Heap.get?_push_size _ rfl))))
  have g1 : (zz3 s.heap b1 b2 b3 l1 l2 l3).get? s.heap.objs.size = some (itO b1 l1) := Heap.get?_push_of_some _ (Heap.get?_push_of_some _ (Heap.get?_push_of_some _ (Heap.get?_push_of_some _ (Heap.get?_push_of_some _ (Heap.get?_push_size _ rfl)))))
  show _ ∧ _
  rw [z3, z4, z5] at g6
  rw [z1, z2, z3] at g4
  rw [z4] at g5
  rw [z2] at g3
  rw [z1] at g2
  rw [z5]
  refine ⟨⟨_, g6, rfl⟩, h _ ⟨g6, g4, ⟨_, rfl, g5⟩, fun q hq => ?_⟩ fun c o x => ?_⟩
  · rcases List.mem_cons.mp hq with rfl | hq
    · exact .new g1
    · rcases List.mem_cons.mp hq with rfl | hq
      · exact .new g2
      · rw [List.mem_singleton.mp hq]; exact .new g3
  · exact Heap.get?_push_of_some _ (Heap.get?_push_of_some _ (Heap.get?_push_of_some _ (Heap.get?_push_of_some _ (Heap.get?_push_of_some _ (Heap.get?_push_of_some _ x)))))
end
/-! ### the layer's rules -/
def SqB (K : PySem.W.Frag) : Bool → Hp → Addr → List V → Prop
  | true, H, a, xs => SqT K H a xs
  | false, H, a, xs => SqL K H a xs
def Itz (K : PySem.W.Frag) (ps : List (Bool × Addr)) : It :=
  ⟨fun i H => ∀ p ∈ ps, ∃ xs x, SqB K p.1 H p.2 xs ∧ xs[i]? = some x, fun i H v H' => ∃ a ys, v = .ref a ∧ H a = none ∧ H' = upd H a (.tup ys) ∧ Paired (fun y p => ∀ xs, SqB K p.1 H p.2 xs → xs[i]? = some y) ys ps,
    fun i H => ∃ p xs, ps.head? = some p ∧ SqB K p.1 H p.2 xs ∧ xs.length ≤ i⟩
section
variable {X : Cx} {pins : List (Addr × Obj)} {σ : St} {H : Hp} {s : Shared} {h' : Heap}
theorem Inv.seqB {b : Bool} {a : Addr} {xs : List V} (I : Inv X pins σ H s) (h : SqB X.K b H a xs) : ∃ its : List Value, Vals xs its ∧ SQ b s.heap a its.toArray := by
  cases b with
  | true => obtain ⟨its, rv, p, _⟩ := I.tuple h; exact ⟨its, rv, p⟩
  | false => obtain ⟨its, rv, p, _⟩ := I.list h; exact ⟨its, rv, p.isList⟩
theorem Inv.seqB_inj {b : Bool} {a : Addr} {xs ys : List V} (I : Inv X pins σ H s) (h : SqB X.K b H a xs) (h2 : SqB X.K b H a ys) : xs = ys := by
  cases b with
  | true => exact I.tuple_inj h h2
  | false => exact I.list_inj h h2
theorem Inv.turnedN {t' : Nat} {fp : List Addr} (I : Inv X pins σ H s) (k : ∀ b o, b ∉ fp → s.heap.get? b = some o → h'.get? b = some o) (hf : ∀ b ∈ fp, FpOk X pins H b) : Inv X pins σ H { s with heap := h', toks := t' } := by
  have ne : ∀ b u, H b = some u → b ∉ fp := fun b u e z => by rw [(hf b z).1] at e; cases e
  have nl : X.env.locals ∉ fp := fun z => (hf _ z).2.1 rfl
  refine I.step (g' := s.gens) (d' := s.drawn) (ch := fp) (fun b hb => ?_) (fun b o _ _ hc q _ => k b o hc q) (fun b o _ _ hc q _ => ⟨o.slots, k b o hc q⟩) (fun _ _ _ _ n => n)
    (fun b o hc q => ⟨o, k b o hc q⟩) (fun _ _ e => e) (fun _ _ _ e => e) (fun b ps e => ⟨#[], by rw [e]; simp⟩) (fun m hm => ?_) (fun b u q => ?_) I.bare
  · obtain ⟨f0, f1, f2, f3, f4, f5⟩ := hf b hb
    exact ⟨f3, f1, f4, f5⟩
  · obtain ⟨o, es, ep, ho, r⟩ := hm
    exact ⟨o, es, ep, k _ o nl ho, r⟩
  · refine (I.hok b u q).stay (fun c v hc q2 => k c v ?_ q2) (fun _ q => q) fun _ _ q => q
    rcases hc with z | z
    · rw [z]; exact ne b u q
    · exact ne c _ z
theorem Inv.turnedNT {t' : Nat} {fp : List Addr} {ys : List V} {its : List Value} (I : Inv X pins σ H s) (k : ∀ b o, b ∉ fp → s.heap.get? b = some o → h'.get? b = some o) (hf : ∀ b ∈ fp, FpOk X pins H b)
    (ht : IsTup h' s.heap.objs.size its.toArray) (hv : Vals ys its) (hz : ys.length ≤ sizeLine) : Inv X pins σ (upd H s.heap.objs.size (.tup ys)) { s with heap := h', toks := t' } := by
  have hn : H s.heap.objs.size = none := I.hok.fresh (Nat.le_refl _)
  have ne : ∀ b u, H b = some u → b ∉ fp := fun b u e z => by rw [(hf b z).1] at e; cases e
  have nl : X.env.locals ∉ fp := fun z => (hf _ z).2.1 rfl
  refine I.step (g' := s.gens) (d' := s.drawn) (ch := fp) (fun b hb => ?_) (fun b o _ _ hc q _ => k b o hc q) (fun b o _ _ hc q _ => ⟨o.slots, k b o hc q⟩) (fun b o _ q n => ?_)
    (fun b o hc q => ⟨o, k b o hc q⟩) (fun b xs q => ?_) (fun b _ _ q => ?_) (fun b ps q => ⟨#[], ?_⟩) (fun m hm => ?_) (fun b u q => ?_) I.bare
  · obtain ⟨f0, f1, f2, f3, f4, f5⟩ := hf b hb
    exact ⟨f3, f1, f4, f5⟩
  · rw [upd_ne (Nat.ne_of_lt (Heap.lt_size q))]; exact n
  · rw [upd_ne (ne_of_none q hn)]; exact q
  · rw [upd_ne (ne_of_none q hn)]; exact q
  · rw [upd_ne (ne_of_none q hn), q]; simp
  · obtain ⟨o, es, ep, ho, r⟩ := hm
    exact ⟨o, es, ep, k _ o nl ho, r⟩
  · by_cases hb : b = s.heap.objs.size
    · subst hb
      rw [upd_same] at q
      cases q
      exact ⟨hz, its, hv, ht⟩
    · rw [upd_ne hb] at q
      refine (I.hok b u q).stay (fun c v hc q2 => k c v ?_ q2) (fun c q => by rw [upd_ne (ne_of_none q hn)]; exact q) fun c xs q => by rw [upd_ne (ne_of_none q hn)]; exact q
      rcases hc with z | z
      · rw [z]; exact ne b u q
      · exact ne c _ z
abbrev psOf (qs : List (Bool × Addr × Addr)) : List (Bool × Addr) := qs.map fun q => (q.1, q.2.2)
theorem due_of {i : Nat} (I : Inv X pins σ H s) : ∀ {qs : List (Bool × Addr × Addr)}, (∀ p ∈ psOf qs, ∃ xs x, SqB X.K p.1 H p.2 xs ∧ xs[i]? = some x) →
    ∃ us ys, Vals ys us ∧ Due s.heap qs i us ∧ Paired (fun y p => ∀ xs, SqB X.K p.1 H p.2 xs → xs[i]? = some y) ys (psOf qs)
  | [], _ => ⟨[], [], .nil, ⟨rfl, fun j q h => by simp at h⟩, .nil⟩
  | q :: qr, h => by
    obtain ⟨us, ys, v, ⟨d1, d2⟩, p⟩ := due_of I (qs := qr) fun p hp => h p (List.mem_cons_of_mem _ hp)
    obtain ⟨xs, x, hq, hx⟩ := h (q.1, q.2.2) List.mem_cons_self
    obtain ⟨its, rv, sq⟩ := I.seqB hq
    obtain ⟨u, hu, ru⟩ := rv.get hx
    refine ⟨u :: us, x :: ys, .cons ru v, ⟨by simp [d1], fun j r hj => ?_⟩, .cons (fun zs hz => by rw [I.seqB_inj hz hq]; exact hx) p⟩
    cases j with
    | zero => simp at hj; subst hj; exact ⟨_, u, sq, by simpa using hu, rfl⟩
    | succ j => exact d2 j r (by simpa using hj)
end
theorem turn_zip {P : Program} {w : World} {K : PySem.W.Frag} {tg : Expr} {z TI TO : Addr} {qs : List (Bool × Addr × Addr)} (D : Apart z TI TO qs) : Turn P w K tg (Itz K (psOf qs)) (z :: TI :: TO :: itsOf qs) z
    (fun i h => ∃ f0 f1, Zp h z TI TO qs i f0 f1 ∧ (f0 = .none ∨ ∃ T : Addr, f0 = rawInt T)) where
  mem := List.mem_cons_self
  obj := fun i h st b hb => by
    obtain ⟨f0, f1, Z, _⟩ := st
    rcases List.mem_cons.mp hb with e | hb
    · subst e; exact ⟨_, Z.hz, fun v z => by cases z⟩
    rcases List.mem_cons.mp hb with e | hb
    · subst e; exact ⟨_, Z.ti, fun v z => by cases z⟩
    rcases List.mem_cons.mp hb with e | hb
    · subst e
      obtain ⟨ws, _, h2⟩ := Z.to
      exact ⟨_, h2, fun v z => by cases z⟩
    · obtain ⟨q, hq, rfl⟩ := List.mem_map.mp hb
      exact (Z.it q hq).obj
  keep := fun i h h' st k => by
    obtain ⟨f0, f1, Z, f⟩ := st
    obtain ⟨ws, h1, h2⟩ := Z.to
    exact ⟨f0, f1, ⟨k _ (by simp) _ Z.hz, k _ (by simp) _ Z.ti, ⟨ws, h1, k _ (by simp) _ h2⟩, fun q hq => (Z.it q hq).at fun o e => k _ (by
      have m : q.2.1 ∈ itsOf qs := List.mem_map.mpr ⟨q, hq, rfl⟩
      simp [m]) o e⟩, f⟩
  item := by
    intro X hP hw hK hc i pins s σ H E I hf st hg
    subst hP hw hK
    obtain ⟨f0, f1, Z, f⟩ := st
    obtain ⟨us, ys, rv, du, pa⟩ := due_of I hg
    refine pyNext_zip_item D Z f du fun h1 g0 g1 Z1 hg1 ht hsz hk => ?_
    refine ⟨_, rfl, go_zip Z1.hz fun h2 k0 hk0 hz2 hs2 => ?_⟩
    have zlt : z < s.heap.objs.size := Heap.lt_size Z.hz
    have hlt : ∀ b ∈ (z :: TI :: TO :: itsOf qs), b < s.heap.objs.size := fun b hb => by
      rcases List.mem_cons.mp hb with e | hb
      · subst e; exact zlt
      rcases List.mem_cons.mp hb with e | hb
      · subst e; exact Heap.lt_size Z.ti
      rcases List.mem_cons.mp hb with e | hb
      · subst e
        obtain ⟨ws, _, h2⟩ := Z.to
        exact Heap.lt_size h2
      · obtain ⟨q, hq, rfl⟩ := List.mem_map.mp hb
        obtain ⟨o, e, _⟩ := (Z.it q hq).obj
        exact Heap.lt_size e
    have hk2 : ∀ b o, b ∉ (z :: TI :: TO :: itsOf qs) → s.heap.get? b = some o → h2.get? b = some o := fun b o nb e => hs2.extBut _ _ (fun x => nb (by rw [x]; simp)) (hk b o (fun x => nb (by rw [x]; simp)) (fun x => nb (by rw [x]; simp)) (fun x => nb (by simp [x])) e)
    have ht2 : h2.get? s.heap.objs.size = some (tupO us.toArray) := hs2.extBut _ _ (Nat.ne_of_gt zlt) ht
    obtain ⟨zi, zo, io⟩ := D.zz
    obtain ⟨ws, w1, w2⟩ := Z1.to
    refine ⟨.ref s.heap.objs.size, _, Inv.turnedNT (s := s) (t' := s.toks) I hk2 hf ⟨_, ht2, rfl, _, rfl⟩ rv ?_, rfl, ⟨_, ys, rfl, I.hok.fresh (Nat.le_refl _), rfl, pa⟩, ?_, fun b hb => ?_⟩
    · have e1 := rv.length
      have e2 := du.1
      have e3 := D.few
      exact small8 (by omega)
    · refine ⟨k0, g1, ⟨hz2, hs2.extBut _ _ (Ne.symm zi) Z1.ti, ⟨ws, w1, hs2.extBut _ _ (Ne.symm zo) w2⟩, fun q hq => (Z1.it q hq).at fun o e => hs2.extBut _ _ (Ne.symm (D.zit hq).1) e⟩, ?_⟩
      rcases hk0 with e | e
      · rw [e]; exact hg1
      · exact .inl e
    · rw [upd_ne (Nat.ne_of_lt (hlt b hb))]
      exact (hf b hb).1
  done := by
    intro X hP hw hK hc i pins s σ H E I hf st hg
    subst hP hw hK
    obtain ⟨f0, f1, Z, f⟩ := st
    obtain ⟨p, xs, hp, hq, hx⟩ := hg
    cases qs with
    | nil => cases hp
    | cons q qr =>
      have e : (q.1, q.2.2) = p := by simpa using hp
      subst e
      obtain ⟨its, rv, sq⟩ := I.seqB hq
      have hl := rv.length
      refine pyNext_zip_end (I.ok.hd hc) D Z f sq (by simp; omega) fun h' hk => ⟨rfl, I.turnedN (t' := s.toks) (fun b o nb e => hk b o (fun x => nb (by rw [x]; simp)) (fun x => nb (by
        have z := List.mem_cons_of_mem z (List.mem_cons_of_mem TI (List.mem_cons_of_mem TO x))
        exact z)) e) hf⟩
  self := fun _ _ _ _ _ st h => by
    obtain ⟨f0, f1, Z, _⟩ := st
    exact pyIter_zip Z.hz h
section
variable {X : Cx} {tg : Expr}
def iZip2 (K : PySem.W.Frag) (b1 b2 : Bool) (ta : TA) : TI := fun σ H R => ta σ H fun vs H1 => ∃ a b, vs = [.ref a, .ref b] ∧ (∃ xs, SqB K b1 H1 a xs) ∧ (∃ ys, SqB K b2 H1 b ys) ∧ R (Itz K [(b1, a), (b2, b)]) H1
def iZip3 (K : PySem.W.Frag) (b1 b2 b3 : Bool) (ta : TA) : TI := fun σ H R => ta σ H fun vs H1 => ∃ a b c, vs = [.ref a, .ref b, .ref c] ∧ (∃ xs, SqB K b1 H1 a xs) ∧ (∃ ys, SqB K b2 H1 b ys) ∧ (∃ zs, SqB K b3 H1 c zs) ∧ R (Itz K [(b1, a), (b2, b), (b3, c)]) H1
theorem Vals.three : ∀ {x y z : V} {us : List Value}, Vals [x, y, z] us → ∃ u v w, us = [u, v, w] ∧ RelV x u ∧ RelV y v ∧ RelV z w
  | _, _, _, _, .cons r (.cons q (.cons t .nil)) => ⟨_, _, _, rfl, r, q, t⟩
theorem pi_zip2 (b1 b2 : Bool) {e1 e2 : Expr} {ta : TA} {p pos : Pos} (hg : Gl X "zip") (hm : X.mg "zip" = none) (ha : PA X [e1, e2] ta)
    (he : starEach [e1, e2] X.env = (false, eval e1 X.env) :: starEach [e2] X.env := by rfl) (hpl : (backTo pos (starEach [e2] X.env)).any (·.1) = false := by rfl) : PI X tg (.Call (.Name "zip" p) [e1, e2] [] pos) (iZip2 X.K b1 b2 ta) := by
  intro pins s σ H R I h
  refine wpAny_Call_Name_kw (ld_blt I hg hm boot_zip ?_ (by decide) (by decide))
  refine PyProof.Rows.callWith_type1 (thn (ha pos pins s σ H _ I h) fun us s1 ⟨vs, H1, I1, r1, q1⟩ => ?_) he hpl
  obtain ⟨a, b, rfl, ⟨xs, hx⟩, ⟨ys, hy⟩, q⟩ := q1
  obtain ⟨u, v, rfl, ru, rv⟩ := r1.two
  cases ru
  cases rv
  obtain ⟨ix, rx, sx⟩ := I1.seqB hx
  obtain ⟨iy, ry, sy⟩ := I1.seqB hy
  have lx := sx.lt
  have ly := sy.lt
  refine call_zip2 sx sy fun h' Z hk => ?_
  have I2 : Inv X pins σ H1 { s1 with heap := h' } := I1.kept (t' := s1.toks) hk
  refine pyIter_zip Z.hz ?_
  refine ⟨s1.heap.objs.size + 4, _, _, _, H1, rfl, I2, turn_zip (z := s1.heap.objs.size + 4) (TI := s1.heap.objs.size + 2) (TO := s1.heap.objs.size + 3) (qs := [(b1, s1.heap.objs.size, a), (b2, s1.heap.objs.size + 1, b)]) ⟨?_, ?_, Nat.succ_pos _, by show (_ : List _).length ≤ 8; simp⟩, ⟨_, _, Z, .inl rfl⟩, fun b hb => ?_, q⟩
  · generalize s1.heap.objs.size = n
    have h : ∀ i j : Nat, i ≠ j → (n + i : Nat) ≠ n + j := fun i j h => by omega
    refine List.nodup_cons.mpr ⟨?_, List.nodup_cons.mpr ⟨?_, List.nodup_cons.mpr ⟨?_, List.nodup_cons.mpr ⟨?_, List.nodup_cons.mpr ⟨List.not_mem_nil, List.nodup_nil⟩⟩⟩⟩⟩ <;>
      (intro m; simp only [itsOf, List.map_cons, List.map_nil, List.mem_cons, List.not_mem_nil, or_false] at m; revert m; show ¬ _; unfold Addr; omega)
  · intro q hq m
    have hb : q.2.2 < s1.heap.objs.size := by
      rcases List.mem_cons.mp hq with rfl | hq
      · exact lx
      · rw [List.mem_singleton.mp hq]; exact ly
    have hm : s1.heap.objs.size ≤ q.2.2 := by
      simp only [itsOf, List.map_cons, List.map_nil, List.mem_cons, List.not_mem_nil, or_false] at m
      rcases m with m | m | m | m | m <;> rw [m] <;> first | exact Nat.le_add_right _ _ | exact Nat.le_refl _
    exact absurd hb (Nat.not_lt.mpr hm)
  · have hm : s1.heap.objs.size ≤ b := by
      simp only [itsOf, List.map_cons, List.map_nil, List.mem_cons, List.not_mem_nil, or_false] at hb
      rcases hb with m | m | m | m | m <;> rw [m] <;> first | exact Nat.le_add_right _ _ | exact Nat.le_refl _
    exact I1.fpOk hm (I1.hok.fresh hm)
theorem pi_zip3 (b1 b2 b3 : Bool) {e1 e2 e3 : Expr} {ta : TA} {p pos : Pos} (hg : Gl X "zip") (hm : X.mg "zip" = none) (ha : PA X [e1, e2, e3] ta)
    (he : starEach [e1, e2, e3] X.env = (false, eval e1 X.env) :: starEach [e2, e3] X.env := by rfl) (hpl : (backTo pos (starEach [e2, e3] X.env)).any (·.1) = false := by rfl) : PI X tg (.Call (.Name "zip" p) [e1, e2, e3] [] pos) (iZip3 X.K b1 b2 b3 ta) := by
  intro pins s σ H R I h
  refine wpAny_Call_Name_kw (ld_blt I hg hm boot_zip ?_ (by decide) (by decide))
  refine PyProof.Rows.callWith_type1 (thn (ha pos pins s σ H _ I h) fun us s1 ⟨vs, H1, I1, r1, q1⟩ => ?_) he hpl
  obtain ⟨a, b, c, rfl, ⟨xs, hx⟩, ⟨ys, hy⟩, ⟨zs, hz⟩, q⟩ := q1
  obtain ⟨u, v, w', rfl, ru, rv, rw'⟩ := r1.three
  cases ru
  cases rv
  cases rw'
  obtain ⟨ix, rx, sx⟩ := I1.seqB hx
  obtain ⟨iy, ry, sy⟩ := I1.seqB hy
  obtain ⟨iz, rz, sz⟩ := I1.seqB hz
  have lx := sx.lt
  have ly := sy.lt
  have lz := sz.lt
  refine call_zip3 sx sy sz fun h' Z hk => ?_
  have I2 : Inv X pins σ H1 { s1 with heap := h' } := I1.kept (t' := s1.toks) hk
  refine pyIter_zip Z.hz ?_
  refine ⟨s1.heap.objs.size + 5, _, _, _, H1, rfl, I2, turn_zip (z := s1.heap.objs.size + 5) (TI := s1.heap.objs.size + 3) (TO := s1.heap.objs.size + 4) (qs := [(b1, s1.heap.objs.size, a), (b2, s1.heap.objs.size + 1, b), (b3, s1.heap.objs.size + 2, c)]) ⟨?_, ?_, Nat.succ_pos _, by show (_ : List _).length ≤ 8; simp⟩, ⟨_, _, Z, .inl rfl⟩, fun b hb => ?_, q⟩
  · generalize s1.heap.objs.size = n
    refine List.nodup_cons.mpr ⟨?_, List.nodup_cons.mpr ⟨?_, List.nodup_cons.mpr ⟨?_, List.nodup_cons.mpr ⟨?_, List.nodup_cons.mpr ⟨?_, List.nodup_cons.mpr ⟨List.not_mem_nil, List.nodup_nil⟩⟩⟩⟩⟩⟩ <;>
      (intro m; simp only [itsOf, List.map_cons, List.map_nil, List.mem_cons, List.not_mem_nil, or_false] at m; revert m; show ¬ _; unfold Addr; omega)
  · intro q hq m
    have hb : q.2.2 < s1.heap.objs.size := by
      rcases List.mem_cons.mp hq with rfl | hq
      · exact lx
      rcases List.mem_cons.mp hq with rfl | hq
      · exact ly
      · rw [List.mem_singleton.mp hq]; exact lz
    have hm : s1.heap.objs.size ≤ q.2.2 := by
      simp only [itsOf, List.map_cons, List.map_nil, List.mem_cons, List.not_mem_nil, or_false] at m
      rcases m with m | m | m | m | m | m <;> rw [m] <;> first | exact Nat.le_add_right _ _ | exact Nat.le_refl _
    exact absurd hb (Nat.not_lt.mpr hm)
  · have hm : s1.heap.objs.size ≤ b := by
      simp only [itsOf, List.map_cons, List.map_nil, List.mem_cons, List.not_mem_nil, or_false] at hb
      rcases hb with m | m | m | m | m | m <;> rw [m] <;> first | exact Nat.le_add_right _ _ | exact Nat.le_refl _
    exact I1.fpOk hm (I1.hok.fresh hm)
/-- a for over zip of two, by what holds at turn i -/
theorem forW_zip2 {K : PySem.W.Frag} {b1 b2 : Bool} {a b : Addr} {xs ys : List V} {g : TG} {tb : TS} {D : Ends} {σ : St} {H : Hp} (hl : xs.length = ys.length) (Pv : Nat → St → Hp → Prop) (h0 : Pv 0 σ H) (hk : ∀ i σ H, i ≤ xs.length → Pv i σ H → SqB K b1 H a xs ∧ SqB K b2 H b ys)
    (hs : ∀ (i : Nat) x y p σ H, xs[i]? = some x → ys[i]? = some y → Pv i σ H → H p = none → g (.ref p) σ (upd H p (.tup [x, y])) fun σ2 H2 => tb { D with nx := Pv (i + 1), ct := Pv (i + 1), bk := D.nx } σ2 H2) (hd : ∀ σ H, Pv xs.length σ H → D.nx σ H) : ForW (Itz K [(b1, a), (b2, b)]) g tb D σ H := by
  refine ⟨fun i m σ H => m = xs.length - i ∧ i ≤ xs.length ∧ Pv i σ H, ⟨xs.length, by simp, Nat.zero_le _, h0⟩, ?_⟩
  rintro i m σ H ⟨rfl, hi, p⟩
  obtain ⟨q1, q2⟩ := hk i σ H hi p
  by_cases hlt : i < xs.length
  · refine .inr ⟨fun r hr => ?_, Pv (i + 1), fun σ' H' p' => ⟨xs.length - (i + 1), by omega, rfl, hlt, p'⟩, fun x H' y => ?_⟩
    · rcases List.mem_cons.mp hr with rfl | hr
      · exact ⟨xs, xs[i], q1, by simp [hlt]⟩
      · rw [List.mem_singleton.mp hr]
        exact ⟨ys, ys[i], q2, by simp [hl ▸ hlt]⟩
    · obtain ⟨c, zs, rfl, hc, rfl, pa⟩ := y
      match zs, pa with
      | [u, v], .cons p1 (.cons p2 .nil) => exact hs i u v c σ H (p1 xs q1) (p2 ys q2) p hc
  · have e : i = xs.length := by omega
    subst e
    exact .inl ⟨⟨_, xs, rfl, q1, Nat.le_refl _⟩, hd σ H p⟩
end
end L2

set_option Elab.async false
set_option linter.all false
set_option maxRecDepth 100000
set_option maxHeartbeats 4000000
namespace L2
open PySem PySem.Spec PyProof.Rows
/-! ### a comprehension whose target is several names -/
theorem compLoop_any {prog : Program} {w : World} {A : Around} {R : Result → Shared → Prop} {s : Shared} {elt target iter : Expr} {ifs : List Expr} {scope : Scope} {pos : Pos} {it acc : Value} {env : Env} (I : Nat → Shared → Prop)
    (turn : ∀ n s, I n s → wpAny (model prog w) A (pyNext it) (fun r s₁ => match r with
      | none => R (.ok .next) s₁
      | some v => wpAny (model prog w) A (letOwnedTupleGo target it v) (fun _ s₁ => wpAny (model prog w) A (assign target env v) (fun _ s₂ =>
          wpAny (model prog w) A (forIn ifs true fun c r => if r = true then do let ok ← isTrue c env (eval c env); pure (ForInStep.yield ok) else pure (ForInStep.yield r)) (fun ok s₃ =>
            if ok = true then wpAny (model prog w) A (eval elt env) (fun x s₄ =>
              wpAny (model prog w) A (call (.builtin "list.append") [acc, x]) (fun _ s₅ => ∃ m, m < n ∧ I m s₅) (notedBy (model prog w) A env fun e s' => R (.error e) s') s₄) (notedBy (model prog w) A env fun e s' => R (.error e) s') s₃
            else ∃ m, m < n ∧ I m s₃) (notedBy (model prog w) A env fun e s' => R (.error e) s') s₂) (notedBy (model prog w) A env fun e s' => R (.error e) s') s₁) (notedBy (model prog w) A env fun e s' => R (.error e) s') s₁) (notedBy (model prog w) A env fun e s' => R (.error e) s') s)
    (n : Nat) (h : I n s) : codeAny (model prog w) A (.compLoop (.ListComp elt [⟨target, iter, ifs, 0⟩] scope pos) 0 it acc env) R s := by
  refine codeAny_loop rfl I (fun n s hI => ?_) n h
  show wpAny _ A ((compTurn (.ListComp elt [⟨target, iter, ifs, 0⟩] scope pos) 0 it acc env).onRaise (fun x => do noteFrame x env; theTreesLotGoes x)) _ _ s
  refine wpAny_noted ?_
  rw [compTurn_list]
  refine wpAny_bind (wpAny_standAt (wpAny_bind (wpAny_mono (turn n s hI) (fun r s₁ h₁ => ?_) fun _ _ h' => h')))
  cases r with
  | none => exact wpAny_pure h₁
  | some v =>
    refine wpAny_bind (wpAny_mono h₁ (fun _ s₁' h₁ => ?_) fun _ _ h' => h')
    refine wpAny_bind (wpAny_mono h₁ (fun _ s₂ h₂ => wpAny_bind (wpAny_mono h₂ (fun ok s₃ h₃ => ?_) fun _ _ h' => h')) fun _ _ h' => h')
    cases ok with
    | false => exact wpAny_pure ⟨rfl, h₃⟩
    | true =>
      exact wpAny_bind (wpAny_bind (wpAny_mono h₃ (fun x s₄ h₄ => wpAny_bind (wpAny_mono h₄ (fun _ s₅ h₅ => wpAny_pure (wpAny_pure ⟨rfl, h₅⟩)) fun _ _ h' => h')) fun _ _ h' => h'))
def cxN (X : Cx) (scope : Scope) (cl : List (Str × Addr)) (xs : List Str) (cs : List Str) (C : Addr) (s₀ : Shared) (H₀ : Hp) (fp : List Addr) : Cx where
  prog := X.prog
  w := X.w
  K := X.K
  mg := X.mg
  base := X.base
  A := X.A
  N := xs ++ cs
  s₀ := s₀
  H₀ := H₀
  env := compEnvC scope cl C X.env
  outer := X.stack
  stack := X.stack
  ex := fp
  fn := fun y => xs.contains y
  calm := X.calm
  pn := []
  xe := fun _ _ => False
structure CScopeN (X : Cx) (scope : Scope) (cl : List (Str × Addr)) (xs : List Str) (cs : List Str) (js : List Nat) : Prop where
  clos : closureFor scope X.env = pure cl
  kind : scope.kind = .function
  nocell : ∀ y ∈ scope.names, y.2 ≠ .cell
  names : ∀ y ∈ scope.names, y.2 = .local → scope.names.lookup y.1 = some .local
  sub : ∀ y c, cl.lookup y = some c → X.env.cells.lookup y = some c
  has : ∀ y, ((relabel scope X.env).names.lookup y = some .cell ∨ (relabel scope X.env).names.lookup y = some .free) → ∃ c, cl.lookup y = some c
  nox : ∀ x ∈ xs, cl.lookup x = none
  nd : (xs ++ cs).Nodup
  cap : Paired (fun y j => X.N[j]? = some y) cs js
  capk : ∀ y ∈ cs, (X.env.kindOf y = some .cell ∨ X.env.kindOf y = some .free) ∧ ((relabel scope X.env).names.lookup y = some .cell ∨ (relabel scope X.env).names.lookup y = some .free)
def CompWN (J : It) (g : TG) (tc : TT) (te : TE) (n : Nat) (τ : St) (fin : List V → Hp → Prop) (H1 : Hp) : Prop := ∃ W : Nat → Nat → List V → Hp → Prop, (∃ m, W 0 m [] H1) ∧ ∀ i m ys H, W i m ys H →
  (J.stop i H ∧ fin ys H) ∨ (J.go i H ∧ ys.length < sizeLine ∧ ∃ N : List V → Hp → Prop, (∀ ys' H', N ys' H' → ∃ m', m' < m ∧ W (i + 1) m' ys' H') ∧ ∀ v H', J.yld i H v H' → ∀ ρ : St, ρ.length = n →
    g v (ρ ++ τ) H' fun σ2 H2 => (∃ ρ2 : St, ρ2.length = n ∧ σ2 = ρ2 ++ τ) ∧ tc σ2 H2 fun b H3 => if b = true then te σ2 H3 (fun y H4 => N (ys ++ [y]) H4) else N ys H3)
def tCompN (n : Nat) (wi : TI) (g : TG) (js : List Nat) (tc : TT) (te : TE) : TE := fun σ H Q => wi σ H fun J H1 => CompWN J g tc te n (capt σ js) (fun ys H2 => ∀ p, H2 p = none → Q (.ref p) (upd H2 p (.lst ys))) H1
section
variable {X : Cx} {scope : Scope} {cl : List (Str × Addr)} {xs : List Str} {cs : List Str} {js : List Nat} {pins : List (Addr × Obj)} {σ : St} {H : Hp} {s : Shared}
theorem cxN_ok {C : Addr} {fp : List Addr} (S : CScopeN X scope cl xs cs js) (I : Inv X pins σ H s) (hC : s.heap.objs.size ≤ C) (hf : ∀ b ∈ fp, FpOk X pins H b) (hlt : ∀ b ∈ fp, b < s.heap.objs.size) :
    (cxN X scope cl xs cs C s H fp).Ok where
  mod := I.ok.mod
  kind := S.kind
  glob := I.ok.glob
  blt := I.ok.blt
  above := hC
  inj := fun y z c h1 h2 => I.ok.inj y z c (S.sub y c h1) (S.sub z c h2)
  has := fun y h => S.has y h
  cab := fun y c h1 h2 => by
    have e : y ∈ xs := List.contains_iff_mem.mp h1
    have h2' : cl.lookup y = some c := h2
    rw [S.nox y e] at h2'
    cases h2'
  hd := I.ok.hd
  frames := I.ok.frames
  stk := .inl rfl
  exf := fun b hb => ⟨fun e => absurd (hlt b hb) (Nat.not_lt.mpr (by rw [show b = C from e]; exact hC)), fun y c h => (hf b hb).2.2.2.2.1 y c (S.sub y c h)⟩
  bs := fun b o e => ⟨(I.bs b o e).1, (I.bs b o e).2⟩
  bsz := Nat.le_trans I.ok.bsz I.sz
  noex := fun b o e hb => by
    rcases (hf b hb).2.2.2.1 with z | z
    · exact I.ok.noex b o e z
    · exact absurd (Nat.lt_of_lt_of_le (Heap.lt_size e) (Nat.le_trans I.ok.bsz z)) (Nat.lt_irrefl _)
  exfs := fun b hb z => by
    rcases List.mem_cons.mp (I.stkSub b z) with e | e
    · exact (hf b hb).2.1 e
    · exact (hf b hb).2.2.1 e
  funs := I.stack
  frf := fun b hb => I.stkFree b hb
theorem inv_startN {C D : Addr} {fp : List Addr} {h₁ : Heap} {tk : Nat} {oD : Obj} (S : CScopeN X scope cl xs cs js) (I : Inv X pins σ H s) (hf : ∀ b ∈ fp, FpOk X pins H b) (hlt : ∀ b ∈ fp, b < s.heap.objs.size)
    (hD : s.heap.objs.size ≤ D) (hC : s.heap.objs.size ≤ C) (hDC : D ≠ C) (hns : h₁.Ns C (fun _ => none)) (keep : ∀ b o, s.heap.get? b = some o → h₁.get? b = some o) (eD : h₁.get? D = some oD) (hoD : ∀ v, oD.data ≠ .cell v) :
    Inv (cxN X scope cl xs cs C s H fp) [(D, oD)] (List.replicate xs.length none ++ capt σ js) H { s with heap := h₁, toks := tk } := by
  refine ⟨cxN_ok S I hC hf hlt, rfl, I.bare, Un.kept keep, ⟨_, hns, fun i y v h1 h2 h3 => ?_⟩, fun y c e => ?_, I.hok.fresh hC, fun y c e => I.freeC y c (S.sub y c e), fun p hp => ?_, I.hok.kept keep, ?_⟩
  · by_cases hi : i < xs.length
    · rw [List.getElem?_append_left (by simp; exact hi), List.getElem?_replicate, if_pos hi] at h2
      simp at h2
    · have h1' : cs[i - xs.length]? = some y := by
        have z : (xs ++ cs)[i]? = some y := h1
        rw [List.getElem?_append_right (by omega)] at z
        exact z
      have h2' : (capt σ js)[i - xs.length]? = some (some v) := by
        rw [List.getElem?_append_right (by simp; omega)] at h2
        simpa using h2
      generalize i - xs.length = k at h1' h2'
      obtain ⟨j, ej, ey⟩ := paired_get S.cap h1'
      have e2 : σ[j]? = some (some v) := by
        unfold capt at h2'
        rw [List.getElem?_map, ej] at h2'
        have h3' : (σ[j]?).getD none = some v := by simpa using h2'
        cases q : σ[j]? with
        | none => rw [q] at h3'; cases h3'
        | some w' => rw [q] at h3'; exact congrArg some h3'
      obtain ⟨k1, k2⟩ := S.capk y (List.mem_of_getElem? h1')
      obtain ⟨m, hn, hl⟩ := I.loc
      obtain ⟨u, r, l⟩ := hl j y v ey e2 (by
        rcases k1 with z | z
        · exact .inr (.inl z)
        · exact .inr (.inr z))
      refine ⟨u, r, .inr ⟨k2, ?_⟩⟩
      obtain ⟨c', e'⟩ := S.has y k2
      rcases l with ⟨z, _⟩ | ⟨_, c, ec, z⟩
      · rcases k1 with k1 | k1 <;> (rw [k1] at z; cases z)
      · have e3 := S.sub y c' e'
        rw [ec] at e3
        cases e3
        obtain ⟨o, eo, d⟩ := z
        exact ⟨_, e', o, keep _ _ eo, d⟩
  · obtain ⟨v, o, eo, d⟩ := I.cell y c (S.sub y c e)
    exact ⟨v, o, keep _ _ eo, d⟩
  · have e : p = (D, oD) := by
      rcases List.mem_append.mp hp with z | z
      · exact absurd z (by show p ∉ ([] : List (Addr × Obj)); simp)
      · simpa using z
    subst e
    exact ⟨eD, I.hok.fresh hD, hDC, I.newfs hD, hoD⟩
  · show (List.replicate xs.length none ++ capt σ js).length = (xs ++ cs).length
    rw [List.length_append, List.length_append, capt_len, Paired.length S.cap, List.length_replicate]
theorem comp_loopN {elt iter tg : Expr} {pos : Pos} {ifs : List Expr} {g : TG} {tc : TT} {te : TE} {C D it : Addr} {fp : List Addr} {tn : Nat → Heap → Prop} {J : It} {s₂ : Shared} {H₂ : Hp} {R : Result → Shared → Prop} {fin : List V → Hp → Prop} {s₃ : Shared} {ρ₀ : St}
    (hc : X.calm = true) (S : CScopeN X scope cl xs cs js) (hC : s₂.heap.objs.size ≤ C) (hD : s₂.heap.objs.size ≤ D) (hDC : D ≠ C) (hlt : ∀ b ∈ fp, b < s₂.heap.objs.size)
    (T : Turn X.prog X.w X.K tg J fp it tn)
    (hcells : ∀ y c, cl.lookup y = some c → c < s₂.heap.objs.size)
    (hfs : ∀ b ∈ fp, b ∉ frs X.stack) (hDfs : D ∉ frs X.stack)
    (hcf : ∀ b ∈ fp, ∀ y c, cl.lookup y = some c → c ≠ b)
    (hg : PG (cxN X scope cl xs cs C s₂ H₂ fp) tg g) (ht : PIfs (cxN X scope cl xs cs C s₂ H₂ fp) ifs tc) (he : PE (cxN X scope cl xs cs C s₂ H₂ fp) elt te)
    (I₃ : Inv (cxN X scope cl xs cs C s₂ H₂ fp) [] (ρ₀ ++ capt σ js) H₂ s₃) (hρ : ρ₀.length = xs.length) (st : tn 0 s₃.heap) (hn : ∀ b ∈ fp, H₂ b = none) (eD : s₃.heap.get? D = some (accO [] 0)) (hDn : H₂ D = none)
    (hW : CompWN J g tc te xs.length (capt σ js) fin H₂)
    (hR : ∀ s' σ' H' ys us n, Inv (cxN X scope cl xs cs C s₂ H₂ fp) [] σ' H' s' → Vals ys us → ys.length ≤ sizeLine → s'.heap.get? D = some (accO us n) → H' D = none → fin ys H' → R (.ok .next) s') :
    codeAny (model X.prog X.w) X.A (.compLoop (.ListComp elt [⟨tg, iter, ifs, 0⟩] scope pos) 0 (.ref it) (.ref D) (compEnvC scope cl C X.env)) R s₃ := by
  obtain ⟨W, ⟨m0, w0⟩, turn⟩ := hW
  have bC : ∀ b ∈ fp, b ≠ C := fun b hb e => absurd (hlt b hb) (Nat.not_lt.mpr (by rw [e]; exact hC))
  have bD : ∀ b ∈ fp, b ≠ D := fun b hb e => absurd (hlt b hb) (Nat.not_lt.mpr (by rw [e]; exact hD))
  have cD : ∀ y c, cl.lookup y = some c → c ≠ D := fun y c h e => absurd (hcells y c h) (Nat.not_lt.mpr (by rw [e]; exact hD))
  have pinD : ∀ {τ : St} {H' : Hp} {s' : Shared} {us : List Value} {k : Nat}, Inv (cxN X scope cl xs cs C s₂ H₂ fp) [] τ H' s' → s'.heap.get? D = some (accO us k) → H' D = none → Inv (cxN X scope cl xs cs C s₂ H₂ fp) [(D, accO us k)] τ H' s' :=
    fun {τ H' s' us k} I e hn => I.pins_of fun p hp => by
      have ep : p = (D, accO us k) := by simpa using hp
      subst ep
      exact ⟨e, hn, hDC, hDfs, fun v z => by
        have z' : Data.seq us.toArray k = Data.cell v := z
        cases z'⟩
  have fpk : ∀ {H' : Hp} {us : List Value} {k : Nat}, (∀ b ∈ fp, H' b = none) → ∀ b ∈ fp, FpOk (cxN X scope cl xs cs C s₂ H₂ fp) [(D, accO us k)] H' b := fun {H' us k} hn b hb =>
    ⟨hn b hb, bC b hb, hfs b hb, .inl hb, fun y c e => hcf b hb y c e, fun p hp => by
      have ep : p = (D, accO us k) := by
        rcases List.mem_append.mp hp with z | z
        · exact absurd (show p ∈ ([] : List (Addr × Obj)) from z) (by simp)
        · simpa using z
      subst ep
      exact Ne.symm (bD b hb)⟩
  refine compLoop_any (env := compEnvC scope cl C X.env) (fun n s' => ∃ i ρ H' ys us k, Inv (cxN X scope cl xs cs C s₂ H₂ fp) [] (ρ ++ capt σ js) H' s' ∧ ρ.length = xs.length ∧ tn i s'.heap ∧ (∀ b ∈ fp, H' b = none) ∧ Vals ys us ∧ ys.length ≤ sizeLine ∧ s'.heap.get? D = some (accO us k) ∧ H' D = none ∧ W i n ys H') ?_ m0
    ⟨0, ρ₀, H₂, [], [], 0, I₃, hρ, st, hn, .nil, Nat.zero_le _, eD, hDn, w0⟩
  rintro n s4 ⟨i, ρ, H4, ys, us, k, I4, hρ4, st4, fr4, rv, hz, eD4, hD4, w4⟩
  have I4' := pinD I4 eD4 hD4
  rcases turn i n ys H4 w4 with ⟨stop, f⟩ | ⟨go, hlen, N, hN, step⟩
  · refine wpAny_mono (T.done (cxN X scope cl xs cs C s₂ H₂ fp) rfl rfl rfl hc i [(D, accO us k)] s4 _ H4 (fun _ _ => False) I4' (fpk fr4) st4 stop) (fun r s5 ⟨hr, I5⟩ => ?_) (fun _ _ z => z.elim)
    subst hr
    show R (.ok .next) s5
    exact hR s5 _ H4 ys us k (I5.pins_of fun p hp => absurd hp (by simp)) rv hz (I5.pin (D, accO us k) (List.mem_append_right _ (by simp))).1 hD4 f
  · refine wpAny_mono (T.item (cxN X scope cl xs cs C s₂ H₂ fp) rfl rfl rfl hc i [(D, accO us k)] s4 _ H4 (fun _ _ => False) I4' (fpk fr4) st4 go) (fun r s5 ⟨u, hr, h5⟩ => ?_) (fun _ _ z => z.elim)
    subst hr
    show wpAny _ _ (letOwnedTupleGo tg (.ref it) u) _ _ s5
    refine wpAny_mono h5 (fun _ s6 ⟨v, H6, I6, r6, y6, st6, fr6⟩ => ?_) (fun _ _ z => z.elim)
    have I6' := I6.pinned (fpk fr6) (T.obj _ _ st6)
    refine wpAny_mono (hg _ s6 _ H6 v u _ I6' r6 (step v H6 y6 ρ hρ4)) (fun _ s7 ⟨σ7, H7, I7, ⟨ρ7, hρ7, e7⟩, q7⟩ => ?_) (fun _ _ z => False.elim z)
    subst e7
    have st7 : ∀ {τ : St} {H' : Hp} {s' : Shared}, Inv (cxN X scope cl xs cs C s₂ H₂ fp) ([(D, accO us k)] ++ pinsAt fp s6.heap) τ H' s' → tn (i + 1) s'.heap ∧ ∀ b ∈ fp, H' b = none := fun {τ H' s'} I => by
      refine ⟨T.keep _ _ _ st6 fun b hb o e => (I.pin (b, o) (List.mem_append_right _ (List.mem_append_right _ (mem_pinsAt hb e)))).1, fun b hb => ?_⟩
      obtain ⟨o, e, d⟩ := T.obj _ _ st6 b hb
      exact (I.pin (b, o) (List.mem_append_right _ (List.mem_append_right _ (mem_pinsAt hb e)))).2.1
    have dD : ∀ {τ : St} {H' : Hp} {s' : Shared}, Inv (cxN X scope cl xs cs C s₂ H₂ fp) ([(D, accO us k)] ++ pinsAt fp s6.heap) τ H' s' → s'.heap.get? D = some (accO us k) ∧ H' D = none := fun {τ H' s'} I => by
      have q := I.pin (D, accO us k) (List.mem_append_right _ (List.mem_append_left _ (by simp)))
      exact ⟨q.1, q.2.1⟩
    refine wpAny_mono (ht _ s7 _ H7 _ I7 q7) (fun ok s8 ⟨H8, I8, q8⟩ => ?_) (fun _ _ z => False.elim z)
    cases ok with
    | false =>
      obtain ⟨m', hm, w8⟩ := hN _ _ q8
      exact ⟨m', hm, i + 1, ρ7, H8, ys, us, k, I8.pins_of fun p hp => absurd hp (by simp), hρ7, (st7 I8).1, (st7 I8).2, rv, hz, (dD I8).1, (dD I8).2, w8⟩
    | true =>
      rw [if_pos rfl]
      refine wpAny_mono (he _ s8 _ H8 _ I8 q8) (fun xv s9 ⟨y, H9, I9, r9, n9⟩ => ?_) (fun _ _ z => False.elim z)
      obtain ⟨m', hm, w9⟩ := hN _ _ n9
      obtain ⟨eD9, hD9⟩ := dD I9
      have hl := rv.length
      refine call_meets F.slot_list_append ⟨_, eD9, rfl⟩ F.entry_list_append (F.args_list_append_2 _ _) (PySem.list_append D us.toArray k xv (by rw [List.size_toArray]; omega)) ⟨eD9, ?_⟩
      have I9' : Inv (cxN X scope cl xs cs C s₂ H₂ fp) [] (ρ7 ++ capt σ js) H9 s9 := I9.pins_of fun p hp => absurd hp (by simp)
      have q := PySem.IsL.update eD9 (·.push xv)
      have e1 : us.toArray.push xv = (us ++ [xv]).toArray := by simp
      rw [e1] at q
      have I10 := I9'.turned (h' := s9.heap.update D (Obj.mapSeq (·.push xv))) (t' := s9.toks) (it := D) (fun b o hb e => (Heap.get?_update_other s9.heap _ (Ne.symm hb)).trans e) hD9 hDC (.inr hD) (fun y c e => cD y c e) (fun p hp => absurd (show p ∈ ([] : List (Addr × Obj)) from hp) (by simp))
      refine ⟨m', hm, i + 1, ρ7, H9, ys ++ [y], us ++ [xv], _, I10, hρ7, ?_, (st7 I9).2, rv.append (.cons r9 .nil), ?_, q, hD9, w9⟩
      · exact T.keep _ _ _ (st7 I9).1 fun b hb o e => (Heap.get?_update_other s9.heap _ (Ne.symm (bD b hb))).trans e
      · rw [List.length_append, List.length_singleton]
        omega
theorem comp_blockN {elt iter tg : Expr} {pos : Pos} {ifs : List Expr} {g : TG} {tc : TT} {te : TE} {it : Addr} {fp : List Addr} {tn : Nat → Heap → Prop} {J : It} {E : Value → Shared → Prop} {fin : List V → Hp → Prop} {RR : Value → Addr → Result → Shared → Prop}
    (hc : X.calm = true) (S : CScopeN X scope cl xs cs js) (I : Inv X pins σ H s) (T : Turn X.prog X.w X.K tg J fp it tn) (st : tn 0 s.heap) (hf : ∀ b ∈ fp, FpOk X pins H b)
    (hg : ∀ C s₁ H₁, PG (cxN X scope cl xs cs C s₁ H₁ fp) tg g) (ht : ∀ C s₁ H₁, PIfs (cxN X scope cl xs cs C s₁ H₁ fp) ifs tc) (he : ∀ C s₁ H₁, PE (cxN X scope cl xs cs C s₁ H₁ fp) elt te) (hW : CompWN J g tc te xs.length (capt σ js) fin H)
    (hRR : ∀ D C s' ys H' m, Inv X pins σ (upd H' D (.lst ys)) s' → s'.heap.Ns C m → Off X pins (upd H' D (.lst ys)) C → H' D = none → fin ys H' → RR (.ref D) C (.ok .next) s') :
    wpAny (model X.prog X.w) X.A (newList []) (fun acc s₃ => wpAny (model X.prog X.w) X.A (newFunctionEnv scope X.env.globals cl [] X.env.qual none .none (some X.env)) (fun cenv s₄ =>
      codeAny (model X.prog X.w) X.A (.compStart (.ListComp elt [⟨tg, iter, ifs, 0⟩] scope pos) 0 (.ref it) acc { cenv with scope := relabel scope X.env }) (RR acc cenv.locals) s₄) E s₃) E s := by
  have hlt : ∀ b ∈ fp, b < s.heap.objs.size := fun b hb => by
    obtain ⟨o, e, _⟩ := T.obj _ _ st b hb
    exact Heap.lt_size e
  refine wpAny_newObj_type (wpAny_newFunctionEnv S.nocell (by intro y hy; simp at hy) (fun h₁ hns₁ hsb₁ => ?_) S.kind)
  dsimp only at hns₁ hsb₁ ⊢
  generalize hH2 : s.heap.push { cls := .type "list", dict := none, data := .seq ([] : List Value).toArray } = H2 at hns₁ hsb₁ ⊢
  have hC : H2.objs.size = s.heap.objs.size + 1 := by rw [← hH2, Heap.size_push]
  have hDC : s.heap.objs.size ≠ H2.objs.size := by rw [hC]; exact Nat.ne_of_lt (Nat.lt_succ_self _)
  have hCle : s.heap.objs.size ≤ H2.objs.size := by rw [hC]; exact Nat.le_succ _
  have below : ∀ b, b < s.heap.objs.size → b ≠ H2.objs.size ∧ b ≠ s.heap.objs.size := fun b hb => ⟨by rw [hC]; exact Nat.ne_of_lt (Nat.lt_succ_of_lt hb), Nat.ne_of_lt hb⟩
  have old : ∀ b o, s.heap.get? b = some o → h₁.get? b = some o := fun b o e => hsb₁.extBut b o (below b (Heap.lt_size e)).1 (Heap.get?_push_of_some _ (hH2 ▸ Heap.get?_push_of_some _ e))
  have hacc : h₁.get? s.heap.objs.size = some (accO [] 0) := hsb₁.extBut _ _ hDC (Heap.get?_push_of_some _ (hH2 ▸ Heap.get?_push_size _ rfl))
  have hDn : H s.heap.objs.size = none := I.hok.fresh (Nat.le_refl _)
  have I₁ := inv_startN (C := H2.objs.size) (D := s.heap.objs.size) (tk := s.toks + ([] : List (Str × Value)).length) (oD := accO [] 0) S I hf hlt (Nat.le_refl _) hCle hDC hns₁ old hacc (fun v z => by
    have z' : Data.seq ([] : List Value).toArray 0 = Data.cell v := z
    cases z')
  have I₁' := I₁.pins_of (pins' := []) fun p hp => absurd hp (by simp)
  have stk : tn 0 h₁ := T.keep _ _ _ st fun b _ o e => old b o e
  have loop : codeAny (model X.prog X.w) X.A (.compLoop (.ListComp elt [⟨tg, iter, ifs, 0⟩] scope pos) 0 (.ref it) (.ref s.heap.objs.size) (compEnvC scope cl H2.objs.size X.env)) (RR (.ref s.heap.objs.size) H2.objs.size)
      { s with heap := h₁, toks := s.toks + ([] : List (Str × Value)).length } := by
    refine comp_loopN (s₂ := s) (H₂ := H) (fp := fp) (fin := fin) hc S hCle (Nat.le_refl _) hDC hlt T (fun y c e => ?_) (fun b hb z => ?_) (I.newfs (Nat.le_refl _)) (fun b hb y c e => (hf b hb).2.2.2.2.1 y c (S.sub y c e)) (hg _ _ _) (ht _ _ _) (he _ _ _) I₁' (by rw [List.length_replicate]) stk (fun b hb => (hf b hb).1) hacc hDn hW ?_
    · obtain ⟨v, q⟩ := I.cell y c (S.sub y c e)
      exact q.lt
    · rcases List.mem_cons.mp (I.stkSub b z) with e | e
      · exact (hf b hb).2.1 e
      · exact (hf b hb).2.2.1 e
    · intro s' σ' H' ys us n I' rv hz eD hDn' hfin
      have u' : Un (frs X.stack) fp H H' s.heap s'.heap := I'.base
      have u : Un (frs X.stack) fp H (upd H' s.heap.objs.size (.lst ys)) s.heap s'.heap := ⟨u'.keep, u'.slot, fun b o e n hx => by rw [upd_ne (below b (Heap.lt_size e)).2]; exact u'.free b o e n hx, u'.there,
        fun b xs e => by rw [upd_ne (ne_of_none e hDn)]; exact u'.tups b xs e, fun b o w' e => by rw [upd_ne (ne_of_none e hDn)]; exact u'.frzs b o w' e, fun b ps e => by
          obtain ⟨more, q⟩ := u'.tbls b ps e
          exact ⟨more, by rw [upd_ne (ne_of_none e hDn)]; exact q⟩⟩
      have hok : HOk X.prog X.w (upd H' s.heap.objs.size (.lst ys)) s'.heap := HOk.track I'.hok hDn' ⟨hz, us, n, rv, eD⟩
      have I2 : Inv X pins σ (upd H' s.heap.objs.size (.lst ys)) s' := I.call' (ch := fp) I'.os u hok I'.bare fun b hb => ⟨(hf b hb).2.2.2.1, (hf b hb).2.1, (hf b hb).2.2.2.2.1, (hf b hb).2.2.2.2.2⟩
      obtain ⟨m, hm, _⟩ := I'.loc
      refine hRR _ _ s' ys H' m I2 hm ⟨?_, Ne.symm (below _ I.lt).1, Nat.le_trans I.sz hCle, fun y c e => ?_, fun p hp => ?_⟩ hDn' hfin
      · rw [upd_ne (Ne.symm hDC)]; exact I'.free
      · obtain ⟨v, q⟩ := I.cell y c e
        exact (below _ q.lt).1
      · exact (below _ (Heap.lt_size (I.pin p hp).1)).1
  exact codeAny_compStart_list loop (T.self X.A 0 _ _ _ stk loop)
theorem pe_compGN {elt iter tg : Expr} {pos : Pos} {ifs : List Expr} {wi : TI} {g : TG} {tc : TT} {te : TE} (hc : X.calm = true) (S : CScopeN X scope cl xs cs js) (hi : PI X tg iter wi)
    (hg : ∀ C s₁ H₁ fp, PG (cxN X scope cl xs cs C s₁ H₁ fp) tg g) (ht : ∀ C s₁ H₁ fp, PIfs (cxN X scope cl xs cs C s₁ H₁ fp) ifs tc) (he : ∀ C s₁ H₁ fp, PE (cxN X scope cl xs cs C s₁ H₁ fp) elt te)
    (hs : ∀ x, foldedSetIterable iter X.env x = pure x := by intro _; rfl) : PE X (.ListComp elt [⟨tg, iter, ifs, 0⟩] scope pos) (tCompN xs.length wi g js tc te) := by
  intro pins s σ H Q I h
  rw [eval_ListComp]
  refine wpAny_comprehension_free (use := none) rfl hs S.clos S.kind S.names (thn (hi pins s σ H _ I h) fun v s1 h1 => thn h1 fun itv s2 h2 => ?_)
  obtain ⟨it, fp, tn, J, H2, e, I2, T, st2, f2, hW⟩ := h2
  subst e
  refine comp_blockN (RR := fun acc C => compPost (model X.prog X.w) X.A X.xe none (EP X pins σ Q) acc C) hc S I2 T st2 f2 (fun C s₁ H₁ => hg C s₁ H₁ fp) (fun C s₁ H₁ => ht C s₁ H₁ fp) (fun C s₁ H₁ => he C s₁ H₁ fp) hW ?_
  intro D C s' ys H' m I' hm O hD hfin
  exact ⟨m, hm, fun h' k => ⟨.ref D, _, I'.off (t' := s'.toks) O k, rfl, hfin D hD⟩⟩
theorem ps_setCGN {i : Nat} {y : Str} {py spos : Pos} {elt iter tg : Expr} {pos : Pos} {ifs : List Expr} {wi : TI} {g : TG} {tc : TT} {te : TE} (hN : X.N.Nodup) (hi' : X.N[i]? = some y) (hy : Loc X.env.scope y) (hc : X.calm = true) (S : CScopeN X scope cl xs cs js) (hi : PI X tg iter wi)
    (hg : ∀ C s₁ H₁ fp, PG (cxN X scope cl xs cs C s₁ H₁ fp) tg g) (ht : ∀ C s₁ H₁ fp, PIfs (cxN X scope cl xs cs C s₁ H₁ fp) ifs tc) (he : ∀ C s₁ H₁ fp, PE (cxN X scope cl xs cs C s₁ H₁ fp) elt te)
    (hsw : swapsWith (.ListComp elt [⟨tg, iter, ifs, 0⟩] scope pos) (some (.Name y py)) spos.line X.env = pure true := by rfl)
    (hf : X.fn y = true ∨ X.env.scope.names.lookup y = some .local := by first | exact .inl rfl | exact .inr rfl | assumption)
    (hs : ∀ x, foldedSetIterable iter X.env x = pure x := by intro _; rfl) : PS X (.Assign [.Name y py] (.ListComp elt [⟨tg, iter, ifs, 0⟩] scope pos) spos) (tAsg (tCompN xs.length wi g js tc te) (gName i)) := by
  intro pins s σ H D I h
  rw [exec_Assign_Name_used _ _ _ _ hsw]
  refine wpAny_bind (wpAny_standAt (wpAny_bind ?_))
  show wpAny _ X.A (do let _ ← comprehension (.ListComp elt [⟨tg, iter, ifs, 0⟩] scope pos) scope X.env _ (newList []) false (eval iter X.env) (some (assign (.Name y py) X.env))) _ _ s
  refine wpAny_bind (wpAny_mono (wpAny_comprehension_free (use := some (assign (.Name y py) X.env)) (Q := fun _ s' => SP X pins D .next s') rfl hs S.clos S.kind S.names
    (thn (hi pins s σ H _ I h) fun v s1 h1 => thn h1 fun itv s2 h2 => ?_)) (fun _ s' hq => wpAny_pure (wpAny_pure hq)) fun _ _ e => e)
  obtain ⟨it, fp, tn, J, H2, e, I2, T, st2, f2, hW⟩ := h2
  subst e
  refine comp_blockN (RR := fun acc C => compPost (model X.prog X.w) X.A X.xe (some (assign (.Name y py) X.env)) (fun _ s' => SP X pins D .next s') acc C) hc S I2 T st2 f2 (fun C s₁ H₁ => hg C s₁ H₁ fp) (fun C s₁ H₁ => ht C s₁ H₁ fp) (fun C s₁ H₁ => he C s₁ H₁ fp) hW ?_
  intro D' C s' ys H' m I' hm O hD hfin
  show wpAny _ X.A (assign (.Name y py) X.env (.ref D')) _ _ s'
  refine wpAny_assign_Name (store_ok2 I' hN hi' hy (v := .ref D') rfl (fun s'' I'' sb => ?_) hf)
  obtain ⟨a, sb, ha⟩ := sb
  have hCa : C ≠ a := by
    rcases ha with e | e
    · rw [e]; exact O.l
    · exact fun z => O.c y a e z.symm
  exact ⟨m, hm.sameBut sb hCa, fun h' k => ⟨_, _, I''.off (t' := s''.toks) O k, hfin D' hD⟩⟩
end
structure CompOkN (sc scope : Scope) (N : List Str) (xs : List Str) (cs : List Str) (js : List Nat) : Prop where
  k1 : scope.kind = .function
  k2 : sc.kind = .function
  nocell : ∀ y ∈ scope.names, y.2 ≠ .cell
  names : ∀ y ∈ scope.names, y.2 = .local → scope.names.lookup y.1 = some .local
  fr : ∀ y ∈ scope.names, y.2 = .free → sc.names.lookup y.1 = some .cell ∧ y.1 ∉ xs
  nd : (xs ++ cs).Nodup
  cap : js.map (fun j => N[j]?) = cs.map some
  capk : ∀ y ∈ cs, sc.names.lookup y = some .cell ∧ scope.names.lookup y = some .free
theorem cscope_defN {X : Cx} {sc scope : Scope} {xs : List Str} {cs : List Str} {js : List Nat} {qual : Str} {L f : Addr} {cd : Value} (hE : X.env = envOfC qual sc L f cd) (c : CompOkN sc scope X.N xs cs js) : CScopeN X scope (clOf X.env scope.names []) xs cs js := by
  have hcs : ∀ y, sc.names.lookup y = some .cell → (X.env.cells.lookup y).isSome = true := fun y h => by
    rw [hE]
    exact PySem.W.cellsFrom_some _ _ _ (.inl h)
  have hn : ∀ y ∈ scope.names, y.2 = .free → (X.env.cells.lookup y.1).isSome = true := fun y hy h => hcs _ (c.fr y hy h).1
  have hk : X.env.scope.kind = .function := by rw [hE]; exact c.k2
  have kd : ∀ y, X.env.kindOf y = sc.names.lookup y := fun y => by rw [hE]; rfl
  refine ⟨closureFor_of hn, c.k1, c.nocell, c.names, fun y d h => clOf_look _ _ hn (fun z d h => by cases h) h, fun y h => ?_, fun x hx => clOf_none _ _ (fun z hz h e => (c.fr z hz h).2 (by rw [e]; exact hx)) rfl, c.nd, paired_of c.cap, fun y hy => ?_⟩
  · exact Option.isSome_iff_exists.mp (clOf_has _ _ (.inl (relabel_back c.nocell h)))
  · have q := c.capk y hy
    have q1 : X.env.kindOf y = some .cell := (kd y).trans q.1
    exact ⟨.inl q1, .inl (relabel_free hk q1 q.2)⟩
section
variable {X : Cx}
theorem pe_compN (xs : List Str) (cs : List Str) (js : List Nat) {sc scope : Scope} {qual : Str} {L f : Addr} {cd : Value} {elt iter tg : Expr} {pos : Pos} {wi : TI} {g : TG} {te : TE} (hE : X.env = envOfC qual sc L f cd) (c : CompOkN sc scope X.N xs cs js) (hc : X.calm = true) (hi : PI X tg iter wi)
    (hg : ∀ C s₁ H₁ fp, PG (cxN X scope (clOf X.env scope.names []) xs cs C s₁ H₁ fp) tg g) (he : ∀ C s₁ H₁ fp, PE (cxN X scope (clOf X.env scope.names []) xs cs C s₁ H₁ fp) elt te)
    (hs : ∀ x, foldedSetIterable iter X.env x = pure x := by intro _; rfl) : PE X (.ListComp elt [⟨tg, iter, [], 0⟩] scope pos) (tCompN xs.length wi g js tYes te) :=
  pe_compGN hc (cscope_defN hE c) hi hg (fun _ _ _ _ => pifs_nil) he hs
theorem ps_setCTN {i : Nat} {y : Str} {py spos : Pos} (hN : X.N.Nodup) (hi' : X.N[i]? = some y) (hy : Loc X.env.scope y) (xs : List Str) (cs : List Str) (js : List Nat) {sc scope : Scope} {qual : Str} {L f : Addr} {cd : Value} {elt iter t tg : Expr} {pos : Pos} {wi : TI} {g : TG} {tc : TT} {te : TE} (hE : X.env = envOfC qual sc L f cd) (c : CompOkN sc scope X.N xs cs js) (hc : X.calm = true) (hi : PI X tg iter wi)
    (hg : ∀ C s₁ H₁ fp, PG (cxN X scope (clOf X.env scope.names []) xs cs C s₁ H₁ fp) tg g) (ht : ∀ C s₁ H₁ fp, PT (cxN X scope (clOf X.env scope.names []) xs cs C s₁ H₁ fp) t tc) (he : ∀ C s₁ H₁ fp, PE (cxN X scope (clOf X.env scope.names []) xs cs C s₁ H₁ fp) elt te)
    (hsw : swapsWith (.ListComp elt [⟨tg, iter, [t], 0⟩] scope pos) (some (.Name y py)) spos.line X.env = pure true := by rfl)
    (hf : X.fn y = true ∨ X.env.scope.names.lookup y = some .local := by first | exact .inl rfl | exact .inr rfl | assumption)
    (hs : ∀ x, foldedSetIterable iter X.env x = pure x := by intro _; rfl) : PS X (.Assign [.Name y py] (.ListComp elt [⟨tg, iter, [t], 0⟩] scope pos) spos) (tAsg (tCompN xs.length wi g js tc te) (gName i)) :=
  ps_setCGN hN hi' hy hc (cscope_defN hE c) hi hg (fun _ _ _ _ => pifs_one (ht _ _ _ _)) he hsw hf hs
/-- over zip of two, into two names -/
abbrev gPair (K : PySem.W.Frag) : TG := gTup K 2 (gCons (gName 0) (gCons (gName 1) gNil))
theorem pg_pair {scope : Scope} {cl : List (Str × Addr)} {x y : Str} {cs : List Str} {C : Addr} {s₁ : Shared} {H₁ : Hp} {fp : List Addr} {px py tp : Pos} {k : Nat} (hc : X.calm = true) (nd : ([x, y] ++ cs).Nodup) (lx : scope.names.lookup x = some .local) (ly : scope.names.lookup y = some .local) :
    PG (cxN X scope cl [x, y] cs C s₁ H₁ fp) (.Tuple [.Name x px, .Name y py] k tp) (gPair X.K) :=
  pg_tup (X := cxN X scope cl [x, y] cs C s₁ H₁ fp) hc (pgs_cons (pg_name (i := 0) nd rfl (.inl (lookup_relabel_local lx)) (.inl (by show List.contains [x, y] x = true; simp))) (pgs_cons (pg_name (i := 1) nd rfl (.inl (lookup_relabel_local ly)) (.inl (by show List.contains [x, y] y = true; simp))) pgs_nil))
theorem pe_comp2 (x y : Str) (cs : List Str) (js : List Nat) {sc scope : Scope} {qual : Str} {L f : Addr} {cd : Value} {elt iter : Expr} {px py tp pos : Pos} {k : Nat} {wi : TI} {te : TE} (hE : X.env = envOfC qual sc L f cd) (c : CompOkN sc scope X.N [x, y] cs js) (lx : scope.names.lookup x = some .local) (ly : scope.names.lookup y = some .local) (hc : X.calm = true) (hi : PI X (.Tuple [.Name x px, .Name y py] k tp) iter wi)
    (he : ∀ C s₁ H₁ fp, PE (cxN X scope (clOf X.env scope.names []) [x, y] cs C s₁ H₁ fp) elt te)
    (hs : ∀ x, foldedSetIterable iter X.env x = pure x := by intro _; rfl) : PE X (.ListComp elt [⟨.Tuple [.Name x px, .Name y py] k tp, iter, [], 0⟩] scope pos) (tCompN 2 wi (gPair X.K) js tYes te) :=
  pe_compN [x, y] cs js hE c hc hi (fun _ _ _ _ => pg_pair hc c.nd lx ly) he hs
theorem ps_setCT2 {i : Nat} {z : Str} {pz spos : Pos} (hN : X.N.Nodup) (hi' : X.N[i]? = some z) (hy : Loc X.env.scope z) (x y : Str) (cs : List Str) (js : List Nat) {sc scope : Scope} {qual : Str} {L f : Addr} {cd : Value} {elt iter t : Expr} {px py tp pos : Pos} {k : Nat} {wi : TI} {tc : TT} {te : TE} (hE : X.env = envOfC qual sc L f cd) (c : CompOkN sc scope X.N [x, y] cs js) (lx : scope.names.lookup x = some .local) (ly : scope.names.lookup y = some .local) (hc : X.calm = true) (hi : PI X (.Tuple [.Name x px, .Name y py] k tp) iter wi)
    (ht : ∀ C s₁ H₁ fp, PT (cxN X scope (clOf X.env scope.names []) [x, y] cs C s₁ H₁ fp) t tc) (he : ∀ C s₁ H₁ fp, PE (cxN X scope (clOf X.env scope.names []) [x, y] cs C s₁ H₁ fp) elt te)
    (hsw : swapsWith (.ListComp elt [⟨.Tuple [.Name x px, .Name y py] k tp, iter, [t], 0⟩] scope pos) (some (.Name z pz)) spos.line X.env = pure true := by rfl)
    (hf : X.fn z = true ∨ X.env.scope.names.lookup z = some .local := by first | exact .inl rfl | exact .inr rfl | assumption)
    (hs : ∀ x, foldedSetIterable iter X.env x = pure x := by intro _; rfl) : PS X (.Assign [.Name z pz] (.ListComp elt [⟨.Tuple [.Name x px, .Name y py] k tp, iter, [t], 0⟩] scope pos) spos) (tAsg (tCompN 2 wi (gPair X.K) js tc te) (gName i)) :=
  ps_setCTN hN hi' hy [x, y] cs js hE c hc hi (fun _ _ _ _ => pg_pair hc c.nd lx ly) ht he hsw hf hs
theorem compW_zip2 {K : PySem.W.Frag} {b1 b2 : Bool} {a b : Addr} {xs ys : List V} {tc : TT} {te : TE} {τ : St} {fin : List V → Hp → Prop} {H : Hp} (hl : xs.length = ys.length) (hz : xs.length ≤ sizeLine) (Pv : Nat → List V → Hp → Prop) (h0 : Pv 0 [] H)
    (hk : ∀ i zs H, i ≤ xs.length → Pv i zs H → SqB K b1 H a xs ∧ SqB K b2 H b ys ∧ zs.length ≤ i)
    (hs : ∀ (i : Nat) x y p zs H, xs[i]? = some x → ys[i]? = some y → Pv i zs H → H p = none → tc (some x :: some y :: τ) (upd H p (.tup [x, y])) fun b H3 => if b = true then te (some x :: some y :: τ) H3 (fun y H4 => Pv (i + 1) (zs ++ [y]) H4) else Pv (i + 1) zs H3)
    (hd : ∀ zs H, Pv xs.length zs H → fin zs H) : CompWN (Itz K [(b1, a), (b2, b)]) (gPair K) tc te 2 τ fin H := by
  refine ⟨fun i m zs H => m = xs.length - i ∧ i ≤ xs.length ∧ Pv i zs H, ⟨xs.length, by simp, Nat.zero_le _, h0⟩, ?_⟩
  rintro i m zs H ⟨rfl, hi, p⟩
  obtain ⟨q1, q2, q3⟩ := hk i zs H hi p
  by_cases hlt : i < xs.length
  · refine .inr ⟨fun r hr => ?_, by omega, Pv (i + 1), fun ys' H' p' => ⟨xs.length - (i + 1), by omega, rfl, hlt, p'⟩, fun x H' y ρ hρ => ?_⟩
    · rcases List.mem_cons.mp hr with rfl | hr
      · exact ⟨xs, xs[i], q1, by simp [hlt]⟩
      · rw [List.mem_singleton.mp hr]
        exact ⟨ys, ys[i], q2, by simp [hl ▸ hlt]⟩
    · obtain ⟨c, us, rfl, hc, rfl, pa⟩ := y
      match us, pa, ρ, hρ with
      | [u, v], .cons p1 (.cons p2 .nil), [r1, r2], _ =>
        refine ⟨c, [u, v], rfl, SqT.of upd_same, rfl, u, [v], rfl, v, [], rfl, rfl, ⟨[some u, some v], rfl, rfl⟩, ?_⟩
        exact hs i u v c zs H (p1 xs q1) (p2 ys q2) p hc
  · have e : i = xs.length := by omega
    subst e
    exact .inl ⟨⟨_, xs, rfl, q1, Nat.le_refl _⟩, hd zs H p⟩
/-- over zip of three, into one name -/
theorem compW_zip3 {K : PySem.W.Frag} {b1 b2 b3 : Bool} {a b c : Addr} {xs ys zs : List V} {tc : TT} {te : TE} {τ : St} {fin : List V → Hp → Prop} {H : Hp} (hl : xs.length = ys.length) (hl2 : xs.length = zs.length) (hz : xs.length ≤ sizeLine) (Pv : Nat → List V → Hp → Prop) (h0 : Pv 0 [] H)
    (hk : ∀ i vs H, i ≤ xs.length → Pv i vs H → SqB K b1 H a xs ∧ SqB K b2 H b ys ∧ SqB K b3 H c zs ∧ vs.length ≤ i)
    (hs : ∀ (i : Nat) x y z p vs H, xs[i]? = some x → ys[i]? = some y → zs[i]? = some z → Pv i vs H → H p = none → tc (some (.ref p) :: τ) (upd H p (.tup [x, y, z])) fun b H3 => if b = true then te (some (.ref p) :: τ) H3 (fun y H4 => Pv (i + 1) (vs ++ [y]) H4) else Pv (i + 1) vs H3)
    (hd : ∀ vs H, Pv xs.length vs H → fin vs H) : CompW (Itz K [(b1, a), (b2, b), (b3, c)]) tc te τ fin H := by
  refine ⟨fun i m vs H => m = xs.length - i ∧ i ≤ xs.length ∧ Pv i vs H, ⟨xs.length, by simp, Nat.zero_le _, h0⟩, ?_⟩
  rintro i m vs H ⟨rfl, hi, p⟩
  obtain ⟨q1, q2, q3, q4⟩ := hk i vs H hi p
  by_cases hlt : i < xs.length
  · refine .inr ⟨fun r hr => ?_, by omega, Pv (i + 1), fun ys' H' p' => ⟨xs.length - (i + 1), by omega, rfl, hlt, p'⟩, fun x H' y => ?_⟩
    · rcases List.mem_cons.mp hr with rfl | hr
      · exact ⟨xs, xs[i], q1, by simp [hlt]⟩
      rcases List.mem_cons.mp hr with rfl | hr
      · exact ⟨ys, ys[i], q2, by simp [hl ▸ hlt]⟩
      · rw [List.mem_singleton.mp hr]
        exact ⟨zs, zs[i], q3, by simp [hl2 ▸ hlt]⟩
    · obtain ⟨d, us, rfl, hc, rfl, pa⟩ := y
      match us, pa with
      | [u, v, t], .cons p1 (.cons p2 (.cons p3 .nil)) => exact hs i u v t d vs H (p1 xs q1) (p2 ys q2) (p3 zs q3) p hc
  · have e : i = xs.length := by omega
    subst e
    exact .inl ⟨⟨_, xs, rfl, q1, Nat.le_refl _⟩, hd vs H p⟩
end
end L2

set_option Elab.async false
set_option linter.all false
set_option maxRecDepth 100000
set_option maxHeartbeats 4000000
namespace L2
open PySem PySem.Spec PyProof.Rows
/-! ### all of a list of bools -/
theorem range_all (bs : List Bool) : (List.range bs.length).all (fun i => bs.getD i true) = bs.all id := by
  rw [Bool.eq_iff_iff, List.all_eq_true, List.all_eq_true]
  constructor
  · intro h b hb
    obtain ⟨i, hi, e⟩ := List.mem_iff_getElem.mp hb
    have := h i (List.mem_range.mpr hi)
    rw [List.getD_eq_getElem?_getD, List.getElem?_eq_getElem hi] at this
    rw [← e]; exact this
  · intro h i hi
    have hi' := List.mem_range.mp hi
    rw [List.getD_eq_getElem?_getD, List.getElem?_eq_getElem hi']
    exact h _ (List.getElem_mem hi')
section
variable {X : Cx}
def rAll (K : PySem.W.Frag) : List V → Hp → VK → Prop := fun xs H Q => ∃ (l : Addr) (bs : List Bool), xs = [.ref l] ∧ SqL K H l (bs.map V.bl) ∧ Q (.bl (bs.all id)) H
theorem call_all (hc : X.calm = true) : CallR X (.builtin "all") (rAll X.K) := by
  intro pins s σ H xs us Q I r h
  obtain ⟨l, bs, rfl, hq, q⟩ := h
  obtain ⟨u, rfl, rx⟩ := vals1 r
  cases rx
  obtain ⟨its, r', pl, hz⟩ := I.list hq
  have hl : s.heap.IsList l its.toArray := pl.isList
  have hlt : l < s.heap.objs.size := by obtain ⟨_, e, _⟩ := hl; exact Heap.lt_size e
  have hlen := r'.length
  rw [List.length_map] at hlen
  refine call_all_walk (wpAny_pyIter_list hl ?_)
  refine ⟨s.heap.objs.size, _, _, _, _, _, fun i => bs.getD i true, rfl, Walks.list (A := X.A.in1) (I.ok.hd hc) s.heap.objs.size l (Nat.ne_of_lt hlt) its.toArray, ⟨⟨_, Heap.get?_push_size _ rfl, rfl, rfl⟩, ?_⟩, ?_, ?_⟩
  · obtain ⟨o, e, r⟩ := hl
    exact ⟨o, Heap.get?_push_of_some _ e, r⟩
  · intro i v s' Q' E' hv hQ
    have hv' : its[i]? = some v := by simpa using hv
    have hi : i < its.length := (List.getElem?_eq_some_iff.mp hv').1
    obtain ⟨u, e1, e2⟩ := r'.get (i := i) (x := V.bl (bs.getD i true)) (by
      rw [List.getElem?_map, List.getElem?_eq_getElem (by omega), List.getD_eq_getElem?_getD, List.getElem?_eq_getElem (by omega)]; rfl)
    rw [e1] at hv'
    cases hv'
    cases e2
    exact wpAny_truthy_bool hQ
  · intro h' tk hk
    have e : its.toArray.size = bs.length := by simp [hlen]
    rw [e, range_all]
    refine ⟨.bl (bs.all id), H, I.kept (t' := tk) fun b o e => hk b o ?_ (Heap.get?_push_of_some _ e), rfl, q⟩
    intro hb
    rw [List.mem_singleton.mp hb] at e
    exact Nat.lt_irrefl _ (Heap.lt_size e)
/-! ### is not True -/
def rIsnB : R2 := fun x y H Q => ∃ b c, x = .bl b ∧ y = .bl c ∧ Q (.bl (b != c)) H
theorem op_isnotB : OpR X (compareOp .IsNot) rIsnB := by
  intro pins s σ H x y v u Q I rx ry h
  obtain ⟨b, c, rfl, rfl, q⟩ := h
  cases rx
  cases ry
  exact isnot_bool ⟨.bl (b != c), H, I, rfl, q⟩
end
/-! ### == of keys -/
mutual
def Kd.eqb : Kd → Kd → Bool
  | .num i, .num j => i == j
  | .txt x, .txt y => x == y
  | .tup ks, .tup ls => Kd.eqbL ks ls
  | .num _, .txt _ => false
  | .num _, .tup _ => false
  | .txt _, .num _ => false
  | .txt _, .tup _ => false
  | .tup _, .num _ => false
  | .tup _, .txt _ => false
def Kd.eqbL : List Kd → List Kd → Bool
  | [], [] => true
  | k :: r, l :: q => k.eqb l && Kd.eqbL r q
  | [], _ :: _ => false
  | _ :: _, [] => false
end
mutual
theorem Kd.eqb_eq : ∀ {k l : Kd}, k.eqb l = true → k = l
  | .num i, .num j, h => by unfold Kd.eqb at h; rw [eq_of_beq h]
  | .txt i, .txt j, h => by unfold Kd.eqb at h; rw [eq_of_beq h]
  | .tup ks, .tup ls, h => by unfold Kd.eqb at h; rw [Kd.eqbL_eq h]
  | .num _, .txt _, h => by unfold Kd.eqb at h; cases h
  | .num _, .tup _, h => by unfold Kd.eqb at h; cases h
  | .txt _, .num _, h => by unfold Kd.eqb at h; cases h
  | .txt _, .tup _, h => by unfold Kd.eqb at h; cases h
  | .tup _, .num _, h => by unfold Kd.eqb at h; cases h
  | .tup _, .txt _, h => by unfold Kd.eqb at h; cases h
theorem Kd.eqbL_eq : ∀ {k l : List Kd}, Kd.eqbL k l = true → k = l
  | [], [], _ => rfl
  | k :: r, l :: q, h => by
    unfold Kd.eqbL at h
    rw [Bool.and_eq_true] at h
    rw [Kd.eqb_eq h.1, Kd.eqbL_eq h.2]
  | [], _ :: _, h => by unfold Kd.eqbL at h; cases h
  | _ :: _, [], h => by unfold Kd.eqbL at h; cases h
end
mutual
theorem IsK.inj {H : Hp} : ∀ {k l : Kd} {v : V}, IsK H k v → IsK H l v → k.eqb l = true
  | .num i, .num j, v, h, h' => by unfold IsK at h h'; subst h; cases h'; unfold Kd.eqb; exact beq_self_eq_true _
  | .txt i, .txt j, v, h, h' => by unfold IsK at h h'; subst h; cases h'; unfold Kd.eqb; exact beq_self_eq_true _
  | .tup ks, .tup ls, v, h, h' => by
    unfold IsK at h h'
    obtain ⟨a, vs, rfl, e, _, q⟩ := h
    obtain ⟨a', vs', e1, e', _, q'⟩ := h'
    cases e1
    rw [e] at e'
    cases e'
    unfold Kd.eqb
    exact IsKs.inj q q'
  | .num _, .txt _, v, h, h' => by unfold IsK at h h'; subst h; cases h'
  | .num _, .tup _, v, h, h' => by unfold IsK at h h'; subst h; obtain ⟨_, _, e, _⟩ := h'; cases e
  | .txt _, .num _, v, h, h' => by unfold IsK at h h'; subst h; cases h'
  | .txt _, .tup _, v, h, h' => by unfold IsK at h h'; subst h; obtain ⟨_, _, e, _⟩ := h'; cases e
  | .tup _, .num _, v, h, h' => by unfold IsK at h h'; subst h'; obtain ⟨_, _, e, _⟩ := h; cases e
  | .tup _, .txt _, v, h, h' => by unfold IsK at h h'; subst h'; obtain ⟨_, _, e, _⟩ := h; cases e
theorem IsKs.inj {H : Hp} : ∀ {k l : List Kd} {v : List V}, IsKs H k v → IsKs H l v → Kd.eqbL k l = true
  | [], [], _, _, _ => by unfold Kd.eqbL; rfl
  | k :: r, l :: q, v, h, h' => by
    unfold IsKs at h h'
    obtain ⟨a, vr, rfl, h1, h2⟩ := h
    obtain ⟨a', vr', e, h1', h2'⟩ := h'
    obtain ⟨rfl, rfl⟩ := List.cons.inj e
    unfold Kd.eqbL
    rw [IsK.inj h1 h1', IsKs.inj h2 h2']; rfl
  | [], _ :: _, v, h, h' => by unfold IsKs at h h'; subst h; obtain ⟨_, _, e, _⟩ := h'; cases e
  | _ :: _, [], v, h, h' => by unfold IsKs at h h'; subst h'; obtain ⟨_, _, e, _⟩ := h; cases e
end
def eqAtL (ks ls : List Kd) (j : Nat) : Bool := match ks[j]?, ls[j]? with
  | some k, some l => k.eqb l
  | _, _ => true
theorem eqAtL_all : ∀ (ks ls : List Kd), ((List.range (min ks.length ls.length)).all (eqAtL ks ls) && ks.length == ls.length) = Kd.eqbL ks ls
  | [], [] => by unfold Kd.eqbL; rfl
  | [], l :: q => by unfold Kd.eqbL; simp
  | k :: r, [] => by unfold Kd.eqbL; simp
  | k :: r, l :: q => by
    unfold Kd.eqbL
    rw [← eqAtL_all r q]
    have e : min (k :: r).length (l :: q).length = min r.length q.length + 1 := by simp only [List.length_cons]; omega
    rw [e, List.range_succ_eq_map, List.all_cons, List.all_map]
    have e1 : eqAtL (k :: r) (l :: q) 0 = k.eqb l := rfl
    have e2 : (eqAtL (k :: r) (l :: q) ∘ Nat.succ) = eqAtL r q := by funext j; rfl
    have e3 : ((k :: r).length == (l :: q).length) = (r.length == q.length) := by
      rw [Bool.eq_iff_iff, beq_iff_eq, beq_iff_eq]; simp
    rw [e1, e2, e3, Bool.and_assoc]
section
variable {X : Cx} {pins : List (Addr × Obj)} {σ : St} {H : Hp} {s : Shared}
theorem rcAt_tups (I : Inv X pins σ H s) {A : Around} {a b : Addr} {ks ls : List Kd} {vs ws : List V} (ha : H a = some (.tup vs)) (hb : H b = some (.tup ws)) (hk : IsKs H ks vs) (hl : IsKs H ls ws) (hu : A.units < cLine)
    (ih : ∀ {k k' : Kd} {x y : V} {u v : Value}, k ∈ ks → IsK H k x → IsK H k' y → RelV x u → RelV y v → SeqAt.EqAt A.in1 s u v (k.eqb k')) : SeqAt.RcAt A s (.ref a) (.ref b) (Kd.eqbL ks ls) := by
  obtain ⟨its, r1, p1, _⟩ := I.tuple (SqT.of ha)
  obtain ⟨its', r2, p2, _⟩ := I.tuple (SqT.of hb)
  have n1 := r1.length
  have n2 := r2.length
  have m1 := hk.length
  have m2 := hl.length
  have z := SeqAt.RcAt.tuples (A := A) (s := s) (l := a) (b := b) (e := eqAtL ks ls) p1 p2 hu (fun j h1 h2 => ?_)
  · have e1 : its.toArray.size = ks.length := by rw [List.size_toArray]; omega
    have e2 : its'.toArray.size = ls.length := by rw [List.size_toArray]; omega
    rw [e1, e2, eqAtL_all] at z
    exact z
  · rw [List.size_toArray] at h1 h2
    have g1 : vs[j]? = some vs[j] := List.getElem?_eq_getElem (by omega)
    have g2 : ws[j]? = some ws[j] := List.getElem?_eq_getElem (by omega)
    obtain ⟨u, eu, ru⟩ := r1.get g1
    obtain ⟨v, ev, rv⟩ := r2.get g2
    obtain ⟨k, ek, ik⟩ := hk.get g1
    obtain ⟨l, el, il⟩ := hl.get g2
    have q := ih (List.mem_of_getElem? ek) ik il ru rv
    have f1 : its.toArray[j] = u := by
      have := (List.getElem?_eq_some_iff.mp eu).2
      simpa using this
    have f2 : its'.toArray[j] = v := by
      have := (List.getElem?_eq_some_iff.mp ev).2
      simpa using this
    have f3 : eqAtL ks ls j = k.eqb l := by unfold eqAtL; rw [ek, el]
    rw [f1, f2, f3]
    exact q
theorem eqAt_K (I : Inv X pins σ H s) : ∀ (n : Nat) {k k' : Kd} {x y : V} {u v : Value} {A : Around}, k.deep ≤ n → IsK H k x → IsK H k' y → RelV x u → RelV y v → A.units + n < cLine → SeqAt.EqAt A s u v (k.eqb k') := by
  intro n
  induction n with
  | zero =>
    intro k k' x y u v A hd hk hk' rx ry hu
    cases k with
    | num i =>
      unfold IsK at hk; subst hk; obtain ⟨t, rfl⟩ := rx
      cases k' with
      | num j => unfold IsK at hk'; subst hk'; obtain ⟨t', rfl⟩ := ry; unfold Kd.eqb; exact SeqAt.EqAt.int_int _ _ _ _
      | txt j => unfold IsK at hk'; subst hk'; obtain ⟨t', rfl⟩ := ry; unfold Kd.eqb; exact SeqAt.EqAt.int_str _ _ _ _
      | tup ls =>
        unfold IsK at hk'; obtain ⟨b, ws, rfl, hb, _, _⟩ := hk'; cases ry
        obtain ⟨its', r2, p2, _⟩ := I.tuple (SqT.of hb)
        unfold Kd.eqb; exact SeqAt.EqAt.int_tuple _ _ p2 (by omega)
    | txt i =>
      unfold IsK at hk; subst hk; obtain ⟨t, rfl⟩ := rx
      cases k' with
      | num j => unfold IsK at hk'; subst hk'; obtain ⟨t', rfl⟩ := ry; unfold Kd.eqb; exact SeqAt.EqAt.str_int _ _ _ _
      | txt j => unfold IsK at hk'; subst hk'; obtain ⟨t', rfl⟩ := ry; unfold Kd.eqb; exact SeqAt.EqAt.str_str _ _ _ _
      | tup ls =>
        unfold IsK at hk'; obtain ⟨b, ws, rfl, hb, _, _⟩ := hk'; cases ry
        obtain ⟨its', r2, p2, _⟩ := I.tuple (SqT.of hb)
        unfold Kd.eqb; exact SeqAt.EqAt.str_tuple _ _ p2 (by omega)
    | tup ks => unfold Kd.deep at hd; omega
  | succ n ih =>
    intro k k' x y u v A hd hk hk' rx ry hu
    cases k with
    | num i => exact ih (by unfold Kd.deep; omega) hk hk' rx ry (by omega)
    | txt i => exact ih (by unfold Kd.deep; omega) hk hk' rx ry (by omega)
    | tup ks =>
      have hk0 := hk
      unfold IsK at hk; obtain ⟨a, vs, rfl, ha, _, hks⟩ := hk; cases rx
      obtain ⟨its, r1, p1, _⟩ := I.tuple (SqT.of ha)
      cases k' with
      | num j => unfold IsK at hk'; subst hk'; obtain ⟨t', rfl⟩ := ry; unfold Kd.eqb; exact SeqAt.EqAt.tuple_int _ _ p1 (by omega)
      | txt j => unfold IsK at hk'; subst hk'; obtain ⟨t', rfl⟩ := ry; unfold Kd.eqb; exact SeqAt.EqAt.tuple_str _ _ p1 (by omega)
      | tup ls =>
        have hk1 := hk'
        unfold IsK at hk'; obtain ⟨b, ws, rfl, hb, _, hls⟩ := hk'; cases ry
        by_cases e : a = b
        · subst e
          rw [hk0.inj hk1]
          exact SeqAt.EqAt.same _
        · unfold Kd.eqb
          unfold Kd.deep at hd
          exact SeqAt.EqAt.of_refs e (rcAt_tups I ha hb hks hls (by omega) fun hm i1 i2 q1 q2 => ih (Nat.le_trans (Kd.deep_le hm) (by omega)) i1 i2 q1 q2 (by show A.units + 1 + n < cLine; omega))
theorem rcAt_K (I : Inv X pins σ H s) {n : Nat} {k k' : Kd} {x y : V} {u v : Value} {A : Around} (hd : k.deep ≤ n) (hk : IsK H k x) (hk' : IsK H k' y) (rx : RelV x u) (ry : RelV y v) (hu : A.units + n < cLine) : SeqAt.RcAt A s u v (k.eqb k') := by
  cases k with
  | num i =>
    unfold IsK at hk; subst hk; obtain ⟨t, rfl⟩ := rx
    cases k' with
    | num j => unfold IsK at hk'; subst hk'; obtain ⟨t', rfl⟩ := ry; unfold Kd.eqb; exact SeqAt.RcAt.int_int _ _ _ _
    | txt j => unfold IsK at hk'; subst hk'; obtain ⟨t', rfl⟩ := ry; unfold Kd.eqb; exact SeqAt.RcAt.int_str _ _ _ _
    | tup ls =>
      unfold IsK at hk'; obtain ⟨b, ws, rfl, hb, _, _⟩ := hk'; cases ry
      obtain ⟨its', r2, p2, _⟩ := I.tuple (SqT.of hb)
      unfold Kd.eqb; exact SeqAt.RcAt.int_tuple _ _ p2 (by omega)
  | txt i =>
    unfold IsK at hk; subst hk; obtain ⟨t, rfl⟩ := rx
    cases k' with
    | num j => unfold IsK at hk'; subst hk'; obtain ⟨t', rfl⟩ := ry; unfold Kd.eqb; exact SeqAt.RcAt.str_int _ _ _ _
    | txt j => unfold IsK at hk'; subst hk'; obtain ⟨t', rfl⟩ := ry; unfold Kd.eqb; exact SeqAt.RcAt.str_str _ _ _ _
    | tup ls =>
      unfold IsK at hk'; obtain ⟨b, ws, rfl, hb, _, _⟩ := hk'; cases ry
      obtain ⟨its', r2, p2, _⟩ := I.tuple (SqT.of hb)
      unfold Kd.eqb; exact SeqAt.RcAt.str_tuple _ _ p2 (by omega)
  | tup ks =>
    unfold IsK at hk; obtain ⟨a, vs, rfl, ha, _, hks⟩ := hk; cases rx
    obtain ⟨its, r1, p1, _⟩ := I.tuple (SqT.of ha)
    cases k' with
    | num j => unfold IsK at hk'; subst hk'; obtain ⟨t', rfl⟩ := ry; unfold Kd.eqb; exact SeqAt.RcAt.tuple_int _ _ p1 (by omega)
    | txt j => unfold IsK at hk'; subst hk'; obtain ⟨t', rfl⟩ := ry; unfold Kd.eqb; exact SeqAt.RcAt.tuple_str _ _ p1 (by omega)
    | tup ls =>
      unfold IsK at hk'; obtain ⟨b, ws, rfl, hb, _, hls⟩ := hk'; cases ry
      unfold Kd.eqb
      unfold Kd.deep at hd
      exact rcAt_tups I ha hb hks hls (by omega) fun hm i1 i2 q1 q2 => eqAt_K I (n - 1) (Nat.le_trans (Kd.deep_le hm) (by omega)) i1 i2 q1 q2 (by show A.units + 1 + (n - 1) < cLine; omega)
end
def rEqK : R2 := fun x y H Q => ∃ k k', IsK H k x ∧ IsK H k' y ∧ k.deep ≤ 20 ∧ Q (.bl (k.eqb k')) H
theorem op_eqK {X : Cx} (hu : X.A.units + 64 < cLine) : OpR X (compareOp .Eq) rEqK := by
  intro pins s σ H x y v u Q I rx ry h
  obtain ⟨k, k', hk, hk', hd, q⟩ := h
  exact rcAt_K I hd hk hk' rx ry (by omega) X.prog X.w _ _ ⟨.bl (k.eqb k'), H, I, rfl, q⟩
/-! ### cuts -/
theorem cut_pre {xs : List V} {n : Nat} : cutV xs none (some (n : Int)) = xs.take n := by
  unfold cutV
  have e1 : HT.sIx xs.length 0 none = 0 := rfl
  have e2 : HT.sIx xs.length xs.length (some (n : Int)) = min n xs.length := by
    show (if (n : Int) < 0 then ((n : Int) + (xs.length : Int)).toNat else min (n : Int).toNat xs.length) = _
    rw [if_neg (by omega)]; simp
  rw [e1, e2, List.drop_zero, Nat.sub_zero]
  by_cases h : n ≤ xs.length
  · rw [Nat.min_eq_left h]
  · rw [Nat.min_eq_right (by omega), List.take_of_length_le (Nat.le_refl _), List.take_of_length_le (by omega)]
theorem cut_suf {xs : List V} {n : Nat} : cutV xs (some (n : Int)) none = xs.drop n := by
  unfold cutV
  have e1 : HT.sIx xs.length xs.length none = xs.length := rfl
  have e2 : HT.sIx xs.length 0 (some (n : Int)) = min n xs.length := by
    show (if (n : Int) < 0 then ((n : Int) + (xs.length : Int)).toNat else min (n : Int).toNat xs.length) = _
    rw [if_neg (by omega)]; simp
  rw [e1, e2]
  by_cases h : n ≤ xs.length
  · rw [Nat.min_eq_left h, List.take_of_length_le (by rw [List.length_drop]; exact Nat.le_refl _)]
  · rw [Nat.min_eq_right (by omega), List.drop_of_length_le (Nat.le_refl _), List.drop_of_length_le (by omega), List.take_nil]
/-! ### never -/
def tNo : TE := fun _ _ _ => False
theorem pe_never {X : Cx} {e : Expr} : PE X e tNo := fun _ _ _ _ _ _ h => h.elim
end L2

set_option Elab.async false
set_option linter.all false
set_option maxRecDepth 100000
set_option maxHeartbeats 4000000
namespace L2
open PySem PySem.Spec PyProof.Rows
/-! ### things, keys or none -/
inductive Od where
  | bl (b : Bool) | non | lst | dct
inductive Th where
  | num (i : Int)
  | txt (x : Str)
  | tup (ts : List Th)
  | odd (o : Od)
mutual
def Th.ok : Th → Nat → Bool
  | .num i, _ => decide (-10 ^ 60 < i) && decide (i < 10 ^ 60)
  | .txt x, _ => decide (x.length ≤ 60)
  | .tup ts, n => decide (0 < n) && (decide (ts.length ≤ 6) && Th.okL ts (n - 1))
  | .odd _, _ => false
def Th.okL : List Th → Nat → Bool
  | [], _ => true
  | t :: r, n => t.ok n && Th.okL r n
end
def Th.isNum : Th → Bool
  | .num _ => true
  | .txt _ => false
  | .tup _ => false
  | .odd _ => false
def IsO (B : Hp) : Od → V → Prop
  | .bl b, v => v = .bl b
  | .non, v => v = .non
  | .lst, v => ∃ a xs, v = .ref a ∧ B a = some (.lst xs)
  | .dct, v => ∃ a xs, v = .ref a ∧ B a = some (.dK xs)
mutual
def IsT (B H : Hp) : Th → V → Prop
  | .num i, v => v = .int i
  | .txt x, v => v = .str x ∧ x.length ≤ 1000
  | .tup ts, v => ∃ a vs, v = .ref a ∧ H a = some (.tup vs) ∧ vs.length ≤ 1000 ∧ IsTs B H ts vs
  | .odd o, v => IsO B o v
def IsTs (B H : Hp) : List Th → List V → Prop
  | [], vs => vs = []
  | k :: r, vs => ∃ v vr, vs = v :: vr ∧ IsT B H k v ∧ IsTs B H r vr
end
mutual
theorem IsT.same {B H H' : Hp} (s : TupS H H') : ∀ {k : Th} {v : V}, IsT B H k v → IsT B H' k v
  | .num _, _, h => by unfold IsT at h ⊢; exact h
  | .txt _, _, h => by unfold IsT at h ⊢; exact h
  | .odd _, _, h => by unfold IsT at h ⊢; exact h
  | .tup ts, _, h => by
    unfold IsT at h ⊢
    obtain ⟨a, vs, e, h1, h2, h3⟩ := h
    exact ⟨a, vs, e, s _ _ h1, h2, IsTs.same s h3⟩
theorem IsTs.same {B H H' : Hp} (s : TupS H H') : ∀ {ks : List Th} {vs : List V}, IsTs B H ks vs → IsTs B H' ks vs
  | [], _, h => by unfold IsTs at h ⊢; exact h
  | k :: r, _, h => by
    unfold IsTs at h ⊢
    obtain ⟨v, vr, e, h1, h2⟩ := h
    exact ⟨v, vr, e, IsT.same s h1, IsTs.same s h2⟩
end
theorem IsTs.length {B H : Hp} : ∀ {ks : List Th} {vs : List V}, IsTs B H ks vs → vs.length = ks.length
  | [], _, h => by unfold IsTs at h; subst h; rfl
  | k :: r, _, h => by
    unfold IsTs at h
    obtain ⟨v, vr, rfl, _, h2⟩ := h
    rw [List.length_cons, List.length_cons, h2.length]
theorem IsTs.get {B H : Hp} : ∀ {ks : List Th} {vs : List V} {i : Nat} {v : V}, IsTs B H ks vs → vs[i]? = some v → ∃ k, ks[i]? = some k ∧ IsT B H k v
  | [], _, i, v, h, e => by unfold IsTs at h; subst h; simp at e
  | k :: r, _, 0, v, h, e => by
    unfold IsTs at h
    obtain ⟨v', vr, rfl, h1, _⟩ := h
    rw [List.getElem?_cons_zero] at e
    cases e
    exact ⟨k, rfl, h1⟩
  | k :: r, _, i + 1, v, h, e => by
    unfold IsTs at h
    obtain ⟨v', vr, rfl, _, h2⟩ := h
    rw [List.getElem?_cons_succ] at e
    obtain ⟨k', e1, e2⟩ := h2.get e
    exact ⟨k', by rw [List.getElem?_cons_succ]; exact e1, e2⟩
theorem IsTs.nil {B H : Hp} : IsTs B H [] [] := by unfold IsTs; rfl
theorem IsTs.snoc {B H : Hp} {k : Th} {v : V} : ∀ {ks : List Th} {vs : List V}, IsTs B H ks vs → IsT B H k v → IsTs B H (ks ++ [k]) (vs ++ [v])
  | [], _, h, q => by
    unfold IsTs at h
    subst h
    show IsTs B H [k] [v]
    unfold IsTs
    exact ⟨v, [], rfl, q, IsTs.nil⟩
  | k' :: r, _, h, q => by
    unfold IsTs at h
    obtain ⟨v', vr, rfl, h1, h2⟩ := h
    show IsTs B H (k' :: (r ++ [k])) (v' :: (vr ++ [v]))
    unfold IsTs
    exact ⟨v', _, rfl, h1, h2.snoc q⟩
theorem okL_all (n : Nat) : ∀ ts : List Th, Th.okL ts n = (ts.map fun t => t.ok n).all id
  | [] => by unfold Th.okL; rfl
  | t :: r => by unfold Th.okL; rw [List.map_cons, List.all_cons, okL_all n r]; rfl
/-! keys are things -/
mutual
def Kd.th : Kd → Th
  | .num i => .num i
  | .txt x => .txt x
  | .tup ks => .tup (Kd.thL ks)
def Kd.thL : List Kd → List Th
  | [] => []
  | k :: r => k.th :: Kd.thL r
end
theorem Kd.thL_length : ∀ ks : List Kd, (Kd.thL ks).length = ks.length
  | [] => by unfold Kd.thL; rfl
  | k :: r => by unfold Kd.thL; rw [List.length_cons, List.length_cons, Kd.thL_length r]
theorem Kd.thL_append : ∀ ks ls : List Kd, Kd.thL (ks ++ ls) = Kd.thL ks ++ Kd.thL ls
  | [], ls => by rw [Kd.thL]; rfl
  | k :: r, ls => by rw [List.cons_append, Kd.thL, Kd.thL, Kd.thL_append r ls]; rfl
theorem Th.okL_append (n : Nat) : ∀ ks ls : List Th, Th.okL (ks ++ ls) n = (Th.okL ks n && Th.okL ls n)
  | [], ls => by rw [List.nil_append, Th.okL]; rfl
  | k :: r, ls => by rw [List.cons_append, Th.okL, Th.okL, Th.okL_append n r ls, Bool.and_assoc]
mutual
theorem IsK.th {B H : Hp} : ∀ {k : Kd} {v : V} {n : Nat}, IsK H k v → k.th.ok n = true → IsT B H k.th v
  | .num _, _, _, h, _ => by unfold IsK at h; unfold Kd.th IsT; exact h
  | .txt x, _, _, h, q => by
    unfold IsK at h; unfold Kd.th at q ⊢; unfold Th.ok at q; unfold IsT
    have := of_decide_eq_true q
    exact ⟨h, by omega⟩
  | .tup ks, _, _, h, q => by
    unfold IsK at h; unfold Kd.th at q ⊢; unfold Th.ok at q; unfold IsT
    obtain ⟨a, vs, e, h1, h2, h3⟩ := h
    rw [Bool.and_eq_true, Bool.and_eq_true] at q
    exact ⟨a, vs, e, h1, h2, IsKs.th h3 q.2.2⟩
theorem IsKs.th {B H : Hp} : ∀ {ks : List Kd} {vs : List V} {n : Nat}, IsKs H ks vs → Th.okL (Kd.thL ks) n = true → IsTs B H (Kd.thL ks) vs
  | [], _, _, h, _ => by unfold IsKs at h; unfold Kd.thL IsTs; exact h
  | k :: r, _, _, h, q => by
    unfold IsKs at h; unfold Kd.thL at q ⊢; unfold Th.okL at q; unfold IsTs
    obtain ⟨v, vr, e, h1, h2⟩ := h
    rw [Bool.and_eq_true] at q
    exact ⟨v, vr, e, IsK.th h1 q.1, IsKs.th h2 q.2⟩
end
def Emp : Hp := fun _ => none
theorem emp_same {H : Hp} : Same Emp H := fun b o h => by cases h
end L2

set_option Elab.async false
set_option linter.all false
set_option maxRecDepth 100000
set_option maxHeartbeats 4000000
namespace L2
open PySem PySem.Spec PyProof.Rows
/-! ### the signs -/
def SG : Str := Str.ofString " !\"#$&'()*+,-./0123456789:;<=>?@ABCDEFGHIJKLMNOPQRSTUVWXYZ[\\]^_`" ++ Str.ofString "abcdefghijklmnopqrstuvwxyz{|}~"
def sgc (i : Nat) : Nat := if i < 5 then 32 + i else 33 + i
theorem SG_list : SG.cps.toList = (List.range 94).map sgc := by decide +kernel
theorem SG_len : SG.length ≤ sizeLine := by decide +kernel
theorem SG_at {i : Int} (h0 : 0 ≤ i) (h1 : i < 94) : atI SG.cps.toList i = some (sgc i.toNat) := by
  have e : i = ((i.toNat : Nat) : Int) := by omega
  have hk : i.toNat < 94 := by omega
  have q : atI SG.cps.toList ((i.toNat : Nat) : Int) = some (sgc i.toNat) := atI_nat (by rw [SG_list]; simp [hk])
  rw [← e] at q
  exact q
theorem ixS_SG {i : Int} {H : Hp} {Q : VK} (h0 : 0 ≤ i) (h1 : i < 94) (q : Q (one (sgc i.toNat)) H) : rIxS (.str SG) (.int i) H Q := ⟨SG, i, _, rfl, rfl, SG_len, SG_at h0 h1, q⟩
/-! ### stamps -/
def stp (h : Int) (c : Nat) : Int := (31 * h + (c : Int)) % 2147483647
theorem tst_app (A B : List Nat) : tst (A ++ B) = B.foldl stp (tst A) := by unfold tst; rw [List.foldl_append]; rfl
theorem tst_two (A B : List Nat) {a b c d : Nat} (h1 : c = a + 1) (h2 : b = d + 31) : tst (A ++ [a] ++ [b] ++ B) = tst (A ++ [c] ++ [d] ++ B) := by
  rw [tst_app (A ++ [a] ++ [b]) B, tst_app (A ++ [c] ++ [d]) B]
  have e : tst (A ++ [a] ++ [b]) = tst (A ++ [c] ++ [d]) := by
    rw [tst_snoc, tst_snoc, tst_snoc, tst_snoc]
    subst h1 h2
    omega
  rw [e]
theorem stL_app : ∀ (A B : List Kd) (h : Int), Kd.stL h (A ++ B) = Kd.stL (Kd.stL h A) B
  | [], B, h => by rw [List.nil_append, Kd.stL]
  | k :: r, B, h => by rw [List.cons_append, Kd.stL, Kd.stL, stL_app r B]
theorem st_at (A B : List Kd) {k k' : Kd} (h : k.st = k'.st) : (Kd.tup (A ++ [k] ++ B)).st = (Kd.tup (A ++ [k'] ++ B)).st := by
  rw [Kd.st, Kd.st, stL_app (A ++ [k]) B, stL_app (A ++ [k']) B, Kd.stL_snoc, Kd.stL_snoc, h]
/-! ### ok, deep -/
mutual
theorem Th.ok_mono : ∀ {t : Th} {n m : Nat}, n ≤ m → t.ok n = true → t.ok m = true
  | .num _, _, _, _, h => by unfold Th.ok at h ⊢; exact h
  | .txt _, _, _, _, h => by unfold Th.ok at h ⊢; exact h
  | .odd _, _, _, _, h => by unfold Th.ok at h; cases h
  | .tup ts, n, m, hle, h => by
    unfold Th.ok at h ⊢
    rw [Bool.and_eq_true, Bool.and_eq_true] at h ⊢
    have h0 := of_decide_eq_true h.1
    exact ⟨decide_eq_true (by omega), h.2.1, Th.okL_mono (by omega) h.2.2⟩
theorem Th.okL_mono : ∀ {ts : List Th} {n m : Nat}, n ≤ m → Th.okL ts n = true → Th.okL ts m = true
  | [], _, _, _, _ => by unfold Th.okL; rfl
  | t :: r, _, _, hle, h => by
    unfold Th.okL at h ⊢
    rw [Bool.and_eq_true] at h ⊢
    exact ⟨Th.ok_mono hle h.1, Th.okL_mono hle h.2⟩
end
mutual
theorem Kd.deep_ok : ∀ {k : Kd} {n : Nat}, k.th.ok n = true → k.deep ≤ n
  | .num _, _, _ => by unfold Kd.deep; omega
  | .txt _, _, _ => by unfold Kd.deep; omega
  | .tup ks, n, h => by
    unfold Kd.th at h
    unfold Th.ok at h
    rw [Bool.and_eq_true, Bool.and_eq_true] at h
    have h0 := of_decide_eq_true h.1
    have h1 := Kd.deepL_ok h.2.2
    unfold Kd.deep
    omega
theorem Kd.deepL_ok : ∀ {ks : List Kd} {n : Nat}, Th.okL (Kd.thL ks) n = true → Kd.deepL ks ≤ n
  | [], _, _ => by unfold Kd.deepL; omega
  | k :: r, n, h => by
    unfold Kd.thL at h
    unfold Th.okL at h
    rw [Bool.and_eq_true] at h
    have h0 := Kd.deep_ok h.1
    have h1 := Kd.deepL_ok h.2
    unfold Kd.deepL
    omega
end
structure Pair (d : Nat) (k k' : Kd) : Prop where
  st : k.st = k'.st
  ne : k ≠ k'
  ok : k.th.ok d = true
  ok' : k'.th.ok d = true
theorem Pair.eqb {d : Nat} {k k' : Kd} (p : Pair d k k') : k.eqb k' = false := by
  cases e : k.eqb k' with
  | false => rfl
  | true => exact absurd (Kd.eqb_eq e) p.ne
def small (k : Kd) : Prop := ∃ i : Int, k = .num i ∧ 0 ≤ i ∧ i < 1000
theorem small_ok {ks : List Kd} {n : Nat} (h : ∀ k ∈ ks, small k) : Th.okL (Kd.thL ks) n = true := by
  induction ks with
  | nil => unfold Kd.thL Th.okL; rfl
  | cons k r ih =>
    unfold Kd.thL Th.okL
    rw [Bool.and_eq_true]
    obtain ⟨i, rfl, h0, h1⟩ := h k List.mem_cons_self
    refine ⟨?_, ih fun k hk => h k (List.mem_cons_of_mem _ hk)⟩
    unfold Kd.th Th.ok
    rw [Bool.and_eq_true]
    exact ⟨decide_eq_true (by omega), decide_eq_true (by omega)⟩
theorem within_ok {A B : List Kd} {k : Kd} {d : Nat} (hA : ∀ k ∈ A, small k) (hB : ∀ k ∈ B, small k) (hl : A.length + B.length ≤ 5) (h : k.th.ok d = true) : (Kd.tup (A ++ [k] ++ B)).th.ok (d + 1) = true := by
  unfold Kd.th Th.ok
  rw [Kd.thL_length, Kd.thL_append, Kd.thL_append, Th.okL_append, Th.okL_append, Bool.and_eq_true, Bool.and_eq_true, Bool.and_eq_true, Bool.and_eq_true]
  have e : Th.okL (Kd.thL [k]) (d + 1 - 1) = true := by
    unfold Kd.thL Kd.thL Th.okL Th.okL
    rw [Bool.and_true]
    exact h
  refine ⟨decide_eq_true (by omega), decide_eq_true ?_, ⟨small_ok hA, e⟩, small_ok hB⟩
  simp only [List.length_append, List.length_singleton]
  omega
theorem Pair.within {A B : List Kd} {k k' : Kd} {d : Nat} (p : Pair d k k') (hA : ∀ k ∈ A, small k) (hB : ∀ k ∈ B, small k) (hl : A.length + B.length ≤ 5) : Pair (d + 1) (.tup (A ++ [k] ++ B)) (.tup (A ++ [k'] ++ B)) where
  st := st_at A B p.st
  ne := fun e => by
    injection e with e
    have e2 := List.append_cancel_right e
    have e3 := List.append_cancel_left e2
    exact p.ne (List.cons.inj e3).1
  ok := within_ok hA hB hl p.ok
  ok' := within_ok hA hB hl p.ok'
/-! ### the script's cells -/
def cellD (ns : List Int) (k : Int) : Int := (ns[k.toNat]?).getD 0
def manyI (ns : List Int) (at' : Int) : Int := 1 + cellD ns at' / 3 % 6
def rowI (ns : List Int) (at' : Int) : List Int := (List.range (manyI ns at' - 1).toNat).map fun (j : Nat) => cellD ns (at' + 1 + (j : Int)) % 1000
def plI (ns : List Int) (at' : Int) : Nat := (cellD ns at' / 18 % manyI ns at').toNat
def within (ns : List Int) (at' : Int) (k : Kd) : Kd := .tup (((rowI ns at').take (plI ns at')).map Kd.num ++ [k] ++ ((rowI ns at').drop (plI ns at')).map Kd.num)
theorem many_range (ns : List Int) (at' : Int) : 1 ≤ manyI ns at' ∧ manyI ns at' ≤ 6 := by unfold manyI; omega
theorem rowI_len (ns : List Int) (at' : Int) : (rowI ns at').length ≤ 5 := by
  have := many_range ns at'
  unfold rowI
  rw [List.length_map, List.length_range]
  omega
theorem rowI_small {ns : List Int} {at' : Int} {l : List Int} (h : ∀ i ∈ l, i ∈ rowI ns at') : ∀ k ∈ l.map Kd.num, small k := by
  intro k hk
  obtain ⟨i, hi, rfl⟩ := List.mem_map.mp hk
  have := h i hi
  unfold rowI at this
  obtain ⟨j, _, rfl⟩ := List.mem_map.mp this
  exact ⟨_, rfl, by omega, by omega⟩
theorem Pair.withinS {ns : List Int} {at' : Int} {k k' : Kd} {d : Nat} (p : Pair d k k') : Pair (d + 1) (L2.within ns at' k) (L2.within ns at' k') := by
  refine p.within (rowI_small fun i hi => List.mem_of_mem_take hi) (rowI_small fun i hi => List.mem_of_mem_drop hi) ?_
  have := rowI_len ns at'
  rw [List.length_map, List.length_map, List.length_take, List.length_drop]
  omega
theorem IsKs.app {H : Hp} : ∀ {ks ls : List Kd} {vs ws : List V}, IsKs H ks vs → IsKs H ls ws → IsKs H (ks ++ ls) (vs ++ ws)
  | [], _, _, _, h, q => by unfold IsKs at h; subst h; exact q
  | k :: r, ls, _, ws, h, q => by
    unfold IsKs at h
    obtain ⟨v, vr, rfl, h1, h2⟩ := h
    show IsKs H (k :: (r ++ ls)) (v :: (vr ++ ws))
    unfold IsKs
    exact ⟨v, _, rfl, h1, h2.app q⟩
theorem isKs_nums {H : Hp} : ∀ l : List Int, IsKs H (l.map Kd.num) (l.map V.int)
  | [] => IsKs.nil
  | i :: r => by
    show IsKs H (Kd.num i :: r.map Kd.num) (V.int i :: r.map V.int)
    unfold IsKs
    exact ⟨_, _, rfl, by unfold IsK; rfl, isKs_nums r⟩
theorem cut_some {ns : List Int} (h : ns.length ≤ 63) : ∃ cells : List Int, cutV (ns.map V.int) (some 5) (some 63) = cells.map V.int ∧ cells.length ≤ 58 := by
  refine ⟨(ns.drop (HT.sIx (ns.map V.int).length 0 (some 5))).take (HT.sIx (ns.map V.int).length (ns.map V.int).length (some 63) - HT.sIx (ns.map V.int).length 0 (some 5)), ?_, ?_⟩
  · unfold cutV
    rw [List.map_take, List.map_drop]
  · have e : HT.sIx (ns.map V.int).length 0 (some 5) = min 5 ns.length := by
      rw [List.length_map]
      show (if (5 : Int) < 0 then ((5 : Int) + (ns.length : Int)).toNat else min (5 : Int).toNat ns.length) = _
      rw [if_neg (by decide)]; rfl
    rw [e, List.length_take, List.length_drop]
    omega
theorem txt_ok {x : Str} (h : x.length ≤ 60) : (Kd.txt x).th.ok 1 = true := by unfold Kd.th Th.ok; exact decide_eq_true h
theorem num_ok {i : Int} (h : -10 ^ 60 < i) (h' : i < 10 ^ 60) : (Kd.num i).th.ok 1 = true := by unfold Kd.th Th.ok; rw [decide_eq_true h, decide_eq_true h']; rfl
theorem nil_ok : (Kd.tup []).th.ok 1 = true := by unfold Kd.th Kd.thL Th.ok Th.okL; rfl
theorem num_pair {i : Int} {t : Int} (h : -10 ^ 18 ≤ i) (h1 : i ≤ 10 ^ 18) (ht : 1 ≤ t) (ht' : t ≤ 10 ^ 9) : Pair 1 (.num i) (.num (i + t * 2147483647)) where
  st := by rw [Kd.st, Kd.st]; omega
  ne := fun e => by injection e with e; omega
  ok := num_ok (by omega) (by omega)
  ok' := num_ok (by omega) (by omega)
theorem txt_num {x : Str} {t : Int} (hx : x.length ≤ 60) (ht : -1000 ≤ t) (ht' : t ≤ 1000) : Pair 1 (.txt x) (.num (tst x.cps.toList + t * 2147483647)) where
  st := by rw [Kd.st, Kd.st]; have := tst_range x.cps.toList; omega
  ne := fun e => by cases e
  ok := txt_ok hx
  ok' := by have := tst_range x.cps.toList; exact num_ok (by omega) (by omega)
theorem nil_num {t : Int} (ht : -1000 ≤ t) (ht' : t ≤ 1000) : Pair 1 (.tup []) (.num (11 + t * 2147483647)) where
  st := by rw [Kd.st, Kd.st, Kd.stL]; omega
  ne := fun e => by cases e
  ok := nil_ok
  ok' := num_ok (by omega) (by omega)
theorem txt_pair {x y : Str} (h : tst x.cps.toList = tst y.cps.toList) (hne : x ≠ y) (hx : x.length ≤ 60) (hy : y.length ≤ 60) : Pair 1 (.txt x) (.txt y) where
  st := by rw [Kd.st, Kd.st, h]
  ne := fun e => by injection e with e; exact hne e
  ok := txt_ok hx
  ok' := txt_ok hy
end L2
namespace L2
open PySem PySem.Spec PyProof.Rows
theorem len_app (a b : Str) : (a ++ b).length = a.length + b.length := Array.size_append
theorem len_arr (cs : List Nat) : (⟨cs.toArray⟩ : Str).length = cs.length := List.size_toArray
theorem len_one (c : Nat) : (⟨#[c]⟩ : Str).length = 1 := rfl
theorem cps_four (A B : List Nat) (a b : Nat) : ((⟨A.toArray⟩ : Str) ++ (⟨#[a]⟩ : Str) ++ (⟨#[b]⟩ : Str) ++ (⟨B.toArray⟩ : Str)).cps.toList = A ++ [a] ++ [b] ++ B := by
  show (((A.toArray ++ #[a]) ++ #[b]) ++ B.toArray).toList = _
  simp
theorem two_texts (A B : List Nat) {a b c d : Nat} (h1 : c = a + 1) (h2 : b = d + 31) :
    tst ((⟨A.toArray⟩ : Str) ++ (⟨#[a]⟩ : Str) ++ (⟨#[b]⟩ : Str) ++ (⟨B.toArray⟩ : Str)).cps.toList = tst ((⟨A.toArray⟩ : Str) ++ (⟨#[c]⟩ : Str) ++ (⟨#[d]⟩ : Str) ++ (⟨B.toArray⟩ : Str)).cps.toList ∧
    ((⟨A.toArray⟩ : Str) ++ (⟨#[a]⟩ : Str) ++ (⟨#[b]⟩ : Str) ++ (⟨B.toArray⟩ : Str)) ≠ ((⟨A.toArray⟩ : Str) ++ (⟨#[c]⟩ : Str) ++ (⟨#[d]⟩ : Str) ++ (⟨B.toArray⟩ : Str)) := by
  refine ⟨?_, fun e => ?_⟩
  · rw [cps_four, cps_four]
    exact tst_two A B h1 h2
  · have e2 := congrArg (fun x : Str => x.cps.toList) e
    simp only [cps_four] at e2
    have e3 := List.append_cancel_right e2
    rw [List.append_assoc, List.append_assoc] at e3
    have e4 := List.append_cancel_left e3
    have e5 := (List.cons.inj e4).1
    omega
theorem sgc_next {f : Int} (h0 : 0 ≤ f) (h : f < 4 ∨ 5 ≤ f) : sgc (f + 1).toNat = sgc f.toNat + 1 := by unfold sgc; split <;> split <;> omega
theorem sgc_31 {s l : Int} (h : (30 ≤ s ∧ s < 35 ∧ l = s - 30) ∨ (36 ≤ s ∧ l = s - 31)) : sgc s.toNat = sgc l.toNat + 31 := by unfold sgc; split <;> split <;> omega
end L2

set_option Elab.async false
set_option linter.all false
set_option maxRecDepth 100000
set_option maxHeartbeats 4000000
namespace L2
open PySem PySem.Spec PyProof.Rows
/-! ### an exception on its way, its context still None -/
/-- e lies in h over B: its class, its newest traceback entry (with the flight mark fl), no context -/
structure Fly (B h : Heap) (l : List Env) (e : Addr) (cls fl : Value) : Prop where
  stays : B.StaysIn h
  new : B.get? e = none
  frames : h.FunFrames B l
  trc : ∃ oe vs T oT ts, h.get? e = some oe ∧ oe.cls = cls ∧ oe.data = .fields vs ∧ vs[2]? = some .none ∧ vs[1]? = some (.ref T) ∧ B.get? T = none ∧ T ≠ e ∧ h.get? T = some oT ∧ oT.data = .fields ts ∧ ts[3]? = some fl
section
variable {M : Model} {A : Around} {E : Value → Shared → Prop} {s : Shared} {B : Heap} {env : Env} {outer l : List Env} {L e T : Addr} {oe oT : Obj} {vs ts : Array Value} {head cls fl : Value} {Q : Unit → Shared → Prop}
theorem fly_entry {hadNext : Bool} (hfr : A.frames = some (env :: outer)) (hl : s.heap.FunFrames B (env :: outer)) (hf : env.frame = some L) (he : s.heap.get? e = some oe) (hkb : B.StaysIn s.heap) (hen : B.get? e = none)
    (hd : oe.data = .fields vs) (hsz : 1 < vs.size) (h2 : vs[2]? = some .none)
    (h : ∀ h', Fly B h' (env :: outer) e oe.cls (rawInt L) → s.heap.UpToSlots h' → Q () { s with heap := h' }) :
    wpAny M A (do let a ← frameOf env; let pl ← entryPlaceOf L hadNext; let b ← EntryCells.newEntry head a .none (rawInt L) .none pl; setField (.ref e) 1 b) Q E s := by
  have hne : e ∉ (env :: outer).filterMap (·.frame) := fun hm => by
    obtain ⟨_, o, ho, hnf⟩ := hl.mem hm
    rw [he] at ho
    cases ho
    exact hnf vs hd
  refine wpAny_bind (wpAny_frameOf_fun hfr hl hf fun h₁ hs => ?_)
  refine wpAny_bind (wpAny_entryPlaceOf fun pl hpl => ?_)
  unfold EntryCells.newEntry newFields
  refine wpAny_bind (wpAny_newObj_type ?_ (hpl.sizeOk5 _ _ _ _ _))
  have e1 : h₁.get? e = some oe := (hs.2.1 e hne).trans he
  generalize hob : ({ cls := .type "traceback", dict := none, data := .fields _ } : Obj) = ob
  have hts : ∃ ts, ob.data = .fields ts ∧ ts[3]? = some (rawInt L) := by
    subst hob
    exact ⟨_, rfl, by simp⟩
  have hfr' : ob.isFreed = false := by
    obtain ⟨ts, q, _⟩ := hts
    exact Obj.isFreed_of_fields q
  have e2 : (h₁.push ob).get? e = some oe := Heap.get?_push_of_some _ e1
  refine wpAny_setField e2 hd hsz (h _ ?_ ?_)
  · have hTe : h₁.objs.size ≠ e := Nat.ne_of_gt (Heap.lt_size e1)
    have old : ∀ b o, b ≠ e → h₁.get? b = some o → ((h₁.push ob).update e (Obj.mapFields (·.setIfInBounds 1 (Value.ref h₁.objs.size)))).get? b = some o := fun b o hb q =>
      (Heap.get?_update_other _ _ (Ne.symm hb)).trans (Heap.get?_push_of_some _ q)
    have kb : B.StaysIn h₁ := fun b o q => (hs.2.1 b fun hm => by rw [(hl.mem hm).1] at q; cases q).trans (hkb b o q)
    refine ⟨fun b o q => old b o (fun z => by rw [z, hen] at q; cases q) (kb b o q), hen, hl.of_keeps fun b o q hnf => ?_, ?_⟩
    · obtain ⟨sl, q2⟩ := hs.2.2 b o q
      refine ⟨_, old b _ (fun z => ?_) q2, rfl⟩
      rw [z, he] at q
      cases q
      exact hnf vs hd
    · obtain ⟨ts, q1, q2⟩ := hts
      have hd3 := Obj.data_mapFields hd (·.setIfInBounds 1 (Value.ref h₁.objs.size))
      exact ⟨_, _, h₁.objs.size, ob, ts, Heap.get?_update_self _ e2 (Obj.isFreed_of_fields hd3), Obj.cls_mapFields _ _, hd3, by rw [Array.getElem?_setIfInBounds_ne (by decide)]; exact h2, by simp [hsz], kb.fresh, hTe,
        (Heap.get?_update_other _ _ (Ne.symm hTe)).trans (Heap.get?_push_size h₁ hfr'), q1, q2⟩
  · intro b o q hnf
    obtain ⟨sl, q2⟩ := hs.2.2 b o q
    refine ⟨sl, (Heap.get?_update_other _ _ fun z => ?_).trans (Heap.get?_push_of_some _ q2)⟩
    rw [← z, he] at q
    cases q
    exact hnf vs hd
/-- its first frame is noted -/
theorem fly_note1 (hfr : A.frames = some (env :: outer)) (hl : s.heap.FunFrames B (env :: outer)) (hf : env.frame = some L) (he : s.heap.get? e = some oe) (hkb : B.StaysIn s.heap) (hen : B.get? e = none)
    (hd : oe.data = .fields vs) (h1 : vs[1]? = some .none) (h2 : vs[2]? = some .none)
    (h : ∀ h', Fly B h' (env :: outer) e oe.cls (rawInt L) → s.heap.UpToSlots h' → Q () { s with heap := h' }) : wpAny M A (noteFrame (.ref e) env) Q E s := by
  unfold noteFrame
  simp only [hf]
  refine wpAny_bind (wpAny_field he hd h1 ?_)
  rw [if_neg (by decide)]
  exact fly_entry hfr hl hf he hkb hen hd (Array.getElem?_eq_some_iff.mp h1).1 h2 h
/-- .. a further one -/
theorem fly_note (hfr : A.frames = some (env :: outer)) (hf : env.frame = some L) (x : Fly B s.heap (env :: outer) e cls .none)
    (h : ∀ h', Fly B h' (env :: outer) e cls (rawInt L) → s.heap.UpToSlots h' → Q () { s with heap := h' }) : wpAny M A (noteFrame (.ref e) env) Q E s := by
  obtain ⟨oe, vs, T, oT, ts, he, rfl, hd, h2, h1, hnT, hTe, hT, hdT, h3⟩ := x.trc
  unfold noteFrame
  simp only [hf]
  refine wpAny_bind (wpAny_field he hd h1 ?_)
  rw [if_pos (show (Value.ref T != Value.none) = true from by simp)]
  refine wpAny_bind (wpAny_field hT hdT h3 ?_)
  rw [if_neg (show ¬ ((Value.none == rawInt L) = true) from by simp [rawInt])]
  refine wpAny_bind (wpAny_setField hT hdT (Array.getElem?_eq_some_iff.mp h3).1 ?_)
  have oth : ∀ b, b ≠ T → (s.heap.update T (Obj.mapFields (·.setIfInBounds 3 Value.none))).get? b = s.heap.get? b := fun b hb => Heap.get?_update_other _ _ (Ne.symm hb)
  have nr : ∀ b o, s.heap.get? b = some o → (∀ vs, o.data ≠ .fields vs) → b ≠ T := fun b o q hnf z => by
    rw [z, hT] at q
    cases q
    exact hnf ts hdT
  refine fly_entry (s := { s with heap := s.heap.update T (Obj.mapFields (·.setIfInBounds 3 Value.none)) }) hfr (x.frames.of_keeps fun b o q hnf => ⟨o, (oth b (nr b o q hnf)).trans q, rfl⟩) hf ((oth e (Ne.symm hTe)).trans he)
    (fun b o q => (oth b fun z => by rw [z, hnT] at q; cases q).trans (x.stays b o q)) x.new hd (Array.getElem?_eq_some_iff.mp h1).1 h2 fun h' y u => h h' y fun b o q hnf => u b o ((oth b (nr b o q hnf)).trans q) hnf
/-- the mark is taken away -/
theorem fly_mark (x : Fly B s.heap l e cls fl) (h : ∀ h', Fly B h' l e cls .none → s.heap.UpToSlots h' → Q () { s with heap := h' }) : wpAny M A (setFlight (.ref e) none) Q E s := by
  obtain ⟨oe, vs, T, oT, ts, he, rfl, hd, h2, h1, hnT, hTe, hT, hdT, h3⟩ := x.trc
  unfold setFlight
  refine wpAny_bind (wpAny_field he hd h1 ?_)
  rw [if_pos (show (Value.ref T != Value.none) = true from by simp)]
  have hsz := (Array.getElem?_eq_some_iff.mp h3).1
  have oth : ∀ b, b ≠ T → (s.heap.update T (Obj.mapFields (·.setIfInBounds 3 ((none : Option Addr).elim Value.none fun f => rawInt f)))).get? b = s.heap.get? b := fun b hb => Heap.get?_update_other _ _ (Ne.symm hb)
  have nr : ∀ b o, s.heap.get? b = some o → (∀ vs, o.data ≠ .fields vs) → b ≠ T := fun b o q hnf z => by
    rw [z, hT] at q
    cases q
    exact hnf ts hdT
  refine wpAny_setField hT hdT hsz (h _ ⟨fun b o q => (oth b fun z => by rw [z, hnT] at q; cases q).trans (x.stays b o q), x.new, x.frames.of_keeps fun b o q hnf => ⟨o, (oth b (nr b o q hnf)).trans q, rfl⟩, ?_⟩ fun b o q hnf => ⟨o.slots, (oth b (nr b o q hnf)).trans q⟩)
  have hd3 := Obj.data_mapFields hdT (·.setIfInBounds 3 ((none : Option Addr).elim Value.none fun f => rawInt f))
  exact ⟨oe, vs, T, _, _, (oth e (Ne.symm hTe)).trans he, rfl, hd, h2, h1, hnT, hTe, Heap.get?_update_self _ hT (Obj.isFreed_of_fields hd3), hd3, by simp [hsz]⟩
theorem Fly.tail {h : Heap} (x : Fly B h (env :: outer) e cls fl) : Fly B h outer e cls fl := ⟨x.stays, x.new, x.frames.2.2, x.trc⟩
/-- it leaves a frame -/
theorem fly_leave (hfr : A.frames = some (env :: outer)) (hf : env.frame = some L) (x : Fly B s.heap (env :: outer) e cls .none)
    (h : ∀ h', Fly B h' outer e cls .none → s.heap.UpToSlots h' → Q () { s with heap := h' }) : wpAny M A (leaving env (.ref e)) Q E s := by
  unfold leaving
  refine wpAny_bind (fly_note hfr hf x fun h1 y u => ?_)
  exact fly_mark (s := { s with heap := h1 }) y fun h2 z v => h h2 z.tail (u.trans v)
/-- .. its first -/
theorem fly_leave1 {h₀ : Heap} {args : List Value} (hfr : A.frames = some (env :: outer)) (hf : env.frame = some L) (hkb : B.StaysIn h₀) (hl : h₀.FunFrames B (env :: outer)) (hx : Heap.MadeExcOf h₀ s.heap e cls args)
    (h : ∀ h', Fly B h' outer e cls .none → s.heap.UpToSlots h' → Q () { s with heap := h' }) : wpAny M A (leaving env (.ref e)) Q E s := by
  obtain ⟨t, he, htn, ht⟩ := hx.there
  have hen : B.get? e = none := by
    cases q : B.get? e with
    | none => rfl
    | some o => have := hkb e o q; rw [hx.new] at this; cases this
  unfold leaving
  refine wpAny_bind (fly_note1 hfr (hl.of_keeps fun b o q _ => ⟨o, hx.keeps b o q, rfl⟩) hf he (fun b o q => hx.keeps b o (hkb b o q)) hen rfl rfl rfl fun h1 y u => ?_)
  exact fly_mark (s := { s with heap := h1 }) y fun h2 z v => h h2 z.tail (u.trans v)
end
end L2

set_option Elab.async false
set_option linter.all false
set_option maxRecDepth 100000
set_option maxHeartbeats 4000000
namespace L2
open PySem PySem.Spec PyProof.Rows
/-! ### how an exception lies behind a call -/
/-- B holds all that the caller's state held, but the frames at fs -/
structure ToB (fs : List Addr) (H H' : Hp) (h B : Heap) : Prop where
  keep : ∀ b o, h.get? b = some o → H b = none → b ∉ fs → B.get? b = some o
  free : ∀ b o, h.get? b = some o → H b = none → H' b = none
  there : ∀ b o, h.get? b = some o → b ∉ fs → ∃ o', B.get? b = some o'
  tups : ∀ b xs, H b = some (.tup xs) → H' b = some (.tup xs)
  frzs : ∀ b o u, H b = some (.frz o u) → H' b = some (.frz o u)
  tbls : ∀ b ps, H b = some (.tbl ps) → ∃ more, H' b = some (.tbl (ps ++ more))
def CXe (P : Program) (w : World) : CXT := fun outer H s E e s' =>
  ∃ (ea : Addr) (cls : Value) (B : Heap) (H' : Hp), e = .ref ea ∧ s'.os = s.os ∧ AllBare s'.gens ∧ Fly B s'.heap outer ea cls .none ∧ HOk P w H' B ∧ ToB (frs outer) H H' s.heap B ∧
    (∀ b o, s.heap.get? b = some o → b ∈ frs outer → ∃ sl, s'.heap.get? b = some { o with slots := sl }) ∧ E cls (some ea) H'
theorem ToB.un {fs : List Addr} {H H' : Hp} {h B h' : Heap} (x : ToB fs H H' h B) (k : B.StaysIn h') (sl : ∀ b o, h.get? b = some o → b ∈ fs → ∃ sl, h'.get? b = some { o with slots := sl }) : Un fs [] H H' h h' where
  keep := fun b o q n hb _ => k b o (x.keep b o q n hb)
  slot := fun b o q _ hb _ => sl b o q hb
  free := fun b o q n _ => x.free b o q n
  there := fun b o q _ => by
    by_cases hb : b ∈ fs
    · obtain ⟨s, e⟩ := sl b o q hb
      exact ⟨_, e⟩
    · obtain ⟨o', e⟩ := x.there b o q hb
      exact ⟨o', k b o' e⟩
  tups := x.tups
  frzs := x.frzs
  tbls := x.tbls
section
variable {X : Cx} {pins : List (Addr × Obj)} {σ : St} {H H' : Hp} {s s' : Shared} {e : Value} {E E' : XK}
/-- a def's own context -/
structure Own (X : Cx) : Prop where
  stk : X.stack = X.env :: X.outer
  fr : X.env.frame = some X.env.locals
  ex : X.ex = []
/-- from one frame on to its caller -/
theorem ToB.out {B : Heap} (I : Inv X pins σ H s) (O : Own X) (x : ToB (frs X.stack) H H' s.heap B) : ToB X.fs X.H₀ H' X.s₀.heap B where
  keep := fun b o q n hb => by
    have q2 := I.base.keep b o q n hb (by rw [O.ex]; simp)
    refine x.keep b o q2 (I.base.free b o q n (by rw [O.ex]; simp)) fun hm => ?_
    rw [O.stk] at hm
    unfold frs at hm
    rw [List.filterMap_cons, O.fr] at hm
    rcases List.mem_cons.mp hm with z | z
    · exact Nat.ne_of_lt (Nat.lt_of_lt_of_le (Heap.lt_size q) I.ok.above) z
    · exact hb z
  free := fun b o q n => by
    obtain ⟨o', q2⟩ := I.base.there b o q (by rw [O.ex]; simp)
    exact x.free b o' q2 (I.base.free b o q n (by rw [O.ex]; simp))
  there := fun b o q hb => by
    obtain ⟨o', q2⟩ := I.base.there b o q (by rw [O.ex]; simp)
    refine x.there b o' q2 fun hm => ?_
    rw [O.stk] at hm
    unfold frs at hm
    rw [List.filterMap_cons, O.fr] at hm
    rcases List.mem_cons.mp hm with z | z
    · exact Nat.ne_of_lt (Nat.lt_of_lt_of_le (Heap.lt_size q) I.ok.above) z
    · exact hb z
  tups := fun b xs q => x.tups b xs (I.base.tups b xs q)
  frzs := fun b o u q => x.frzs b o u (I.base.frzs b o u q)
  tbls := fun b ps q => by
    obtain ⟨m1, e1⟩ := I.base.tbls b ps q
    obtain ⟨m2, e2⟩ := x.tbls b _ e1
    exact ⟨m1 ++ m2, by rw [e2, Array.append_assoc]⟩
theorem slots_out {h' : Heap} (I : Inv X pins σ H s) (O : Own X) (sl : ∀ b o, s.heap.get? b = some o → b ∈ X.fs → ∃ sl, h'.get? b = some { o with slots := sl }) : ∀ b o, X.s₀.heap.get? b = some o → b ∈ X.fs → ∃ sl, h'.get? b = some { o with slots := sl } := fun b o q hb => by
  obtain ⟨s1, q1⟩ := I.base.slot b o q (I.ok.frf b hb) hb (by rw [O.ex]; simp)
  obtain ⟨s2, q2⟩ := sl b _ q1 hb
  exact ⟨s2, q2⟩
/-- the frames' objects are no records -/
theorem fr_data {h B : Heap} : ∀ {l : List Env} {b : Addr} {o : Obj}, h.FunFrames B l → b ∈ frs l → h.get? b = some o → ∀ vs, o.data ≠ .fields vs := fun hl hb q vs z => by
  obtain ⟨_, o', ho, hn⟩ := hl.mem hb
  rw [q] at ho
  cases ho
  exact hn vs z
end
/-- the context of a def that may raise -/
abbrev cxE (P : Program) (w : World) (K : PySem.W.Frag) (mg : Str → Option Value) (base : Heap) (N : List Str) (qual : Str) (scope : Scope) (f : Addr) (cd : Value) (A : Around) (outer : List Env) (s : Shared) (H : Hp) (E : XK) : Cx := cxOf (CXe P w) P w K mg base N qual scope f cd A outer s H E
section
variable {P : Program} {w : World} {K : PySem.W.Frag} {mg : Str → Option Value} {base : Heap} {N : List Str} {qual : Str} {scope : Scope} {f : Addr} {cd : Value} {A : Around} {outer : List Env} {s₀ : Shared} {H₀ : Hp} {E E' : XK}
theorem own_cxE {CX : CXT} : Own (cxOf CX P w K mg base N qual scope f cd A outer s₀ H₀ E) := ⟨rfl, rfl, rfl⟩
/-- an exception of a callee's passes on -/
theorem passE (h : ∀ c a H, E' c a H → E c a H) : Passes (CXe P w) (cxE P w K mg base N qual scope f cd A outer s₀ H₀ E) E' := by
  intro pins σ H s e s' I x
  obtain ⟨ea, cls, B, H', rfl, h1, h2, h3, h6, h7, h8, h9⟩ := x
  refine fly_leave (s := s') I.ok.frames rfl h3 fun h' y u => ?_
  refine ⟨ea, cls, B, H', rfl, h1.trans I.os, h2, y, h6, h7.out I own_cxE, slots_out I own_cxE fun b o q hb => ?_, h _ _ _ h9⟩
  have hb' : b ∈ frs (cxE P w K mg base N qual scope f cd A outer s₀ H₀ E).stack := by
    show b ∈ frs (_ :: outer)
    unfold frs
    exact List.mem_filterMap.mpr (by
      obtain ⟨env, h1, h2⟩ := List.mem_filterMap.mp hb
      exact ⟨env, List.mem_cons_of_mem _ h1, h2⟩)
  obtain ⟨s1, q1⟩ := h8 b o q hb'
  obtain ⟨s2, q2⟩ := u b _ q1 (fr_data h3.frames hb' q1)
  exact ⟨s2, q2⟩
end
end L2

set_option Elab.async false
set_option linter.all false
set_option maxRecDepth 100000
set_option maxHeartbeats 4000000
namespace L2
open PySem PySem.Spec PyProof.Rows
/-! ### exception classes of the text, under ValueError -/
abbrev VE : List Value := [.type "ValueError", .type "Exception", .type "BaseException", .type "object"]
structure XC (K : PySem.W.Frag) (C : Addr) (bm : List Value) : Prop where
  ex : PySem.W.excIn K C VE "ValueError.__new__" = true
  ob : ∃ nm q N bs hdct sn sub ab col dd k0 k1 k2 k3 k5 newId, K.lookup C = some (excClassObj nm q C N bs bm hdct sn sub ab col dd k0 k1 k2 k3 k5 newId)
theorem XC.at {K : PySem.W.Frag} {C : Addr} {bm : List Value} {h : Heap} (c : XC K C bm) (X : K.In h) : ∃ N nm q bs hdct sn sub ab col dd k0 k1 k2 k3 k5 mN,
    h.get? C = some (excClassObj nm q C N bs bm hdct sn sub ab col dd k0 k1 k2 k3 k5 "ValueError.__new__") ∧ h.Ns N mN ∧ mN "__init__" = none ∧ OwnTail h VE bm := by
  obtain ⟨nm, q, N, bs, hdct, sn, sub, ab, col, dd, k0, k1, k2, k3, k5, newId, lk⟩ := c.ob
  have ex := c.ex
  unfold PySem.W.excIn at ex
  rw [lk] at ex
  simp only [Bool.and_eq_true, beq_iff_eq, Bool.not_eq_true'] at ex
  obtain ⟨⟨⟨⟨⟨_, rfl⟩, _⟩, ht⟩, hok⟩, hni⟩ := ex
  exact ⟨N, nm, q, bs, hdct, sn, sub, ab, col, dd, k0, k1, k2, k3, k5, _, X _ _ lk, .of_isNs (PySem.W.isNs_of_in X hok), PySem.W.nsMap_none_of_in X hok hni, PySem.W.tail_of_in X ht⟩
section
variable {P : Program} {w : World} {K : PySem.W.Frag} {mg : Str → Option Value} {base : Heap} {N : List Str} {qual : Str} {scope : Scope} {f : Addr} {cd : Value} {A : Around} {outer : List Env} {s₀ : Shared} {H₀ : Hp} {E E' : XK}
/-- raise C(e, ..) -/
def tRaise (C : Addr) (E : XK) (t : TA) : TS := fun _ σ H => t σ H fun vs H1 => vs.length ≤ sizeLine ∧ ∀ ea, E (.ref C) (some ea) H1
theorem ps_raise {x : Str} {C : Addr} {bm : List Value} {e : Expr} {es : List Expr} {t : TA} {np cpos pos : Pos} (hh : A.handled = none) (hg : Gl (cxE P w K mg base N qual scope f cd A outer s₀ H₀ E) x) (hm : mg x = some (.ref C)) (c : XC K C bm)
    (ha : PA (cxE P w K mg base N qual scope f cd A outer s₀ H₀ E) (e :: es) t) (hdb : (x == ("__debug__" : Str)) = false := by decide)
    (he : starEach (e :: es) (cxE P w K mg base N qual scope f cd A outer s₀ H₀ E).env = (false, eval e (cxE P w K mg base N qual scope f cd A outer s₀ H₀ E).env) :: starEach es (cxE P w K mg base N qual scope f cd A outer s₀ H₀ E).env := by rfl)
    (hpl : (backTo cpos (starEach es (cxE P w K mg base N qual scope f cd A outer s₀ H₀ E).env)).any (·.1) = false := by rfl) :
    PS (cxE P w K mg base N qual scope f cd A outer s₀ H₀ E) (.Raise (some (.Call (.Name x np) (e :: es) [] cpos)) none pos) (tRaise C E t) := by
  intro pins s σ H D I h
  obtain ⟨N', nm, q, bs, hdct, sn, sub, ab, col, dd, k0, k1, k2, k3, k5, mN, hC, hN, hni, TL⟩ := c.at I.mod.kin
  refine wpAny_Raise_call_subT (C := C) (nm := nm) (q := q) (N := N') (bs := bs) (bm := bm) (hdct := hdct) (sn := sn) (sub := sub) (ab := ab) (col := col) (dd := dd) (k0 := k0) (k1 := k1) (k2 := k2) (k3 := k3) (k5 := k5)
    F.excBase_ValueError (mN := mN) (TL.hasType rfl) hh (by rw [he]; exact (Bool.false_or _).trans hpl) hni (ld_glob I hg hm ⟨rfl, ?_⟩ hdb)
  have z := ha cpos pins s σ H _ I h
  rw [he] at z ⊢
  refine Calls.evalArgs_plain (thn z fun us s2 ⟨vs, H1, I2, r, hz, q⟩ => ⟨rfl, by rw [← r.length]; exact hz, I2.bk _ _ hC, hN.keeps I2.bk, TL.keeps I2.bk, fun h' ea mx => ?_⟩)
  show wpAny _ _ (leaving _ (.ref ea)) _ _ _
  have hl := I2.stack
  refine fly_leave1 (s := { s2 with heap := h' }) (h₀ := s2.heap) (B := PySem.W.hideAll s2.heap (frs (cxE P w K mg base N qual scope f cd A outer s₀ H₀ E).stack)) I2.ok.frames rfl (fun b o e => PySem.W.of_hideAll _ e)
    (PySem.W.funFrames_hide hl fun env he b hb => List.mem_filterMap.mpr ⟨env, he, hb⟩) mx fun h2 y u => ?_
  have tb : ToB (frs (cxE P w K mg base N qual scope f cd A outer s₀ H₀ E).stack) H1 H1 s2.heap (PySem.W.hideAll s2.heap (frs (cxE P w K mg base N qual scope f cd A outer s₀ H₀ E).stack)) :=
    ⟨fun b o e _ hb => PySem.W.hideAll_get _ e hb, fun _ _ _ n => n, fun b o e hb => ⟨o, PySem.W.hideAll_get _ e hb⟩, fun _ _ e => e, fun _ _ _ e => e, fun _ _ e => ⟨#[], by rw [e]; simp⟩⟩
  refine ⟨ea, .ref C, _, H1, rfl, I2.os, I2.bare, y, ?_, tb.out I2 own_cxE, slots_out I2 own_cxE fun b o e hb => ?_, q ea⟩
  · intro b u e
    refine (I2.hok b u e).stay (fun b' u' hb' e' => PySem.W.hideAll_get _ e' fun hm => ?_) (fun _ z => z) fun _ _ z => z
    have hn := I2.stkFree b' hm
    rcases hb' with rfl | hb'
    · rw [hn] at e; cases e
    · rw [hn] at hb'; cases hb'
  · have hb' : b ∈ frs (cxE P w K mg base N qual scope f cd A outer s₀ H₀ E).stack := by
      obtain ⟨env, h1, h2⟩ := List.mem_filterMap.mp hb
      exact List.mem_filterMap.mpr ⟨env, List.mem_cons_of_mem _ h1, h2⟩
    exact u b o (mx.keeps b o e) (fr_data hl hb' e)
end
end L2

set_option Elab.async false
set_option linter.all false
set_option maxRecDepth 100000
set_option maxHeartbeats 4000000
namespace L2
open PySem PySem.Spec PyProof.Rows
/-- a caught exception: its class, no context -/
def ExO (ea : Addr) (cls : Value) : HO := .ext fun h => ∃ oe vs, h.get? ea = some oe ∧ oe.cls = cls ∧ oe.data = .fields vs ∧ vs[2]? = some .none
theorem exO_ok {P : Program} {w : World} {H : Hp} {B h : Heap} {l : List Env} {ea : Addr} {cls fl : Value} (x : Fly B h l ea cls fl) : ObjOk P w H h ea (ExO ea cls) := by
  obtain ⟨oe, vs, T, oT, ts, he, hc, hd, h2, _⟩ := x.trc
  exact ⟨⟨oe, vs, he, hc, hd, h2⟩, ⟨oe, he⟩, fun h1 h2 ⟨oe, vs, a, b⟩ k => ⟨oe, vs, k _ a, b⟩⟩
/-- a tracked thing is there -/
theorem ObjOk.got {P : Program} {w : World} {H : Hp} {h : Heap} {a : Addr} {o : HO} (x : ObjOk P w H h a o) : ∃ ob, h.get? a = some ob := by
  cases o with
  | lst xs => obtain ⟨_, _, _, _, e⟩ := x; exact ⟨_, e⟩
  | tup xs => obtain ⟨_, _, _, o, e, _⟩ := x; exact ⟨o, e⟩
  | dK kvs => obtain ⟨_, _, _, _, o, _, _, e, _⟩ := x; exact ⟨o, e⟩
  | dT kvs => obtain ⟨_, _, _, _, o, _, _, e, _⟩ := x; exact ⟨o, e⟩
  | set S n => obtain ⟨o, _, _, _, e, _⟩ := x; exact ⟨o, e⟩
  | ins C dx fs => obtain ⟨_, _, _, e, _⟩ := x; exact ⟨_, e⟩
  | own y => exact x
  | xd fs => obtain ⟨_, ⟨o, _, _, e, _⟩, _⟩ := x; exact ⟨o, e⟩
  | rng lo hi => obtain ⟨_, _, _, e⟩ := x; exact ⟨_, e⟩
  | frz ob u => obtain ⟨e, _⟩ := x; exact ⟨ob, e⟩
  | tbl ps => exact ⟨_, (show h.get? a = some _ from x)⟩
  | met f y => exact ⟨_, (show h.get? a = some _ from x)⟩
  | ext φ => obtain ⟨_, e, _⟩ := x; exact e
/-! ### the contexts -/
abbrev Cx.bear (X : Cx) (pl : List (Addr × Obj)) : Cx := { X with pn := X.pn ++ pl }
/-- within an except suite; nothing leaves it -/
abbrev Cx.inH (X : Cx) (ea : Addr) : Cx := { X with A := X.A.mark (some (.ref ea)), calm := false, xe := fun _ _ => False }
def xeR (X : Cx) (RX : St → Hp → XK) : Value → Shared → Prop := fun e s' => ∃ pins σ H s, Inv X pins σ H s ∧ CXe X.prog X.w X.stack H s (RX σ H) e s'
section
variable {X : Cx} {pins pl : List (Addr × Obj)} {σ : St} {H : Hp} {s : Shared} {E : Value → Shared → Prop} {ea : Addr}
theorem Inv.bear (I : Inv X pl σ H s) : Inv (X.bear pl) [] σ H s :=
  ⟨⟨I.ok.mod, I.ok.kind, I.ok.glob, I.ok.blt, I.ok.above, I.ok.inj, I.ok.has, I.ok.cab, I.ok.hd, I.ok.frames, I.ok.stk, I.ok.exf, I.ok.bs, I.ok.bsz, I.ok.noex, I.ok.exfs, I.ok.funs, I.ok.frf⟩,
    I.os, I.bare, I.base, I.loc, I.cell, I.free, I.freeC, fun p hp => I.pin p (by simpa using hp), I.hok, I.len⟩
theorem Inv.unbear (I : Inv (X.bear pl) pins σ H s) : Inv X pl σ H s :=
  ⟨⟨I.ok.mod, I.ok.kind, I.ok.glob, I.ok.blt, I.ok.above, I.ok.inj, I.ok.has, I.ok.cab, I.ok.hd, I.ok.frames, I.ok.stk, I.ok.exf, I.ok.bs, I.ok.bsz, I.ok.noex, I.ok.exfs, I.ok.funs, I.ok.frf⟩,
    I.os, I.bare, I.base, I.loc, I.cell, I.free, I.freeC, fun p hp => I.pin p (List.mem_append_left _ hp), I.hok, I.len⟩
theorem Inv.inH (I : Inv X pins σ H s) (ea : Addr) : Inv (X.inH ea) pins σ H s :=
  ⟨⟨I.ok.mod, I.ok.kind, I.ok.glob, I.ok.blt, I.ok.above, I.ok.inj, I.ok.has, I.ok.cab, (fun z => nomatch z), I.ok.frames, I.ok.stk, I.ok.exf, I.ok.bs, I.ok.bsz, I.ok.noex, I.ok.exfs, I.ok.funs, I.ok.frf⟩,
    I.os, I.bare, I.base, I.loc, I.cell, I.free, I.freeC, I.pin, I.hok, I.len⟩
theorem Inv.outH (J : Inv (X.inH ea) pins σ H s) (ok : X.Ok) : Inv X pins σ H s := ⟨ok, J.os, J.bare, J.base, J.loc, J.cell, J.free, J.freeC, J.pin, J.hok, J.len⟩
/-- a local name goes -/
theorem Inv.forget {i : Nat} {x : Str} {m : Str → Option Value} {v : Option Value} {h' : Heap} {t' : Nat} (I : Inv X pins σ H s) (hN : X.N.Nodup) (hi : X.N[i]? = some x) (hn : s.heap.Ns X.env.locals m)
    (hl : ∀ (j : Nat) (y : Str) (v' : V), X.N[j]? = some y → σ[j]? = some (some v') → Vis X.env.scope y → ∃ u, RelV v' u ∧ Look X.env s.heap m y u)
    (hn' : h'.Ns X.env.locals (fun y => if y = x then v else m y)) (hs : Heap.SameBut X.env.locals s.heap h') : Inv X pins (σ.set i none) H { s with heap := h', toks := t' } := by
  have ne : ∀ b o, X.s₀.heap.get? b = some o → b ≠ X.env.locals := fun b o e => Nat.ne_of_lt (Nat.lt_of_lt_of_le (Heap.lt_size e) I.ok.above)
  refine ⟨I.ok, I.os, I.bare, ⟨fun b o e n hb hx => (hs.2 b (ne b o e)).trans (I.base.keep b o e n hb hx), fun b o e n hb hx => ?_, I.base.free, fun b o e hx => ?_, I.base.tups, I.base.frzs, I.base.tbls⟩, ⟨_, hn', fun j y v' e1 e2 e3 => ?_⟩, fun y c e => ?_, I.free, I.freeC, fun p hp => ?_, fun b ob e => ?_, by rw [List.length_set]; exact I.len⟩
  · obtain ⟨sl, e1⟩ := I.base.slot b o e n hb hx
    exact ⟨sl, (hs.2 b (ne b o e)).trans e1⟩
  · obtain ⟨o', e1⟩ := I.base.there b o e hx
    exact ⟨o', (hs.2 b (ne b o e)).trans e1⟩
  · by_cases hj : j = i
    · subst hj
      have hlt : j < σ.length := by
        have := (List.getElem?_eq_some_iff.mp e2).1
        rw [List.length_set] at this
        exact this
      rw [List.getElem?_set_self hlt] at e2
      cases e2
    · rw [List.getElem?_set_ne (Ne.symm hj)] at e2
      obtain ⟨u, r, q⟩ := hl j y v' e1 e2 e3
      refine ⟨u, r, ?_⟩
      rcases q with ⟨k, e⟩ | ⟨k, c, e, z⟩
      · refine .inl ⟨k, ?_⟩
        have : y ≠ x := fun e => hj (nodup_ix hN e1 (e ▸ hi))
        simp [this, e]
      · exact .inr ⟨k, c, e, z.sameBut hs (I.cne y c e)⟩
  · obtain ⟨w', z⟩ := I.cell y c e
    exact ⟨w', z.sameBut hs (I.cne y c e)⟩
  · obtain ⟨e, n, ne', nf, d⟩ := I.pin p hp
    exact ⟨(hs.2 p.1 ne').trans e, n, ne', nf, d⟩
  · refine (I.hok b ob e).stay (fun c w' hc q => (hs.2 c ?_).trans q) (fun _ q => q) fun _ _ q => q
    intro z
    have hf := I.free
    rw [← z] at hf
    rcases hc with rfl | hc
    · rw [hf] at e; cases e
    · rw [hf] at hc; cases hc
end
/-! ### a call that may raise, in a try's body -/
def tCallE (sp : Sp) (dvs : List V) (RX : St → Hp → XK) (t : TA) : TE := fun σ H Q => t σ H fun vs H1 => sp (vs ++ dvs) H1 Q (RX σ H1)
theorem pe_callE {X : Cx} {RX : St → Hp → XK} {k : Nat} {f : Addr} {fd : FuncData} {ps : List Str} {sp : Sp} {ds : List Value} {dvs : List V} {x : Str} {p pos : Pos} {e : Expr} {es : List Expr} {t : TA}
    (F : FnOk X.prog X.w X.K X.mg X.base (CXe X.prog X.w) k f fd ps sp) (hr : Room k X.A) (hg : Gl X x) (hm : X.mg x = some (.ref f)) (hk : PySem.W.keepIn X.K (.ref f) = true) (hb : Binds X.K fd ps ds) (hd : Vals dvs ds)
    (ha : PA (X.wish (xeR X RX)) (e :: es) t) (hdb : (x == ("__debug__" : Str)) = false := by decide) (he : starEach (e :: es) X.env = (false, eval e X.env) :: starEach es X.env := by rfl) (hpl : (backTo pos (starEach es X.env)).any (·.1) = false := by rfl) :
    PE (X.wish (xeR X RX)) (.Call (.Name x p) (e :: es) [] pos) (tCallE sp dvs RX t) := by
  intro pins s σ H Q I h
  refine wpAny_Call_Name_kw (ld_glob I hg hm ?_ hdb)
  refine PySem.W.callWith_K (h₀ := X.base) I.ok.mod.kin hk (thn (ha pos pins s σ H _ I h) fun us s1 ⟨vs, H1, I1, r, q⟩ => ⟨I1.kIn, ?_⟩) he hpl
  have r2 : Vals (vs ++ dvs) (us ++ ds) := r.append hd
  have hl : (us ++ ds).length = ps.length := by rw [← r2.length]; exact F.len _ _ _ _ q
  refine wpAny_call (codeAny_mono (F.run X.A X.stack s1 H1 ⟨us, []⟩ (us ++ ds) (vs ++ dvs) Q (RX σ H1) hr I1.env0 (hb s1 us I1.kIn hl) r2 q) fun r s' hq => ?_)
  cases r with
  | error e => exact ⟨pins, σ, H1, s1, I1.unwish, hq⟩
  | ok fl =>
    cases fl with
    | ret u => exact I1.after hq
    | next => exact False.elim hq
    | brk => exact False.elim hq
    | cont => exact False.elim hq
/-! ### the handler's class -/
theorem matches_own {M : Model} {A : Around} {E : Value → Shared → Prop} {K : PySem.W.Frag} {C D e : Addr} {bm bmC : List Value} {s : Shared} {oe : Obj} {Q : Bool → Shared → Prop} (X : K.In s.heap) (cD : XC K D bm) (cC : XC K C bmC) (he : s.heap.get? e = some oe) (hcls : oe.cls = .ref D)
    (h : Q ((Value.ref D :: bm).contains (.ref C)) s) : wpAny M A (excMatches (.ref e) (.ref C)) Q E s := by
  obtain ⟨N, nm, q, bs, hdct, sn, sub, ab, col, dd, k0, k1, k2, k3, k5, mN, hD, _, _, _⟩ := cD.at X
  obtain ⟨N', nm', q', bs', hdct', sn', sub', ab', col', dd', j0, j1, j2, j3, j5, mN', hC, _, _, TL⟩ := cC.at X
  have hb : (Value.ref C :: bmC).contains (.type "BaseException") = true := by rw [List.contains_cons, TL.hasType (X := "BaseException") (b := true) rfl, Bool.or_true]
  obtain ⟨hp, g, d, t, os⟩ := s
  have f := tc_notTuple
  unfold excMatches
  have hD' : hp.get? D = some (excClassObj nm q D N bs bm hdct sn sub ab col dd k0 k1 k2 k3 k5 "ValueError.__new__") := hD
  have hC' : hp.get? C = some (excClassObj nm' q' C N' bs' bmC hdct' sn' sub' ab' col' dd' j0 j1 j2 j3 j5 "ValueError.__new__") := hC
  have he' : hp.get? e = some oe := he
  repeat (first | (with_reducible refine wpAny_loadPart_at he' ?_; rw [hcls]) | with_reducible refine wpAny_loadPart_at hC' ?_ | (with_reducible refine wpAny_isSubtype_exc hC' ?_; rw [hb]) | with_reducible refine wpAny_isSubtype_exc hD' ?_ | wp_step)
  cases e1 : (Value.ref D :: bm).contains (Value.ref C) with
  | true => rw [e1] at h; rw [if_pos rfl]; exact wpAny_pure (wpAny_pure (wpAny_pure h))
  | false => rw [e1] at h; rw [if_neg Bool.false_ne_true]; exact wpAny_pure (wpAny_pure (wpAny_pure h))
end L2

set_option Elab.async false
set_option linter.all false
set_option maxRecDepth 100000
set_option maxHeartbeats 4000000
namespace L2
open PySem PySem.Spec PyProof.Rows
section
variable {X : Cx} {pins : List (Addr × Obj)} {σ : St} {H H' : Hp} {s s' : Shared} {B h' : Heap} {ea : Addr} {cls fl : Value}
/-- behind the landing: the state of before, with the exception -/
theorem Inv.landed (I : Inv X pins σ H s) (ho : s'.os = s.os) (hg : AllBare s'.gens) (x : Fly B h' X.stack ea cls fl) (hok : HOk X.prog X.w H' B) (tb : ToB (frs X.stack) H H' s.heap B)
    (sl : ∀ b o, s.heap.get? b = some o → b ∈ frs X.stack → ∃ sl, h'.get? b = some { o with slots := sl }) : Inv X pins σ (upd H' ea (ExO ea cls)) { s' with heap := h' } := by
  have hn : H' ea = none := by
    cases q : H' ea with
    | none => rfl
    | some o =>
      obtain ⟨ob, e⟩ := (hok ea o q).got
      rw [x.new] at e
      cases e
  have u := tb.un x.stays sl
  have hne : ∀ b o, s.heap.get? b = some o → b ≠ ea := fun b o q z => by
    by_cases hb : b ∈ frs X.stack
    · obtain ⟨s1, q1⟩ := sl b o q hb
      obtain ⟨oe, vs, T, oT, ts, he, _, hd, _⟩ := x.trc
      have := fr_data x.frames hb q1 vs
      rw [z, he] at q1
      cases q1
      exact this hd
    · obtain ⟨o', q1⟩ := tb.there b o q hb
      rw [z, x.new] at q1
      cases q1
  refine Inv.call' (s' := { s' with heap := h' }) (ch := []) I ho ⟨u.keep, u.slot, fun b o q n hb => ?_, u.there, fun b xs q => ?_, fun b o w q => ?_, fun b ps q => ?_⟩ ?_ hg (fun b hb => by cases hb)
  · rw [upd_ne (hne b o q)]; exact u.free b o q n hb
  · have := u.tups b xs q
    rw [upd_ne (ne_of_none this hn)]; exact this
  · have := u.frzs b o w q
    rw [upd_ne (ne_of_none this hn)]; exact this
  · obtain ⟨m, e⟩ := u.tbls b ps q
    exact ⟨m, by rw [upd_ne (ne_of_none e hn)]; exact e⟩
  · exact (hok.kept x.stays).track hn (exO_ok x)
end
/-! ### try .. except C as n -/
def tTryAs (K : PySem.W.Frag) (C : Addr) (i : Nat) (tb : (St → Hp → XK) → TS) (ts : Addr → TS) : TS := fun D σ H => tb (fun σ' _ cls a H' => ∃ ea Dc bm, a = some ea ∧ cls = .ref Dc ∧ XC K Dc bm ∧ (Value.ref Dc :: bm).contains (.ref C) = true ∧
  ts ea { nx := fun σ2 H2 => D.nx (σ2.set i none) H2, rt := D.rt, bk := fun σ2 H2 => D.bk (σ2.set i none) H2, ct := fun σ2 H2 => D.ct (σ2.set i none) H2 } (σ'.set i (some (.ref ea))) (upd H' ea (ExO ea (.ref Dc)))) D σ H
theorem ps_tryAs {X : Cx} {body : List Stmt} {tb : (St → Hp → XK) → TS} {ts : Addr → TS} {x n : Str} {C : Addr} {bmC : List Value} {i : Nat} {b₀ : Stmt} {suite : List Stmt} {np hpos pos : Pos} (O : Own X)
    (hb : ∀ pl RX, PSs ((X.bear pl).wish (xeR (X.bear pl) RX)) body (tb RX)) (hg : Gl X x) (hm : X.mg x = some (.ref C)) (cC : XC X.K C bmC) (hs : ∀ ea, PSs (X.inH ea) (b₀ :: suite) (ts ea))
    (hN : X.N.Nodup) (hi : X.N[i]? = some n) (hl : X.env.kindOf n = some .local) (hdb : (x == ("__debug__" : Str)) = false := by decide) :
    PS X (.Try body [.ExceptHandler (some (.Name x np)) (some n) (b₀ :: suite) hpos] [] [] pos) (tTryAs X.K C i tb ts) := by
  intro pins s σ H D I h
  refine wpAny_Try_except ?_
  refine wpAny_mono (hb pins _ [] s σ H D (I.bear.wish _) h) (fun f s1 q => ?_) (fun e s1 q => ?_)
  · have q1 := SP.unwish q
    have q2 : SP X pins D f s1 := by
      cases f with
      | next => obtain ⟨σ', H', J, z⟩ := q1; exact ⟨σ', H', J.unbear, z⟩
      | brk => obtain ⟨σ', H', J, z⟩ := q1; exact ⟨σ', H', J.unbear, z⟩
      | cont => obtain ⟨σ', H', J, z⟩ := q1; exact ⟨σ', H', J.unbear, z⟩
      | ret u => obtain ⟨v, σ', H', J, r, z⟩ := q1; exact ⟨v, σ', H', J.unbear, r, z⟩
    cases f with
    | next => exact wpAny_execs_nil q2
    | brk => exact q2
    | cont => exact q2
    | ret u => exact q2
  · obtain ⟨pins', σ', H1, s2, I2, ea, cls, B, H', rfl, h1, h2, h3, h6, h7, h8, ea', Dc, bm, e1, rfl, cD, hct, q⟩ := q
    cases e1
    have I2 : Inv X pins σ' H1 s2 := I2.unbear
    have h3' : Fly B s1.heap (X.env :: X.outer) ea (.ref Dc) .none := by rw [← O.stk]; exact h3
    have hfr : X.A.frames = some (X.env :: X.outer) := by rw [← O.stk]; exact I.ok.frames
    have up : ∀ {ha hb : Heap} {fl : Value}, Fly B ha X.stack ea (.ref Dc) fl → ha.UpToSlots hb → (∀ b o, s2.heap.get? b = some o → b ∈ frs X.stack → ∃ sl, ha.get? b = some { o with slots := sl }) → ∀ b o, s2.heap.get? b = some o → b ∈ frs X.stack → ∃ sl, hb.get? b = some { o with slots := sl } :=
      fun {ha hb fl} y u z b o e hb' => by
        obtain ⟨sl1, e1⟩ := z b o e hb'
        obtain ⟨sl2, e2⟩ := u b _ e1 (fr_data y.frames hb' e1)
        exact ⟨sl2, e2⟩
    refine fly_note (s := s1) hfr O.fr h3' fun h4 y4 u4 => ?_
    refine fly_mark (s := { s1 with heap := h4 }) y4 fun h5 y5 u5 => ?_
    have y4' : Fly B h4 X.stack ea (.ref Dc) (rawInt X.env.locals) := by rw [O.stk]; exact y4
    have y5' : Fly B h5 X.stack ea (.ref Dc) .none := by rw [O.stk]; exact y5
    have sl5 := up y4' u5 (up h3 u4 h8)
    have I5 : Inv (X.inH ea) pins σ' (upd H' ea (ExO ea (.ref Dc))) { s1 with heap := h5 } := (I2.landed (s' := s1) h1 h2 y5' h6 h7 sl5).inH ea
    refine wpAny_handleBy_cons (codeAny_handlers_test ?_) (by intro z; cases z)
    refine ld_glob I5 hg hm ?_ hdb
    obtain ⟨oe, vs, T, oT, ts', he, hc, hd, _⟩ := y5.trc
    refine matches_own (s := { s1 with heap := h5 }) I5.kIn cD cC he hc ?_
    rw [hct]
    refine codeAny_handlers_suite_as ?_
    refine fly_mark (s := { s1 with heap := h5 }) y5 fun h7' y7 u7 => ?_
    have y7' : Fly B h7' X.stack ea (.ref Dc) .none := by rw [O.stk]; exact y7
    have I7 : Inv (X.inH ea) pins σ' (upd H' ea (ExO ea (.ref Dc))) { s1 with heap := h7' } := (I2.landed (s' := s1) h1 h2 y7' h6 h7 (up y5' u7 sl5)).inH ea
    refine store_ok (X := X.inH ea) (i := i) I7 hN hi (.inl hl) (v := .ref ea) rfl (fun s8 I8 => ?_) (.inr hl)
    refine wpAny_mono (hs ea pins s8 _ _ _ I8 q) (fun f s9 z => ?_) (fun _ _ z => z.elim)
    have fin : ∀ {σ2 : St} {H2 : Hp} {Q : Shared → Prop}, Inv (X.inH ea) pins σ2 H2 s9 → (∀ s', Inv X pins (σ2.set i none) H2 s' → Q s') →
        wpAny (model X.prog X.w) X.A (do bindName X.env n .none; unbindBehindTheSuite X.env n hpos) (fun _ s' => Q s') X.xe s9 := fun {σ2 H2 Q} J hq => by
      obtain ⟨m, hn, hl'⟩ := J.loc
      refine wpAny_nameGoes_keeps hl hn (by rw [I.ok.kind]; rfl) fun h' v hn' hs' => hq _ ?_
      exact (J.outH I.ok).forget hN hi hn hl' hn' hs'
    cases f with
    | next => obtain ⟨σ2, H2, J, z⟩ := z; exact fin J fun s' J' => ⟨_, _, J', z⟩
    | brk => obtain ⟨σ2, H2, J, z⟩ := z; exact fin J fun s' J' => ⟨_, _, J', z⟩
    | cont => obtain ⟨σ2, H2, J, z⟩ := z; exact fin J fun s' J' => ⟨_, _, J', z⟩
    | ret u => obtain ⟨v, σ2, H2, J, r, z⟩ := z; exact fin J fun s' J' => ⟨v, _, _, J', r, z⟩
end L2

set_option Elab.async false
set_option linter.all false
set_option maxRecDepth 100000
set_option maxHeartbeats 4000000
namespace L2
open PySem PySem.Spec PyProof.Rows
/-! ### a range's end within an except suite -/
theorem plain_unchain : plainId "proto.unchain" = true := by decide +kernel
theorem entry_unchain : entryFor table "proto.unchain" = some Builtin.«proto.unchain» := entryFor_of_tree (by kernel_rfl)
section
variable {prog : Program} {w : World} {A : Around} {E : Value → Shared → Prop} {s : Shared}
theorem raiseH {α : Type} {n ea : Addr} {o oe : Obj} {ws vs : Array Value} {Q : α → Shared → Prop} (hh : A.handled = some (.ref ea)) (hne : ea ≠ n) (he : s.heap.get? ea = some oe) (hd : oe.data = .fields vs) (h2 : vs[2]? = some .none)
    (hn : s.heap.get? n = some o) (hnd : o.data = .fields ws) (hsz : 2 < ws.size) (h : E (.ref n) { s with heap := s.heap.update n (Obj.mapFields (·.setIfInBounds 2 (.ref ea))) }) : wpAny (model prog w) A (raiseNew (.ref n) : Sem α) Q E s := by
  simp only [raiseNew]
  refine wpAny_bind (wpAny_handled ?_)
  rw [hh]
  dsimp only
  rw [if_pos (show (Value.ref ea != Value.ref n) = true from by simp [hne])]
  refine wpAny_bind (wpAny_holding (wpAny_runValue (codeAny_builtin entry_unchain ?_)))
  rw [Around.under_plainId plain_unchain _]
  unfold Builtin.«proto.unchain»
  dsimp only
  refine wpAny_bind (wpAny_field he hd h2 ?_)
  rw [if_pos (show (Value.none == Value.none) = true from rfl)]
  refine wpAny_pure ?_
  refine wpAny_bind (show wpAny _ _ (setField (.ref n) 2 (.ref ea)) _ _ _ from wpAny_setField hn hnd hsz ?_)
  exact wpAny_throw h
theorem range_endH {it ea : Addr} {x left step : Int} {oe : Obj} {vs : Array Value} {Q : Option Value → Shared → Prop} (hh : A.handled = some (.ref ea)) (he : s.heap.get? ea = some oe) (hd : oe.data = .fields vs) (h2 : vs[2]? = some .none)
    (hit : IsRangeIter s.heap it x left step) (hleft : left ≤ 0) (hQ : ∀ h', Heap.ExtBut it s.heap h' → Q none { s with heap := h' }) : wpAny (model prog w) A (pyNext (.ref it)) Q E s := by
  have hT : s.TypeIs (.ref it) "range_iterator" := ⟨_, hit, rfl⟩
  unfold pyNext
  refine wpAny_bind (wpAny_attempt (wpAny_callSpecial?_slot (name := Str.ofString "__next__") hT F.slot_range_iterator_next (wpAny_call_entry F.slot_range_iterator_next hT F.entry_range_iterator_next ?_ (F.args_range_iterator_next_1 _))))
  unfold Builtin.«range_iterator.__next__»
  refine wpAny_bind (wpAny_of_eq (a := (Value.ref it, [])) rfl ?_)
  dsimp only
  refine wpAny_bind (wpAny_field hit rfl (x := rawInt x) rfl ?_)
  refine wpAny_bind (wpAny_field hit rfl (x := rawInt left) rfl ?_)
  refine wpAny_bind (wpAny_field hit rfl (x := rawInt step) rfl ?_)
  show wpAny _ _ (if left ≤ 0 then _ else _) _ _ s
  rw [if_pos hleft]
  refine wpAny_bind (wpAny_rule ?_)
  refine wpAny_bind ?_
  unfold Builtin.SmallTypes.stopIteration
  refine wpAny_bind ?_
  simp only [newExc, newTuple]
  refine wpAny_bind (wpAny_newObj_type ?_ (by size_fits))
  refine wpAny_bind (m := firstArgMember _ _) (wpAny_of_eq (a := Value.none) (by first | rfl | (simp only [firstArgMember]; rfl)) ?_)
  refine wpAny_newObj_type ?_ (by size_fits)
  have hlt : ea < s.heap.objs.size := Heap.lt_size he
  refine raiseH (A := A.in1) hh (fun z => ?_) (Heap.get?_push_of_some _ (Heap.get?_push_of_some _ he)) hd h2 (Heap.get?_push_size _ rfl) rfl (by simp; omega) ?_
  · have z' : ea = (s.heap.push { cls := Value.type "tuple", data := Data.seq #[] }).objs.size := z
    rw [Heap.size_push] at z'
    rw [z'] at hlt
    exact absurd hlt (Nat.not_lt.mpr (Nat.le_succ _))
  · refine wpAny_bind (wpAny_isInstance (T := "StopIteration") (b := true) ⟨_, Heap.get?_update_self _ (Heap.get?_push_size _ rfl) rfl, rfl⟩ isSubtype_stop ?_)
    refine wpAny_pure (hQ _ fun b o hb e => (Heap.get?_update_other _ _ fun z => ?_).trans (Heap.get?_push_of_some _ (Heap.get?_push_of_some _ e)))
    have z' : (s.heap.push { cls := Value.type "tuple", data := Data.seq #[] }).objs.size = b := z
    rw [Heap.size_push] at z'
    have hb2 := Heap.lt_size e
    rw [← z'] at hb2
    exact absurd hb2 (Nat.not_lt.mpr (Nat.le_succ _))
end
structure TurnH (ea : Addr) (P : Program) (w : World) (K : PySem.W.Frag) (tg : Expr) (J : It) (fp : List Addr) (it : Addr) (tn : Nat → Heap → Prop) : Prop where
  mem : it ∈ fp
  obj : ∀ i h, tn i h → ∀ b ∈ fp, ∃ o, h.get? b = some o ∧ ∀ v, o.data ≠ .cell v
  keep : ∀ i h h', tn i h → (∀ b ∈ fp, ∀ o, h.get? b = some o → h'.get? b = some o) → tn i h'
  item : ∀ (X : Cx), X.prog = P → X.w = w → X.K = K → X.A.handled = some (.ref ea) → ∀ (i : Nat) (pins : List (Addr × Obj)) (s : Shared) (σ : St) (H : Hp) (E : Value → Shared → Prop), Inv X pins σ H s → (∀ b ∈ fp, FpOk X pins H b) → tn i s.heap → J.go i H →
    wpAny (model P w) X.A (pyNext (.ref it)) (fun r s1 => ∃ u, r = some u ∧
      wpAny (model P w) X.A (letOwnedTupleGo tg (.ref it) u) (fun _ s2 => ∃ x H', Inv X pins σ H' s2 ∧ RelV x u ∧ J.yld i H x H' ∧ tn (i + 1) s2.heap ∧ ∀ b ∈ fp, H' b = none) E s1) E s
  done : ∀ (X : Cx), X.prog = P → X.w = w → X.K = K → X.A.handled = some (.ref ea) → ∀ (i : Nat) (pins : List (Addr × Obj)) (s : Shared) (σ : St) (H : Hp) (E : Value → Shared → Prop), Inv X pins σ H s → (∀ b ∈ fp, FpOk X pins H b) → tn i s.heap → J.stop i H →
    wpAny (model P w) X.A (pyNext (.ref it)) (fun r s1 => r = none ∧ Inv X pins σ H s1) E s
  self : ∀ (A : Around) (i : Nat) (s : Shared) (Q : Value → Shared → Prop) (E : Value → Shared → Prop), tn i s.heap → Q (.ref it) s → wpAny (model P w) A (pyIter (.ref it)) Q E s
def PIEH (ea : Addr) (X : Cx) (pins : List (Addr × Obj)) (σ : St) (tg : Expr) (R : It → Hp → Prop) (itv : Value) (s2 : Shared) : Prop :=
  ∃ (it : Addr) (fp : List Addr) (tn : Nat → Heap → Prop) (J : It) (H' : Hp), itv = .ref it ∧ Inv X pins σ H' s2 ∧ TurnH ea X.prog X.w X.K tg J fp it tn ∧ tn 0 s2.heap ∧ (∀ b ∈ fp, FpOk X pins H' b) ∧ R J H'
def PIH (ea : Addr) (X : Cx) (tg iter : Expr) (wi : TI) : Prop :=
  ∀ (pins : List (Addr × Obj)) (s : Shared) (σ : St) (H : Hp) (R : It → Hp → Prop), Inv X pins σ H s → wi σ H R →
    wpAny (model X.prog X.w) X.A (eval iter X.env) (fun v s1 => wpAny (model X.prog X.w) X.A (pyIter v) (PIEH ea X pins σ tg R) X.xe s1) X.xe s

/-- lo, lo + 1, ..; at its end the exception that is handled must be known -/
def ItrH (ea : Addr) (lo : Int) (n : Nat) : It := ⟨fun i _ => i < n, fun i H x H' => H' = H ∧ x = .int (lo + i), fun i H => n ≤ i ∧ ∃ cls, H ea = some (ExO ea cls)⟩
theorem turn_rangeH {ea : Addr} {P : Program} {w : World} {K : PySem.W.Frag} {tg : Expr} (it : Addr) (lo : Int) (n : Nat) : TurnH ea P w K tg (ItrH ea lo n) [it] it (fun i h => IsRangeIter h it (lo + (i : Nat) * 1) ((n : Int) - (i : Nat)) 1) where
  mem := by simp
  obj := fun i h st b hb => by
    have e : b = it := by simpa using hb
    subst e
    exact ⟨_, st, fun v z => nomatch (show Data.fields _ = Data.cell v from z)⟩
  keep := fun i h h' st k => k it (by simp) _ st
  item := by
    intro X hP hw hK hc i pins s σ H E I hf st hg
    subst hP hw hK
    obtain ⟨f0, f1, f2, f3, f4, f5⟩ := hf it (by simp)
    refine wpAny_pyNext_range_item st (by have : i < n := hg; omega) fun h' st' sb => ?_
    have e1 : lo + ((i : Nat) : Int) * 1 + 1 = lo + ((i + 1 : Nat) : Int) * 1 := by omega
    have e2 : (n : Int) - ((i : Nat) : Int) - 1 = (n : Int) - ((i + 1 : Nat) : Int) := by omega
    rw [e1, e2] at st'
    have I1 : Inv X pins σ H { s with heap := h', toks := s.toks + 1 } := I.turned (fun b o hb e => sb.extBut b o hb e) f0 f1 f3 f4 f5
    refine ⟨_, rfl, go_of (s := { s with heap := h', toks := s.toks + 1 }) (n := "range_iterator") st' rfl rfl (by decide) ⟨.int (lo + i), H, I1, ⟨s.toks, by rw [Int.mul_one]⟩, ⟨rfl, rfl⟩, st', fun b hb => (hf b hb).1⟩⟩
  done := by
    intro X hP hw hK hc i pins s σ H E I hf st hg
    subst hP hw hK
    obtain ⟨f0, f1, f2, f3, f4, f5⟩ := hf it (by simp)
    obtain ⟨hg, cls, hx⟩ := hg
    obtain ⟨⟨oe, vs, he, _, hd, h2⟩, _, _⟩ := (show ObjOk X.prog X.w H s.heap ea (ExO ea cls) from I.hok ea _ hx)
    exact range_endH hc he hd h2 st (by omega) fun h' eb => ⟨rfl, I.turned (t' := s.toks) (fun b o hb e => eb b o hb e) f0 f1 f3 f4 f5⟩
  self := fun _ _ _ _ _ st h => wpAny_pyIter_rangeiter st h
section
variable {X : Cx} {scope : Scope} {cl : List (Str × Addr)} {x : Str} {cs : List Str} {js : List Nat} {pins : List (Addr × Obj)} {σ : St} {H : Hp} {s : Shared} {ea : Addr}
abbrev accOH (us : List Value) (n : Nat) : Obj := { cls := .type "list", data := .seq us.toArray n }

/-- the loop: at turn i the values ys are gathered -/
theorem comp_loopH {elt iter : Expr} {px pos : Pos} {ifs : List Expr} {tc : TT} {te : TE} {C D it : Addr} {fp : List Addr} {tn : Nat → Heap → Prop} {J : It} {s₂ : Shared} {H₂ : Hp} {R : Result → Shared → Prop} {fin : List V → Hp → Prop} {s₃ : Shared} {o₀ : Option V}
    (hc : X.A.handled = some (.ref ea)) (S : CScope X scope cl x cs js) (hC : s₂.heap.objs.size ≤ C) (hD : s₂.heap.objs.size ≤ D) (hDC : D ≠ C) (hlt : ∀ b ∈ fp, b < s₂.heap.objs.size)
    (T : TurnH ea X.prog X.w X.K (.Name x px) J fp it tn)
    (hcells : ∀ y c, cl.lookup y = some c → c < s₂.heap.objs.size)
    (hfs : ∀ b ∈ fp, b ∉ frs X.stack) (hDfs : D ∉ frs X.stack)
    (hcf : ∀ b ∈ fp, ∀ y c, cl.lookup y = some c → c ≠ b)
    (ht : PIfs (cxC X scope cl x cs C s₂ H₂ fp) ifs tc) (he : PE (cxC X scope cl x cs C s₂ H₂ fp) elt te)
    (I₃ : Inv (cxC X scope cl x cs C s₂ H₂ fp) [] (o₀ :: capt σ js) H₂ s₃) (st : tn 0 s₃.heap) (hn : ∀ b ∈ fp, H₂ b = none) (eD : s₃.heap.get? D = some (accOH [] 0)) (hDn : H₂ D = none)
    (hW : CompW J tc te (capt σ js) fin H₂)
    (hR : ∀ s' σ' H' ys us n, Inv (cxC X scope cl x cs C s₂ H₂ fp) [] σ' H' s' → Vals ys us → ys.length ≤ sizeLine → s'.heap.get? D = some (accOH us n) → H' D = none → fin ys H' → R (.ok .next) s') :
    codeAny (model X.prog X.w) X.A (.compLoop (.ListComp elt [⟨.Name x px, iter, ifs, 0⟩] scope pos) 0 (.ref it) (.ref D) (compEnvC scope cl C X.env)) R s₃ := by
  obtain ⟨W, ⟨m0, w0⟩, turn⟩ := hW
  have bC : ∀ b ∈ fp, b ≠ C := fun b hb e => absurd (hlt b hb) (Nat.not_lt.mpr (by rw [e]; exact hC))
  have bD : ∀ b ∈ fp, b ≠ D := fun b hb e => absurd (hlt b hb) (Nat.not_lt.mpr (by rw [e]; exact hD))
  have cD : ∀ y c, cl.lookup y = some c → c ≠ D := fun y c h e => absurd (hcells y c h) (Nat.not_lt.mpr (by rw [e]; exact hD))
  have pinD : ∀ {τ : St} {H' : Hp} {s' : Shared} {us : List Value} {k : Nat}, Inv (cxC X scope cl x cs C s₂ H₂ fp) [] τ H' s' → s'.heap.get? D = some (accOH us k) → H' D = none → Inv (cxC X scope cl x cs C s₂ H₂ fp) [(D, accOH us k)] τ H' s' :=
    fun {τ H' s' us k} I e hn => I.pins_of fun p hp => by
      have ep : p = (D, accOH us k) := by simpa using hp
      subst ep
      exact ⟨e, hn, hDC, hDfs, fun v z => by
        have z' : Data.seq us.toArray k = Data.cell v := z
        cases z'⟩
  have fpk : ∀ {H' : Hp} {us : List Value} {k : Nat}, (∀ b ∈ fp, H' b = none) → ∀ b ∈ fp, FpOk (cxC X scope cl x cs C s₂ H₂ fp) [(D, accOH us k)] H' b := fun {H' us k} hn b hb =>
    ⟨hn b hb, bC b hb, hfs b hb, .inl hb, fun y c e => hcf b hb y c e, fun p hp => by
      have ep : p = (D, accOH us k) := by
        rcases List.mem_append.mp hp with z | z
        · exact absurd (show p ∈ ([] : List (Addr × Obj)) from z) (by simp)
        · simpa using z
      subst ep
      exact Ne.symm (bD b hb)⟩
  refine codeAny_compLoop_tests (env := compEnvC scope cl C X.env) (fun n s' => ∃ i o H' ys us k, Inv (cxC X scope cl x cs C s₂ H₂ fp) [] (o :: capt σ js) H' s' ∧ tn i s'.heap ∧ (∀ b ∈ fp, H' b = none) ∧ Vals ys us ∧ ys.length ≤ sizeLine ∧ s'.heap.get? D = some (accOH us k) ∧ H' D = none ∧ W i n ys H') ?_ m0
    ⟨0, o₀, H₂, [], [], 0, I₃, st, hn, .nil, Nat.zero_le _, eD, hDn, w0⟩
  rintro n s4 ⟨i, o, H4, ys, us, k, I4, st4, fr4, rv, hz, eD4, hD4, w4⟩
  have I4' := pinD I4 eD4 hD4
  rcases turn i n ys H4 w4 with ⟨stop, f⟩ | ⟨go, hlen, N, hN, step⟩
  · refine wpAny_mono (T.done (cxC X scope cl x cs C s₂ H₂ fp) rfl rfl rfl hc i [(D, accOH us k)] s4 _ H4 (fun _ _ => False) I4' (fpk fr4) st4 stop) (fun r s5 ⟨hr, I5⟩ => ?_) (fun _ _ z => z.elim)
    subst hr
    show R (.ok .next) s5
    exact hR s5 _ H4 ys us k (I5.pins_of fun p hp => absurd hp (by simp)) rv hz (I5.pin (D, accOH us k) (List.mem_append_right _ (by simp))).1 hD4 f
  · refine wpAny_mono (T.item (cxC X scope cl x cs C s₂ H₂ fp) rfl rfl rfl hc i [(D, accOH us k)] s4 _ H4 (fun _ _ => False) I4' (fpk fr4) st4 go) (fun r s5 ⟨u, hr, h5⟩ => ?_) (fun _ _ z => z.elim)
    subst hr
    show wpAny _ _ (letOwnedTupleGo (.Name x px) (.ref it) u >>= fun _ => assign (.Name x px) (compEnvC scope cl C X.env) u) _ _ s5
    refine wpAny_bind (wpAny_mono h5 (fun _ s6 ⟨v, H6, I6, r6, y6, st6, fr6⟩ => ?_) (fun _ _ z => z.elim))
    have I6' := I6.pinned (fpk fr6) (T.obj _ _ st6)
    refine wpAny_assign_Name (store_ok (X := cxC X scope cl x cs C s₂ H₂ fp) (i := 0) I6' S.nd rfl (.inl (lookup_relabel_local S.lx)) r6 (fun s7 I7 => ?_) (.inl (beq_self_eq_true x)))
    have st7 : ∀ {τ : St} {H' : Hp} {s' : Shared}, Inv (cxC X scope cl x cs C s₂ H₂ fp) ([(D, accOH us k)] ++ pinsAt fp s6.heap) τ H' s' → tn (i + 1) s'.heap ∧ ∀ b ∈ fp, H' b = none := fun {τ H' s'} I => by
      refine ⟨T.keep _ _ _ st6 fun b hb o e => (I.pin (b, o) (List.mem_append_right _ (List.mem_append_right _ (mem_pinsAt hb e)))).1, fun b hb => ?_⟩
      obtain ⟨o, e, d⟩ := T.obj _ _ st6 b hb
      exact (I.pin (b, o) (List.mem_append_right _ (List.mem_append_right _ (mem_pinsAt hb e)))).2.1
    have dD : ∀ {τ : St} {H' : Hp} {s' : Shared}, Inv (cxC X scope cl x cs C s₂ H₂ fp) ([(D, accOH us k)] ++ pinsAt fp s6.heap) τ H' s' → s'.heap.get? D = some (accOH us k) ∧ H' D = none := fun {τ H' s'} I => by
      have q := I.pin (D, accOH us k) (List.mem_append_right _ (List.mem_append_left _ (by simp)))
      exact ⟨q.1, q.2.1⟩
    refine wpAny_mono (ht _ s7 _ H6 _ I7 (step v H6 y6)) (fun ok s8 ⟨H8, I8, q8⟩ => ?_) (fun _ _ z => False.elim z)
    cases ok with
    | false =>
      obtain ⟨m', hm, w8⟩ := hN _ _ q8
      exact ⟨m', hm, i + 1, some v, H8, ys, us, k, I8.pins_of fun p hp => absurd hp (by simp), (st7 I8).1, (st7 I8).2, rv, hz, (dD I8).1, (dD I8).2, w8⟩
    | true =>
      rw [if_pos rfl]
      refine wpAny_mono (he _ s8 _ H8 _ I8 q8) (fun xv s9 ⟨y, H9, I9, r9, n9⟩ => ?_) (fun _ _ z => False.elim z)
      obtain ⟨m', hm, w9⟩ := hN _ _ n9
      obtain ⟨eD9, hD9⟩ := dD I9
      have hl := rv.length
      refine call_meets F.slot_list_append ⟨_, eD9, rfl⟩ F.entry_list_append (F.args_list_append_2 _ _) (PySem.list_append D us.toArray k xv (by rw [List.size_toArray]; omega)) ⟨eD9, ?_⟩
      have I9' : Inv (cxC X scope cl x cs C s₂ H₂ fp) [] (some v :: capt σ js) H9 s9 := I9.pins_of fun p hp => absurd hp (by simp)
      have q := PySem.IsL.update eD9 (·.push xv)
      have e1 : us.toArray.push xv = (us ++ [xv]).toArray := by simp
      rw [e1] at q
      have I10 := I9'.turned (h' := s9.heap.update D (Obj.mapSeq (·.push xv))) (t' := s9.toks) (it := D) (fun b o hb e => (Heap.get?_update_other s9.heap _ (Ne.symm hb)).trans e) hD9 hDC (.inr hD) (fun y c e => cD y c e) (fun p hp => absurd (show p ∈ ([] : List (Addr × Obj)) from hp) (by simp))
      refine ⟨m', hm, i + 1, some v, H9, ys ++ [y], us ++ [xv], _, I10, ?_, (st7 I9).2, rv.append (.cons r9 .nil), ?_, q, hD9, w9⟩
      · exact T.keep _ _ _ (st7 I9).1 fun b hb o e => (Heap.get?_update_other s9.heap _ (Ne.symm (bD b hb))).trans e
      · rw [List.length_append, List.length_singleton]
        omega

theorem comp_blockH {elt iter : Expr} {px pos : Pos} {ifs : List Expr} {tc : TT} {te : TE} {it : Addr} {fp : List Addr} {tn : Nat → Heap → Prop} {J : It} {E : Value → Shared → Prop} {fin : List V → Hp → Prop} {RR : Value → Addr → Result → Shared → Prop}
    (hc : X.A.handled = some (.ref ea)) (S : CScope X scope cl x cs js) (I : Inv X pins σ H s) (T : TurnH ea X.prog X.w X.K (.Name x px) J fp it tn) (st : tn 0 s.heap) (hf : ∀ b ∈ fp, FpOk X pins H b)
    (ht : ∀ C s₁ H₁, PIfs (cxC X scope cl x cs C s₁ H₁ fp) ifs tc) (he : ∀ C s₁ H₁, PE (cxC X scope cl x cs C s₁ H₁ fp) elt te) (hW : CompW J tc te (capt σ js) fin H)
    (hRR : ∀ D C s' ys H' m, Inv X pins σ (upd H' D (.lst ys)) s' → s'.heap.Ns C m → Off X pins (upd H' D (.lst ys)) C → H' D = none → fin ys H' → RR (.ref D) C (.ok .next) s') :
    wpAny (model X.prog X.w) X.A (newList []) (fun acc s₃ => wpAny (model X.prog X.w) X.A (newFunctionEnv scope X.env.globals cl [] X.env.qual none .none (some X.env)) (fun cenv s₄ =>
      codeAny (model X.prog X.w) X.A (.compStart (.ListComp elt [⟨.Name x px, iter, ifs, 0⟩] scope pos) 0 (.ref it) acc { cenv with scope := relabel scope X.env }) (RR acc cenv.locals) s₄) E s₃) E s := by
  have hlt : ∀ b ∈ fp, b < s.heap.objs.size := fun b hb => by
    obtain ⟨o, e, _⟩ := T.obj _ _ st b hb
    exact Heap.lt_size e
  refine wpAny_newObj_type (wpAny_newFunctionEnv S.nocell (by intro y hy; simp at hy) (fun h₁ hns₁ hsb₁ => ?_) S.kind)
  dsimp only at hns₁ hsb₁ ⊢
  generalize hH2 : s.heap.push { cls := .type "list", dict := none, data := .seq ([] : List Value).toArray } = H2 at hns₁ hsb₁ ⊢
  have hC : H2.objs.size = s.heap.objs.size + 1 := by rw [← hH2, Heap.size_push]
  have hDC : s.heap.objs.size ≠ H2.objs.size := by rw [hC]; exact Nat.ne_of_lt (Nat.lt_succ_self _)
  have hCle : s.heap.objs.size ≤ H2.objs.size := by rw [hC]; exact Nat.le_succ _
  have below : ∀ b, b < s.heap.objs.size → b ≠ H2.objs.size ∧ b ≠ s.heap.objs.size := fun b hb => ⟨by rw [hC]; exact Nat.ne_of_lt (Nat.lt_succ_of_lt hb), Nat.ne_of_lt hb⟩
  have old : ∀ b o, s.heap.get? b = some o → h₁.get? b = some o := fun b o e => hsb₁.extBut b o (below b (Heap.lt_size e)).1 (Heap.get?_push_of_some _ (hH2 ▸ Heap.get?_push_of_some _ e))
  have hacc : h₁.get? s.heap.objs.size = some (accOH [] 0) := hsb₁.extBut _ _ hDC (Heap.get?_push_of_some _ (hH2 ▸ Heap.get?_push_size _ rfl))
  have hDn : H s.heap.objs.size = none := I.hok.fresh (Nat.le_refl _)
  have I₁ := inv_startC (C := H2.objs.size) (D := s.heap.objs.size) (tk := s.toks + ([] : List (Str × Value)).length) (oD := accOH [] 0) S I hf hlt (Nat.le_refl _) hCle hDC hns₁ old hacc (fun v z => by
    have z' : Data.seq ([] : List Value).toArray 0 = Data.cell v := z
    cases z')
  have I₁' := I₁.pins_of (pins' := []) fun p hp => absurd hp (by simp)
  have stk : tn 0 h₁ := T.keep _ _ _ st fun b _ o e => old b o e
  have loop : codeAny (model X.prog X.w) X.A (.compLoop (.ListComp elt [⟨.Name x px, iter, ifs, 0⟩] scope pos) 0 (.ref it) (.ref s.heap.objs.size) (compEnvC scope cl H2.objs.size X.env)) (RR (.ref s.heap.objs.size) H2.objs.size)
      { s with heap := h₁, toks := s.toks + ([] : List (Str × Value)).length } := by
    refine comp_loopH (s₂ := s) (H₂ := H) (fp := fp) (fin := fin) hc S hCle (Nat.le_refl _) hDC hlt T (fun y c e => ?_) (fun b hb z => ?_) (I.newfs (Nat.le_refl _)) (fun b hb y c e => (hf b hb).2.2.2.2.1 y c (S.sub y c e)) (ht _ _ _) (he _ _ _) I₁' stk (fun b hb => (hf b hb).1) hacc hDn hW ?_
    · obtain ⟨v, q⟩ := I.cell y c (S.sub y c e)
      exact q.lt
    · rcases List.mem_cons.mp (I.stkSub b z) with e | e
      · exact (hf b hb).2.1 e
      · exact (hf b hb).2.2.1 e
    · intro s' σ' H' ys us n I' rv hz eD hDn' hfin
      have u' : Un (frs X.stack) fp H H' s.heap s'.heap := I'.base
      have u : Un (frs X.stack) fp H (upd H' s.heap.objs.size (.lst ys)) s.heap s'.heap := ⟨u'.keep, u'.slot, fun b o e n hx => by rw [upd_ne (below b (Heap.lt_size e)).2]; exact u'.free b o e n hx, u'.there,
        fun b xs e => by rw [upd_ne (ne_of_none e hDn)]; exact u'.tups b xs e, fun b o w' e => by rw [upd_ne (ne_of_none e hDn)]; exact u'.frzs b o w' e, fun b ps e => by
          obtain ⟨more, q⟩ := u'.tbls b ps e
          exact ⟨more, by rw [upd_ne (ne_of_none e hDn)]; exact q⟩⟩
      have hok : HOk X.prog X.w (upd H' s.heap.objs.size (.lst ys)) s'.heap := HOk.track I'.hok hDn' ⟨hz, us, n, rv, eD⟩
      have I2 : Inv X pins σ (upd H' s.heap.objs.size (.lst ys)) s' := I.call' (ch := fp) I'.os u hok I'.bare fun b hb => ⟨(hf b hb).2.2.2.1, (hf b hb).2.1, (hf b hb).2.2.2.2.1, (hf b hb).2.2.2.2.2⟩
      obtain ⟨m, hm, _⟩ := I'.loc
      refine hRR _ _ s' ys H' m I2 hm ⟨?_, Ne.symm (below _ I.lt).1, Nat.le_trans I.sz hCle, fun y c e => ?_, fun p hp => ?_⟩ hDn' hfin
      · rw [upd_ne (Ne.symm hDC)]; exact I'.free
      · obtain ⟨v, q⟩ := I.cell y c e
        exact (below _ q.lt).1
      · exact (below _ (Heap.lt_size (I.pin p hp).1)).1
  exact codeAny_compStart_list loop (T.self X.A 0 _ _ _ stk loop)

theorem pe_compGH {elt iter : Expr} {px pos : Pos} {ifs : List Expr} {wi : TI} {tc : TT} {te : TE} (hc : X.A.handled = some (.ref ea)) (S : CScope X scope cl x cs js) (hi : PIH ea X (.Name x px) iter wi)
    (ht : ∀ C s₁ H₁ fp, PIfs (cxC X scope cl x cs C s₁ H₁ fp) ifs tc) (he : ∀ C s₁ H₁ fp, PE (cxC X scope cl x cs C s₁ H₁ fp) elt te)
    (hs : ∀ x, foldedSetIterable iter X.env x = pure x := by intro _; rfl) : PE X (.ListComp elt [⟨.Name x px, iter, ifs, 0⟩] scope pos) (tComp wi js tc te) := by
  intro pins s σ H Q I h
  rw [eval_ListComp]
  refine wpAny_comprehension_free (use := none) rfl hs S.clos S.kind S.names (thn (hi pins s σ H _ I h) fun v s1 h1 => thn h1 fun itv s2 h2 => ?_)
  obtain ⟨it, fp, tn, J, H2, e, I2, T, st2, f2, hW⟩ := h2
  subst e
  refine comp_blockH (RR := fun acc C => compPost (model X.prog X.w) X.A X.xe none (EP X pins σ Q) acc C) hc S I2 T st2 f2 (fun C s₁ H₁ => ht C s₁ H₁ fp) (fun C s₁ H₁ => he C s₁ H₁ fp) hW ?_
  intro D C s' ys H' m I' hm O hD hfin
  exact ⟨m, hm, fun h' k => ⟨.ref D, _, I'.off (t' := s'.toks) O k, rfl, hfin D hD⟩⟩

/-- y = [.. for ..] -/
theorem ps_setCGH {i : Nat} {y : Str} {py spos : Pos} {elt iter : Expr} {px pos : Pos} {ifs : List Expr} {wi : TI} {tc : TT} {te : TE} (hN : X.N.Nodup) (hi' : X.N[i]? = some y) (hy : Loc X.env.scope y) (hc : X.A.handled = some (.ref ea)) (S : CScope X scope cl x cs js) (hi : PIH ea X (.Name x px) iter wi)
    (ht : ∀ C s₁ H₁ fp, PIfs (cxC X scope cl x cs C s₁ H₁ fp) ifs tc) (he : ∀ C s₁ H₁ fp, PE (cxC X scope cl x cs C s₁ H₁ fp) elt te)
    (hsw : swapsWith (.ListComp elt [⟨.Name x px, iter, ifs, 0⟩] scope pos) (some (.Name y py)) spos.line X.env = pure true := by rfl)
    (hf : X.fn y = true ∨ X.env.scope.names.lookup y = some .local := by first | exact .inl rfl | exact .inr rfl | assumption)
    (hs : ∀ x, foldedSetIterable iter X.env x = pure x := by intro _; rfl) : PS X (.Assign [.Name y py] (.ListComp elt [⟨.Name x px, iter, ifs, 0⟩] scope pos) spos) (tAsg (tComp wi js tc te) (gName i)) := by
  intro pins s σ H D I h
  rw [exec_Assign_Name_used _ _ _ _ hsw]
  refine wpAny_bind (wpAny_standAt (wpAny_bind ?_))
  show wpAny _ X.A (do let _ ← comprehension (.ListComp elt [⟨.Name x px, iter, ifs, 0⟩] scope pos) scope X.env _ (newList []) false (eval iter X.env) (some (assign (.Name y py) X.env))) _ _ s
  refine wpAny_bind (wpAny_mono (wpAny_comprehension_free (use := some (assign (.Name y py) X.env)) (Q := fun _ s' => SP X pins D .next s') rfl hs S.clos S.kind S.names
    (thn (hi pins s σ H _ I h) fun v s1 h1 => thn h1 fun itv s2 h2 => ?_)) (fun _ s' hq => wpAny_pure (wpAny_pure hq)) fun _ _ e => e)
  obtain ⟨it, fp, tn, J, H2, e, I2, T, st2, f2, hW⟩ := h2
  subst e
  refine comp_blockH (RR := fun acc C => compPost (model X.prog X.w) X.A X.xe (some (assign (.Name y py) X.env)) (fun _ s' => SP X pins D .next s') acc C) hc S I2 T st2 f2 (fun C s₁ H₁ => ht C s₁ H₁ fp) (fun C s₁ H₁ => he C s₁ H₁ fp) hW ?_
  intro D' C s' ys H' m I' hm O hD hfin
  show wpAny _ X.A (assign (.Name y py) X.env (.ref D')) _ _ s'
  refine wpAny_assign_Name (store_ok2 I' hN hi' hy (v := .ref D') rfl (fun s'' I'' sb => ?_) hf)
  obtain ⟨a, sb, ha⟩ := sb
  have hCa : C ≠ a := by
    rcases ha with e | e
    · rw [e]; exact O.l
    · exact fun z => O.c y a e z.symm
  exact ⟨m, hm.sameBut sb hCa, fun h' k => ⟨_, _, I''.off (t' := s''.toks) O k, hfin D' hD⟩⟩
end
end L2

set_option Elab.async false
set_option linter.all false
set_option maxRecDepth 100000
set_option maxHeartbeats 4000000
namespace L2
open PySem PySem.Spec PySem.W PySem.Calls PyProof.Rows Builtin Builtin.ObjectAttr Builtin.Getset_descriptor
/-! ### isinstance of a caught exception -/
/-- what isinstance asks of an own exception class -/
structure XI (K : Frag) (D : Addr) : Prop where
  ga : findIn K (.ref D) "__getattribute__" = some (some (.builtin "BaseException.__getattribute__"))
  gh : findIn K (.ref D) "__getattr__" = some none
  fc : findIn K (.ref D) "__class__" = some (some (.builtin "object.__class__"))
  sg : specialIn K (.builtin "object.__class__") "__get__" = some (some (.builtin "getset_descriptor.__get__"))
  tk : takesIn K (.builtin "object.__class__") = some true
  mo : mroIn K D (.type "object") = some true
  mb : mroIn K D (.type "BaseException") = some true
section
variable {prog : Program} {w : World} {A : Around} {E : Value → Shared → Prop} {s : Shared} {K : Frag} {x D : Addr} {ox : Obj}
theorem xc_type {M : Model} {h : Heap} (hx : h.get? x = some ox) (hc : ox.cls = .ref D) : Looks M h (typeOf (.ref x)) (.ref D) := hc ▸ (Looks.ld hx).andThen .now
theorem xc_get {tp : Value} {R : Result → Shared → Prop} (X : K.In s.heap) (hx : s.heap.get? x = some ox) (hc : ox.cls = .ref D) (hm : mroIn K D (.type "object") = some true)
    (h : R (.ok (.ret (.ref D))) s) : codeAny (model prog w) A (.call (.builtin "getset_descriptor.__get__") ⟨[.builtin "object.__class__", .ref x, tp], []⟩) R s := by
  obtain ⟨hh, g, dr, t, os⟩ := s
  have L0 := xc_type (M := model prog w) hx hc
  have L1 := looks_mroIn (M := model prog w) X hm
  refine codeAny_call_builtin KF.slot_gs.plain KF.entry_gs (KF.slot_gs.check _ _ _ _ _ _ _ _ KF.type_class (KF.args_gs _ _ _) ?_)
  unfold Builtin.«getset_descriptor.__get__» descrGet
  rw [dga_obj]
  refine wpAny_bind (wpAny_pure ?_)
  unfold descrGetter descrCheckInstance descrNameAndClass isInstance
  simp only [KF.owner_class]
  repeat lk
  refine ⟨Code.quiet_builtin _ (by decide +kernel), codeAny_builtin KF.entry_class ?_⟩
  unfold Builtin.«object.__class__» shownTypeOf
  repeat lk
  exact h
theorem xc_check {M : Model} {nameV : Value} {Q : Unit → Shared → Prop} (X : K.In s.heap) (hx : s.heap.get? x = some ox) (hc : ox.cls = .ref D) (hm : mroIn K D (.type "BaseException") = some true)
    (hq : Q () s) : wpAny M A (checkBuiltinCall "BaseException.__getattribute__" ⟨[.ref x, nameV], []⟩) Q E s := by
  obtain ⟨hh, g, dr, t, os⟩ := s
  have hk : builtinKind "BaseException.__getattribute__" = some .slot := by decide +kernel
  have hsplit : splitId "BaseException.__getattribute__" = some ("BaseException", "__getattribute__") := by decide +kernel
  have LI : Looks M hh (isInstance (.ref x) (.type "BaseException")) true := (xc_type hx hc).andThen (looks_mroIn X hm)
  have ha := F.args_bexc_ga (.ref x) nameV
  simp only [checkBuiltinCall, hk, hsplit]
  refine wpAny_bind (LI.at ?_)
  repeat (first | wp_step)
  exact hq
theorem xc_find {M : Model} {h : Heap} (X : K.In h) (xi : XI K D) : Looks M h (find (.ref x) (.ref D) "__class__") (.bind (.builtin "getset_descriptor.__get__") (.builtin "object.__class__")) := by
  have L1 := looks_findIn (M := M) X xi.fc
  have L2 : Looks M h (getOf (some (.builtin "object.__class__"))) (some (.builtin "getset_descriptor.__get__")) := looks_specialIn X xi.sg
  have L3 := looks_takesIn (M := M) X xi.tk
  refine L1.andThen (L2.andThen ?_)
  exact (show Looks M h (dataDescriptor? (some (.builtin "object.__class__")) (some (.builtin "getset_descriptor.__get__"))) (some (.builtin "getset_descriptor.__get__", .builtin "object.__class__")) from L3.andThen .now).andThen (Looks.tag .now)
theorem xc_entry {tk : Tok} {Q : Fin → Shared → Prop} (X : K.In s.heap) (xi : XI K D) (hx : s.heap.get? x = some ox) (hc : ox.cls = .ref D) (hq : Q (.done (.ret (.ref D))) s) :
    wpAny (model prog w) A (Builtin.«object.__getattribute__» ⟨[.ref x, .str "__class__" tk], []⟩) Q E s := by
  obtain ⟨hh, g, dr, t, os⟩ := s
  have L0 := xc_type (M := model prog w) hx hc
  have L1 := xc_find (M := model prog w) (x := x) X xi
  unfold Builtin.«object.__getattribute__»
  refine wpAny_bind (wpAny_of_eq (a := (Value.ref x, [Value.str "__class__" tk])) rfl ?_)
  dsimp only
  refine wpAny_bind (wpAny_pure (wpAny_bind (L0.at (wpAny_bind (L1.at ?_)))))
  show wpAny _ _ (bindTo _ _ _ _) _ _ _
  unfold bindTo
  repeat (any_goals (first | assumption | wp_step))
  refine xc_get (s := ⟨hh, g, dr, t, os⟩) X hx hc xi.mo ?_
  repeat (any_goals (first | assumption | wp_step))
theorem xc_class {Q : Option Value → Shared → Prop} (X : K.In s.heap) (xi : XI K D) (hx : s.heap.get? x = some ox) (hc : ox.cls = .ref D) (h : Q (some (.ref D)) { s with toks := s.toks + 1 }) :
    wpAny (model prog w) A (getAttr? (.ref x) "__class__") Q E s := by
  obtain ⟨hh, g, d, t, os⟩ := s
  have L0 := xc_type (M := model prog w) hx hc
  have L1 := looks_findIn (M := model prog w) X xi.ga
  have L2 := looks_findIn (M := model prog w) X xi.gh
  unfold getAttr? getAttrBy? getAttrBy
  refine wpAny_bind (wpAny_mkText (wpAny_bind (wpAny_attempt (wpAny_holding (wpAny_bind (L0.at (wpAny_bind (L1.at ?_))))))))
  have hx2 : (Value.builtin "BaseException.__getattribute__" == Value.builtin "object.__getattribute__") = false := by decide +kernel
  dsimp only
  rw [hx2, Bool.and_false]
  rw [if_neg Bool.false_ne_true]
  unfold getAttrByItsOwn
  refine wpAny_bind (show wpAny _ _ (hookBefore (.ref D)) _ _ _ from (show wpAny _ _ (typeLookup (.ref D) "__getattr__") _ _ _ from L2.at ?_))
  refine wpAny_bind (wpAny_attempt (wpAny_holding ?_))
  show wpAny _ _ (boundAndCalled _ _ _) _ _ _
  unfold boundAndCalled
  rw [F.attr_ValueError.ga.bind]
  refine wpAny_bind (wpAny_pure (wpAny_call (codeAny_call_builtin F.attr_ValueError.ga.plain F.entry_bexc_ga (xc_check X hx hc xi.mb (xc_entry (s := ⟨hh, g, d, t + 1, os⟩) X xi hx hc ?_)))))
  exact wpAny_pure (wpAny_pure h)
end
end L2

set_option Elab.async false
set_option linter.all false
set_option maxRecDepth 100000
set_option maxHeartbeats 4000000
namespace L2
open PySem PySem.Spec PyProof.Rows
/-! ### isinstance of a caught exception -/
theorem kitx_exc {K : PySem.W.Frag} {x D : Addr} (xi : XI K D) : PySem.W.KitX K (.ref x) (.ref D) (fun h => ∃ ox, h.get? x = some ox ∧ ox.cls = .ref D) where
  ty := fun _ _ _ ⟨_, hx, hc⟩ => xc_type hx hc
  it := fun _ _ X _ => by
    obtain ⟨cdD, hcD, _⟩ := Option.bind_eq_some_iff.mp xi.mo
    unfold PySem.W.clsIn at hcD
    split at hcD
    · rename_i c' d' cd' sl' ho
      intro A' Q' E' s' k q
      unfold isType loadHead
      exact wpAny_bind (wpAny_loadPart (k _ _ (X _ _ ho)) (wpAny_pure q))
    · cases hcD
  ne := fun h tp dd its n sl X htp => by
    obtain ⟨cdD, hcD, _⟩ := Option.bind_eq_some_iff.mp xi.mo
    refine Bool.eq_false_iff.mpr fun q => ?_
    have e : D = tp := Value.ref.inj (beq_iff_eq.mp q)
    subst e
    unfold PySem.W.clsIn at hcD
    split at hcD
    · rename_i c' d' cd' sl' ho
      have z := (X _ _ ho).symm.trans htp
      cases z
    · cases hcD
  ca := fun X ⟨_, hx, hc⟩ h => xc_class X xi hx hc h
section
variable {X : Cx}
/-- a class as a value -/
inductive ClsV : V → Value → Prop where
  | ty (T : String) : ClsV (.ty T) (.type T)
  | own (C : Addr) : ClsV (.ref C) (.ref C)
theorem ClsV.at {v : V} {c u : Value} (h : ClsV v c) (r : RelV v u) : u = c := by cases h <;> exact r
def rIsiX (K : PySem.W.Frag) : List V → Hp → VK → Prop := fun xs H Q => ∃ a D v c b, xs = [.ref a, v] ∧ ClsV v c ∧ H a = some (ExO a (.ref D)) ∧ XI K D ∧ PySem.W.kitOne K (.ref D) c = some b ∧ Q (.bl b) H
theorem call_isiX : CallR X (.builtin "isinstance") (rIsiX X.K) := by
  intro pins s σ H xs us Q I r h
  obtain ⟨a, D, v, c, b, rfl, cv, ea, xi, e, q⟩ := h
  obtain ⟨u, w', rfl, r1, r2⟩ := vals2 r
  cases (show u = Value.ref a from r1)
  cases cv.at r2
  obtain ⟨⟨oe, vs, he, hc, _⟩, _, _⟩ := (show ObjOk X.prog X.w H s.heap a (ExO a (.ref D)) from I.hok a _ ea)
  exact PySem.W.kia_one (kitx_exc xi) I.kIn ⟨oe, he, hc⟩ e (fun z => nomatch z) fun tk => ⟨.bl b, H, I.tok _, rfl, q⟩
end
/-! ### range within a suite -/
section
variable {X : Cx} {tg : Expr} {ea : Addr}
theorem range_itH {pins : List (Addr × Obj)} {σ : St} {H : Hp} {s : Shared} {R : It → Hp → Prop} {E : Value → Shared → Prop} {lo hi : Int} {t u v : Tok} {tk : Nat} (I : Inv X pins σ H s) (h1 : -(2 ^ 62) ≤ lo) (h2 : lo < 2 ^ 62) (h3 : -(2 ^ 62) ≤ hi) (h4 : hi < 2 ^ 62)
    (q : R (ItrH ea lo (hi - lo).toNat) H) : wpAny (model X.prog X.w) X.A (pyIter (.ref s.heap.objs.size)) (PIEH ea X pins σ tg R) E { s with heap := s.heap.push { cls := .type "range", data := .fields #[.int lo t, .int hi u, .int 1 v] }, toks := tk } := by
  refine wpAny_pyIter_range (IsRange.new ..) (small_one h1 h2 h3 h4) ?_
  have I1 : Inv X pins σ H { s with heap := s.heap.push { cls := .type "range", data := .fields #[.int lo t, .int hi u, .int 1 v] }, toks := tk } := I.kept fun b o e => Heap.get?_push_of_some _ e
  refine ⟨(s.heap.push { cls := .type "range", data := .fields #[.int lo t, .int hi u, .int 1 v] }).objs.size, [(s.heap.push { cls := .type "range", data := .fields #[.int lo t, .int hi u, .int 1 v] }).objs.size], _, _, H, rfl,
    I1.kept (t' := tk) fun b o e => Heap.get?_push_of_some _ e, turn_rangeH _ lo (hi - lo).toNat, ?_, fun b hb => ?_, q⟩
  · have e1 : lo + ((0 : Nat) : Int) * 1 = lo := by simp
    have e2 : (((hi - lo).toNat : Nat) : Int) - ((0 : Nat) : Int) = Builtin.Range.rangeSize lo hi 1 := by rw [rangeSize_one]; split <;> omega
    show IsRangeIter _ _ (lo + ((0 : Nat) : Int) * 1) ((((hi - lo).toNat : Nat) : Int) - ((0 : Nat) : Int)) 1
    rw [e1, e2]
    exact Heap.get?_push_size _ rfl
  · have e : b = (s.heap.push { cls := .type "range", data := .fields #[.int lo t, .int hi u, .int 1 v] }).objs.size := by simpa using hb
    subst e
    exact I1.fpOk (Nat.le_refl _) (I1.hok.fresh (Nat.le_refl _))
def iRng1H (ea : Addr) (ta : TA) : TI := fun σ H R => ta σ H fun vs H1 => ∃ j : Int, vs = [.int j] ∧ -(2 ^ 62) ≤ j ∧ j < 2 ^ 62 ∧ R (ItrH ea 0 j.toNat) H1
theorem pi_range1H {a : Expr} {ta : TA} {p pos : Pos} (hg : Gl X "range") (hm : X.mg "range" = none) (ha : PA X [a] ta) (hs : starEach [a] X.env = [(false, eval a X.env)] := by rfl) : PIH ea X tg (.Call (.Name "range" p) [a] [] pos) (iRng1H ea ta) := by
  intro pins s σ H R I h
  refine Call_ (ld_blt I hg hm boot_range (PyProof.Rows.callWith_type1 (thn (ha pos pins s σ H _ I h) fun us s1 ⟨vs, H1, I1, r1, q1⟩ => ?_) hs rfl))
  obtain ⟨j, e, q1, q2, q⟩ := q1
  subst e
  cases r1 with
  | cons r rr =>
    cases rr
    obtain ⟨t, rfl⟩ := r
    exact call_range_1 (range_itH I1 (by omega) (by omega) q1 q2 (by simpa using q))
theorem pe_compTH (x : Str) (cs : List Str) (js : List Nat) {sc scope : Scope} {qual : Str} {L f : Addr} {cd : Value} {elt iter t : Expr} {px pos : Pos} {wi : TI} {tc : TT} {te : TE} (hE : X.env = envOfC qual sc L f cd) (c : CompOk sc scope X.N x cs js) (hc : X.A.handled = some (.ref ea)) (hi : PIH ea X (.Name x px) iter wi)
    (ht : ∀ C s₁ H₁ fp, PT (cxC X scope (clOf X.env scope.names []) x cs C s₁ H₁ fp) t tc) (he : ∀ C s₁ H₁ fp, PE (cxC X scope (clOf X.env scope.names []) x cs C s₁ H₁ fp) elt te)
    (hs : ∀ x, foldedSetIterable iter X.env x = pure x := by intro _; rfl) : PE X (.ListComp elt [⟨.Name x px, iter, [t], 0⟩] scope pos) (tComp wi js tc te) :=
  pe_compGH hc (cscope_def hE c) hi (fun _ _ _ _ => pifs_one (ht _ _ _ _)) he hs
end
theorem compW_rangeH {ea : Addr} {lo : Int} {n : Nat} {tc : TT} {te : TE} {τ : St} {fin : List V → Hp → Prop} {H : Hp} (Pv : Nat → List V → Hp → Prop) (h0 : Pv 0 [] H) (hx : ∀ ys H, Pv n ys H → ∃ cls, H ea = some (ExO ea cls)) (hz : ∀ i ys H, i < n → Pv i ys H → ys.length < sizeLine)
    (hs : ∀ i ys H, i < n → Pv i ys H → tc (some (.int (lo + i)) :: τ) H fun b H2 => if b = true then te (some (.int (lo + i)) :: τ) H2 (fun y H3 => Pv (i + 1) (ys ++ [y]) H3) else Pv (i + 1) ys H2) (hd : ∀ ys H, Pv n ys H → fin ys H) : CompW (ItrH ea lo n) tc te τ fin H := by
  refine ⟨fun i m ys H => m = n - i ∧ i ≤ n ∧ Pv i ys H, ⟨n, by simp, Nat.zero_le _, h0⟩, ?_⟩
  rintro i m ys H ⟨rfl, hi, p⟩
  by_cases hlt : i < n
  · refine .inr ⟨hlt, hz i ys H hlt p, Pv (i + 1), fun ys' H' p' => ⟨n - (i + 1), by omega, rfl, hlt, p'⟩, fun x H' y => ?_⟩
    obtain ⟨e, y⟩ := y
    subst e y
    exact hs i ys _ hlt p
  · have e : i = n := by omega
    subst e
    exact .inl ⟨⟨Nat.le_refl _, hx ys H p⟩, hd ys H p⟩
/-! ### calls within a suite -/
structure RoomH (ea : Addr) (k : Nat) (A : Around) : Prop where
  hd : A.handled = some (.ref ea)
  dp : A.depth + 3 * k + 5 < recursionLimit
  un : A.units + 16 * k + 200 < cLine
theorem RoomH.mono {ea : Addr} {j k : Nat} {A : Around} (r : RoomH ea k A) (h : j ≤ k) : RoomH ea j A := ⟨r.hd, by have := r.dp; omega, by have := r.un; omega⟩
theorem RoomH.deeper {ea : Addr} {k : Nat} {A : Around} (r : RoomH ea (k + 1) A) (env : Env) : RoomH ea k (A.deeper env) :=
  ⟨r.hd, by have := r.dp; show A.depth + 1 + 3 * k + 5 < _; omega, by have := r.un; show A.units + 3 + 16 * k + 200 < _; omega⟩
theorem RoomH.depth {ea : Addr} {k : Nat} {A : Around} (r : RoomH ea k A) : A.depth < recursionLimit := by have := r.dp; omega
theorem Room.inH {ea : Addr} {k : Nat} {A : Around} (r : Room k A) : RoomH ea k (A.mark (some (.ref ea))) := ⟨rfl, r.dp, r.un⟩
abbrev noX : XK := fun _ _ _ => False
abbrev cxH (P : Program) (w : World) (K : PySem.W.Frag) (mg : Str → Option Value) (base : Heap) (N : List Str) (qual : Str) (scope : Scope) (f : Addr) (cd : Value) (A : Around) (outer : List Env) (s : Shared) (H : Hp) : Cx :=
  { cxOf CX0 P w K mg base N qual scope f cd A outer s H noX with calm := false, xe := fun _ _ => False }
structure FnH (P : Program) (w : World) (K : PySem.W.Frag) (mg : Str → Option Value) (base : Heap) (ea : Addr) (k : Nat) (f : Addr) (fd : FuncData) (ps : List Str) (sp : Sp) : Prop where
  len : ∀ vs H Q E, sp vs H Q E → vs.length = ps.length
  run : ∀ (A : Around) (outer : List Env) (s : Shared) (H : Hp) (args : Args) (us : List Value) (vs : List V) (Q : VK), RoomH ea k A → Env0 P w K mg base A outer s H → BindsTo s fd args (ps.zip us) → Vals vs us → sp vs H Q noX →
    codeAny (model P w) A (.call (.ref f) args) (fun r s' => match r with | .ok (.ret u) => CE outer P w H s Q u s' | _ => False) s
theorem FnH.mono {P : Program} {w : World} {K : PySem.W.Frag} {mg : Str → Option Value} {base : Heap} {ea : Addr} {j k : Nat} {f : Addr} {fd : FuncData} {ps : List Str} {sp : Sp} (F : FnH P w K mg base ea j f fd ps sp) (h : j ≤ k) :
    FnH P w K mg base ea k f fd ps sp := ⟨F.len, fun A outer s H args us vs Q hr => F.run A outer s H args us vs Q (hr.mono h)⟩
section
variable {P : Program} {w : World} {K : PySem.W.Frag} {mg : Str → Option Value} {base : Heap} {N ps : List Str} {qual : Str} {scope : Scope} {f : Addr} {cd : Value} {A : Around} {outer : List Env} {s s₀ : Shared} {H H₀ : Hp} {ea : Addr} {pins : List (Addr × Obj)} {σ : St}
theorem Inv.hot (hf : A.frames = some outer) (I : Inv (cxOf CX0 P w K mg base N qual scope f cd { A with handled := none } outer s₀ H₀ noX) pins σ H s) : Inv (cxH P w K mg base N qual scope f cd A outer s₀ H₀) pins σ H s :=
  ⟨⟨I.ok.mod, I.ok.kind, I.ok.glob, I.ok.blt, I.ok.above, I.ok.inj, I.ok.has, I.ok.cab, (fun z => nomatch z), Around.frames_deeper hf, I.ok.stk, I.ok.exf, I.ok.bs, I.ok.bsz, I.ok.noex, I.ok.exfs, I.ok.funs, I.ok.frf⟩,
    I.os, I.bare, I.base, I.loc, I.cell, I.free, I.freeC, I.pin, I.hok, I.len⟩
theorem Fun.okH {x qual : Str} {st : Stmt} {f : Addr} {fd : FuncData} {N ps : List Str} {k : Nat} {sp : Sp} (F : Fun K x qual st f fd) (S : FnScope N ps (defScope st)) (len : ∀ vs H Q E, sp vs H Q E → vs.length = ps.length)
    (hbody : ∀ (cdv : Value) (A : Around) (outer : List Env) (s : Shared) (H : Hp) (vs : List V) (Q : VK), RoomH ea k (A.deeper (envOfC qual (defScope st) s.heap.objs.size f cdv)) → sp vs H Q noX →
      ∃ t, PSs (cxH P w K mg base N qual (defScope st) f cdv A outer s H) (defBody st) t ∧ t { nx := fun _ H' => Q .non H', rt := Q } (start N vs) H) : FnH P w K mg base ea (k + 1) f fd ps sp := by
  obtain ⟨oc, od, kV, doc, pm, an, cdv, ct, osl, rfl, lk, hcd⟩ := F.ex
  refine ⟨len, fun A outer s H args us vs Q hr e0 hb r hsp => ?_⟩
  have hl := len _ _ _ _ hsp
  have KX : K.In s.heap := e0.mod.kin.keeps fun b o e => (e0.bs b o e).1
  have lim : s.heap.NoLimit := e0.mod.nolimit.keeps fun b o e => (e0.bs b o e).1
  have hkind : ∀ y ∈ ps.zip us, (defScope st).names.lookup y.1 = some .local ∨ ((defScope st).names.lookup y.1 = some .cell ∧ ((cellsFrom (s.heap.objs.size + 1) (defScope st).names []).lookup y.1).isSome = true) := fun ⟨n, v⟩ hy => by
    rcases S.par n (List.of_mem_zip hy).1 with q | q
    · exact .inl q
    · exact .inr ⟨q, PySem.W.cellsFrom_some _ _ _ (.inl q)⟩
  refine codeAny_call_function hr.depth (KX _ _ lk) rfl S.co S.gen rfl (PySem.W.codeRec_of KX hcd) (hb _ _ _ _ ?_)
  refine wpAny_newFunctionEnv_cells S.kind hkind fun env he s1 x => ?_
  subst he
  refine ⟨lim.keeps x.toInCall.keep, codeAny_func ?_⟩
  obtain ⟨t, ht, hq⟩ := hbody cdv A outer s H vs Q (hr.deeper _) hsp
  have I : Inv (cxH P w K mg base N qual (defScope st) f cdv A outer s H) [] (start N vs) H s1 :=
    Inv.hot e0.frames (inv_start (A := { A with handled := none }) S rfl ⟨e0.frames, e0.mod, e0.bs, e0.bsz, e0.funs, e0.frf, e0.hok, e0.bare⟩ hl r x)
  refine wpAny_mono (ht [] s1 (start N vs) H _ I hq) (fun fl s' hs => ?_) fun e s' hs => False.elim hs
  have fin : ∀ {σ' : St} {H' : Hp} {v : V} {u : Value}, Inv (cxH P w K mg base N qual (defScope st) f cdv A outer s H) [] σ' H' s' → RelV v u → Q v H' → CE outer P w H s Q u s' :=
    fun {σ' H' v u} J rv q => ⟨v, H', J.os, J.bare, J.base, J.hok, rv, q⟩
  cases fl with
  | ret u =>
    obtain ⟨v, σ', H', J, rv, q⟩ := hs
    exact fin J rv q
  | next =>
    obtain ⟨σ', H', J, q⟩ := hs
    exact fin (v := V.non) (u := Value.none) J rfl q
  | brk =>
    obtain ⟨_, _, _, q⟩ := hs
    exact False.elim q
  | cont =>
    obtain ⟨_, _, _, q⟩ := hs
    exact False.elim q
/-- a def that may raise -/
theorem Fun.okE {x qual : Str} {st : Stmt} {f : Addr} {fd : FuncData} {N ps : List Str} {k : Nat} {sp : Sp} (F : Fun K x qual st f fd) (S : FnScope N ps (defScope st)) (len : ∀ vs H Q E, sp vs H Q E → vs.length = ps.length)
    (hbody : ∀ (cdv : Value) (A : Around) (outer : List Env) (s : Shared) (H : Hp) (vs : List V) (Q : VK) (E : XK), Room k (A.deeper (envOfC qual (defScope st) s.heap.objs.size f cdv)) → sp vs H Q E →
      ∃ t, PSs (cxE P w K mg base N qual (defScope st) f cdv A outer s H E) (defBody st) t ∧ t { nx := fun _ H' => Q .non H', rt := Q } (start N vs) H) : FnOk P w K mg base (CXe P w) (k + 1) f fd ps sp := by
  obtain ⟨oc, od, kV, doc, pm, an, cdv, ct, osl, rfl, lk, hcd⟩ := F.ex
  exact fn_of lk hcd S len fun A outer s H vs Q E hr hsp => hbody cdv A outer s H vs Q E hr hsp
end
theorem pe_callH {X : Cx} {ea : Addr} {k : Nat} {f : Addr} {fd : FuncData} {ps : List Str} {sp : Sp} {ds : List Value} {dvs : List V} {x : Str} {p pos : Pos} {e : Expr} {es : List Expr} {t : TA}
    (F : FnH X.prog X.w X.K X.mg X.base ea k f fd ps sp) (hr : RoomH ea k X.A) (hg : Gl X x) (hm : X.mg x = some (.ref f)) (hk : PySem.W.keepIn X.K (.ref f) = true) (hb : Binds X.K fd ps ds) (hd : Vals dvs ds)
    (ha : PA X (e :: es) t) (hdb : (x == ("__debug__" : Str)) = false := by decide) (he : starEach (e :: es) X.env = (false, eval e X.env) :: starEach es X.env := by rfl) (hpl : (backTo pos (starEach es X.env)).any (·.1) = false := by rfl) :
    PE X (.Call (.Name x p) (e :: es) [] pos) (tCall sp dvs noX t) := by
  intro pins s σ H Q I h
  refine wpAny_Call_Name_kw (ld_glob I hg hm ?_ hdb)
  refine PySem.W.callWith_K (h₀ := X.base) I.ok.mod.kin hk (thn (ha pos pins s σ H _ I h) fun us s1 ⟨vs, H1, I1, r, q⟩ => ⟨I1.kIn, ?_⟩) he hpl
  have r2 : Vals (vs ++ dvs) (us ++ ds) := r.append hd
  have hl : (us ++ ds).length = ps.length := by rw [← r2.length]; exact F.len _ _ _ _ q
  refine wpAny_call (codeAny_mono (F.run X.A X.stack s1 H1 ⟨us, []⟩ (us ++ ds) (vs ++ dvs) Q hr I1.env0 (hb s1 us I1.kIn hl) r2 q) fun r s' hq => ?_)
  cases r with
  | error e => exact False.elim hq
  | ok fl =>
    cases fl with
    | ret u => exact I1.after hq
    | next => exact False.elim hq
    | brk => exact False.elim hq
    | cont => exact False.elim hq
end L2

set_option Elab.async false
set_option linter.all false
set_option maxRecDepth 100000
set_option maxHeartbeats 4000000
namespace L2
open PySem PySem.Spec PyProof.Rows
theorem tuple_mul1 (l : Addr) (v : Value) (n : Nat) (dd : Option Addr) (sl : Array (Option Value)) (k : Int) (u : Tok) (h2 : 2 ≤ k) (h3 : k ≤ 1000) :
    Meets (Builtin.«tuple.__mul__» ⟨[.ref l, .int k u], []⟩) (fun _ R s => s.heap.get? l = some ⟨.type "tuple", dd, .seq #[v] n, sl⟩ ∧
      R (.ok (.ret (.ref s.heap.objs.size))) { s with heap := s.heap.push { cls := .type "tuple", data := .seq ((List.replicate k.toNat #[v]).foldl (· ++ ·) #[]) } }) :=
  .of_wp fun prog w A R s h => by
    obtain ⟨hp, g, d, tk, os⟩ := s; obtain ⟨hl, h⟩ := h
    have c0 : ¬ (decide (k < -(2 ^ 63)) || decide (k ≥ 2 ^ 63)) = true := by rw [decide_eq_false (by omega), decide_eq_false (by omega)]; decide
    have c1 : ¬ ((#[v] : Array Value).isEmpty || k == 1) = true := by simp; omega
    have c2 : ¬ (decide (k ≤ 0) || (#[v] : Array Value).isEmpty) = true := by simp; omega
    have c3 : ¬ ((((#[v] : Array Value).size : Nat) : Int) * k > (2 ^ 63 - 1) / 8) := by simp; omega
    have c4 : ¬ Builtin.Tuple.tupleTooMany ((((#[v] : Array Value).size : Nat) : Int) * k) = true := by unfold Builtin.Tuple.tupleTooMany; simp [sizeLine]; omega
    have c5 : (List.foldl (· ++ ·) #[] (List.replicate k.toNat #[v])).size ≤ sizeLine := by
      have : List.foldl (· ++ ·) #[] (List.replicate k.toNat #[v]) = (List.replicate k.toNat [v]).flatten.toArray := by
        have := foldl_rep [v] k.toNat []
        rw [List.nil_append] at this
        exact this
      rw [this, List.size_toArray, len_rep]
      simp [sizeLine]
      omega
    wp_walk
    rw [if_neg c0]
    refine wpAny_bind (m := Builtin.Tuple.tupleItemsOf (.ref l)) (show wpAny _ _ (Builtin.Tuple.tupleItemsOf (.ref l)) _ _ _ from ?_)
    unfold Builtin.Tuple.tupleItemsOf
    wp_walk
    rw [if_neg c1, if_neg c2, if_neg c3, if_neg c4]
    unfold Builtin.Tuple.tupleExact
    refine wpAny_bind (wpAny_newObj_type ?_ ?_)
    · exact wpAny_pure ⟨_, rfl, h⟩
    · exact c5
theorem int_rmul_tuple (a : Int) (t : Tok) (l : Addr) (items : Array Value) (n : Nat) (dd : Option Addr) (sl : Array (Option Value)) :
    Meets (Builtin.«int.__rmul__» ⟨[.int a t, .ref l], []⟩) (fun _ R s => s.heap.get? l = some ⟨.type "tuple", dd, .seq items n, sl⟩ ∧ R (.ok (.ret Value.notImplemented)) s) :=
  .of_wp fun prog w A R s h => by obtain ⟨hp, g, d, tk, os⟩ := s; obtain ⟨hl, h⟩ := h; wp_walk; exact ⟨_, rfl, h⟩
theorem noFill_tuple_mul : fillsNumberSlot (.type "tuple") "mul" = pure false :=
  PySem.fillsNumberSlot_seq (id := "tuple.__mul__") (r := some (.builtin "tuple.__rmul__")) F.slot_tuple_mul.lookup (by decide +kernel) F.slot_tuple_rmul.lookup (by decide +kernel)
theorem repeat_tuple : seqRepeat? (.type "tuple") = pure (some (.builtin "tuple.__mul__")) := by
  unfold seqRepeat?
  rw [PySem.seqSlot_of (T := "tuple") (name := "__mul__") (id := "tuple.__mul__") F.slot_tuple_mul.lookup (by decide +kernel), PySem.seqSlot_of (T := "tuple") (name := "__rmul__") (id := "tuple.__rmul__") F.slot_tuple_rmul.lookup (by decide +kernel)]
  rfl
theorem flat_one {α : Type} (v : α) (k : Nat) : (List.replicate k [v]).flatten = List.replicate k v := by
  induction k with
  | zero => rfl
  | succ k ih => rw [List.replicate_succ, List.flatten_cons, ih]; rfl
section
variable {X : Cx}
/-- (v,) * k -/
def rRepT : R2 := fun x y H Q => ∃ a k v, x = .ref a ∧ y = .int k ∧ H a = some (.tup [v]) ∧ 2 ≤ k ∧ k ≤ 1000 ∧ ∀ p, H p = none → Q (.ref p) (upd H p (.tup (List.replicate k.toNat v)))
theorem op_repT : OpR X (binaryOp .Mult) rRepT := by
  intro pins s σ H x y v u Q I rx ry h
  obtain ⟨a, k, z, rfl, rfl, hH, h2, h3, q⟩ := h
  cases rx
  obtain ⟨t, rfl⟩ := ry
  obtain ⟨_, its, r, o, e, hc, n, hd⟩ := (show ObjOk X.prog X.w H s.heap a (.tup [z]) from I.hok a _ hH)
  obtain ⟨oc, od, oda, osl⟩ := o
  dsimp only at hc hd
  subst hc hd
  cases r with
  | @cons _ u _ us r0 rr =>
    cases rr
    refine wpAny_binaryOp_repeat_ref (T := "tuple") (U := "int") (by decide) ⟨_, e, rfl⟩ (fun s' => typeIs_int s' k t) noFill_tuple_mul F.fills_int_mul F.slot_int_rmul repeat_tuple F.slot_int_index.lookup
      (call_meets F.slot_int_rmul (typeIs_int s k t) F.entry_int_rmul (F.args_int_rmul_2 _ _) (int_rmul_tuple k t a _ n od osl)
        ⟨e, rfl, ⟨_, e, rfl⟩, call_meets F.slot_tuple_mul ⟨_, e, rfl⟩ F.entry_tuple_mul (F.args_tuple_mul_2 _ _) (tuple_mul1 a u n od osl k t h2 h3) ⟨e, ?_⟩⟩)
    have hnew : List.foldl (fun x1 x2 => x1 ++ x2) #[] (List.replicate k.toNat #[u]) = (List.replicate k.toNat u).toArray := by
      have := foldl_rep [u] k.toNat []
      rw [List.nil_append, flat_one] at this
      exact this
    rw [hnew]
    have hv : Vals (List.replicate k.toNat z) (List.replicate k.toNat u) := by
      have := (show Vals [z] [u] from .cons r0 .nil).rep k.toNat
      rw [flat_one, flat_one] at this
      exact this
    refine ⟨.ref s.heap.objs.size, _, I.laid (t' := s.toks) (o := .tup (List.replicate k.toNat z)) (fun b ob q => Heap.get?_push_of_some _ q) (Nat.le_refl _) ?_, rfl, q _ (I.hok.fresh (Nat.le_refl _))⟩
    exact ⟨by rw [List.length_replicate]; simp [sizeLine]; omega, _, hv, IsTup.new _ _⟩
/-- z * k, a text -/
def rRepS : R2 := fun x y H Q => ∃ z k, x = .str z ∧ y = .int k ∧ 1 ≤ k ∧ k ≤ 1000 ∧ 1 ≤ z.length ∧ z.length ≤ 1000 ∧ ∀ r : Str, (r.length : Int) = k * z.length → Q (.str r) H
theorem foldl_cps (x : Array Nat) : ∀ (n : Nat) (a : Array Nat), ((List.replicate n x).foldl (· ++ ·) a).size = a.size + n * x.size := by
  intro n
  induction n with
  | zero => intro a; simp
  | succ n ih => intro a; rw [List.replicate_succ, List.foldl_cons, ih, Array.size_append, Nat.succ_mul]; omega
theorem op_repS : OpR X (binaryOp .Mult) rRepS := by
  intro pins s σ H x y v u Q I rx ry h
  obtain ⟨z, k, rfl, rfl, h1, h2, h3, h4, q⟩ := h
  obtain ⟨t, rfl⟩ := rx
  obtain ⟨t', rfl⟩ := ry
  refine PySem.P.mul_str (by rw [decide_eq_false (by omega), decide_eq_false (by omega)]; rfl) (fun _ _ => ?_) (fun _ _ => ?_) ?_
  · have h5 : (1000 : Int) * k ≤ 2 ^ 63 - 1 := by omega
    have : (1000 : Int) ≤ (2 ^ 63 - 1) / k := (Int.le_ediv_iff_mul_le (by omega)).mpr h5
    omega
  · unfold Builtin.Str.tooLong
    have : z.length * k.toNat ≤ 1000 * 1000 := Nat.mul_le_mul h4 (by omega)
    simp [sizeLine]
    omega
  · rw [if_neg (by omega)]
    by_cases e : k = 1
    · subst e
      rw [if_pos (show ((1 : Int) == 1 || z.length == 0) = true from by simp)]
      exact ⟨.str z, H, I, ⟨t, rfl⟩, q z (by omega)⟩
    · rw [if_neg (by simp [e]; omega)]
      have hs : (((List.replicate k.toNat z.cps).foldl (· ++ ·) #[]).size : Int) = k * z.length := by
        rw [foldl_cps]
        show (((#[] : Array Nat).size + k.toNat * z.cps.size : Nat) : Int) = k * (z.cps.size : Nat)
        rw [Array.size_empty, Nat.zero_add, Int.natCast_mul, Int.toNat_of_nonneg (by omega)]
      refine ⟨?_, ⟨.str ⟨(List.replicate k.toNat z.cps).foldl (· ++ ·) #[]⟩, H, I.tok _, ⟨_, rfl⟩, q _ hs⟩⟩
      show ((List.replicate k.toNat z.cps).foldl (· ++ ·) #[]).size ≤ sizeLine
      rw [foldl_cps]
      have : k.toNat * z.cps.size ≤ 1000 * 1000 := Nat.mul_le_mul (by omega) h4
      simp [sizeLine]
      omega
/-- {} -/
theorem pe_dct0 {pos : Pos} : PE X (.Dict [] [] pos) (fun σ H Q => ∀ p, H p = none → Q (.ref p) (upd H p (.dK []))) := by
  intro pins s σ H Q I h
  refine wpAny_Dict_empty ?_
  refine ⟨.ref s.heap.objs.size, _, I.laid (t' := s.toks) (o := .dK []) (fun b ob q => Heap.get?_push_of_some _ q) (Nat.le_refl _) ?_, rfl, h _ (I.hok.fresh (Nat.le_refl _))⟩
  refine ⟨Nat.zero_le _, ?_, [], .nil, Heap.DictOf.new _⟩
  have h1 : mainGlobals < X.base.objs.size := I.ok.mod.glob.lt
  have h2 : X.base.objs.size ≤ s.heap.objs.size := Nat.le_trans I.ok.bsz (Nat.le_trans (Nat.le_refl _) I.sz)
  have h3 : 3 < s.heap.objs.size := Nat.lt_of_lt_of_le h1 h2
  exact beq_eq_false_iff_ne.mpr (fun z => by
    rw [z] at h3
    exact absurd h3 (by decide))
/-- == of lists of ints -/
def rEqLI : R2 := fun x y H Q => ∃ (a b : Addr) (is js : List Int), x = .ref a ∧ y = .ref b ∧ H a = some (.lst (is.map V.int)) ∧ H b = some (.lst (js.map V.int)) ∧ Q (.bl (decide (is = js))) H
theorem op_eqLI (hu : X.A.units < cLine) : OpR X (compareOp .Eq) rEqLI := by
  intro pins s σ H x y v u Q I rx ry h
  obtain ⟨a, b, is, js, rfl, rfl, ha, hb, q⟩ := h
  cases rx
  cases ry
  obtain ⟨_, its, n, r, hl, e⟩ := I.lstM ha
  obtain ⟨_, its2, n2, r2, hl2, e2⟩ := I.lstM hb
  rw [List.length_map] at hl hl2
  have L1 : s.heap.IsList a its.toArray := ⟨_, e, rfl, n, rfl⟩
  have L2 : s.heap.IsList b its2.toArray := ⟨_, e2, rfl, n2, rfl⟩
  by_cases hz : is.length = js.length
  · refine SeqAt.eq_listAt (e := fun j => decide (is[j]? = js[j]?)) L1 L2 (by simp; omega) hu (fun j h1 h2 => ?_) ?_
    · rw [List.size_toArray] at h1 h2
      obtain ⟨u1, g1, q1⟩ := r.get (i := j) (x := .int is[j]) (by rw [List.getElem?_map, List.getElem?_eq_getElem (by omega)]; rfl)
      obtain ⟨u2, g2, q2⟩ := r2.get (i := j) (x := .int js[j]) (by rw [List.getElem?_map, List.getElem?_eq_getElem (by omega)]; rfl)
      obtain ⟨t1, rfl⟩ := q1
      obtain ⟨t2, rfl⟩ := q2
      have w1 : its.toArray[j] = .int is[j] t1 := by
        rw [List.getElem?_eq_getElem h1] at g1
        exact Option.some.inj g1
      have w2 : its2.toArray[j] = .int js[j] t2 := by
        rw [List.getElem?_eq_getElem h2] at g2
        exact Option.some.inj g2
      rw [w1, w2]
      have := SeqAt.EqAt.int_int (A := X.A.in1) (s := s) is[j] t1 js[j] t2
      have e : decide (is[j]? = js[j]?) = (is[j] == js[j]) := by
        rw [List.getElem?_eq_getElem (by omega), List.getElem?_eq_getElem (by omega), Bool.eq_iff_iff]
        simp
      rw [e]
      exact this
    · have e : (List.range its.toArray.size).all (fun j => decide (is[j]? = js[j]?)) = decide (is = js) := by
        rw [Bool.eq_iff_iff, List.all_eq_true, decide_eq_true_eq]
        constructor
        · intro h
          refine List.ext_getElem? fun j => ?_
          by_cases hj : j < its.length
          · exact of_decide_eq_true (h j (by rw [List.size_toArray]; exact List.mem_range.mpr hj))
          · rw [List.getElem?_eq_none (by omega), List.getElem?_eq_none (by omega)]
        · intro h j _
          rw [h]
          exact decide_eq_true rfl
      rw [e]
      exact ⟨.bl _, H, I, rfl, q⟩
  · refine SeqAt.eq_list_lengthsAt L1 L2 (by simp; omega) hu ?_
    rw [decide_eq_false (fun z => hz (by rw [z]))] at q
    exact ⟨.bl false, H, I, rfl, q⟩
end
end L2

set_option Elab.async false
set_option linter.all false
set_option maxRecDepth 100000
set_option maxHeartbeats 4000000
namespace L2
open PySem PySem.Spec PyProof.Rows
/-! ### keys, or None: == , in, count, index, == of lists -/
mutual
theorem Kd.eqb_refl : ∀ k : Kd, k.eqb k = true
  | .num i => by unfold Kd.eqb; exact beq_self_eq_true _
  | .txt x => by unfold Kd.eqb; exact beq_self_eq_true _
  | .tup ks => by unfold Kd.eqb; exact Kd.eqbL_refl ks
theorem Kd.eqbL_refl : ∀ ks : List Kd, Kd.eqbL ks ks = true
  | [] => by unfold Kd.eqbL; rfl
  | k :: r => by unfold Kd.eqbL; rw [Kd.eqb_refl k, Kd.eqbL_refl r]; rfl
end
instance instDecKd : DecidableEq Kd := fun k l => if h : k.eqb l = true then .isTrue (Kd.eqb_eq h) else .isFalse fun e => h (e ▸ Kd.eqb_refl k)
theorem Kd.eqb_dec (k l : Kd) : k.eqb l = decide (k = l) := by
  by_cases h : k = l
  · subst h; rw [Kd.eqb_refl, decide_eq_true rfl]
  · rw [decide_eq_false h]
    cases e : k.eqb l with
    | false => rfl
    | true => exact absurd (Kd.eqb_eq e) h
def IsKo (H : Hp) : Option Kd → V → Prop
  | none, v => v = .non
  | some k, v => IsK H k v
def shal (n : Nat) : Option Kd → Prop
  | none => True
  | some k => k.deep ≤ n
theorem IsKo.same {H H' : Hp} (s : TupS H H') {o : Option Kd} {v : V} (h : IsKo H o v) : IsKo H' o v := by
  cases o with
  | none => exact h
  | some k => exact IsK.same s h
theorem IsK.num_eq {H : Hp} {i : Int} {v : V} (h : IsK H (.num i) v) : v = .int i := by unfold IsK at h; exact h
theorem IsKo.inj {H : Hp} {o o' : Option Kd} {v : V} (h : IsKo H o v) (h' : IsKo H o' v) : o = o' := by
  cases o with
  | none =>
    cases o' with
    | none => rfl
    | some k =>
      cases (show v = .non from h)
      cases k with
      | num i => have z : IsK H (.num i) .non := h'; unfold IsK at z; cases z
      | txt i => have z : IsK H (.txt i) .non := h'; unfold IsK at z; cases z
      | tup i => have z : IsK H (.tup i) .non := h'; unfold IsK at z; obtain ⟨_, _, e, _⟩ := z; cases e
  | some k =>
    cases o' with
    | none =>
      cases (show v = .non from h')
      cases k with
      | num i => have z : IsK H (.num i) .non := h; unfold IsK at z; cases z
      | txt i => have z : IsK H (.txt i) .non := h; unfold IsK at z; cases z
      | tup i => have z : IsK H (.tup i) .non := h; unfold IsK at z; obtain ⟨_, _, e, _⟩ := z; cases e
    | some l => rw [Kd.eqb_eq (IsK.inj (show IsK H k v from h) (show IsK H l v from h'))]
def IsKos (H : Hp) (os : List (Option Kd)) (xs : List V) : Prop := xs.length = os.length ∧ ∀ (i : Nat) o x, os[i]? = some o → xs[i]? = some x → IsKo H o x
theorem IsKos.nil {H : Hp} : IsKos H [] [] := ⟨rfl, fun i o x h => by simp at h⟩
theorem IsKos.len {H : Hp} {os : List (Option Kd)} {xs : List V} (h : IsKos H os xs) : xs.length = os.length := h.1
theorem IsKos.get {H : Hp} {os : List (Option Kd)} {xs : List V} (h : IsKos H os xs) {i : Nat} {x : V} (e : xs[i]? = some x) : ∃ o, os[i]? = some o ∧ IsKo H o x := by
  have hi : i < os.length := by rw [← h.1]; exact (List.getElem?_eq_some_iff.mp e).1
  exact ⟨os[i], List.getElem?_eq_getElem hi, h.2 i _ _ (List.getElem?_eq_getElem hi) e⟩
theorem IsKos.get' {H : Hp} {os : List (Option Kd)} {xs : List V} (h : IsKos H os xs) {i : Nat} {o : Option Kd} (e : os[i]? = some o) : ∃ x, xs[i]? = some x ∧ IsKo H o x := by
  have hi : i < xs.length := by rw [h.1]; exact (List.getElem?_eq_some_iff.mp e).1
  exact ⟨xs[i], List.getElem?_eq_getElem hi, h.2 i _ _ e (List.getElem?_eq_getElem hi)⟩
theorem IsKos.same {H H' : Hp} (s : TupS H H') {os : List (Option Kd)} {xs : List V} (h : IsKos H os xs) : IsKos H' os xs := ⟨h.1, fun i o x e1 e2 => (h.2 i o x e1 e2).same s⟩
theorem IsKos.app {H : Hp} {os os' : List (Option Kd)} {xs xs' : List V} (h : IsKos H os xs) (h' : IsKos H os' xs') : IsKos H (os ++ os') (xs ++ xs') := by
  refine ⟨by rw [List.length_append, List.length_append, h.1, h'.1], fun i o x e1 e2 => ?_⟩
  by_cases c : i < os.length
  · rw [List.getElem?_append_left c] at e1
    rw [List.getElem?_append_left (by rw [h.1]; exact c)] at e2
    exact h.2 i o x e1 e2
  · rw [List.getElem?_append_right (by omega)] at e1
    rw [List.getElem?_append_right (by rw [h.1]; omega), h.1] at e2
    exact h'.2 _ o x e1 e2
theorem IsKos.one {H : Hp} {o : Option Kd} {x : V} (h : IsKo H o x) : IsKos H [o] [x] := ⟨rfl, fun i o' x' e1 e2 => by
  cases i with
  | zero => cases e1; cases e2; exact h
  | succ i => simp at e1⟩
theorem IsKos.snoc {H : Hp} {os : List (Option Kd)} {xs : List V} {o : Option Kd} {x : V} (h : IsKos H os xs) (h' : IsKo H o x) : IsKos H (os ++ [o]) (xs ++ [x]) := h.app (.one h')
theorem IsKos.set {H : Hp} {os : List (Option Kd)} {xs : List V} {o : Option Kd} {x : V} (h : IsKos H os xs) (h' : IsKo H o x) (i : Nat) : IsKos H (os.set i o) (xs.set i x) := by
  refine ⟨by rw [List.length_set, List.length_set]; exact h.1, fun j o' x' e1 e2 => ?_⟩
  by_cases c : i = j
  · subst c
    rw [List.getElem?_set_self'] at e1 e2
    cases e : os[i]? with
    | none => rw [e] at e1; cases e1
    | some z =>
      cases e' : xs[i]? with
      | none => rw [e'] at e2; cases e2
      | some z' => rw [e] at e1; rw [e'] at e2; cases e1; cases e2; exact h'
  · rw [List.getElem?_set_ne c] at e1 e2
    exact h.2 j o' x' e1 e2
theorem IsKos.take {H : Hp} {os : List (Option Kd)} {xs : List V} (h : IsKos H os xs) (n : Nat) : IsKos H (os.take n) (xs.take n) := by
  refine ⟨by rw [List.length_take, List.length_take, h.1], fun j o x e1 e2 => ?_⟩
  rw [List.getElem?_take] at e1 e2
  by_cases c : j < n
  · rw [if_pos c] at e1 e2; exact h.2 j o x e1 e2
  · rw [if_neg c] at e1; cases e1
theorem IsKos.drop {H : Hp} {os : List (Option Kd)} {xs : List V} (h : IsKos H os xs) (n : Nat) : IsKos H (os.drop n) (xs.drop n) := by
  refine ⟨by rw [List.length_drop, List.length_drop, h.1], fun j o x e1 e2 => ?_⟩
  rw [List.getElem?_drop] at e1 e2
  exact h.2 _ o x e1 e2
def cz (ns : List Int) : List (Option Kd) := ns.map fun i => some (.num i)
theorem isOs_ints {H : Hp} (ns : List Int) : IsKos H (cz ns) (ns.map V.int) := by
  refine ⟨by unfold cz; rw [List.length_map, List.length_map], fun i o x e1 e2 => ?_⟩
  unfold cz at e1
  rw [List.getElem?_map] at e1 e2
  cases e : ns[i]? with
  | none => rw [e] at e1; cases e1
  | some n => rw [e] at e1 e2; cases e1; cases e2; show IsK H (.num n) _; unfold IsK; rfl
theorem cz_inj {a b : List Int} : (cz a = cz b) = (a = b) := by
  refine propext ⟨fun h => ?_, fun h => by rw [h]⟩
  unfold cz at h
  exact (List.map_inj_right (fun x y e => by injection e with e1; injection e1)).mp h
section
variable {X : Cx} {pins : List (Addr × Obj)} {σ : St} {H : Hp} {s : Shared}
theorem eqAt_O (I : Inv X pins σ H s) {n : Nat} {o o' : Option Kd} {x y : V} {u v : Value} {A : Around} (hd : shal n o) (hk : IsKo H o x) (hk' : IsKo H o' y) (rx : RelV x u) (ry : RelV y v) (hu : A.units + n < cLine) : SeqAt.EqAt A s u v (decide (o = o')) := by
  cases o with
  | none =>
    cases (show x = .non from hk)
    cases rx
    cases o' with
    | none => cases (show y = .non from hk'); cases ry; exact SeqAt.EqAt.same _
    | some k =>
      rw [decide_eq_false (by intro z; cases z)]
      cases k with
      | num j => have z : IsK H (.num j) y := hk'; unfold IsK at z; subst z; obtain ⟨t', rfl⟩ := ry; exact SeqAt.EqAt.none_int _ _
      | txt j => have z : IsK H (.txt j) y := hk'; unfold IsK at z; subst z; obtain ⟨t', rfl⟩ := ry; exact SeqAt.EqAt.none_str _ _
      | tup ls =>
        have z : IsK H (.tup ls) y := hk'
        unfold IsK at z; obtain ⟨b, ws, rfl, hb, _, _⟩ := z; cases ry
        obtain ⟨its', r2, p2, _⟩ := I.tuple (SqT.of hb)
        exact SeqAt.EqAt.none_tuple p2 (by omega)
  | some k =>
    cases o' with
    | none =>
      cases (show y = .non from hk')
      cases ry
      rw [decide_eq_false (by intro z; cases z)]
      cases k with
      | num j => have z : IsK H (.num j) x := hk; unfold IsK at z; subst z; obtain ⟨t', rfl⟩ := rx; exact SeqAt.EqAt.int_none _ _
      | txt j => have z : IsK H (.txt j) x := hk; unfold IsK at z; subst z; obtain ⟨t', rfl⟩ := rx; exact SeqAt.EqAt.str_none _ _
      | tup ls =>
        have z : IsK H (.tup ls) x := hk
        unfold IsK at z; obtain ⟨b, ws, rfl, hb, _, _⟩ := z; cases rx
        obtain ⟨its', r2, p2, _⟩ := I.tuple (SqT.of hb)
        exact SeqAt.EqAt.tuple_none p2 (by omega)
    | some l =>
      have h := eqAt_K I n hd hk hk' rx ry hu
      rw [Kd.eqb_dec] at h
      have e : decide (some k = some l) = decide (k = l) := decide_eq_decide.mpr ⟨fun z => by cases z; rfl, fun z => by rw [z]⟩
      rw [e]
      exact h
noncomputable def eO (H : Hp) (o : Option Kd) (u : Value) : Bool := @decide (∃ x, RelV x u ∧ IsKo H o x) (Classical.propDecidable _)
theorem eO_at {o o' : Option Kd} {x : V} {u : Value} (r : RelV x u) (h : IsKo H o' x) : eO H o u = decide (o' = o) := by
  unfold eO
  rw [Bool.eq_iff_iff, @decide_eq_true_iff _ (Classical.propDecidable _), decide_eq_true_iff]
  refine ⟨fun ⟨y, ry, hy⟩ => ?_, fun e => ⟨x, r, e ▸ h⟩⟩
  cases RelV.inj ry r
  exact h.inj hy
theorem eO_map {o : Option Kd} {os : List (Option Kd)} {xs : List V} {its : List Value} (r : Vals xs its) (h : IsKos H os xs) : its.map (eO H o) = os.map (fun o' => decide (o' = o)) := by
  refine List.ext_getElem? fun i => ?_
  rw [List.getElem?_map, List.getElem?_map]
  have hl := r.length
  have hl2 := h.1
  by_cases c : i < xs.length
  · have e1 : xs[i]? = some xs[i] := List.getElem?_eq_getElem c
    obtain ⟨u, e2, ru⟩ := r.get e1
    obtain ⟨o', e3, ho⟩ := h.get e1
    rw [e2, e3]
    show some (eO H o u) = some _
    rw [eO_at ru ho]
  · rw [List.getElem?_eq_none (by omega), List.getElem?_eq_none (by omega)]; rfl
theorem eO_any {o : Option Kd} {os : List (Option Kd)} {xs : List V} {its : List Value} (r : Vals xs its) (h : IsKos H os xs) : its.any (eO H o) = decide (o ∈ os) := by
  have e : its.any (eO H o) = (its.map (eO H o)).any id := by rw [List.any_map]; rfl
  rw [e, eO_map r h, List.any_map, Bool.eq_iff_iff, List.any_eq_true, decide_eq_true_iff]
  constructor
  · rintro ⟨z, hz, e⟩
    have e' : z = o := by simpa using e
    exact e' ▸ hz
  · intro hz
    exact ⟨o, hz, by simp⟩
theorem eO_count {o : Option Kd} {os : List (Option Kd)} {xs : List V} {its : List Value} (r : Vals xs its) (h : IsKos H os xs) : its.countP (eO H o) = os.count o := by
  have e : its.countP (eO H o) = (its.map (eO H o)).countP id := by rw [List.countP_map]; rfl
  rw [e, eO_map r h, List.countP_map, List.count]
  congr 1
  funext x
  show decide (x = o) = (x == o)
  rw [Bool.eq_iff_iff, decide_eq_true_iff, beq_iff_eq]
theorem mem_eqAtO (I : Inv X pins σ H s) {n : Nat} {A : Around} {o : Option Kd} {os : List (Option Kd)} {xs : List V} {its : List Value} {x : V} {v : Value} (r : Vals xs its) (h : IsKos H os xs) (hd : ∀ o ∈ os, shal n o) (ho : IsKo H o x) (rx : RelV x v) (hu : A.units + n < cLine) :
    ∀ u ∈ its, SeqAt.EqAt A s u v (eO H o u) := by
  intro u hm
  obtain ⟨i, hi, e⟩ := List.mem_iff_getElem.mp hm
  have hl := r.length
  have e1 : xs[i]? = some xs[i] := List.getElem?_eq_getElem (by omega)
  obtain ⟨u', e2, ru⟩ := r.get e1
  obtain ⟨o', e3, ho'⟩ := h.get e1
  rw [List.getElem?_eq_getElem hi, e] at e2
  cases e2
  rw [eO_at ru ho']
  exact eqAt_O I (hd _ (List.mem_of_getElem? e3)) ho' ho ru rx hu
end
section
variable {X : Cx}
/-- x in a list of keys and Nones -/
def rInO (K : PySem.W.Frag) (neg : Bool) : R2 := fun x y H Q => ∃ p xs os o, y = .ref p ∧ SqL K H p xs ∧ IsKos H os xs ∧ IsKo H o x ∧ (∀ o ∈ os, shal 20 o) ∧ Q (.bl (if neg then !decide (o ∈ os) else decide (o ∈ os))) H
theorem op_inO (hu : X.A.units + 64 < cLine) : OpR X (compareOp .In) (rInO X.K false) := by
  intro pins s σ H x y v u Q I rx ry h
  obtain ⟨p, xs, os, o, rfl, hq, hs, ho, hd, q⟩ := h
  cases ry
  obtain ⟨its, r, pl, hz⟩ := I.list hq
  refine SeqAt.in_listAt (eO H o) pl.isList (fun w hw => mem_eqAtO I (n := 20) r hs hd ho rx (by show X.A.units + 1 + 20 < cLine; omega) w (by simpa using hw)) ⟨.bl _, H, I, rfl, ?_⟩
  rw [show its.toArray.any (eO H o) = its.any (eO H o) by simp, eO_any r hs]
  exact q
theorem op_notinO (hu : X.A.units + 64 < cLine) : OpR X (compareOp .NotIn) (rInO X.K true) := by
  intro pins s σ H x y v u Q I rx ry h
  obtain ⟨p, xs, os, o, rfl, hq, hs, ho, hd, q⟩ := h
  cases ry
  obtain ⟨its, r, pl, hz⟩ := I.list hq
  refine SeqAt.notIn_listAt (eO H o) pl.isList (fun w hw => mem_eqAtO I (n := 20) r hs hd ho rx (by show X.A.units + 1 + 20 < cLine; omega) w (by simpa using hw)) ⟨.bl _, H, I, rfl, ?_⟩
  rw [show its.toArray.any (eO H o) = its.any (eO H o) by simp, eO_any r hs]
  exact q
/-- xs.count(x) -/
def rCountO : V → List V → Hp → VK → Prop := fun l vs H Q => ∃ p xs os o x, l = .ref p ∧ vs = [x] ∧ H p = some (.lst xs) ∧ IsKos H os xs ∧ IsKo H o x ∧ (∀ o ∈ os, shal 20 o) ∧ Q (.int (os.count o : Nat)) H
theorem mt_countO (hu : X.A.units + 64 < cLine) : MtR X "list.count" rCountO := by
  intro pins s σ H x vs v us Q I rx rv h
  obtain ⟨p, xs, os, o, y, rfl, rfl, hH, hs, ho, hd, q⟩ := h
  cases rx
  obtain ⟨u, rfl, ru⟩ := rv.one
  obtain ⟨z, its, n, r, hl, e⟩ := I.lstM hH
  refine call_meets F.slot_list_count ⟨_, e, rfl⟩ F.entry_list_count (F.args_list_count_2 _ _) (SeqAt.list_countAt p its.toArray n none #[] u (eO H o)) ⟨e, fun w hw => mem_eqAtO I (n := 20) r hs hd ho ru (by show X.A.units + 1 + 20 < cLine; omega) w (by simpa using hw), ?_⟩
  rw [show its.toArray.toList.countP (eO H o) = os.count o by simp only [eO_count r hs]]
  exact ⟨.int _, H, I.tok _, ⟨_, rfl⟩, q⟩
/-- xs.index(x), x being there -/
def rIndexO : V → List V → Hp → VK → Prop := fun l vs H Q => ∃ p xs os o x j, l = .ref p ∧ vs = [x] ∧ H p = some (.lst xs) ∧ IsKos H os xs ∧ IsKo H o x ∧ (∀ o ∈ os, shal 20 o) ∧ os[j]? = some o ∧ (∀ m, m < j → os[m]? ≠ some o) ∧ Q (.int (j : Nat)) H
theorem mt_indexO (hu : X.A.units + 64 < cLine) : MtR X "list.index" rIndexO := by
  intro pins s σ H x vs v us Q I rx rv h
  obtain ⟨p, xs, os, o, y, j, rfl, rfl, hH, hs, ho, hd, hj, hno, q⟩ := h
  cases rx
  obtain ⟨u, rfl, ru⟩ := rv.one
  obtain ⟨z, its, n, r, hl, e⟩ := I.lstM hH
  have hl2 := hs.1
  have hj1 : j < os.length := (List.getElem?_eq_some_iff.mp hj).1
  have hjs : j < its.toArray.size := by rw [List.size_toArray]; omega
  have at' : ∀ m (hm : m < its.toArray.size), eO H o its.toArray[m] = decide (os[m]? = some o) := by
    intro m hm
    rw [List.size_toArray] at hm
    have e1 : xs[m]? = some xs[m] := List.getElem?_eq_getElem (by omega)
    obtain ⟨u', e2, ru'⟩ := r.get e1
    obtain ⟨o', e3, ho'⟩ := hs.get e1
    rw [List.getElem?_eq_getElem hm] at e2
    have e4 : its.toArray[m] = u' := by simpa using e2
    rw [e4, eO_at ru' ho', e3]
    exact decide_eq_decide.mpr ⟨fun z => by rw [z], fun z => Option.some.inj z⟩
  refine call_meets F.slot_list_index ⟨_, e, rfl⟩ F.entry_list_index (F.args_list_index_2 _ _) (SeqAt.list_indexAt p its.toArray n none #[] u (eO H o) j hjs ?_ ?_ ?_) ⟨e, fun w hw => mem_eqAtO I (n := 20) r hs hd ho ru (by show X.A.units + 1 + 20 < cLine; omega) w (by simpa using hw), ?_⟩
  · have hz2 : sizeLine < 2 ^ 62 := by decide
    omega
  · rw [at' j hjs]; exact decide_eq_true hj
  · intro m hm hlt
    rw [at' m hm]
    exact decide_eq_false (hno m hlt)
  · exact ⟨.int _, H, I.tok _, ⟨_, rfl⟩, q⟩
/-! == of lists of keys and Nones -/
theorem all_eq {os ps : List (Option Kd)} (h : os.length = ps.length) : (List.range os.length).all (fun j => decide (os[j]? = ps[j]?)) = decide (os = ps) := by
  rw [Bool.eq_iff_iff, List.all_eq_true, decide_eq_true_iff]
  constructor
  · intro a
    refine List.ext_getElem? fun i => ?_
    by_cases c : i < os.length
    · simpa using a i (List.mem_range.mpr c)
    · rw [List.getElem?_eq_none (by omega), List.getElem?_eq_none (by omega)]
  · rintro rfl j _
    simp
theorem rel_lo {pins : List (Addr × Obj)} {σ : St} {H : Hp} {s : Shared} (I : Inv X pins σ H s) {A : Around} {os ps : List (Option Kd)} {xs ys : List V} {its its2 : List Value} (r : Vals xs its) (r2 : Vals ys its2) (h : IsKos H os xs) (h2 : IsKos H ps ys) (hd : ∀ o ∈ os, shal 20 o) (hu : A.units + 21 < cLine) :
    ∀ j (h1 : j < its.toArray.size) (h2 : j < its2.toArray.size), SeqAt.EqAt A.in1 s its.toArray[j] its2.toArray[j] (decide (os[j]? = ps[j]?)) := by
  intro j j1 j2
  rw [List.size_toArray] at j1 j2
  have l1 := r.length
  have l2 := r2.length
  have e1 : xs[j]? = some xs[j] := List.getElem?_eq_getElem (by omega)
  have e2 : ys[j]? = some ys[j] := List.getElem?_eq_getElem (by omega)
  obtain ⟨u1, g1, q1⟩ := r.get e1
  obtain ⟨u2, g2, q2⟩ := r2.get e2
  obtain ⟨o1, f1, k1⟩ := h.get e1
  obtain ⟨o2, f2, k2⟩ := h2.get e2
  rw [List.getElem?_eq_getElem j1] at g1
  rw [List.getElem?_eq_getElem j2] at g2
  have w1 : its.toArray[j] = u1 := by simpa using g1
  have w2 : its2.toArray[j] = u2 := by simpa using g2
  rw [w1, w2, f1, f2]
  have z := eqAt_O I (n := 20) (A := A.in1) (hd _ (List.mem_of_getElem? f1)) k1 k2 q1 q2 (by show A.units + 1 + 20 < cLine; omega)
  have e : decide (some o1 = some o2) = decide (o1 = o2) := decide_eq_decide.mpr ⟨fun z => by cases z; rfl, fun z => by rw [z]⟩
  rw [e]
  exact z
theorem rcAt_lo {pins : List (Addr × Obj)} {σ : St} {H : Hp} {s : Shared} (I : Inv X pins σ H s) {A : Around} {a b : Addr} {os ps : List (Option Kd)} {xs ys : List V} (ha : H a = some (.lst xs)) (hb : H b = some (.lst ys)) (h : IsKos H os xs) (h2 : IsKos H ps ys) (hd : ∀ o ∈ os, shal 20 o) (hu : A.units + 21 < cLine) :
    SeqAt.RcAt A s (.ref a) (.ref b) (decide (os = ps)) := by
  obtain ⟨_, its, n, r, hl, e⟩ := I.lstM ha
  obtain ⟨_, its2, n2, r2, hl2, e2⟩ := I.lstM hb
  have L1 : s.heap.IsList a its.toArray := ⟨_, e, rfl, n, rfl⟩
  have L2 : s.heap.IsList b its2.toArray := ⟨_, e2, rfl, n2, rfl⟩
  have m1 := h.1
  have m2 := h2.1
  by_cases hz : os.length = ps.length
  · have z := SeqAt.RcAt.lists (A := A) L1 L2 (by simp; omega) (by omega) (rel_lo I r r2 h h2 hd hu)
    rw [show its.toArray.size = os.length by rw [List.size_toArray]; omega, all_eq hz] at z
    exact z
  · rw [decide_eq_false (fun z => hz (by rw [z]))]
    exact SeqAt.RcAt.lists_lengths L1 L2 (by simp; omega) (by omega)
theorem rcNeAt_lo {pins : List (Addr × Obj)} {σ : St} {H : Hp} {s : Shared} (I : Inv X pins σ H s) {A : Around} {a b : Addr} {os ps : List (Option Kd)} {xs ys : List V} (ha : H a = some (.lst xs)) (hb : H b = some (.lst ys)) (h : IsKos H os xs) (h2 : IsKos H ps ys) (hd : ∀ o ∈ os, shal 20 o) (hu : A.units + 21 < cLine) :
    SeqAt.RcNeAt A s (.ref a) (.ref b) (!decide (os = ps)) := by
  obtain ⟨_, its, n, r, hl, e⟩ := I.lstM ha
  obtain ⟨_, its2, n2, r2, hl2, e2⟩ := I.lstM hb
  have L1 : s.heap.IsList a its.toArray := ⟨_, e, rfl, n, rfl⟩
  have L2 : s.heap.IsList b its2.toArray := ⟨_, e2, rfl, n2, rfl⟩
  have m1 := h.1
  have m2 := h2.1
  by_cases hz : os.length = ps.length
  · have z := SeqAt.RcNeAt.lists (A := A) L1 L2 (by simp; omega) (by omega) (rel_lo I r r2 h h2 hd hu)
    rw [show its.toArray.size = os.length by rw [List.size_toArray]; omega, all_eq hz] at z
    exact z
  · rw [decide_eq_false (fun z => hz (by rw [z]))]
    exact SeqAt.RcNeAt.lists_lengths L1 L2 (by simp; omega) (by omega)
def rEqLO (neg : Bool) : R2 := fun x y H Q => ∃ a b xs ys os ps, x = .ref a ∧ y = .ref b ∧ H a = some (.lst xs) ∧ H b = some (.lst ys) ∧ IsKos H os xs ∧ IsKos H ps ys ∧ (∀ o ∈ os, shal 20 o) ∧ Q (.bl (if neg then !decide (os = ps) else decide (os = ps))) H
theorem op_eqLO (hu : X.A.units + 64 < cLine) : OpR X (compareOp .Eq) (rEqLO false) := by
  intro pins s σ H x y v u Q I rx ry h
  obtain ⟨a, b, xs, ys, os, ps, rfl, rfl, ha, hb, h1, h2, hd, q⟩ := h
  cases rx
  cases ry
  exact rcAt_lo I ha hb h1 h2 hd (by omega) X.prog X.w _ _ ⟨.bl _, H, I, rfl, q⟩
theorem op_neLO (hu : X.A.units + 64 < cLine) : OpR X (compareOp .NotEq) (rEqLO true) := by
  intro pins s σ H x y v u Q I rx ry h
  obtain ⟨a, b, xs, ys, os, ps, rfl, rfl, ha, hb, h1, h2, hd, q⟩ := h
  cases rx
  cases ry
  exact rcNeAt_lo I ha hb h1 h2 hd (by omega) X.prog X.w _ _ ⟨.bl _, H, I, rfl, q⟩
/-- l != m, both of two lists of keys and Nones -/
def rEqLL (neg : Bool) : R2 := fun x y H Q => ∃ a b a1 a2 b1 b2 xs xs' ys ys' os os' ps ps', x = .ref a ∧ y = .ref b ∧ H a = some (.lst [.ref a1, .ref a2]) ∧ H b = some (.lst [.ref b1, .ref b2]) ∧ a1 ≠ b1 ∧ a2 ≠ b2 ∧
  H a1 = some (.lst xs) ∧ H a2 = some (.lst xs') ∧ H b1 = some (.lst ys) ∧ H b2 = some (.lst ys') ∧ IsKos H os xs ∧ IsKos H os' xs' ∧ IsKos H ps ys ∧ IsKos H ps' ys' ∧ (∀ o ∈ os, shal 20 o) ∧ (∀ o ∈ os', shal 20 o) ∧
  Q (.bl (if neg then !(decide (os = ps) && decide (os' = ps')) else (decide (os = ps) && decide (os' = ps')))) H
theorem two_lists {pins : List (Addr × Obj)} {σ : St} {H : Hp} {s : Shared} (I : Inv X pins σ H s) {A : Around} {a b a1 a2 b1 b2 : Addr} {xs xs' ys ys' : List V} {os os' ps ps' : List (Option Kd)} (ha : H a = some (.lst [.ref a1, .ref a2])) (hb : H b = some (.lst [.ref b1, .ref b2])) (n1 : a1 ≠ b1) (n2 : a2 ≠ b2)
    (h1 : H a1 = some (.lst xs)) (h2 : H a2 = some (.lst xs')) (h3 : H b1 = some (.lst ys)) (h4 : H b2 = some (.lst ys')) (i1 : IsKos H os xs) (i2 : IsKos H os' xs') (i3 : IsKos H ps ys) (i4 : IsKos H ps' ys') (d1 : ∀ o ∈ os, shal 20 o) (d2 : ∀ o ∈ os', shal 20 o) (hu : A.units + 40 < cLine) :
    ∃ its its2, s.heap.IsList a its ∧ s.heap.IsList b its2 ∧ its.size = its2.size ∧ its.size = 2 ∧ ∀ j (h1 : j < its.size) (h2 : j < its2.size), SeqAt.EqAt A.in1 s its[j] its2[j] (if j = 0 then decide (os = ps) else decide (os' = ps')) := by
  obtain ⟨_, its, n, r, hl, e⟩ := I.lstM ha
  obtain ⟨_, its2, m, r2, hl2, e2⟩ := I.lstM hb
  have L1 : s.heap.IsList a its.toArray := ⟨_, e, rfl, n, rfl⟩
  have L2 : s.heap.IsList b its2.toArray := ⟨_, e2, rfl, m, rfl⟩
  obtain ⟨u1, u2, rfl, q1, q2⟩ := r.two
  obtain ⟨v1, v2, rfl, p1, p2⟩ := r2.two
  cases q1; cases q2; cases p1; cases p2
  refine ⟨_, _, L1, L2, rfl, rfl, fun j j1 j2 => ?_⟩
  match j, j1 with
  | 0, _ => exact SeqAt.EqAt.of_refs n1 (rcAt_lo I h1 h3 i1 i3 d1 (by show A.units + 1 + 21 < cLine; omega))
  | 1, _ => exact SeqAt.EqAt.of_refs n2 (rcAt_lo I h2 h4 i2 i4 d2 (by show A.units + 1 + 21 < cLine; omega))
theorem op_neLL (hu : X.A.units + 64 < cLine) : OpR X (compareOp .NotEq) (rEqLL true) := by
  intro pins s σ H x y v u Q I rx ry h
  obtain ⟨a, b, a1, a2, b1, b2, xs, xs', ys, ys', os, os', ps, ps', rfl, rfl, ha, hb, n1, n2, h1, h2, h3, h4, i1, i2, i3, i4, d1, d2, q⟩ := h
  cases rx
  cases ry
  obtain ⟨its, its2, L1, L2, z, z2, he⟩ := two_lists I (A := X.A) ha hb n1 n2 h1 h2 h3 h4 i1 i2 i3 i4 d1 d2 (by omega)
  have w := SeqAt.RcNeAt.lists (A := X.A) (s := s) L1 L2 z (by omega) he
  rw [z2] at w
  exact w X.prog X.w _ _ ⟨.bl _, H, I, rfl, by simpa [List.range_succ] using q⟩
theorem op_eqLL (hu : X.A.units + 64 < cLine) : OpR X (compareOp .Eq) (rEqLL false) := by
  intro pins s σ H x y v u Q I rx ry h
  obtain ⟨a, b, a1, a2, b1, b2, xs, xs', ys, ys', os, os', ps, ps', rfl, rfl, ha, hb, n1, n2, h1, h2, h3, h4, i1, i2, i3, i4, d1, d2, q⟩ := h
  cases rx
  cases ry
  obtain ⟨its, its2, L1, L2, z, z2, he⟩ := two_lists I (A := X.A) ha hb n1 n2 h1 h2 h3 h4 i1 i2 i3 i4 d1 d2 (by omega)
  have w := SeqAt.RcAt.lists (A := X.A) (s := s) L1 L2 z (by omega) he
  rw [z2] at w
  exact w X.prog X.w _ _ ⟨.bl _, H, I, rfl, by simpa [List.range_succ] using q⟩
/-- == of a key or None with a key or None -/
def rEqO (neg : Bool) : R2 := fun x y H Q => ∃ o o', IsKo H o x ∧ IsKo H o' y ∧ shal 20 o ∧ Q (.bl (if neg then !decide (o = o') else decide (o = o'))) H
end
end L2
namespace L2
open PySem PySem.Spec PyProof.Rows
theorem cut_ints (ns : List Int) (lo hi : Option Int) : ∃ cells : List Int, cutV (ns.map V.int) lo hi = cells.map V.int ∧ cells.length ≤ ns.length := by
  unfold cutV
  rw [← List.map_drop, ← List.map_take]
  exact ⟨_, rfl, by rw [List.length_take, List.length_drop]; omega⟩
theorem isi_lst_list {K : PySem.W.Frag} {H : Hp} {Q : VK} {a : Addr} {xs : List V} (e : H a = some (.lst xs)) : rIsi K [.ref a, .ty "list"] H Q = Q (.bl true) H := isi_at (.lst e) (one_lst e) rfl
theorem isi_tup_tup {K : PySem.W.Frag} {H : Hp} {Q : VK} {a : Addr} {xs : List V} (e : H a = some (.tup xs)) : rIsi K [.ref a, .ty "tuple"] H Q = Q (.bl true) H := isi_at (.tup e) (one_tup e) rfl
theorem cz_shal {n : Nat} {ns : List Int} : ∀ o ∈ cz ns, shal n o := fun o ho => by
  unfold cz at ho
  obtain ⟨i, _, rfl⟩ := List.mem_map.mp ho
  show (Kd.num i).deep ≤ n
  unfold Kd.deep
  exact Nat.zero_le _
theorem isO_num {H : Hp} {i : Int} : IsKo H (some (.num i)) (.int i) := by show IsK H (.num i) _; unfold IsK; rfl
end L2
namespace L2
open PySem PySem.Spec PyProof.Rows
theorem IsKs.set {H : Hp} {k : Kd} {v : V} (h : IsK H k v) : ∀ {ks : List Kd} {vs : List V} (i : Nat), IsKs H ks vs → IsKs H (ks.set i k) (vs.set i v)
  | [], _, _, h' => by unfold IsKs at h'; subst h'; exact IsKs.nil
  | k0 :: r, _, 0, h' => by
    unfold IsKs at h'
    obtain ⟨v0, vr, rfl, h1, h2⟩ := h'
    show IsKs H (k :: r) (v :: vr)
    unfold IsKs
    exact ⟨v, vr, rfl, h, h2⟩
  | k0 :: r, _, i + 1, h' => by
    unfold IsKs at h'
    obtain ⟨v0, vr, rfl, h1, h2⟩ := h'
    show IsKs H (k0 :: r.set i k) (v0 :: vr.set i v)
    unfold IsKs
    exact ⟨v0, _, rfl, h1, IsKs.set h i h2⟩
theorem IsKs.drop {H : Hp} : ∀ {ks : List Kd} {vs : List V} (n : Nat), IsKs H ks vs → IsKs H (ks.drop n) (vs.drop n)
  | _, _, 0, h => h
  | [], _, n + 1, h => by unfold IsKs at h; subst h; exact IsKs.nil
  | k :: r, _, n + 1, h => by
    unfold IsKs at h
    obtain ⟨v, vr, rfl, h1, h2⟩ := h
    exact IsKs.drop n h2
theorem IsKs.two {H : Hp} {k l : Kd} {v w : V} (h : IsK H k v) (h' : IsK H l w) : IsKs H [k, l] [v, w] := by
  unfold IsKs
  refine ⟨v, [w], rfl, h, ?_⟩
  unfold IsKs
  exact ⟨w, [], rfl, h', IsKs.nil⟩
theorem IsKs.one {H : Hp} {k : Kd} {v : V} (h : IsK H k v) : IsKs H [k] [v] := by
  unfold IsKs
  exact ⟨v, [], rfl, h, IsKs.nil⟩
theorem lenC_str {z : Str} {H : Hp} {Q : VK} (h : z.length ≤ sizeLine) : lenC [.str z] H Q = Q (.int z.length) H := by
  show (z.length ≤ sizeLine ∧ Q (.int z.length) H) = _
  exact propext ⟨fun x => x.2, fun x => ⟨h, x⟩⟩
end L2
namespace L2
open PySem PySem.Spec PyProof.Rows
/-- != of pairs of ints -/
def rNeP : R2 := fun x y H Q => ∃ (a b : Addr) (i j i' j' : Int), x = .ref a ∧ y = .ref b ∧ H a = some (.tup [.int i, .int j]) ∧ H b = some (.tup [.int i', .int j']) ∧ Q (.bl (!decide (i = i' ∧ j = j'))) H
theorem op_neP {X : Cx} (hu : X.A.units + 64 < cLine) : OpR X (compareOp .NotEq) rNeP := by
  intro pins s σ H x y v u Q I rx ry h
  obtain ⟨a, b, i, j, i', j', rfl, rfl, ha, hb, q⟩ := h
  cases rx
  cases ry
  obtain ⟨its, r1, p1, _⟩ := I.tuple (SqT.of ha)
  obtain ⟨its', r2, p2, _⟩ := I.tuple (SqT.of hb)
  obtain ⟨u1, u2, rfl, q1, q2⟩ := r1.two
  obtain ⟨v1, v2, rfl, q3, q4⟩ := r2.two
  obtain ⟨t1, rfl⟩ := q1
  obtain ⟨t2, rfl⟩ := q2
  obtain ⟨t3, rfl⟩ := q3
  obtain ⟨t4, rfl⟩ := q4
  have w := SeqAt.RcNeAt.tuples (A := X.A) (s := s) (l := a) (b := b) (e := fun n => if n = 0 then i == i' else j == j') p1 p2 (by omega) (fun n h1 h2 => by
    match n, h1 with
    | 0, _ => exact SeqAt.EqAt.int_int _ _ _ _
    | 1, _ => exact SeqAt.EqAt.int_int _ _ _ _)
  refine w X.prog X.w _ _ ⟨.bl _, H, I, rfl, ?_⟩
  have e : (!((List.range (min ([Value.int i t1, Value.int j t2] : List Value).toArray.size ([Value.int i' t3, Value.int j' t4] : List Value).toArray.size)).all (fun n => if n = 0 then i == i' else j == j') && ([Value.int i t1, Value.int j t2] : List Value).toArray.size == ([Value.int i' t3, Value.int j' t4] : List Value).toArray.size)) = !decide (i = i' ∧ j = j') := by
    have e0 : (List.range (min ([Value.int i t1, Value.int j t2] : List Value).toArray.size ([Value.int i' t3, Value.int j' t4] : List Value).toArray.size)) = [0, 1] := rfl
    rw [e0]
    congr 1
    rw [Bool.eq_iff_iff]
    simp
  rw [e]
  exact q
theorem atI_end {α : Type} {ys : List α} {c : Nat} (h : ys.length = c + 1) : atI ys (-1) = ys[c]? := by
  have e : ys ≠ [] := fun e => by rw [e] at h; cases h
  have z := atI_last ys.dropLast (ys.getLast e)
  rw [List.dropLast_concat_getLast] at z
  rw [z, List.getLast_eq_getElem, List.getElem?_eq_getElem (by omega)]
  congr 1
  congr 1
  omega
end L2
theorem L2.shal_mono {o : Option L2.Kd} (h : L2.shal 3 o) : L2.shal 20 o := by
  cases o with
  | none => trivial
  | some k => exact Nat.le_trans (show k.deep ≤ 3 from h) (by decide)
namespace L2
open PySem PySem.Spec PyProof.Rows
theorem IsKo.non {H : Hp} {o : Option Kd} {y : V} (h : IsKo H o y) : decide (y = V.non) = o.isNone := by
  cases o with
  | none => rw [decide_eq_true (show y = V.non from h)]; rfl
  | some k =>
    refine decide_eq_false fun e => ?_
    have h' : IsKo H none y := e
    have := h.inj h'
    cases this
/-- the places of the keys among the first i -/
def plc (os : List (Option Kd)) (i : Nat) : List Int := ((List.range i).filter fun j => (os[j]?.getD none).isSome).map fun j => ((j : Nat) : Int)
theorem plc_len {os : List (Option Kd)} {i : Nat} : (plc os i).length ≤ i := by
  unfold plc
  rw [List.length_map]
  have := List.length_filter_le (fun j => (os[j]?.getD none).isSome) (List.range i)
  rwa [List.length_range] at this
theorem plc_succ {os : List (Option Kd)} {i : Nat} {o : Option Kd} (h : os[i]? = some o) : plc os (i + 1) = if o.isNone = true then plc os i else plc os i ++ [((i : Nat) : Int)] := by
  unfold plc
  rw [List.range_succ, List.filter_append, List.map_append]
  cases o with
  | none => simp [h]
  | some k => simp [h]
theorem plc_mem {os : List (Option Kd)} {i : Nat} {v : Int} (h : v ∈ plc os i) : ∃ k, 0 ≤ v ∧ v < (i : Int) ∧ os[v.toNat]? = some (some k) := by
  unfold plc at h
  obtain ⟨j, hj, rfl⟩ := List.mem_map.mp h
  obtain ⟨h1, h2⟩ := List.mem_filter.mp hj
  have h1 := List.mem_range.mp h1
  cases e : os[j]? with
  | none => rw [e] at h2; cases h2
  | some o =>
    cases o with
    | none => rw [e] at h2; cases h2
    | some k => exact ⟨k, by omega, by omega, by rw [Int.toNat_natCast]; exact e⟩
theorem mem_cut {ns : List Int} {lo hi : Option Int} : ∃ cells : List Int, cutV (ns.map V.int) lo hi = cells.map V.int ∧ cells.length ≤ ns.length ∧ ∀ x ∈ cells, x ∈ ns := by
  unfold cutV
  rw [← List.map_drop, ← List.map_take]
  exact ⟨_, rfl, by rw [List.length_take, List.length_drop]; omega, fun x hx => List.mem_of_mem_drop (List.mem_of_mem_take hx)⟩
end L2

set_option Elab.async false
set_option linter.all false
set_option maxRecDepth 100000
namespace L2
open PySem PySem.Spec PyProof.Rows
/-! ### lists of pairs as tables -/
section
variable {κ : Type} [DecidableEq κ]
def valV (kvs : List (κ × V)) (k : κ) : Option V := (kvs.find? fun kv => decide (kv.1 = k)).map (·.2)
/-- in its place, or at the end -/
def putK (kvs : List (κ × V)) (k : κ) (v : V) : List (κ × V) :=
  if (kvs.any fun kv => decide (kv.1 = k)) = true then kvs.map (fun kv => if kv.1 = k then (kv.1, v) else kv) else kvs ++ [(k, v)]
def dropK (kvs : List (κ × V)) (k : κ) : List (κ × V) := kvs.filter fun kv => decide (kv.1 ≠ k)

theorem valV_nil {k : κ} : valV ([] : List (κ × V)) k = none := rfl
theorem valV_pos {p : κ × V} {r : List (κ × V)} {k : κ} (e : p.1 = k) : valV (p :: r) k = some p.2 := by simp [valV, List.find?_cons, e]
theorem valV_neg {p : κ × V} {r : List (κ × V)} {k : κ} (e : ¬ p.1 = k) : valV (p :: r) k = valV r k := by simp [valV, List.find?_cons, e]
theorem valV_any (k : κ) : ∀ kvs : List (κ × V), (kvs.any fun kv => decide (kv.1 = k)) = (valV kvs k).isSome
  | [] => rfl
  | p :: r => by
    rw [List.any_cons]
    by_cases e : p.1 = k
    · simp only [valV_pos e, decide_eq_true e, Bool.true_or, Option.isSome_some]
    · rw [valV_neg e, decide_eq_false e, Bool.false_or]; exact valV_any k r
theorem valV_map (k j : κ) (y : V) : ∀ kvs : List (κ × V), valV (kvs.map fun kv => if kv.1 = k then (kv.1, y) else kv) j = (valV kvs j).map fun x => if j = k then y else x
  | [] => rfl
  | p :: r => by
    have ih := valV_map k j y r
    rw [List.map_cons]
    by_cases h : p.1 = k
    · rw [if_pos h]
      by_cases e : p.1 = j
      · rw [valV_pos (p := (p.1, y)) e, valV_pos e, Option.map_some, if_pos (e.symm.trans h)]
      · rw [valV_neg (p := (p.1, y)) e, valV_neg e, ih]
    · rw [if_neg h]
      by_cases e : p.1 = j
      · rw [valV_pos (p := p) e, valV_pos e, Option.map_some, if_neg (fun z => h (e.trans z))]
      · rw [valV_neg (p := p) e, valV_neg e, ih]
theorem valV_snoc (k j : κ) (y : V) : ∀ kvs : List (κ × V), valV kvs k = none → valV (kvs ++ [(k, y)]) j = if j = k then some y else valV kvs j
  | [], _ => by
    by_cases e : k = j
    · rw [if_pos e.symm]; exact valV_pos (p := (k, y)) e
    · rw [if_neg (fun z => e z.symm)]; exact valV_neg (p := (k, y)) e
  | p :: r, hn => by
    rw [List.cons_append]
    have hk : ¬ p.1 = k := fun z => by rw [valV_pos z] at hn; cases hn
    rw [valV_neg hk] at hn
    have ih := valV_snoc k j y r hn
    by_cases e : p.1 = j
    · rw [valV_pos e, valV_pos e, if_neg (fun z => hk (e.trans z))]
    · rw [valV_neg e, valV_neg e, ih]
theorem valV_put (kvs : List (κ × V)) (k j : κ) (y : V) : valV (putK kvs k y) j = if j = k then some y else valV kvs j := by
  unfold putK
  by_cases a : (kvs.any fun kv => decide (kv.1 = k)) = true
  · rw [if_pos a, valV_map]
    rw [valV_any] at a
    by_cases e : j = k
    · obtain ⟨x, hx⟩ := Option.isSome_iff_exists.mp a
      rw [if_pos e, e, hx, Option.map_some, if_pos rfl]
    · rw [if_neg e]
      cases valV kvs j with
      | none => rfl
      | some x => rw [Option.map_some, if_neg e]
  · rw [if_neg a]
    refine valV_snoc k j y kvs ?_
    rw [valV_any] at a
    cases q : valV kvs k with
    | none => rfl
    | some x => rw [q] at a; exact (a rfl).elim
theorem length_putK (kvs : List (κ × V)) (k : κ) (v : V) : (putK kvs k v).length ≤ kvs.length + 1 := by
  unfold putK
  split
  · rw [List.length_map]; omega
  · rw [List.length_append, List.length_cons, List.length_nil]; omega
theorem putK_new {kvs : List (κ × V)} {k : κ} (v : V) (h : valV kvs k = none) : putK kvs k v = kvs ++ [(k, v)] := by
  unfold putK
  rw [valV_any, h]
  exact if_neg (by decide)

theorem RelO.isSome_eq {o : Option V} {u : Option Value} (r : RelO o u) : o.isSome = u.isSome := by
  cases o with
  | none => cases u with
    | none => rfl
    | some _ => exact (show False from r).elim
  | some _ => cases u with
    | none => exact (show False from r).elim
    | some _ => rfl
theorem RelO.getD {o : Option V} {u : Option Value} {d : V} {d' : Value} (r : RelO o u) (rd : RelV d d') : RelV (o.getD d) (u.getD d') := by
  cases o with
  | none => cases u with
    | none => exact rd
    | some _ => exact (show False from r).elim
  | some _ => cases u with
    | none => exact (show False from r).elim
    | some _ => exact r

/-- raw tables of the same keys -/
theorem KV.val {kvs : List (κ × V)} {vs : List (κ × Value)} (r : KV kvs vs) (k : κ) : RelO (valV kvs k) (valueAt vs k) := by
  unfold KV at r
  induction r with
  | nil => exact True.intro
  | @cons p q ps qs h t ih =>
    obtain ⟨h1, h2⟩ := h
    by_cases e : p.1 = k
    · have e' : q.1 = k := h1.symm.trans e
      have b : valueAt (q :: qs) k = some q.2 := by simp [valueAt, List.find?_cons, e']
      rw [valV_pos e, b]; exact h2
    · have e' : ¬ q.1 = k := fun z => e (h1.trans z)
      have b : valueAt (q :: qs) k = valueAt qs k := by simp [valueAt, List.find?_cons, e']
      rw [valV_neg e, b]; exact ih
theorem KV.any {kvs : List (κ × V)} {vs : List (κ × Value)} (r : KV kvs vs) (k : κ) : (kvs.any fun kv => decide (kv.1 = k)) = vs.any fun kv => decide (kv.1 = k) := by
  unfold KV at r
  induction r with
  | nil => rfl
  | cons h t ih => rw [List.any_cons, List.any_cons, ih, h.1]
theorem KV.repl {kvs : List (κ × V)} {vs : List (κ × Value)} (r : KV kvs vs) (k : κ) {y : V} {u : Value} (ry : RelV y u) :
    KV (kvs.map fun kv => if kv.1 = k then (kv.1, y) else kv) (vs.map fun kv => if kv.1 = k then (kv.1, u) else kv) := by
  unfold KV at r ⊢
  induction r with
  | nil => exact .nil
  | @cons p q ps qs h t ih =>
    rw [List.map_cons, List.map_cons]
    refine .cons ?_ ih
    obtain ⟨h1, h2⟩ := h
    by_cases e : p.1 = k
    · rw [if_pos e, if_pos (h1.symm.trans e)]; exact ⟨h1, ry⟩
    · rw [if_neg e, if_neg (fun z => e (h1.trans z))]; exact ⟨h1, h2⟩
theorem KV.put {kvs : List (κ × V)} {vs : List (κ × Value)} (r : KV kvs vs) (k : κ) {y : V} {u : Value} (ry : RelV y u) : KV (putK kvs k y) (stored vs k u) := by
  unfold putK stored
  rw [r.any k]
  by_cases e : (vs.any fun kv => decide (kv.1 = k)) = true
  · rw [if_pos e, if_pos e]; exact r.repl k ry
  · rw [if_neg e, if_neg e]; exact Paired.snoc r ⟨rfl, ry⟩
theorem KV.drop {kvs : List (κ × V)} {vs : List (κ × Value)} (r : KV kvs vs) (k : κ) : KV (dropK kvs k) (without vs k) := by
  unfold KV at r ⊢
  unfold dropK without
  induction r with
  | nil => exact .nil
  | @cons p q ps qs h t ih =>
    obtain ⟨h1, h2⟩ := h
    rw [List.filter_cons, List.filter_cons]
    by_cases e : p.1 = k
    · have a : ¬ decide (p.1 ≠ k) = true := by simp [e]
      have b : ¬ decide (q.1 ≠ k) = true := by simp [h1.symm.trans e]
      rw [if_neg a, if_neg b]; exact ih
    · have e' : ¬ q.1 = k := fun z => e (h1.trans z)
      have a : decide (p.1 ≠ k) = true := by simp [e]
      have b : decide (q.1 ≠ k) = true := by simp [e']
      rw [if_pos a, if_pos b]; exact .cons ⟨h1, h2⟩ ih
theorem KV.keys {kvs : List (κ × V)} {vs : List (κ × Value)} (r : KV kvs vs) : kvs.map (·.1) = vs.map (·.1) := by
  unfold KV at r
  induction r with
  | nil => rfl
  | cons h t ih => rw [List.map_cons, List.map_cons, ih, h.1]
theorem KV.length {kvs : List (κ × V)} {vs : List (κ × Value)} (r : KV kvs vs) : kvs.length = vs.length := Paired.length r
theorem dropK_le (kvs : List (κ × V)) (k : κ) : (dropK kvs k).length ≤ kvs.length := List.length_filter_le _ _
end


/-! ### a tracked dict, its keys ints and texts or tuples of these -/
theorem kV_is {P : Program} {w : World} {k : Key} {u : Value} (r : RelV (kV k) u) : (mixKind P w).is k u = true := by
  cases k with
  | inl i => obtain ⟨t, e⟩ := (show ∃ t, u = Value.int i t from r); subst e; exact mixKind_int P w i t
  | inr x => obtain ⟨t, e⟩ := (show ∃ t, u = Value.str x t from r); subst e; exact mixKind_str P w x t
theorem kV_inj {a b : Key} (e : kV a = kV b) : a = b := by
  cases a with
  | inl i => cases b with
    | inl j => have e' : V.int i = V.int j := e; injection e' with e'; rw [e']
    | inr y => exact nomatch (show V.int i = V.str y from e)
  | inr x => cases b with
    | inl j => exact nomatch (show V.str x = V.int j from e)
    | inr y => have e' : V.str x = V.str y := e; injection e' with e'; rw [e']
theorem kVs_inj : ∀ {a b : List Key}, a.map kV = b.map kV → a = b
  | [], [], _ => rfl
  | [], _ :: _, e => by simp at e
  | _ :: _, [], e => by simp at e
  | x :: xs, y :: ys, e => by
    rw [List.map_cons, List.map_cons] at e
    injection e with e1 e2
    rw [kV_inj e1, kVs_inj e2]
theorem items_are {P : Program} {w : World} : ∀ {ks : List Key} {us : List Value}, Vals (ks.map kV) us → ItemsAre (mixKind P w) ks us
  | [], _, r => by rw [List.map_nil] at r; cases r; exact .nil
  | k :: ks, _, r => by
    rw [List.map_cons] at r
    cases r with
    | cons h t => exact .cons (kV_is h) (items_are t)

/-- raw entries of a dict with tuple keys -/
abbrev KT (H : Hp) : List (List Key × V) → List (List Key × Addr × Value) → Prop := Paired fun p q => p.1 = q.1 ∧ H q.2.1 = some (.tup (p.1.map kV)) ∧ RelV p.2 q.2.2
theorem KT.val {H : Hp} {kvs : List (List Key × V)} {xs : List (List Key × Addr × Value)} (r : KT H kvs xs) (k : List Key) : RelO (valV kvs k) ((atKey xs k).map (·.2)) := by
  induction r with
  | nil => exact True.intro
  | @cons p q ps qs h t ih =>
    obtain ⟨h1, _, h2⟩ := h
    by_cases e : p.1 = k
    · have e' : q.1 = k := h1.symm.trans e
      have b : atKey (q :: qs) k = some q.2 := by simp [atKey, List.find?_cons, e']
      rw [valV_pos e, b]; exact h2
    · have e' : ¬ q.1 = k := fun z => e (h1.trans z)
      have b : atKey (q :: qs) k = atKey qs k := by simp [atKey, List.find?_cons, e']
      rw [valV_neg e, b]; exact ih
theorem KT.repl {H : Hp} {kvs : List (List Key × V)} {xs : List (List Key × Addr × Value)} (r : KT H kvs xs) (k : List Key) {y : V} {u : Value} (ry : RelV y u) :
    KT H (kvs.map fun kv => if kv.1 = k then (kv.1, y) else kv) (xs.map (putAt k u)) := by
  induction r with
  | nil => exact .nil
  | @cons p q ps qs h t ih =>
    rw [List.map_cons, List.map_cons]
    refine .cons ?_ ih
    obtain ⟨h1, h2, h3⟩ := h
    unfold putAt
    by_cases e : p.1 = k
    · rw [if_pos e, if_pos (h1.symm.trans e)]; exact ⟨h1, h2, ry⟩
    · rw [if_neg e, if_neg (fun z => e (h1.trans z))]; exact ⟨h1, h2, h3⟩
theorem KT.put {H : Hp} {kvs : List (List Key × V)} {xs : List (List Key × Addr × Value)} (r : KT H kvs xs) (k : List Key) {b : Addr} {y : V} {u : Value} (hb : H b = some (.tup (k.map kV))) (ry : RelV y u) :
    KT H (putK kvs k y) (storedH xs k b u) := by
  have e : (kvs.any fun kv => decide (kv.1 = k)) = (atKey xs k).isSome := by
    rw [valV_any, (r.val k).isSome_eq, Option.isSome_map]
  unfold putK storedH
  rw [e]
  by_cases q : (atKey xs k).isSome = true
  · rw [if_pos q, if_pos q]; exact r.repl k ry
  · rw [if_neg q, if_neg q]; exact Paired.snoc r ⟨rfl, hb, ry⟩
theorem KT.keeps {H H' : Hp} {kvs : List (List Key × V)} {xs : List (List Key × Addr × Value)} (r : KT H kvs xs) (ht : ∀ b ys, H b = some (.tup ys) → H' b = some (.tup ys)) : KT H' kvs xs :=
  Paired.mapP r fun _ _ z => ⟨z.1, ht _ _ z.2.1, z.2.2⟩

section
variable {P : Program} {w : World} {H : Hp} {h : Heap} {a : Addr}
theorem rd_of {u : HO} (ok : HOk P w H h) (e : Rd H a u) : ObjOk P w H h a u := e.ok ok
theorem dk_rd {kvs : List (Key × V)} (ok : HOk P w H h) (e : Rd H a (.dK kvs)) : kvs.length ≤ sizeLine ∧ (a == sysModules) = false ∧ ∃ vs, KV kvs vs ∧ h.DictOf (mixKind P w) a vs :=
  show ObjOk P w H h a (.dK kvs) from rd_of ok e
theorem dk_of {kvs : List (Key × V)} (ok : HOk P w H h) (e : H a = some (.dK kvs)) : kvs.length ≤ sizeLine ∧ (a == sysModules) = false ∧ ∃ vs, KV kvs vs ∧ h.DictOf (mixKind P w) a vs := dk_rd ok (.inl e)
/-- a tracked tuple of ints and texts is a key -/
theorem key_of {ks : List Key} (ok : HOk P w H h) (e : H a = some (.tup (ks.map kV))) : (tupleKind (mixKind P w)).is h ks a := by
  obtain ⟨_, its, r, o, h1, h2, n, h3⟩ := (show ObjOk P w H h a (.tup (ks.map kV)) from ok a _ e)
  exact ⟨o, its.toArray, n, h1, h2, h3, by simpa using items_are r⟩
theorem dt_rd {kvs : List (List Key × V)} (ok : HOk P w H h) (e : Rd H a (.dT kvs)) : kvs.length ≤ sizeLine ∧ (a == sysModules) = false ∧
    ∃ xs, KT H kvs xs ∧ h.DictOfH (tupleKind (mixKind P w)) a xs := by
  obtain ⟨z, y, xs, r, o, es, ep, h1, h2, h3, h4, h5⟩ := (show ObjOk P w H h a (.dT kvs) from rd_of ok e)
  refine ⟨z, y, xs, r, o, es, ep, h1, h2, h3, h4, fun x hx => ?_, h5⟩
  have all : ∀ {l : List (List Key × V)} {m : List (List Key × Addr × Value)}, KT H l m → ∀ x ∈ m, (tupleKind (mixKind P w)).is h x.1 x.2.1 := by
    intro l m q
    induction q with
    | nil => intro x hx; exact nomatch hx
    | @cons p q ps qs hq t ih =>
      intro x hx
      rcases List.mem_cons.mp hx with e | hx
      · subst e
        exact key_of ok (by rw [← hq.1]; exact hq.2.1)
      · exact ih x hx
  exact all r x hx
theorem dt_of {kvs : List (List Key × V)} (ok : HOk P w H h) (e : H a = some (.dT kvs)) : kvs.length ≤ sizeLine ∧ (a == sysModules) = false ∧
    ∃ xs, KT H kvs xs ∧ h.DictOfH (tupleKind (mixKind P w)) a xs := dt_rd ok (.inl e)
end

/-- what the dict at a holds at the key y -/
def DGet (H : Hp) (a : Addr) (y : V) (r : Option V) : Prop :=
  (∃ kvs k, Rd H a (.dK kvs) ∧ y = kV k ∧ r = valV kvs k) ∨ ∃ kvs k b, Rd H a (.dT kvs) ∧ y = .ref b ∧ H b = some (.tup (k.map kV)) ∧ r = valV kvs k
/-- the heap behind a[y] = v -/
def DPut (H : Hp) (a : Addr) (y v : V) (H' : Hp) : Prop :=
  (∃ kvs k, H a = some (.dK kvs) ∧ y = kV k ∧ kvs.length < sizeLine ∧ H' = upd H a (.dK (putK kvs k v))) ∨
  ∃ kvs k b, H a = some (.dT kvs) ∧ y = .ref b ∧ H b = some (.tup (k.map kV)) ∧ kvs.length < sizeLine ∧ H' = upd H a (.dT (putK kvs k v))
theorem DGet.k {H : Hp} {a : Addr} {kvs : List (Key × V)} {k : Key} (e : H a = some (.dK kvs)) : DGet H a (kV k) (valV kvs k) := .inl ⟨kvs, k, .inl e, rfl, rfl⟩
theorem DGet.t {H : Hp} {a b : Addr} {kvs : List (List Key × V)} {k : List Key} (e : H a = some (.dT kvs)) (eb : H b = some (.tup (k.map kV))) : DGet H a (.ref b) (valV kvs k) := .inr ⟨kvs, k, b, .inl e, rfl, eb, rfl⟩
theorem DPut.k {H : Hp} {a : Addr} {kvs : List (Key × V)} {k : Key} {v : V} (e : H a = some (.dK kvs)) (hl : kvs.length < sizeLine) : DPut H a (kV k) v (upd H a (.dK (putK kvs k v))) := .inl ⟨kvs, k, e, rfl, hl, rfl⟩
theorem DPut.t {H : Hp} {a b : Addr} {kvs : List (List Key × V)} {k : List Key} {v : V} (e : H a = some (.dT kvs)) (eb : H b = some (.tup (k.map kV))) (hl : kvs.length < sizeLine) :
    DPut H a (.ref b) v (upd H a (.dT (putK kvs k v))) := .inr ⟨kvs, k, b, e, rfl, eb, hl, rfl⟩


section
variable {X : Cx} {pins : List (Addr × Obj)} {σ : St} {H : Hp} {s : Shared} {a : Addr} {y v : V} {u r : Value} {o : Option V} {A : Around} {E : Value → Shared → Prop}

theorem Inv.big (I : Inv X pins σ H s) : sysModules < s.heap.objs.size := by
  have h : mainGlobals < s.heap.objs.size := (I.mod.glob.keeps I.bk).lt
  exact Nat.lt_trans (by decide) h

/-- d[y], there -/
theorem d_getItem {Q : Value → Shared → Prop} (hu : A.units + 1 < cLine) (I : Inv X pins σ H s) (g : DGet H a y (some v)) (ry : RelV y u) (h : ∀ w' s', Inv X pins σ H s' → RelV v w' → Q w' s') :
    wpAny (model X.prog X.w) A (getItem (.ref a) u) Q E s := by
  rcases g with ⟨kvs, k, e, ey, l⟩ | ⟨kvs, k, b, e, ey, eb, l⟩
  · subst ey
    obtain ⟨z, hd, vs, rel, dd⟩ := dk_rd I.hok e
    obtain ⟨w', hw, rw'⟩ := RelO.some_of (v := v) (o := valueAt vs k) (by rw [l]; exact rel.val k)
    exact wpAny_getItem_of (kV_is ry) dd.mapOf hw (h w' _ (I.tok _) rw')
  · subst ey
    cases (show u = Value.ref b from ry)
    obtain ⟨z, hd, xs, rel, dd⟩ := dt_rd I.hok e
    obtain ⟨w', hw, rw'⟩ := RelO.some_of (v := v) (o := (atKey xs k).map (·.2)) (by rw [l]; exact rel.val k)
    obtain ⟨p, hp, hp2⟩ := Option.map_eq_some_iff.mp hw
    refine wpAny_getItem_heap (tupleKind_room_in1 hu) (key_of I.hok eb) dd hp ?_
    rw [hp2]
    exact h w' _ (I.tok _) rw'
/-- y in d -/
theorem d_in {Q : Value → Shared → Prop} (hu : A.units + 1 < cLine) (I : Inv X pins σ H s) (g : DGet H a y o) (ry : RelV y u) (h : ∀ s', Inv X pins σ H s' → Q (.bool o.isSome) s') :
    wpAny (model X.prog X.w) A (compareOp .In u (.ref a)) Q E s := by
  rcases g with ⟨kvs, k, e, ey, l⟩ | ⟨kvs, k, b, e, ey, eb, l⟩
  · subst ey
    obtain ⟨z, hd, vs, rel, dd⟩ := dk_rd I.hok e
    refine wpAny_in_of (kV_is ry) hd dd.mapOf ?_
    rw [← (rel.val k).isSome_eq, ← l]
    exact h _ (I.tok _)
  · subst ey
    cases (show u = Value.ref b from ry)
    obtain ⟨z, hd, xs, rel, dd⟩ := dt_rd I.hok e
    refine wpAny_in_heap (tupleKind_room_in1 hu) (key_of I.hok eb) hd dd ?_
    have q := (rel.val k).isSome_eq
    rw [Option.isSome_map] at q
    rw [← q, ← l]
    exact h _ (I.tok _)
theorem d_notIn {Q : Value → Shared → Prop} (hu : A.units + 1 < cLine) (I : Inv X pins σ H s) (g : DGet H a y o) (ry : RelV y u) (h : ∀ s', Inv X pins σ H s' → Q (.bool (!o.isSome)) s') :
    wpAny (model X.prog X.w) A (compareOp .NotIn u (.ref a)) Q E s := by
  rcases g with ⟨kvs, k, e, ey, l⟩ | ⟨kvs, k, b, e, ey, eb, l⟩
  · subst ey
    obtain ⟨z, hd, vs, rel, dd⟩ := dk_rd I.hok e
    refine wpAny_notIn_of (kV_is ry) hd dd.mapOf ?_
    rw [← (rel.val k).isSome_eq, ← l]
    exact h _ (I.tok _)
  · subst ey
    cases (show u = Value.ref b from ry)
    obtain ⟨z, hd, xs, rel, dd⟩ := dt_rd I.hok e
    refine wpAny_notIn_heap (tupleKind_room_in1 hu) (key_of I.hok eb) hd dd ?_
    have q := (rel.val k).isSome_eq
    rw [Option.isSome_map] at q
    rw [← q, ← l]
    exact h _ (I.tok _)
/-- a dict's object is replaced -/
theorem d_write {h' : Heap} {t' : Nat} {ob : HO} (I : Inv X pins σ H s) (mu : Mut (H a)) (hs : Heap.SameBut a s.heap h') (he : ∃ q, h'.get? a = some q) (new : ObjOk X.prog X.w (upd H a ob) h' a ob) :
    Inv X pins σ (upd H a ob) { s with heap := h', toks := t' } :=
  I.write (x := a) (e := a) mu (.inl rfl) (fun b q hb z => (hs.2 b hb).trans z) he new
theorem dk_new {P : Program} {w : World} {H' : Hp} {h' : Heap} {kvs : List (Key × V)} {vs : List (Key × Value)} (z : kvs.length ≤ sizeLine) (hd : (a == sysModules) = false) (rel : KV kvs vs) (dd : h'.DictOf (mixKind P w) a vs) :
    ObjOk P w H' h' a (.dK kvs) := ⟨z, hd, vs, rel, dd⟩
/-- d[y] = v -/
theorem d_setItem {H' : Hp} {Q : Unit → Shared → Prop} (hu : A.units + 1 < cLine) (I : Inv X pins σ H s) (g : DPut H a y v H') (ry : RelV y u) (rv : RelV v r) (h : ∀ s', Inv X pins σ H' s' → Q () s') :
    wpAny (model X.prog X.w) A (setItem (.ref a) u r) Q E s := by
  rcases g with ⟨kvs, k, e, ey, l, eH⟩ | ⟨kvs, k, b, e, ey, eb, l, eH⟩
  · subst ey eH
    obtain ⟨z, hd, vs, rel, dd⟩ := dk_of I.hok e
    have hz : vs.length ≤ sizeLine := by rw [← rel.length]; exact z
    have hl : (putK kvs k v).length ≤ sizeLine := by have := length_putK kvs k v; omega
    refine wpAny_setItem_pairs (hsz := hz) (kV_is ry) dd fun h' dd' hs => h _ ?_
    have he : ∃ q, h'.get? a = some q := let ⟨q, _, _, hq, _⟩ := dd'; ⟨q, hq⟩
    exact d_write I (by rw [e]; exact True.intro) hs he (dk_new hl hd (rel.put k rv) dd')
  · subst ey eH
    cases (show u = Value.ref b from ry)
    obtain ⟨z, hd, xs, rel, dd⟩ := dt_of I.hok e
    have hz : xs.length ≤ sizeLine := by rw [← Paired.length rel]; exact z
    have hl : (putK kvs k v).length ≤ sizeLine := by have := length_putK kvs k v; omega
    refine wpAny_setItem_heap (hsz := hz) (tupleKind_room_in1 hu) (key_of I.hok eb) dd fun h' dd' hs => h _ ?_
    obtain ⟨q, es, ep, hq, h2, h3, h4, _, h5⟩ := dd'
    refine d_write I (by rw [e]; exact True.intro) hs ⟨q, hq⟩ ⟨hl, hd, _, (rel.put k eb rv).keeps fun c ys ec => ?_, q, es, ep, hq, h2, h3, h4, h5⟩
    rw [upd_ne (ne_of ec e (fun z => nomatch z))]
    exact ec
end

section
variable {X : Cx} {pins : List (Addr × Obj)} {σ : St} {H : Hp} {s : Shared} {a : Addr} {kvs : List (Key × V)} {k : Key} {u : Value} {A : Around} {E : Value → Shared → Prop}
/-- del d[k] -/
theorem d_delItem {Q : Unit → Shared → Prop} (I : Inv X pins σ H s) (e : H a = some (.dK kvs)) (ry : RelV (kV k) u) (l : (valV kvs k).isSome = true) (h : ∀ s', Inv X pins σ (upd H a (.dK (dropK kvs k))) s' → Q () s') :
    wpAny (model X.prog X.w) A (delItem (.ref a) u) Q E s := by
  obtain ⟨z, hd, vs, rel, dd⟩ := dk_of I.hok e
  refine wpAny_delItem_slot dd.typeIs (by decide) PySem.F.slot_dict_delitem
    (call_meetsIn PySem.F.slot_dict_delitem dd.typeIs PySem.F.entry_dict_delitem (PySem.F.args_dict_delitem_2 _ _) (meets_dict_delitem_pairs (mixKind X.prog X.w) a (kV_is ry)) ⟨vs, dd, by rw [← rel.length]; exact z, by rw [← (rel.val k).isSome_eq]; exact l, fun h' dd' hs => h _ ?_⟩)
  have he : ∃ q, h'.get? a = some q := let ⟨q, _, _, hq, _⟩ := dd'; ⟨q, hq⟩
  exact d_write I (by rw [e]; exact True.intro) hs he (dk_new (Nat.le_trans (dropK_le kvs k) z) hd (rel.drop k) dd')
/-- d.pop(k[, x]), there -/
theorem d_pop {v : V} {more : List Value} {Q : Value → Shared → Prop} (I : Inv X pins σ H s) (e : H a = some (.dK kvs)) (ry : RelV (kV k) u) (l : valV kvs k = some v) (hm : more = [] ∨ ∃ x, more = [x])
    (h : ∀ w' s', Inv X pins σ (upd H a (.dK (dropK kvs k))) s' → RelV v w' → Q w' s') : wpAny (model X.prog X.w) A (call (.builtin "dict.pop") (.ref a :: u :: more)) Q E s := by
  obtain ⟨z, hd, vs, rel, dd⟩ := dk_of I.hok e
  obtain ⟨w', hw, rw'⟩ := RelO.some_of (v := v) (o := valueAt vs k) (by rw [← l]; exact rel.val k)
  have hp : (keyPart u).isSome = true := by
    cases k with
    | inl i => obtain ⟨t, q⟩ := (show ∃ t, u = Value.int i t from ry); subst q; rfl
    | inr x => obtain ⟨t, q⟩ := (show ∃ t, u = Value.str x t from ry); subst q; rfl
  have ha : argsOk "dict.pop" ⟨.ref a :: u :: more, []⟩ := by
    rcases hm with q | ⟨x, q⟩
    · subst q; exact PySem.F.args_dict_pop_2 _ _
    · subst q; exact PySem.F.args_dict_pop_3 _ _ _
  refine call_meetsIn PySem.F.slot_dict_pop dd.typeIs PySem.F.entry_dict_pop ha (meets_dict_pop_there (mixKind X.prog X.w) a (kV_is ry) more hm hp)
    ⟨vs, w', dd, by rw [← rel.length]; exact z, hw, fun h' dd' hs => h w' _ ?_ rw'⟩
  have he : ∃ q, h'.get? a = some q := let ⟨q, _, _, hq, _⟩ := dd'; ⟨q, hq⟩
  exact d_write I (by rw [e]; exact True.intro) hs he (dk_new (Nat.le_trans (dropK_le kvs k) z) hd (rel.drop k) dd')
/-- d.pop(k, x), not there -/
theorem d_popD {r : Value} {Q : Value → Shared → Prop} (I : Inv X pins σ H s) (e : H a = some (.dK kvs)) (ry : RelV (kV k) u) (l : valV kvs k = none) (h : ∀ s', Inv X pins σ H s' → Q r s') :
    wpAny (model X.prog X.w) A (call (.builtin "dict.pop") [.ref a, u, r]) Q E s := by
  obtain ⟨z, hd, vs, rel, dd⟩ := dk_of I.hok e
  have hn : valueAt vs k = none := RelO.none_of (by rw [← l]; exact rel.val k)
  have hp : (keyPart u).isSome = true := by
    cases k with
    | inl i => obtain ⟨t, q⟩ := (show ∃ t, u = Value.int i t from ry); subst q; rfl
    | inr x => obtain ⟨t, q⟩ := (show ∃ t, u = Value.str x t from ry); subst q; rfl
  exact call_meetsIn PySem.F.slot_dict_pop dd.typeIs PySem.F.entry_dict_pop (PySem.F.args_dict_pop_3 _ _ _) (meets_dict_pop_default (mixKind X.prog X.w) a (kV_is ry) hd hp r) ⟨vs, dd, hn, h _ (I.tok _)⟩
/-- d.clear() -/
theorem d_clear {Q : Value → Shared → Prop} (I : Inv X pins σ H s) (e : H a = some (.dK kvs)) (h : ∀ s', Inv X pins σ (upd H a (.dK [])) s' → Q .none s') : wpAny (model X.prog X.w) A (call (.builtin "dict.clear") [.ref a]) Q E s := by
  obtain ⟨z, hd, vs, rel, dd⟩ := dk_of I.hok e
  refine call_meetsIn PySem.F.slot_dict_clear dd.typeIs PySem.F.entry_dict_clear (PySem.F.args_dict_clear_1 _) (meets_dict_clear (mixKind X.prog X.w) a) ⟨vs, dd, by rw [← rel.length]; exact z, fun h' dd' hs => h _ ?_⟩
  have he : ∃ q, h'.get? a = some q := let ⟨q, _, _, hq, _⟩ := dd'; ⟨q, hq⟩
  exact d_write (t' := s.toks) I (by rw [e]; exact True.intro) hs he (dk_new (Nat.zero_le _) hd .nil dd')
/-- len(d) -/
theorem d_len {Q : Value → Shared → Prop} (I : Inv X pins σ H s) (e : Rd H a (.dK kvs)) (h : ∀ t s', Inv X pins σ H s' → Q (.int kvs.length t) s') : wpAny (model X.prog X.w) A (call (.builtin "len") [.ref a]) Q E s := by
  obtain ⟨z, hd, vs, rel, dd⟩ := dk_rd I.hok e
  refine call_len_dict hd dd (by rw [← rel.length]; rw [sizeLine_eq] at z; omega) ?_
  rw [← rel.length]
  exact h _ _ (I.tok _)
/-- if d -/
theorem d_truth {Q : Bool → Shared → Prop} (I : Inv X pins σ H s) (e : Rd H a (.dK kvs)) (h : ∀ s', Inv X pins σ H s' → Q (!kvs.isEmpty) s') : wpAny (model X.prog X.w) A (truthy (.ref a)) Q E s := by
  obtain ⟨z, hd, vs, rel, dd⟩ := dk_rd I.hok e
  refine wpAny_truthy_dict hd dd (by rw [← rel.length]; rw [sizeLine_eq] at z; omega) ?_
  have q : kvs.isEmpty = vs.isEmpty := by cases rel <;> rfl
  rw [← q]
  exact h _ (I.tok _)
end


/-! ### readings and rules -/
/-- the element of a subscription, not a slice -/
def NoSl (i : Expr) : Prop := ∀ ov iv, subscripted i false ov iv = operate [ov, iv] (getItem ov iv)
theorem subD_of {prog : Program} {w : World} {A : Around} {E : Value → Shared → Prop} {s : Shared} {env : Env} {value slice : Expr} {pos : Pos} {T id : String} {Q : Value → Shared → Prop}
    (hl : typeLookup (.type T) "__getitem__" = pure (some (.builtin id))) (hs : NoSl slice)
    (h : wpAny (model prog w) A (eval value env) (fun o s₁ => wpAny (model prog w) A (eval slice env) (fun i s₂ => s₂.TypeIs o T ∧ wpAny (model prog w) A (getItem o i) Q E s₂) E s₁) E s) :
    wpAny (model prog w) A (eval (.Subscript value slice pos) env) Q E s := by
  refine Subscript_ (wpAny_mono h (fun o s₁ h₁ => wpAny_mono h₁ (fun i s₂ h₂ => ?_) fun _ _ x => x) fun _ _ x => x)
  obtain ⟨hT, h₂⟩ := h₂
  unfold subscriptTail
  refine wpAny_bind ?_
  rw [getitemInPython_of_ne hT.not_modules]
  refine wpAny_bind (wpAny_specialOf hT hl ?_)
  have fin : wpAny (model prog w) A (subscripted slice false o i) (fun r s₃ => wpAny (model prog w) A (letTemporaryGo value o r >>= fun _ => pure r) Q E s₃) E s₂ := by
    rw [hs o i]
    exact wpAny_operating (wpAny_mono h₂ (fun r s₃ h₃ => wpAny_bind (wpAny_letTemporaryGo (wpAny_pure h₃))) fun _ _ x => x)
  first
    | exact wpAny_pure (wpAny_bind fin)
    | exact wpAny_bind (wpAny_pure (wpAny_bind fin))
    | exact wpAny_bind fin

theorem dict_typeIs {X : Cx} {pins : List (Addr × Obj)} {σ : St} {H : Hp} {s : Shared} {a : Addr} {y : V} {o : Option V} (I : Inv X pins σ H s) (g : DGet H a y o) : s.TypeIs (.ref a) "dict" := by
  rcases g with ⟨kvs, k, e, _, _⟩ | ⟨kvs, k, b, e, _, _, _⟩
  · obtain ⟨_, _, vs, _, dd⟩ := dk_rd I.hok e
    exact dd.typeIs
  · obtain ⟨_, _, xs, _, dd⟩ := dt_rd I.hok e
    exact dd.typeIs
theorem dict_noDict {X : Cx} {pins : List (Addr × Obj)} {σ : St} {H : Hp} {s : Shared} {a : Addr} {y : V} {o : Option V} (I : Inv X pins σ H s) (g : DGet H a y o) :
    ∀ b, Value.ref a = .ref b → ∃ ob, s.heap.get? b = some ob ∧ ob.dict = none := fun b q => by
  cases q
  rcases g with ⟨kvs, k, e, _, _⟩ | ⟨kvs, k, b, e, _, _, _⟩
  · obtain ⟨_, _, vs, _, ob, _, _, h1, h2, _⟩ := dk_rd I.hok e
    exact ⟨ob, h1, h2.2.1⟩
  · obtain ⟨_, _, xs, _, ob, _, _, h1, h2, _⟩ := dt_rd I.hok e
    exact ⟨ob, h1, h2.2.1⟩

/-- d[y] -/
def tDGet (td ty : TE) : TE := fun σ H Q => td σ H fun x H1 => ty σ H1 fun y H2 => ∃ a v, x = .ref a ∧ DGet H2 a y (some v) ∧ Q v H2
/-- y in d, y not in d -/
def tDIn (ty td : TE) : TE := fun σ H Q => ty σ H fun y H1 => td σ H1 fun x H2 => ∃ a o, x = .ref a ∧ DGet H2 a y o ∧ Q (.bl o.isSome) H2
def tDNotIn (ty td : TE) : TE := fun σ H Q => ty σ H fun y H1 => td σ H1 fun x H2 => ∃ a o, x = .ref a ∧ DGet H2 a y o ∧ Q (.bl (!o.isSome)) H2
/-- d[y] = v -/
def sDPut (td ty tv : TE) : TS := fun D σ H => tv σ H fun v H1 => td σ H1 fun x H2 => ty σ H2 fun y H3 => ∃ a H4, x = .ref a ∧ DPut H3 a y v H4 ∧ D.nx σ H4
/-- d[y] op= v -/
def sDAug (td ty tv : TE) (rd : V → V → Hp → VK → Prop) : TS := fun D σ H => td σ H fun x H1 => ty σ H1 fun y H2 => ∃ a v, x = .ref a ∧ DGet H2 a y (some v) ∧
  tv σ H2 fun y2 H3 => rd v y2 H3 fun z H4 => ∃ H5, DPut H4 a y z H5 ∧ D.nx σ H5
/-- del d[y] -/
def sDDel (td ty : TE) : TS := fun D σ H => td σ H fun x H1 => ty σ H1 fun y H2 => ∃ a kvs k, x = .ref a ∧ H2 a = some (.dK kvs) ∧ y = kV k ∧ (valV kvs k).isSome = true ∧ D.nx σ (upd H2 a (.dK (dropK kvs k)))

section
variable {X : Cx} {o i e value : Expr} {pos pos' tpos : Pos} {td ty tv : TE}
theorem pe_dget (hu : X.A.units + 1 < cLine) (ho : PE X o td) (hi : PE X i ty) (hs : NoSl i) : PE X (.Subscript o i pos) (tDGet td ty) := by
  intro pins s σ H Q I h
  refine subD_of PySem.F.slot_dict_getitem.lookup hs (thn (ho pins s σ H _ I h) fun u s1 ⟨x, H1, I1, rx, q1⟩ => thn (hi pins s1 σ H1 _ I1 q1) fun iv s2 ⟨y, H2, I2, ry, a, v, ex, g, q2⟩ => ?_)
  subst ex
  obtain rfl : u = Value.ref a := rx
  exact ⟨dict_typeIs I2 g, d_getItem hu I2 g ry fun w' s3 I3 rw' => ⟨v, H2, I3, rw', q2⟩⟩
theorem pc_din (hu : X.A.units + 1 < cLine) (hi : PE X i ty) (ho : PE X o td) : PC X .In i o (tDIn ty td) := by
  intro pins s σ H Q I h
  refine thn (hi pins s σ H _ I h) fun iv s1 ⟨y, H1, I1, ry, q1⟩ => thn (ho pins s1 σ H1 _ I1 q1) fun u s2 ⟨x, H2, I2, rx, a, ov, ex, g, q2⟩ => ?_
  subst ex
  obtain rfl : u = Value.ref a := rx
  exact d_in hu I2 g ry fun s3 I3 => ⟨.bl ov.isSome, H2, I3, rfl, q2⟩
theorem pc_dnotin (hu : X.A.units + 1 < cLine) (hi : PE X i ty) (ho : PE X o td) : PC X .NotIn i o (tDNotIn ty td) := by
  intro pins s σ H Q I h
  refine thn (hi pins s σ H _ I h) fun iv s1 ⟨y, H1, I1, ry, q1⟩ => thn (ho pins s1 σ H1 _ I1 q1) fun u s2 ⟨x, H2, I2, rx, a, ov, ex, g, q2⟩ => ?_
  subst ex
  obtain rfl : u = Value.ref a := rx
  exact d_notIn hu I2 g ry fun s3 I3 => ⟨.bl (!ov.isSome), H2, I3, rfl, q2⟩
theorem ps_dput (hu : X.A.units + 1 < cLine) (ho : PE X o td) (hi : PE X i ty) (hv : PE X value tv) (hs : swapsWith value (some (.Subscript o i pos')) pos.line X.env = pure false) :
    PS X (.Assign [.Subscript o i pos'] value pos) (sDPut td ty tv) := by
  intro pins s σ H D I h
  refine wpAny_Assign_Subscript (thn (hv pins s σ H _ I h) fun r s1 ⟨v, H1, I1, rv, q1⟩ => thn (ho pins s1 σ H1 _ I1 q1) fun u s2 ⟨x, H2, I2, rx, q2⟩ => thn (hi pins s2 σ H2 _ I2 q2) fun iv s3 ⟨y, H3, I3, ry, a, H4, ex, g, q3⟩ => ?_) hs
  subst ex
  obtain rfl : u = Value.ref a := rx
  exact d_setItem hu I3 g ry rv fun s4 I4 => ⟨σ, H4, I4, q3⟩
theorem ps_daug {op : Operator} {rd : V → V → Hp → VK → Prop} (hu : X.A.units + 1 < cLine) (ho : PE X o td) (hi : PE X i ty) (hv : PE X value tv) (hop : InOp X op rd)
    (ha : ∀ ov iv new, augStore i ov iv new = (do holding [new, ov, iv] (setItem ov iv new); release [new, ov, iv] []; pure .next)) : PS X (.AugAssign (.Subscript o i tpos) op value pos) (sDAug td ty tv rd) := by
  intro pins s σ H D I h
  refine wpAny_AugAssign_SubscriptAny (thn (ho pins s σ H _ I h) fun u s1 ⟨x, H1, I1, rx, q1⟩ => thn (hi pins s1 σ H1 _ I1 q1) fun iv s2 ⟨y, H2, I2, ry, a, v, ex, g, q2⟩ => ?_) ha
  subst ex
  obtain rfl : u = Value.ref a := rx
  refine d_getItem hu I2 g ry fun w' s3 I3 rw' => thn (hv pins s3 σ H2 _ I3 q2) fun w2 s4 ⟨y2, H3, I4, ry2, q3⟩ => thn (hop pins s4 σ H3 v y2 w' w2 _ I4 rw' ry2 q3) fun w3 s5 ⟨z, H4, I5, rz, H5, g5, q4⟩ => ?_
  exact d_setItem hu I5 g5 ry rz fun s6 I6 => ⟨σ, H5, I6, q4⟩
theorem ps_ddel (ho : PE X o td) (hi : PE X i ty) : PS X (.Delete [.Subscript o i tpos] pos) (sDDel td ty) := by
  intro pins s σ H D I h
  refine wpAny_Delete (wpAny_deleteEach_cons (wpAny_delete_Subscript (thn (ho pins s σ H _ I h) fun u s1 ⟨x, H1, I1, rx, q1⟩ => thn (hi pins s1 σ H1 _ I1 q1) fun iv s2 ⟨y, H2, I2, ry, a, kvs, k, ex, e, ey, l, q2⟩ => ?_)))
  subst ex ey
  obtain rfl : u = Value.ref a := rx
  exact d_delItem I2 e ry l fun s3 I3 => wpAny_deleteEach_nil ⟨σ, _, I3, q2⟩
end


/-! ### displays -/
theorem dk_empty {P : Program} {w : World} {H : Hp} (h : Heap) (hb : sysModules < h.objs.size) : ObjOk P w H (h.push { cls := .type "dict", data := .dict #[] }) h.objs.size (.dK []) :=
  ⟨Nat.zero_le _, beq_eq_false_iff_ne.mpr (Ne.symm (Nat.ne_of_lt hb)), [], .nil, Heap.DictOf.new h⟩
theorem dt_empty {P : Program} {w : World} {H : Hp} (h : Heap) (hb : sysModules < h.objs.size) : ObjOk P w H (h.push { cls := .type "dict", data := .dict #[] }) h.objs.size (.dT []) :=
  ⟨Nat.zero_le _, beq_eq_false_iff_ne.mpr (Ne.symm (Nat.ne_of_lt hb)), [], .nil, _, #[], 0, Heap.get?_push_size _ rfl, ⟨rfl, rfl, rfl⟩, rfl, rfl, List.nodup_nil⟩
/-- {}, to be a dict of the kind that is wanted -/
def tDNewK : TE := fun _ H Q => ∀ p, H p = none → Q (.ref p) (upd H p (.dK []))
def tDNewT : TE := fun _ H Q => ∀ p, H p = none → Q (.ref p) (upd H p (.dT []))
section
variable {X : Cx} {pos : Pos}
theorem pe_dnewK : PE X (.Dict [] [] pos) tDNewK := fun pins s σ H Q I h =>
  wpAny_Dict_empty ⟨.ref s.heap.objs.size, _, I.laid (a := s.heap.objs.size) (o := .dK []) (t' := s.toks) (fun _ _ q => Heap.get?_push_of_some _ q) (Nat.le_refl _) (dk_empty s.heap I.big), rfl, h _ (I.hok.fresh (Nat.le_refl _))⟩
theorem pe_dnewT : PE X (.Dict [] [] pos) tDNewT := fun pins s σ H Q I h =>
  wpAny_Dict_empty ⟨.ref s.heap.objs.size, _, I.laid (a := s.heap.objs.size) (o := .dT []) (t' := s.toks) (fun _ _ q => Heap.get?_push_of_some _ q) (Nat.le_refl _) (dt_empty s.heap I.big), rfl, h _ (I.hok.fresh (Nat.le_refl _))⟩
end

/-- the pairs of a display, from the left -/
def tPairs : List (TE × TE) → St → Hp → (List (V × V) → Hp → Prop) → Prop
  | [], _, H, Q => Q [] H
  | (tk, tv) :: r, σ, H, Q => tk σ H fun x H1 => tv σ H1 fun y H2 => tPairs r σ H2 fun ps H3 => Q ((x, y) :: ps) H3
abbrev VV : List (V × V) → List (Value × Value) → Prop := Paired fun p q => RelV p.1 q.1 ∧ RelV p.2 q.2
def PPs (X : Cx) (pos : Pos) (keys : List (Option Expr)) (values : List Expr) (trs : List (TE × TE)) : Prop :=
  ∀ (pins : List (Addr × Obj)) (s : Shared) (σ : St) (H : Hp) (Q : List (V × V) → Hp → Prop), Inv X pins σ H s → tPairs trs σ H Q →
    wpAny (model X.prog X.w) X.A (evalPairs (pairTrees keys values X.env pos)) (fun vs s' => ∃ ps H', Inv X pins σ H' s' ∧ VV ps vs ∧ Q ps H') X.xe s
theorem pps_nil {X : Cx} {pos : Pos} : PPs X pos [] [] [] := fun pins s σ H Q I h => pairTrees_nil_walk ⟨[], H, I, .nil, h⟩
theorem pps_cons {X : Cx} {pos : Pos} {k v : Expr} {ks : List (Option Expr)} {vs : List Expr} {tk tv : TE} {trs : List (TE × TE)} (hk : PE X k tk) (hv : PE X v tv) (hr : PPs X pos ks vs trs) :
    PPs X pos (some k :: ks) (v :: vs) ((tk, tv) :: trs) := fun pins s σ H Q I h =>
  pairTrees_cons_walk (thn (hk pins s σ H _ I h) fun u s1 ⟨x, H1, I1, rx, q1⟩ => thn (hv pins s1 σ H1 _ I1 q1) fun w2 s2 ⟨y, H2, I2, ry, q2⟩ =>
    thn (hr pins s2 σ H2 _ I2 q2) fun ws s3 ⟨ps, H3, I3, rel, q3⟩ => ⟨(x, y) :: ps, H3, I3, .cons ⟨rx, ry⟩ rel, q3⟩)

def mergeK (kvs more : List (Key × V)) : List (Key × V) := more.foldl (fun acc kv => putK acc kv.1 kv.2) kvs
theorem KV.merge : ∀ {more : List (Key × V)} {rs : List (Key × Value)} {kvs : List (Key × V)} {vs : List (Key × Value)}, KV more rs → KV kvs vs → KV (mergeK kvs more) (merged vs rs) := by
  intro more rs kvs vs r
  unfold KV at r
  induction r generalizing kvs vs with
  | nil => intro q; exact q
  | @cons p q ps qs h t ih =>
    intro r0
    have e : KV (putK kvs p.1 p.2) (stored vs q.1 q.2) := by
      have := r0.put p.1 h.2
      rw [← h.1]; exact this
    exact ih e
theorem length_mergeK : ∀ (more kvs : List (Key × V)), (mergeK kvs more).length ≤ kvs.length + more.length
  | [], kvs => by show kvs.length ≤ kvs.length + 0; omega
  | p :: r, kvs => by
    have h1 := length_mergeK r (putK kvs p.1 p.2)
    have h2 := length_putK kvs p.1 p.2
    show (mergeK (putK kvs p.1 p.2) r).length ≤ _
    rw [List.length_cons]; omega
theorem carries_of {P : Program} {w : World} : ∀ {kvs : List (Key × V)} {ws : List (Value × Value)}, VV (kvs.map fun kv => (kV kv.1, kv.2)) ws → ∃ rs, Carries (mixKind P w) ws rs ∧ KV kvs rs
  | [], _, r => by rw [List.map_nil] at r; cases r; exact ⟨[], True.intro, .nil⟩
  | p :: kvs, _, r => by
    rw [List.map_cons] at r
    cases r with
    | @cons a b as bs h t =>
      obtain ⟨rs, c, q⟩ := carries_of (P := P) (w := w) t
      obtain ⟨b1, b2⟩ := b
      exact ⟨(p.1, b2) :: rs, ⟨kV_is h.1, rfl, c⟩, .cons ⟨rfl, h.2⟩ q⟩
/-- {k: v, ..} with keys ints and texts; the new dict stands empty while the pairs are made -/
def tDisp (trs : List (TE × TE)) : TE := fun σ H Q => ∀ p, H p = none → tPairs trs σ (upd H p (.dK [])) fun ps H2 => H2 p = some (.dK []) ∧ ∃ kvs : List (Key × V), ps = kvs.map (fun kv => (kV kv.1, kv.2)) ∧ kvs.length ≤ 15 ∧ Q (.ref p) (upd H2 p (.dK (mergeK [] kvs)))
theorem pe_disp {X : Cx} {pos : Pos} {keys : List (Option Expr)} {values : List Expr} {trs : List (TE × TE)} (h : PPs X pos keys values trs) (hall : keys.all (·.isSome) = true) (hl : keys.length = values.length) (h0 : keys ≠ [])
    (h15 : keys.length ≤ 15) : PE X (.Dict keys values pos) (tDisp trs) := by
  intro pins s σ H Q I q
  have hn := I.hok.fresh (Nat.le_refl s.heap.objs.size)
  have I1 := I.laid (a := s.heap.objs.size) (o := .dK []) (h' := s.heap.push { cls := .type "dict", data := .dict #[] }) (t' := s.toks) (fun _ _ q => Heap.get?_push_of_some _ q) (Nat.le_refl _) (dk_empty s.heap I.big)
  refine wpAny_Dict_walk (knd := mixKind X.prog X.w) hall hl h0 h15 (thn (h pins _ σ _ _ I1 (q _ hn)) fun ws s2 ⟨ps, H2, I2, rel, e, kvs, ep, lk, q2⟩ => ?_)
  subst ep
  obtain ⟨rs, c, rk⟩ := carries_of (P := X.prog) (w := X.w) rel
  obtain ⟨z, hd, vs0, r0, dd⟩ := dk_of I2.hok e
  cases r0
  refine ⟨rs, c, dd, fun h' dd' hs => ⟨.ref s.heap.objs.size, _, ?_, rfl, q2⟩⟩
  have hz : (mergeK [] kvs).length ≤ sizeLine := by
    have h1 := length_mergeK kvs []
    rw [List.length_nil] at h1
    rw [sizeLine_eq]; omega
  have he : ∃ q, h'.get? s.heap.objs.size = some q := let ⟨q, _, _, hq, _⟩ := dd'; ⟨q, hq⟩
  exact d_write I2 (by rw [e]; exact True.intro) hs he (dk_new hz hd (rk.merge .nil) dd')


/-! ### methods -/
/-- a method call o.m(e) of a built-in, with one argument: what must be seen of the text -/
structure M1 (X : Cx) (o : Expr) (m : Str) (apos : Pos) (e : Expr) (cpos : Pos) : Prop where
  base : attributeBase o m X.env (eval o X.env) = eval o X.env
  few : ((backTo cpos (starEach [e] X.env)).all (fun x => !x.1) && (backToKw cpos (keywordEach [] X.env)).all (fun x => x.1.isSome)
    && decide (([e] : List Expr).length + ([] : List Keyword).length + (if ([] : List Keyword).isEmpty then 0 else 1) < 30)) = true
  line : (apos.endLine == cpos.line) = true
  trees : backTo cpos (starEach [e] X.env) = [(false, eval e X.env)]
structure M2 (X : Cx) (o : Expr) (m : Str) (apos : Pos) (e f : Expr) (cpos : Pos) : Prop where
  base : attributeBase o m X.env (eval o X.env) = eval o X.env
  few : ((backTo cpos (starEach [e, f] X.env)).all (fun x => !x.1) && (backToKw cpos (keywordEach [] X.env)).all (fun x => x.1.isSome)
    && decide (([e, f] : List Expr).length + ([] : List Keyword).length + (if ([] : List Keyword).isEmpty then 0 else 1) < 30)) = true
  line : (apos.endLine == cpos.line) = true
  trees : backTo cpos (starEach [e, f] X.env) = [(false, eval e X.env), (false, eval f X.env)]

/-- a is a dict, whatever its keys -/
def IsD (H : Hp) (a : Addr) : Prop := (∃ kvs, Rd H a (.dK kvs)) ∨ ∃ kvs, Rd H a (.dT kvs)
theorem isD_at {X : Cx} {pins : List (Addr × Obj)} {σ : St} {H : Hp} {s : Shared} {a : Addr} (I : Inv X pins σ H s) (d : IsD H a) :
    s.TypeIs (.ref a) "dict" ∧ (∀ b, Value.ref a = .ref b → ∃ ob, s.heap.get? b = some ob ∧ ob.dict = none) ∧ (a == sysModules) = false := by
  rcases d with ⟨kvs, e⟩ | ⟨kvs, e⟩
  · obtain ⟨_, hd, vs, _, dd⟩ := dk_rd I.hok e
    refine ⟨dd.typeIs, fun b q => ?_, hd⟩
    cases q
    obtain ⟨ob, _, _, h1, h2, _⟩ := dd
    exact ⟨ob, h1, h2.2.1⟩
  · obtain ⟨_, hd, xs, _, dd⟩ := dt_rd I.hok e
    refine ⟨dd.typeIs, fun b q => ?_, hd⟩
    cases q
    obtain ⟨ob, _, _, h1, h2, _⟩ := dd
    exact ⟨ob, h1, h2.2.1⟩

section
variable {X : Cx} {pins : List (Addr × Obj)} {σ : St} {H : Hp} {s : Shared} {a : Addr} {y d : V} {u r : Value} {o : Option V} {A : Around} {E : Value → Shared → Prop}
/-- d.get(y) -/
theorem d_get1 {Q : Value → Shared → Prop} (hu : A.units + 1 < cLine) (I : Inv X pins σ H s) (g : DGet H a y o) (ry : RelV y u) (h : ∀ w' s', Inv X pins σ H s' → RelV (o.getD .non) w' → Q w' s') :
    wpAny (model X.prog X.w) A (call (.builtin "dict.get") [.ref a, u]) Q E s := by
  rcases g with ⟨kvs, k, e, ey, l⟩ | ⟨kvs, k, b, e, ey, eb, l⟩
  · subst ey
    obtain ⟨z, hd, vs, rel, dd⟩ := dk_rd I.hok e
    refine call_meetsIn PySem.F.slot_dict_get dd.typeIs PySem.F.entry_dict_get (PySem.F.args_dict_get_2 _ _) (meets_dict_get (mixKind X.prog X.w) a (kV_is ry) hd) ⟨_, dd.mapOf, h _ _ (I.tok _) ?_⟩
    rw [l]
    exact (rel.val k).getD rfl
  · subst ey
    cases (show u = Value.ref b from ry)
    obtain ⟨z, hd, xs, rel, dd⟩ := dt_rd I.hok e
    refine call_meetsIn PySem.F.slot_dict_get dd.typeIs PySem.F.entry_dict_get (PySem.F.args_dict_get_2 _ _) (meetsH_dict_get (tupleKind (mixKind X.prog X.w)) a b hd) ⟨tupleKind_room_in1 hu, k, xs, key_of I.hok eb, dd, h _ _ (I.tok _) ?_⟩
    rw [l]
    exact (rel.val k).getD rfl
/-- d.get(y, x) -/
theorem d_get2 {Q : Value → Shared → Prop} (hu : A.units + 1 < cLine) (I : Inv X pins σ H s) (g : DGet H a y o) (ry : RelV y u) (rd : RelV d r) (h : ∀ w' s', Inv X pins σ H s' → RelV (o.getD d) w' → Q w' s') :
    wpAny (model X.prog X.w) A (call (.builtin "dict.get") [.ref a, u, r]) Q E s := by
  rcases g with ⟨kvs, k, e, ey, l⟩ | ⟨kvs, k, b, e, ey, eb, l⟩
  · subst ey
    obtain ⟨z, hd, vs, rel, dd⟩ := dk_rd I.hok e
    refine call_meetsIn PySem.F.slot_dict_get dd.typeIs PySem.F.entry_dict_get (PySem.F.args_dict_get_3 _ _ _) (meets_dict_get_default (mixKind X.prog X.w) a (kV_is ry) hd r) ⟨_, dd.mapOf, h _ _ (I.tok _) ?_⟩
    rw [l]
    exact (rel.val k).getD rd
  · subst ey
    cases (show u = Value.ref b from ry)
    obtain ⟨z, hd, xs, rel, dd⟩ := dt_rd I.hok e
    refine call_meetsIn PySem.F.slot_dict_get dd.typeIs PySem.F.entry_dict_get (PySem.F.args_dict_get_3 _ _ _) (meetsH_dict_get_default (tupleKind (mixKind X.prog X.w)) a b hd r) ⟨tupleKind_room_in1 hu, k, xs, key_of I.hok eb, dd, h _ _ (I.tok _) ?_⟩
    rw [l]
    exact (rel.val k).getD rd
end

def tDGet1 (td ty : TE) : TE := fun σ H Q => td σ H fun x H1 => ∃ a, x = .ref a ∧ IsD H1 a ∧ ty σ H1 fun y H2 => ∃ o, DGet H2 a y o ∧ Q (o.getD .non) H2
def tDGet2 (td ty tx : TE) : TE := fun σ H Q => td σ H fun x H1 => ∃ a, x = .ref a ∧ IsD H1 a ∧ ty σ H1 fun y H2 => tx σ H2 fun z H3 => ∃ o, DGet H3 a y o ∧ Q (o.getD z) H3
/-- d.pop(k): there; d.pop(k, x): there or not -/
def tDPop1 (td ty : TE) : TE := fun σ H Q => td σ H fun x H1 => ∃ a, x = .ref a ∧ IsD H1 a ∧ ty σ H1 fun y H2 => ∃ kvs k v, H2 a = some (.dK kvs) ∧ y = kV k ∧ valV kvs k = some v ∧ Q v (upd H2 a (.dK (dropK kvs k)))
def tDPop2 (td ty tx : TE) : TE := fun σ H Q => td σ H fun x H1 => ∃ a, x = .ref a ∧ IsD H1 a ∧ ty σ H1 fun y H2 => tx σ H2 fun z H3 => ∃ kvs k, H3 a = some (.dK kvs) ∧ y = kV k ∧
  (∀ v, valV kvs k = some v → Q v (upd H3 a (.dK (dropK kvs k)))) ∧ (valV kvs k = none → Q z H3)
section
variable {X : Cx} {o e f : Expr} {apos cpos : Pos} {td ty tx : TE}
theorem pe_dget1 (hu : X.A.units + 1 < cLine) (ho : PE X o td) (he : PE X e ty) (m : M1 X o "get" apos e cpos) : PE X (.Call (.Attribute o "get" apos) [e] [] cpos) (tDGet1 td ty) := by
  intro pins s σ H Q I h
  refine wpAny_Call_method m.base m.few m.line PySem.F.plainAttrs_dict PySem.F.slot_dict_get PySem.F.type_dict_get (thn (ho pins s σ H _ I h) fun u s1 ⟨x, H1, I1, rx, a, ex, d, q1⟩ => ?_)
  subst ex
  obtain rfl : u = Value.ref a := rx
  obtain ⟨t1, t2, _⟩ := isD_at I1 d
  refine ⟨t1, t2, ?_⟩
  rw [m.trees]
  refine Calls.callWith_builtin rfl (Calls.evalArgs_plain (Calls.spliced_cons (thn (he pins s1 σ H1 _ I1 q1) fun iv s2 ⟨y, H2, I2, ry, ov, g, q2⟩ => Calls.spliced_nil ?_)))
  exact d_get1 hu I2 g ry fun w' s3 I3 rw' => ⟨_, H2, I3, rw', q2⟩
theorem pe_dget2 (hu : X.A.units + 1 < cLine) (ho : PE X o td) (he : PE X e ty) (hf : PE X f tx) (m : M2 X o "get" apos e f cpos) : PE X (.Call (.Attribute o "get" apos) [e, f] [] cpos) (tDGet2 td ty tx) := by
  intro pins s σ H Q I h
  refine wpAny_Call_method m.base m.few m.line PySem.F.plainAttrs_dict PySem.F.slot_dict_get PySem.F.type_dict_get (thn (ho pins s σ H _ I h) fun u s1 ⟨x, H1, I1, rx, a, ex, d, q1⟩ => ?_)
  subst ex
  obtain rfl : u = Value.ref a := rx
  obtain ⟨t1, t2, _⟩ := isD_at I1 d
  refine ⟨t1, t2, ?_⟩
  rw [m.trees]
  refine Calls.callWith_builtin rfl (Calls.evalArgs_plain (Calls.spliced_cons (thn (he pins s1 σ H1 _ I1 q1) fun iv s2 ⟨y, H2, I2, ry, q2⟩ =>
    Calls.spliced_cons (thn (hf pins s2 σ H2 _ I2 q2) fun fv s3 ⟨z, H3, I3, rz, ov, g, q3⟩ => Calls.spliced_nil ?_))))
  exact d_get2 hu I3 g ry rz fun w' s4 I4 rw' => ⟨_, H3, I4, rw', q3⟩
theorem pe_dpop1 (ho : PE X o td) (he : PE X e ty) (m : M1 X o "pop" apos e cpos) : PE X (.Call (.Attribute o "pop" apos) [e] [] cpos) (tDPop1 td ty) := by
  intro pins s σ H Q I h
  refine wpAny_Call_method m.base m.few m.line PySem.F.plainAttrs_dict PySem.F.slot_dict_pop PySem.F.type_dict_pop (thn (ho pins s σ H _ I h) fun u s1 ⟨x, H1, I1, rx, a, ex, d, q1⟩ => ?_)
  subst ex
  obtain rfl : u = Value.ref a := rx
  obtain ⟨t1, t2, _⟩ := isD_at I1 d
  refine ⟨t1, t2, ?_⟩
  rw [m.trees]
  refine Calls.callWith_builtin rfl (Calls.evalArgs_plain (Calls.spliced_cons (thn (he pins s1 σ H1 _ I1 q1) fun iv s2 ⟨y, H2, I2, ry, kvs, k, v, ea, ey, l, q2⟩ => Calls.spliced_nil ?_)))
  subst ey
  exact d_pop I2 ea ry l (.inl rfl) fun w' s3 I3 rw' => ⟨v, _, I3, rw', q2⟩
theorem pe_dpop2 (ho : PE X o td) (he : PE X e ty) (hf : PE X f tx) (m : M2 X o "pop" apos e f cpos) : PE X (.Call (.Attribute o "pop" apos) [e, f] [] cpos) (tDPop2 td ty tx) := by
  intro pins s σ H Q I h
  refine wpAny_Call_method m.base m.few m.line PySem.F.plainAttrs_dict PySem.F.slot_dict_pop PySem.F.type_dict_pop (thn (ho pins s σ H _ I h) fun u s1 ⟨x, H1, I1, rx, a, ex, d, q1⟩ => ?_)
  subst ex
  obtain rfl : u = Value.ref a := rx
  obtain ⟨t1, t2, _⟩ := isD_at I1 d
  refine ⟨t1, t2, ?_⟩
  rw [m.trees]
  refine Calls.callWith_builtin rfl (Calls.evalArgs_plain (Calls.spliced_cons (thn (he pins s1 σ H1 _ I1 q1) fun iv s2 ⟨y, H2, I2, ry, q2⟩ =>
    Calls.spliced_cons (thn (hf pins s2 σ H2 _ I2 q2) fun fv s3 ⟨z, H3, I3, rz, kvs, k, ea, ey, q3, q4⟩ => Calls.spliced_nil ?_))))
  subst ey
  cases l : valV kvs k with
  | some v => exact d_pop I3 ea ry l (.inr ⟨fv, rfl⟩) fun w' s4 I4 rw' => ⟨v, _, I4, rw', q3 v l⟩
  | none => exact d_popD I3 ea ry l fun s4 I4 => ⟨z, H3, I4, rz, q4 l⟩
end

/-! ### dict(d): a copy -/
section
variable {X : Cx} {pins : List (Addr × Obj)} {σ : St} {H : Hp} {s : Shared} {a : Addr} {kvs : List (Key × V)} {A : Around} {E : Value → Shared → Prop}
theorem d_copyOf {Q : Value → Shared → Prop} (I : Inv X pins σ H s) (e : Rd H a (.dK kvs)) (h : ∀ p s', H p = none → Inv X pins σ (upd H p (.dK kvs)) s' → Q (.ref p) s') : wpAny (model X.prog X.w) A (call (.type "dict") [.ref a]) Q E s := by
  obtain ⟨z, hd, vs, rel, dd⟩ := dk_rd I.hok e
  refine kt_call_dict hd dd (by rw [← rel.length]; exact z) fun h' dd' hs => ?_
  refine h _ _ (I.hok.fresh (Nat.le_refl _)) (I.laid (a := s.heap.objs.size) (o := .dK kvs) (t' := s.toks) (fun b q hq => ?_) (Nat.le_refl _) (dk_new z (beq_eq_false_iff_ne.mpr (Ne.symm (Nat.ne_of_lt I.big))) rel dd'))
  exact (hs.2 b (Nat.ne_of_lt (Heap.lt_size hq))).trans (Heap.get?_push_of_some _ hq)
end


section
variable {X : Cx} {pins : List (Addr × Obj)} {σ : St} {H : Hp} {s : Shared} {a : Addr} {y : V} {u : Value} {A : Around} {E : Value → Shared → Prop}
/-- d[y], not there: a KeyError -/
theorem d_missing {Q : Value → Shared → Prop} (hu : A.units + 1 < cLine) (hh : A.handled = none) (I : Inv X pins σ H s) (g : DGet H a y none) (ry : RelV y u)
    (h : ∀ h' e t', Heap.NewExc s.heap h' e "KeyError" → E (.ref e) { s with heap := h', toks := t' }) : wpAny (model X.prog X.w) A (getItem (.ref a) u) Q E s := by
  rcases g with ⟨kvs, k, e, ey, l⟩ | ⟨kvs, k, b, e, ey, eb, l⟩
  · subst ey
    obtain ⟨z, hd, vs, rel, dd⟩ := dk_rd I.hok e
    have hn : valueAt vs k = none := RelO.none_of (by rw [l]; exact rel.val k)
    exact wpAny_getItem_missing_of (kV_is ry) hd hh dd.mapOf hn fun h' ex ne => h h' ex _ ne
  · subst ey
    cases (show u = Value.ref b from ry)
    obtain ⟨z, hd, xs, rel, dd⟩ := dt_rd I.hok e
    have hn : (atKey xs k).map (·.2) = none := RelO.none_of (by rw [l]; exact rel.val k)
    exact wpAny_getItem_missing_heap (tupleKind_room_in1 hu) (key_of I.hok eb) hd hh dd (Option.map_eq_none_iff.mp hn) fun h' ex ne => h h' ex _ ne
end
section
variable {X : Cx}
/-- len of a dict -/
theorem call_lenD : CallR X (.builtin "len") (fun xs H Q => ∃ a kvs, xs = [V.ref a] ∧ H a = some (.dK kvs) ∧ Q (.int kvs.length) H) := by
  intro pins s σ H xs us Q I r h
  obtain ⟨a, kvs, rfl, ha, q⟩ := h
  obtain ⟨u, rfl, ru⟩ := vals1 r
  cases ru
  exact d_len I (.inl ha) fun t s' I' => ⟨.int kvs.length, H, I', ⟨t, rfl⟩, q⟩
end
/-! ### a dict's pairs: keys that differ -/
section
variable {κ : Type} [DecidableEq κ]
theorem valV_not {kvs : List (κ × V)} {k : κ} (h : valV kvs k = none) : ¬ k ∈ kvs.map (·.1) := by
  intro m
  obtain ⟨p, hp, e⟩ := List.mem_map.mp m
  have q : (kvs.any fun kv => decide (kv.1 = k)) = true := List.any_eq_true.mpr ⟨p, hp, decide_eq_true e⟩
  rw [valV_any, h] at q
  exact absurd q (by simp)
theorem valV_in {kvs : List (κ × V)} {k : κ} {v : V} (h : valV kvs k = some v) : k ∈ kvs.map (·.1) := by
  have q : (kvs.any fun kv => decide (kv.1 = k)) = true := by
    rw [valV_any, h]
    all_goals rfl
  obtain ⟨p, hp, e⟩ := List.any_eq_true.mp q
  exact List.mem_map.mpr ⟨p, hp, of_decide_eq_true e⟩
theorem nd_snoc : ∀ {l : List κ} {k : κ}, l.Nodup → ¬ k ∈ l → (l ++ [k]).Nodup
  | [], k, _, _ => by simp
  | a :: r, k, h, hk => by
    obtain ⟨h1, h2⟩ := List.nodup_cons.mp h
    show (a :: (r ++ [k])).Nodup
    refine List.nodup_cons.mpr ⟨fun m => ?_, nd_snoc h2 fun m => hk (List.mem_cons.mpr (Or.inr m))⟩
    rcases List.mem_append.mp m with q | q
    · exact h1 q
    · exact hk (List.mem_cons.mpr (Or.inl (List.mem_singleton.mp q).symm))
theorem nd_putK {kvs : List (κ × V)} {k : κ} (v : V) (hn : (kvs.map (·.1)).Nodup) (h : valV kvs k = none) : ((putK kvs k v).map (·.1)).Nodup := by
  rw [putK_new v h, List.map_append]
  exact nd_snoc hn (valV_not h)
theorem dropK_pos {p : κ × V} {r : List (κ × V)} {k : κ} (e : p.1 = k) : dropK (p :: r) k = dropK r k := by
  unfold dropK
  rw [List.filter_cons, if_neg (by simp [e])]
theorem dropK_neg {p : κ × V} {r : List (κ × V)} {k : κ} (e : ¬ p.1 = k) : dropK (p :: r) k = p :: dropK r k := by
  unfold dropK
  rw [List.filter_cons, if_pos (by simp [e])]
theorem dropK_no : ∀ {kvs : List (κ × V)} {k : κ}, ¬ k ∈ kvs.map (·.1) → dropK kvs k = kvs
  | [], _, _ => rfl
  | p :: r, k, h => by
    have h' : ¬ k ∈ r.map (·.1) := fun m => by
      obtain ⟨q, hq, e⟩ := List.mem_map.mp m
      exact h (List.mem_map.mpr ⟨q, List.mem_cons.mpr (Or.inr hq), e⟩)
    rw [dropK_neg fun e => h (List.mem_map.mpr ⟨p, List.mem_cons.mpr (Or.inl rfl), e⟩), dropK_no h']
theorem dropK_mem {kvs : List (κ × V)} {k : κ} {p : κ × V} (h : p ∈ dropK kvs k) : p ∈ kvs := (List.mem_filter.mp h).1
theorem nd_dropK : ∀ {kvs : List (κ × V)} {k : κ}, (kvs.map (·.1)).Nodup → ((dropK kvs k).map (·.1)).Nodup
  | [], _, _ => List.nodup_nil
  | p :: r, k, h => by
    have h : (p.1 :: r.map (·.1)).Nodup := h
    obtain ⟨h1, h2⟩ := List.nodup_cons.mp h
    by_cases e : p.1 = k
    · rw [dropK_pos e]
      exact nd_dropK h2
    · rw [dropK_neg e]
      show (p.1 :: (dropK r k).map (·.1)).Nodup
      refine List.nodup_cons.mpr ⟨fun m => h1 ?_, nd_dropK h2⟩
      obtain ⟨q, hq, eq⟩ := List.mem_map.mp m
      exact List.mem_map.mpr ⟨q, dropK_mem hq, eq⟩
theorem dropK_len : ∀ {kvs : List (κ × V)} {k : κ}, (kvs.map (·.1)).Nodup → k ∈ kvs.map (·.1) → (dropK kvs k).length + 1 = kvs.length
  | [], _, _, m => by simp at m
  | p :: r, k, h, m => by
    have h : (p.1 :: r.map (·.1)).Nodup := h
    have m : k = p.1 ∨ k ∈ r.map (·.1) := List.mem_cons.mp m
    obtain ⟨h1, h2⟩ := List.nodup_cons.mp h
    by_cases e : p.1 = k
    · subst e
      rw [dropK_pos rfl, dropK_no h1]
      all_goals rfl
    · have m' : k ∈ r.map (·.1) := m.resolve_left fun z => e z.symm
      have q := dropK_len h2 m'
      rw [dropK_neg e, List.length_cons, List.length_cons]
      omega
end
end L2

set_option Elab.async false
set_option linter.all false
set_option maxRecDepth 100000
set_option maxHeartbeats 4000000
namespace L2
open PySem PySem.Spec PyProof.Rows
theorem hu1 {n : Nat} (h : n + 64 < cLine) : n + 1 < cLine := by omega
section
variable {X : Cx}
/-! ### d.setdefault(k, v) -/
def rSetD : V → List V → Hp → VK → Prop := fun x vs H Q => ∃ a kvs k v, x = .ref a ∧ vs = [kV k, v] ∧ H a = some (.dK kvs) ∧ kvs.length < sizeLine ∧ (∀ w, valV kvs k = some w → Q w H) ∧ (valV kvs k = none → Q v (upd H a (.dK (putK kvs k v))))
theorem mt_setd : MtR X "dict.setdefault" rSetD := by
  intro pins s σ H x vs v us Q I rx rv h
  obtain ⟨a, kvs, k, d, rfl, rfl, e, hl, q1, q2⟩ := h
  cases rx
  obtain ⟨u, w, rfl, ru, rw'⟩ := rv.two
  obtain ⟨z, hd, ws, rel, dd⟩ := dk_of I.hok e
  have hlen : (putK kvs k d).length ≤ sizeLine := by have := length_putK kvs k d; omega
  refine call_meetsIn PySem.F.slot_dict_setdefault dd.typeIs PySem.F.entry_dict_setdefault (PySem.F.args_dict_setdefault_3 _ _ _) (kt_meets_setdefault (mixKind X.prog X.w) a (kV_is ru) hd w) ⟨ws, dd, by rw [← rel.length]; exact z, fun y hy => ?_, fun hn h' dd' hs => ?_⟩
  · have r := rel.val k
    rw [hy] at r
    cases e2 : valV kvs k with
    | none => rw [e2] at r; have z := r.isSome_eq; cases z
    | some t =>
      rw [e2] at r
      exact ⟨t, H, I.tok _, r, q1 t e2⟩
  · have e2 : valV kvs k = none := by
      have r := (rel.val k).isSome_eq
      rw [hn] at r
      cases e3 : valV kvs k with
      | none => rfl
      | some t => rw [e3] at r; cases r
    have he : ∃ q, h'.get? a = some q := let ⟨q, _, _, hq, _⟩ := dd'; ⟨q, hq⟩
    exact ⟨d, _, d_write I (by rw [e]; exact True.intro) hs he (dk_new hlen hd (rel.put k rw') dd'), rw', q2 e2⟩
theorem tyV_dK {K : PySem.W.Frag} {H : Hp} {a : Addr} {kvs : List (Key × V)} (h : H a = some (.dK kvs)) : tyV K "dict" (.ref a) H := .inr (.inr (.inl ⟨rfl, .inl ⟨kvs, h⟩⟩))
/-! ### l[i] = v, read off the heap -/
def setC : TSet
  | .ref p, .int k, v, H, Q => match H p with
    | some (.lst xs) => match ixN xs.length k with
      | some j => Q (upd H p (.lst (xs.set j v)))
      | none => False
    | _ => False
  | _, _, _, _, _ => False
theorem set_C : PSet X setC := by
  intro pins s σ H o i v ov iv u Q I ro ri rv h
  match o, i, h with
  | .ref p, .int k, h =>
    have h' : (match H p with | some (.lst xs) => (match ixN xs.length k with | some j => Q (upd H p (.lst (xs.set j v))) | none => False) | _ => False) := h
    cases e : H p with
    | none => rw [e] at h'; exact h'.elim
    | some ob =>
      rw [e] at h'
      cases ob with
      | lst xs =>
        have h2 : (match ixN xs.length k with | some j => Q (upd H p (.lst (xs.set j v))) | none => False) := h'
        cases e2 : ixN xs.length k with
        | none => rw [e2] at h2; exact h2.elim
        | some j => rw [e2] at h2; exact set_list pins s σ H _ _ v ov iv u Q I ro ri rv ⟨p, xs, k, j, rfl, rfl, e, e2, h2⟩
      | _ => exact h'.elim
theorem ixN_nat {n k : Nat} (h : k < n) : ixN n (k : Int) = some k := by
  unfold ixN
  first
    | (rw [if_pos (by omega)]; simp; omega)
    | (simp; omega)
    | (split <;> simp <;> omega)
theorem setC_at {H : Hp} {p : Addr} {xs : List V} {k : Int} {j : Nat} {v : V} {Q : Hp → Prop} (h : H p = some (.lst xs)) (e : k = (j : Int)) (hj : j < xs.length) : setC (.ref p) (.int k) v H Q = Q (upd H p (.lst (xs.set j v))) := by
  subst e
  show (match H p with | some (.lst xs) => (match ixN xs.length (j : Int) with | some j => Q (upd H p (.lst (xs.set j v))) | none => False) | _ => False) = _
  rw [h]
  show (match ixN xs.length (j : Int) with | some j => Q (upd H p (.lst (xs.set j v))) | none => False) = _
  rw [ixN_nat hj]
end
/-! ### enumerate(a list) -/
def Ite (K : PySem.W.Frag) (a : Addr) : It :=
  ⟨fun i H => ∃ xs x, SqL K H a xs ∧ xs[i]? = some x, fun i H v H' => ∃ p x, v = .ref p ∧ H p = none ∧ H' = upd H p (.tup [.int (i : Nat), x]) ∧ ∀ xs, SqL K H a xs → xs[i]? = some x, fun i H => ∃ xs, SqL K H a xs ∧ xs.length ≤ i⟩
section
variable {X : Cx} {pins : List (Addr × Obj)} {σ : St} {H : Hp} {s : Shared} {h' : Heap}
theorem Inv.turned2 {t' : Nat} {e it : Addr} (I : Inv X pins σ H s) (k : ∀ b o, b ≠ e → b ≠ it → s.heap.get? b = some o → h'.get? b = some o) (fe : FpOk X pins H e) (fi : FpOk X pins H it) : Inv X pins σ H { s with heap := h', toks := t' } := by
  obtain ⟨f0, f1, f2, f3, f4, f5⟩ := fe
  obtain ⟨g0, g1, g2, g3, g4, g5⟩ := fi
  have ne : ∀ b u, H b = some u → b ≠ e := fun b u e z => by rw [z, f0] at e; cases e
  have nit : ∀ b u, H b = some u → b ≠ it := fun b u e z => by rw [z, g0] at e; cases e
  refine I.step (g' := s.gens) (d' := s.drawn) (ch := [e, it]) (fun b hb => ?_) (fun b o _ _ hc q _ => k b o (fun z => hc (by simp [z])) (fun z => hc (by simp [z])) q) (fun b o _ _ hc q _ => ⟨o.slots, k b o (fun z => hc (by simp [z])) (fun z => hc (by simp [z])) q⟩) (fun _ _ _ _ n => n)
    (fun b o hc q => ⟨o, k b o (fun z => hc (by simp [z])) (fun z => hc (by simp [z])) q⟩) (fun _ _ e => e) (fun _ _ _ e => e) (fun b ps e => ⟨#[], by rw [e]; simp⟩) (fun m hm => ?_) (fun b u q => ?_) I.bare
  · rcases List.mem_cons.mp hb with z | z
    · subst z; exact ⟨f3, f1, f4, f5⟩
    · have z := List.mem_singleton.mp z
      subst z; exact ⟨g3, g1, g4, g5⟩
  · obtain ⟨o, es, ep, ho, r⟩ := hm
    exact ⟨o, es, ep, k _ o (Ne.symm f1) (Ne.symm g1) ho, r⟩
  · refine (I.hok b u q).stay (fun c v hc q2 => k c v ?_ ?_ q2) (fun _ q => q) fun _ _ q => q
    · rcases hc with z | z
      · rw [z]; exact ne b u q
      · exact ne c _ z
    · rcases hc with z | z
      · rw [z]; exact nit b u q
      · exact nit c _ z
theorem Inv.turnedT {t' : Nat} {e it : Addr} {ys : List V} {its : List Value} (I : Inv X pins σ H s) (k : ∀ b o, b ≠ e → b ≠ it → s.heap.get? b = some o → h'.get? b = some o) (fe : FpOk X pins H e) (fi : FpOk X pins H it)
    (ht : IsTup h' s.heap.objs.size its.toArray) (hv : Vals ys its) (hz : ys.length ≤ sizeLine) : Inv X pins σ (upd H s.heap.objs.size (.tup ys)) { s with heap := h', toks := t' } := by
  have hn : H s.heap.objs.size = none := I.hok.fresh (Nat.le_refl _)
  obtain ⟨f0, f1, f2, f3, f4, f5⟩ := fe
  obtain ⟨g0, g1, g2, g3, g4, g5⟩ := fi
  have ne : ∀ b u, H b = some u → b ≠ e := fun b u e z => by rw [z, f0] at e; cases e
  have nit : ∀ b u, H b = some u → b ≠ it := fun b u e z => by rw [z, g0] at e; cases e
  refine I.step (g' := s.gens) (d' := s.drawn) (ch := [e, it]) (fun b hb => ?_) (fun b o _ _ hc q _ => k b o (fun z => hc (by simp [z])) (fun z => hc (by simp [z])) q) (fun b o _ _ hc q _ => ⟨o.slots, k b o (fun z => hc (by simp [z])) (fun z => hc (by simp [z])) q⟩) (fun b o _ q n => ?_)
    (fun b o hc q => ⟨o, k b o (fun z => hc (by simp [z])) (fun z => hc (by simp [z])) q⟩) (fun b xs q => ?_) (fun b _ _ q => ?_) (fun b ps q => ⟨#[], ?_⟩) (fun m hm => ?_) (fun b u q => ?_) I.bare
  · rcases List.mem_cons.mp hb with z | z
    · subst z; exact ⟨f3, f1, f4, f5⟩
    · have z := List.mem_singleton.mp z
      subst z; exact ⟨g3, g1, g4, g5⟩
  · rw [upd_ne (Nat.ne_of_lt (Heap.lt_size q))]; exact n
  · rw [upd_ne (ne_of_none q hn)]; exact q
  · rw [upd_ne (ne_of_none q hn)]; exact q
  · rw [upd_ne (ne_of_none q hn), q]; simp
  · obtain ⟨o, es, ep, ho, r⟩ := hm
    exact ⟨o, es, ep, k _ o (Ne.symm f1) (Ne.symm g1) ho, r⟩
  · by_cases hb : b = s.heap.objs.size
    · subst hb
      rw [upd_same] at q
      cases q
      exact ⟨hz, its, hv, ht⟩
    · rw [upd_ne hb] at q
      refine (I.hok b u q).stay (fun c v hc q2 => k c v ?_ ?_ q2) (fun c q => by rw [upd_ne (ne_of_none q hn)]; exact q) fun c xs q => by rw [upd_ne (ne_of_none q hn)]; exact q
      · rcases hc with z | z
        · rw [z]; exact ne b u q
        · exact ne c _ z
      · rcases hc with z | z
        · rw [z]; exact nit b u q
        · exact nit c _ z
end
theorem turn_enum {P : Program} {w : World} {K : PySem.W.Frag} {elts : List Expr} {x1 : Nat} {tp : Pos} (a e it : Addr) (hne : e ≠ it) : Turn P w K (.Tuple elts x1 tp) (Ite K a) [e, it] e (fun i h => (∃ old, IsEnum h e it (i : Nat) old) ∧ h.IsListIter it a i) where
  mem := by simp
  obj := fun i h st b hb => by
    obtain ⟨⟨old, he⟩, hi⟩ := st
    rcases List.mem_cons.mp hb with z | z
    · subst z
      exact ⟨_, he, fun v z => by cases z⟩
    · have z := List.mem_singleton.mp z
      subst z
      obtain ⟨o, e, c, d⟩ := hi
      exact ⟨o, e, fun v z => by rw [d] at z; cases z⟩
  keep := fun i h h' st k => ⟨st.1.imp fun old he => k e (by simp) _ he, st.2.at fun o q => k it (by simp) o q⟩
  item := by
    intro X hP hw hK hc i pins s σ H E I hf st hg
    subst hP hw hK
    obtain ⟨xs, x, hq, hx⟩ := hg
    obtain ⟨its, rv, p, hz⟩ := I.list hq
    obtain ⟨u, hu, ru⟩ := rv.get hx
    have fe := hf e (by simp)
    have fi := hf it (by simp)
    obtain ⟨⟨old, he⟩, hi⟩ := st
    have hel : e < s.heap.objs.size := Heap.lt_size he
    have hil : it < s.heap.objs.size := by obtain ⟨o, q, _⟩ := hi; exact Heap.lt_size q
    refine wpAny_pyNext_enum_item he hi p.isList (x := u) (by simpa using hu) hne fun h1 ho hi1 ht hsz hk => ?_
    refine ⟨_, rfl, wpAny_letOwnedTupleGo_enum ho fun h2 he2 hs2 => ?_⟩
    have hk2 : ∀ b o, b ≠ e → b ≠ it → s.heap.get? b = some o → h2.get? b = some o := fun b o b1 b2 q => (hs2.2 b b1).trans (hk b o b1 b2 q)
    have ht2 : h2.get? s.heap.objs.size = some { cls := .type "tuple", data := .seq #[.int i s.toks, u] } := (hs2.2 _ (Nat.ne_of_gt hel)).trans ht
    have hf2 : ∀ b ∈ [e, it], upd H s.heap.objs.size (HO.tup [V.int i, x]) b = none := fun b hb => by
      have hb2 : b < s.heap.objs.size := by
        rcases List.mem_cons.mp hb with z | z
        · rw [z]; exact hel
        · rw [List.mem_singleton.mp z]; exact hil
      rw [upd_ne (Nat.ne_of_lt hb2)]
      exact (hf b hb).1
    have z1 : IsEnum h2 e it ((i + 1 : Nat) : Int) u := by
      have z : ((i + 1 : Nat) : Int) = (i : Int) + 1 := by omega
      rw [z]; exact he2
    refine ⟨.ref s.heap.objs.size, _, Inv.turnedT (s := s) (t' := s.toks + 1) I (its := [.int i s.toks, u]) (ys := [.int i, x]) hk2 fe fi ⟨_, ht2, rfl, _, rfl⟩ (.cons ⟨_, rfl⟩ (.cons ru .nil)) (by show 2 ≤ sizeLine; decide), rfl,
      ⟨_, x, rfl, I.hok.fresh (Nat.le_refl _), rfl, fun ys hy => by rw [I.list_inj hy hq]; exact hx⟩, ⟨⟨u, z1⟩, hi1.at fun o q => (hs2.2 it (Ne.symm hne)).trans q⟩, hf2⟩
  done := by
    intro X hP hw hK hc i pins s σ H E I hf st hg
    subst hP hw hK
    obtain ⟨xs, hq, hx⟩ := hg
    obtain ⟨its, rv, p, hz⟩ := I.list hq
    obtain ⟨⟨old, he⟩, hi⟩ := st
    obtain ⟨f0, f1, f2, f3, f4, f5⟩ := hf it (by simp)
    have hl := rv.length
    exact wpAny_pyNext_enum_end (I.ok.hd hc) he hi p.isList (by simp; omega) fun h' eb => ⟨rfl, I.turned (t' := s.toks) (fun b o hb e => eb b o hb e) f0 f1 f3 f4 f5⟩
  self := fun _ _ _ _ _ st h => by
    obtain ⟨⟨old, he⟩, _⟩ := st
    exact wpAny_pyIter_enum he h
section
variable {X : Cx} {elts : List Expr} {x1 : Nat} {tp : Pos}
def iEnum (K : PySem.W.Frag) (tl : TE) : TI := fun σ H R => tl σ H fun x H1 => ∃ a, x = .ref a ∧ (∃ xs, SqL K H1 a xs) ∧ R (Ite K a) H1
theorem pi_enum {l : Expr} {tl : TE} {p pos : Pos} (hc : X.calm = true) (hg : Gl X "enumerate") (hm : X.mg "enumerate" = none) (hl : PE X l tl) (hs : starEach [l] X.env = [(false, eval l X.env)] := by rfl) : PI X (.Tuple elts x1 tp) (.Call (.Name "enumerate" p) [l] [] pos) (iEnum X.K tl) := by
  intro pins s σ H R I h
  refine Call_ (ld_blt I hg hm boot_enumerate (PyProof.Rows.callWith_type1 (thn ((pa_cons hl pa_nil hs) pos pins s σ H (fun vs H1 => match vs with | [x] => ∃ a, x = .ref a ∧ (∃ xs, SqL X.K H1 a xs) ∧ R (Ite X.K a) H1 | _ => False) I h) fun us s1 ⟨vs, H1, I1, r1, q1⟩ => ?_) hs rfl))
  match vs, r1, q1 with
  | [x], r1, q1 =>
  obtain ⟨a, rfl, ⟨xs, hq⟩, q⟩ := q1
  obtain ⟨u, rfl, ru⟩ := r1.one
  cases ru
  obtain ⟨its, rv, p, hz⟩ := I1.list hq
  refine call_enumerate_list p.isList fun h' he hi hsz hk => ?_
  have I2 : Inv X pins σ H1 { s1 with heap := h' } := I1.kept (t' := s1.toks) hk
  refine wpAny_pyIter_enum he ?_
  refine ⟨s1.heap.objs.size + 1, [s1.heap.objs.size + 1, s1.heap.objs.size], _, _, H1, rfl, I2, turn_enum a _ _ (Nat.succ_ne_self _), ⟨⟨_, he⟩, hi⟩, fun b hb => ?_, q⟩
  have hb2 : s1.heap.objs.size ≤ b := by
    rcases List.mem_cons.mp hb with z | z
    · rw [z]; exact Nat.le_succ _
    · rw [List.mem_singleton.mp z]; exact Nat.le_refl _
  exact I1.fpOk hb2 (I1.hok.fresh hb2)
/-- a for over enumerate, by what holds at turn i -/
theorem forW_enum {K : PySem.W.Frag} {a : Addr} {xs : List V} {g : TG} {tb : TS} {D : Ends} {σ : St} {H : Hp} (Pv : Nat → St → Hp → Prop) (h0 : Pv 0 σ H) (hl : ∀ i σ H, i ≤ xs.length → Pv i σ H → SqL K H a xs)
    (hs : ∀ (i : Nat) x p σ H, xs[i]? = some x → Pv i σ H → H p = none → g (.ref p) σ (upd H p (.tup [.int (i : Nat), x])) fun σ2 H2 => tb { D with nx := Pv (i + 1), ct := Pv (i + 1), bk := D.nx } σ2 H2) (hd : ∀ σ H, Pv xs.length σ H → D.nx σ H) : ForW (Ite K a) g tb D σ H := by
  refine ⟨fun i m σ H => m = xs.length - i ∧ i ≤ xs.length ∧ Pv i σ H, ⟨xs.length, by simp, Nat.zero_le _, h0⟩, ?_⟩
  rintro i m σ H ⟨rfl, hi, p⟩
  have q := hl i σ H hi p
  by_cases hlt : i < xs.length
  · refine .inr ⟨⟨xs, xs[i], q, by simp [hlt]⟩, Pv (i + 1), fun σ' H' p' => ⟨xs.length - (i + 1), by omega, rfl, hlt, p'⟩, fun x H' y => ?_⟩
    obtain ⟨b, z, rfl, hb, rfl, y⟩ := y
    exact hs i z b σ H (y xs q) p hb
  · have e : i = xs.length := by omega
    subst e
    exact .inl ⟨⟨xs, q, Nat.le_refl _⟩, hd σ H p⟩
end
end L2
namespace L2
open PySem PySem.Spec PyProof.Rows
section
variable {X : Cx}
theorem ps_setCT {i : Nat} {y : Str} {py spos : Pos} (hN : X.N.Nodup) (hi' : X.N[i]? = some y) (hy : Loc X.env.scope y) (x : Str) (cs : List Str) (js : List Nat) {sc scope : Scope} {qual : Str} {L f : Addr} {cd : Value} {elt iter t : Expr} {px pos : Pos} {wi : TI} {tc : TT} {te : TE} (hE : X.env = envOfC qual sc L f cd) (c : CompOk sc scope X.N x cs js) (hc : X.calm = true) (hi : PI X (.Name x px) iter wi)
    (ht : ∀ C s₁ H₁ fp, PT (cxC X scope (clOf X.env scope.names []) x cs C s₁ H₁ fp) t tc) (he : ∀ C s₁ H₁ fp, PE (cxC X scope (clOf X.env scope.names []) x cs C s₁ H₁ fp) elt te)
    (hsw : swapsWith (.ListComp elt [⟨.Name x px, iter, [t], 0⟩] scope pos) (some (.Name y py)) spos.line X.env = pure true := by rfl)
    (hf : X.fn y = true ∨ X.env.scope.names.lookup y = some .local := by first | exact .inl rfl | exact .inr rfl | assumption)
    (hs : ∀ x, foldedSetIterable iter X.env x = pure x := by intro _; rfl) : PS X (.Assign [.Name y py] (.ListComp elt [⟨.Name x px, iter, [t], 0⟩] scope pos) spos) (tAsg (tComp wi js tc te) (gName i)) :=
  ps_setCG hN hi' hy hc (cscope_def hE c) hi (fun _ _ _ _ => pifs_one (ht _ _ _ _)) he hsw hf hs
end
end L2

set_option Elab.async false
set_option linter.all false
set_option maxRecDepth 100000
set_option maxHeartbeats 4000000
namespace L2
open PySem PySem.Spec PyProof.Rows
section
variable {X : Cx}
/-! ### min of a list of ints -/
def rMinL (K : PySem.W.Frag) : List V → Hp → VK → Prop := fun xs H Q => ∃ (l : Addr) (ns : List Int), xs = [.ref l] ∧ SqL K H l (ns.map V.int) ∧ 0 < ns.length ∧ ∀ M, M ∈ ns → (∀ a, a ∈ ns → M ≤ a) → Q (.int M) H
theorem call_minL (hc : X.calm = true) : CallR X (.builtin "min") (rMinL X.K) := by
  intro pins s σ H xs us Q I r h
  obtain ⟨l, ns, rfl, hq, hne, q⟩ := h
  obtain ⟨u, rfl, rx⟩ := vals1 r
  cases rx
  obtain ⟨its, r', pl, hz⟩ := I.list hq
  have hi : IntsAre its ns := intsAre_of (by simpa using r')
  have hl : s.heap.IsList l its.toArray := pl.isList
  obtain ⟨zs, e⟩ := hi.allInts.items
  have hns : ns = zs.toList.map (·.1) := by rw [← hi.numsOf, ← nums_intItems, ← e]
  have hsz : 0 < zs.size := by
    have h3 := hne
    rw [hns, List.length_map, Array.length_toList] at h3
    exact h3
  rw [e] at hl
  refine min_intList (I.ok.hd hc) hl hsz fun v h' tk hv hk => ?_
  obtain ⟨t, rfl⟩ := intItems_at hv
  obtain ⟨h1, h2⟩ := argBest_lt (numAt zs) (zs.size - 1)
  refine ⟨.int _, H, I.kept hk, ⟨t, rfl⟩, q _ ?_ fun a ha => ?_⟩
  · rw [hns, numAt_eq]
    exact getD_mem (by rw [List.length_map, Array.length_toList]; omega)
  · rw [hns] at ha
    obtain ⟨j, hj, rfl⟩ := mem_getD ha
    rw [List.length_map, Array.length_toList] at hj
    rw [← numAt_eq]
    exact h2 j (by omega)
/-! ### set(a list of ints), len of it -/
def dd (ns : List Int) : Nat := (firstMet (fun i => ns.getD i 0) ns.length).length
def rSetI (K : PySem.W.Frag) : List V → Hp → VK → Prop := fun xs H Q => ∃ (l : Addr) (ns : List Int), xs = [.ref l] ∧ SqL K H l (ns.map V.int) ∧ ns.length + 1 < scanBound ∧ ∀ p S, H p = none → Q (.ref p) (upd H p (.set S (dd ns)))
theorem call_setI (hc : X.calm = true) : CallR X (.type "set") (rSetI X.K) := by
  intro pins s σ H xs us Q I r h
  obtain ⟨l, ns, rfl, hq, hb, q⟩ := h
  obtain ⟨u, rfl, rx⟩ := vals1 r
  cases rx
  obtain ⟨its, r', pl, hz⟩ := I.list hq
  have hi : IntsAre its ns := intsAre_of (by simpa using r')
  have hvn : its.length = ns.length := IntsAre.length hi
  refine PySem.call_set_list (items := its.toArray) (ns := ns) (I.ok.hd hc) pl.isList (by simpa using hi) (by rw [List.size_toArray, hvn]; exact hb) fun h' tk hS hk => ?_
  have hsz : its.toArray.size = ns.length := by rw [List.size_toArray, hvn]
  rw [hsz] at hS
  exact ⟨.ref s.heap.objs.size, _, I.laid (o := HO.set (fun k' => (firstMet (fun i => ns.getD i 0) ns.length).any fun x => x == k') (dd ns)) (t' := tk) (fun b o e => hk b o (Heap.lt_size e) e) (Nat.le_refl _) hS, rfl, q _ _ (I.hok.fresh (Nat.le_refl _))⟩
def rLenS : List V → Hp → VK → Prop := fun xs H Q => ∃ p S n, xs = [.ref p] ∧ H p = some (.set S n) ∧ (n : Int) < 2 ^ 63 ∧ Q (.int (n : Nat)) H
theorem call_lenS : CallR X (.builtin "len") rLenS := by
  intro pins s σ H xs us Q I r h
  obtain ⟨p, S, n, rfl, hp, hn, q⟩ := h
  obtain ⟨u, rfl, rx⟩ := vals1 r
  cases rx
  have z := I.hok p _ hp
  obtain ⟨o, es, ep, t, e, ex, hd, _, _, _, hf, rfl⟩ := z
  exact call_len_set e ex hd hf hn ⟨.int _, H, I.tok _, ⟨_, rfl⟩, q⟩
theorem dd_nodup {ns : List Int} (h : ns.Nodup) : dd ns = ns.length := by
  unfold dd
  have z : ∀ i, i ≤ ns.length → firstMet (fun i => ns.getD i 0) i = ns.take i := by
    intro i
    induction i with
    | zero => intro _; rw [firstMet_zero]; simp
    | succ i ih =>
      intro hi
      rw [firstMet_succ, ih (by omega)]
      have e : ns[i]? = some (ns.getD i 0) := by rw [List.getD_eq_getElem?_getD, List.getElem?_eq_getElem (by omega)]; rfl
      unfold step_dedup
      rw [List.take_add_one, e]
      have hno : (ns.take i).any (· == ns.getD i 0) = false := by
        rw [List.any_eq_false]
        intro x hx hxe
        have hxe := eq_of_beq hxe
        subst hxe
        obtain ⟨j, hj, ej⟩ := List.mem_iff_getElem.mp hx
        rw [List.length_take] at hj
        rw [List.getElem_take] at ej
        have e1 : ns[j]? = ns[i]? := by rw [e, List.getElem?_eq_getElem (by omega), ej]
        have := (List.getElem?_inj (by omega) h).mp e1
        omega
      first
        | (rw [hno]; rfl)
        | (rw [if_neg (by rw [hno]; decide)]; rfl)
        | done
  rw [z ns.length (Nat.le_refl _), List.take_of_length_le (Nat.le_refl _)]
end
end L2
namespace L2
open PySem PySem.Spec PyProof.Rows
section
variable {X : Cx}
/-- list(xs), xs a list -/
def listC : List V → Hp → VK → Prop
  | [.ref p], H, Q => match H p with
    | some (.lst ys) => ∀ t, H t = none → Q (.ref t) (upd H t (.lst ys))
    | _ => False
  | _, _, _ => False
theorem call_listC : CallR X (.type "list") listC := by
  intro pins s σ H xs us Q I r h
  match xs, h with
  | [.ref p], h =>
    have h' : (match H p with | some (.lst ys) => ∀ t, H t = none → Q (.ref t) (upd H t (.lst ys)) | _ => False) := h
    cases e : H p with
    | none => rw [e] at h'; exact h'.elim
    | some o =>
      rw [e] at h'
      cases o with
      | lst ys => exact call_list_of pins s σ H _ us Q I r ⟨p, ys, rfl, .inl (SqL.of e), h'⟩
      | _ => exact h'.elim
theorem listC_lst {H : Hp} {Q : VK} {p : Addr} {xs : List V} (h : H p = some (.lst xs)) : listC [.ref p] H Q = ∀ t, H t = none → Q (.ref t) (upd H t (.lst xs)) := by
  show (match H p with | some (.lst ys) => ∀ t, H t = none → Q (.ref t) (upd H t (.lst ys)) | _ => False) = _
  rw [h]
end
end L2
namespace L2
open PySem PySem.Spec PyProof.Rows
theorem isO_pair {H : Hp} {a b : Int} {x : V} (h : IsKo H (some (.tup [.num a, .num b])) x) : ∃ t, x = .ref t ∧ H t = some (.tup [.int a, .int b]) := by
  have h : IsK H (.tup [.num a, .num b]) x := h
  unfold IsK at h
  obtain ⟨t, vs, rfl, ht, _, hk⟩ := h
  unfold IsKs at hk
  obtain ⟨v, vr, rfl, h1, h2⟩ := hk
  unfold IsKs at h2
  obtain ⟨w, wr, rfl, h3, h4⟩ := h2
  unfold IsKs at h4
  subst h4
  rw [IsK.num_eq h1, IsK.num_eq h3] at ht
  exact ⟨t, rfl, ht⟩
end L2

set_option Elab.async false
set_option linter.all false
set_option maxRecDepth 100000
set_option maxHeartbeats 4000000
namespace L2
open PySem PySem.Spec PyProof.Rows
section
variable {X : Cx}
/-- text * number, from 0 on -/
def rRepS0 : R2 := fun x y H Q => ∃ z k, x = .str z ∧ y = .int k ∧ 0 ≤ k ∧ k ≤ 1000 ∧ 1 ≤ z.length ∧ z.length ≤ 1000 ∧ ∀ r : Str, (r.length : Int) = k * z.length → Q (.str r) H
theorem op_repS0 : OpR X (binaryOp .Mult) rRepS0 := by
  intro pins s σ H x y v u Q I rx ry h
  obtain ⟨z, k, rfl, rfl, h1, h2, h3, h4, q⟩ := h
  by_cases hk : k = 0
  · subst hk
    obtain ⟨t, rfl⟩ := rx
    obtain ⟨t', rfl⟩ := ry
    refine PySem.P.mul_str (by rw [decide_eq_false (by omega), decide_eq_false (by omega)]; rfl) (fun h _ => absurd h (by decide)) (fun h _ => absurd h (by decide)) ?_
    rw [if_pos (by omega)]
    exact ⟨by decide +kernel, V.str Str.empty, H, I.tok _, ⟨_, rfl⟩, q _ (by rw [Int.zero_mul]; rfl)⟩
  · exact op_repS pins s σ H _ _ v u Q I rx ry ⟨z, k, rfl, rfl, by omega, h2, h3, h4, q⟩
end
/-- a value that holds no other -/
def Lf (x : V) : Prop := (∃ i, x = .int i) ∨ (∃ z, x = .str z) ∨ x = .non
/-- .. or a tuple of such -/
def IsP (H : Hp) (x : V) : Prop := Lf x ∨ ∃ p ys, x = .ref p ∧ H p = some (.tup ys) ∧ ys.length ≤ 10 ∧ ∀ y ∈ ys, Lf y
theorem IsP.same {H H' : Hp} {x : V} (t : TupS H H') (h : IsP H x) : IsP H' x := by
  rcases h with h | ⟨p, ys, e, h1, h2⟩
  · exact .inl h
  · exact .inr ⟨p, ys, e, t _ _ h1, h2⟩
def NN (x : V) : Bool := !decide (x = V.non)
def Kp (xs : List V) : List V := xs.filter NN
def Kb (xs ys : List V) : List V := ((xs.zip ys).filter fun p => NN p.1).map (·.2)
theorem Kp_snoc {xs : List V} {x : V} : Kp (xs ++ [x]) = if NN x = true then Kp xs ++ [x] else Kp xs := by
  unfold Kp
  rw [List.filter_append]
  split <;> simp [List.filter, *]
theorem Kb_snoc {xs ys : List V} {x y : V} (h : xs.length = ys.length) : Kb (xs ++ [x]) (ys ++ [y]) = if NN x = true then Kb xs ys ++ [y] else Kb xs ys := by
  unfold Kb
  rw [List.zip_append h, List.filter_append, List.map_append]
  split <;> simp [List.filter, *]
theorem Kp_len {xs : List V} : (Kp xs).length ≤ xs.length := List.length_filter_le _ _
theorem Kb_len {xs ys : List V} : (Kb xs ys).length ≤ xs.length := by
  unfold Kb
  rw [List.length_map]
  refine Nat.le_trans (List.length_filter_le _ _) ?_
  rw [List.length_zip]
  omega
theorem mem_Kp {xs : List V} {x : V} (h : x ∈ Kp xs) : x ∈ xs := (List.mem_filter.mp h).1
theorem mem_Kb {xs ys : List V} {x : V} (h : x ∈ Kb xs ys) : x ∈ ys := by
  unfold Kb at h
  obtain ⟨p, hp, rfl⟩ := List.mem_map.mp h
  exact (List.of_mem_zip (List.mem_filter.mp hp).1).2
theorem take_snoc2 {α : Type} {l : List α} {i : Nat} {x : α} (h : l[i]? = some x) : l.take (i + 1) = l.take i ++ [x] := by
  rw [List.take_add_one, h]; rfl
theorem rEq_non {H : Hp} {Q : VK} : rEq .non .non H Q = Q (.bl true) H := propext ⟨fun h => h.2, fun h => ⟨rfl, h⟩⟩
theorem rep_bl {i : Nat} : List.map V.bl (List.replicate i true) ++ [V.bl true] = V.bl true :: List.map V.bl (List.replicate i true) := by
  induction i with
  | zero => rfl
  | succ i ih => rw [List.replicate_succ, List.map_cons, List.cons_append, ih]
theorem all_rep {n : Nat} : (List.replicate n true).all id = true := by rw [List.all_replicate]; simp
end L2

set_option Elab.async false
set_option linter.all false
set_option maxRecDepth 100000
set_option maxHeartbeats 4000000
namespace My
open PySem L2 PyProof.Rows
def top (i : Nat) : Stmt := PySem.Challenge.pw_slotbook_k51_packed.main.body.getD i (.Pass ⟨0, 0, 0, 0⟩)
abbrev s_packed : Stmt := top 1
abbrev s__law_same : Stmt := top 3
abbrev s__law_rows_same : Stmt := top 4
abbrev s__law_thing_by : Stmt := top 5
abbrev s__law_beside_by : Stmt := top 6
abbrev s__law_told : Stmt := top 7
abbrev s_law : Stmt := top 8
structure Ad where
  f_packed : Addr
  d_packed : FuncData
  f__law_same : Addr
  d__law_same : FuncData
  f__law_rows_same : Addr
  d__law_rows_same : FuncData
  f__law_thing_by : Addr
  d__law_thing_by : FuncData
  f__law_beside_by : Addr
  d__law_beside_by : FuncData
  f__law_told : Addr
  d__law_told : FuncData
  f_law : Addr
  d_law : FuncData
structure Txt (K : PySem.W.Frag) (mg : Str → Option Value) (a : Ad) : Prop where
  F_packed : Fun K "packed" "packed" s_packed a.f_packed a.d_packed
  b_packed : Binds K a.d_packed ["row", "beside"] []
  m_packed : mg "packed" = some (.ref a.f_packed)
  F__law_same : Fun K "_law_same" "_law_same" s__law_same a.f__law_same a.d__law_same
  b__law_same : Binds K a.d__law_same ["_law_found", "_law_due"] []
  m__law_same : mg "_law_same" = some (.ref a.f__law_same)
  F__law_rows_same : Fun K "_law_rows_same" "_law_rows_same" s__law_rows_same a.f__law_rows_same a.d__law_rows_same
  b__law_rows_same : Binds K a.d__law_rows_same ["_law_found", "_law_due"] []
  m__law_rows_same : mg "_law_rows_same" = some (.ref a.f__law_rows_same)
  F__law_thing_by : Fun K "_law_thing_by" "_law_thing_by" s__law_thing_by a.f__law_thing_by a.d__law_thing_by
  b__law_thing_by : Binds K a.d__law_thing_by ["_law_cell", "_law_place"] []
  m__law_thing_by : mg "_law_thing_by" = some (.ref a.f__law_thing_by)
  F__law_beside_by : Fun K "_law_beside_by" "_law_beside_by" s__law_beside_by a.f__law_beside_by a.d__law_beside_by
  b__law_beside_by : Binds K a.d__law_beside_by ["_law_cell"] []
  m__law_beside_by : mg "_law_beside_by" = some (.ref a.f__law_beside_by)
  F__law_told : Fun K "_law_told" "_law_told" s__law_told a.f__law_told a.d__law_told
  b__law_told : Binds K a.d__law_told ["_law_row", "_law_beside", "_law_due"] []
  m__law_told : mg "_law_told" = some (.ref a.f__law_told)
  F_law : Fun K "law" "law" s_law a.f_law a.d_law
  b_law : Binds K a.d_law ["_law_script"] []
  m_law : mg "law" = some (.ref a.f_law)
  z_all : mg "all" = none
  z_bool : mg "bool" = none
  z_enumerate : mg "enumerate" = none
  z_isinstance : mg "isinstance" = none
  z_len : mg "len" = none
  z_list : mg "list" = none
  z_tuple : mg "tuple" = none
  z_zip : mg "zip" = none
abbrev N_packed : List Str := ["row", "beside", "keys", "others"]
abbrev p_packed : List Str := ["row", "beside"]
theorem sc_packed : FnScope N_packed p_packed (defScope s_packed) := ⟨rfl, rfl, rfl, by decide +kernel, rfl, by decide +kernel, by decide +kernel⟩
abbrev N__law_same : List Str := ["_law_found", "_law_due"]
abbrev p__law_same : List Str := ["_law_found", "_law_due"]
theorem sc__law_same : FnScope N__law_same p__law_same (defScope s__law_same) := ⟨rfl, rfl, rfl, by decide +kernel, rfl, by decide +kernel, by decide +kernel⟩
abbrev N__law_rows_same : List Str := ["_law_found", "_law_due"]
abbrev p__law_rows_same : List Str := ["_law_found", "_law_due"]
theorem sc__law_rows_same : FnScope N__law_rows_same p__law_rows_same (defScope s__law_rows_same) := ⟨rfl, rfl, rfl, by decide +kernel, rfl, by decide +kernel, by decide +kernel⟩
abbrev N__law_thing_by : List Str := ["_law_cell", "_law_place"]
abbrev p__law_thing_by : List Str := ["_law_cell", "_law_place"]
theorem sc__law_thing_by : FnScope N__law_thing_by p__law_thing_by (defScope s__law_thing_by) := ⟨rfl, rfl, rfl, by decide +kernel, rfl, by decide +kernel, by decide +kernel⟩
abbrev N__law_beside_by : List Str := ["_law_cell"]
abbrev p__law_beside_by : List Str := ["_law_cell"]
theorem sc__law_beside_by : FnScope N__law_beside_by p__law_beside_by (defScope s__law_beside_by) := ⟨rfl, rfl, rfl, by decide +kernel, rfl, by decide +kernel, by decide +kernel⟩
abbrev N__law_told : List Str := ["_law_row", "_law_beside", "_law_due", "_law_handed", "_law_found"]
abbrev p__law_told : List Str := ["_law_row", "_law_beside", "_law_due"]
theorem sc__law_told : FnScope N__law_told p__law_told (defScope s__law_told) := ⟨rfl, rfl, rfl, by decide +kernel, rfl, by decide +kernel, by decide +kernel⟩
abbrev N_law : List Str := ["_law_script", "_law_row", "_law_beside", "_law_bare", "_law_place", "_law_cell", "_law_due", "_law_key", "_law_value"]
abbrev p_law : List Str := ["_law_script"]
theorem sc_law : FnScope N_law p_law (defScope s_law) := ⟨rfl, rfl, rfl, by decide +kernel, rfl, by decide +kernel, by decide +kernel⟩

def spPacked : Sp := fun vs H Q _ => ∃ a b xs ys, vs = [.ref a, .ref b] ∧ H a = some (.lst xs) ∧ H b = some (.lst ys) ∧ xs.length = ys.length ∧ xs.length ≤ 300 ∧
  ∀ t p q H', Same H H' → H p = none → H q = none → p ≠ q → H' t = some (.tup [.ref p, .ref q]) → H' p = some (.lst (Kp xs)) → H' q = some (.lst (Kb xs ys)) → Q (.ref t) H'
def spLeaf : Sp := fun vs H Q _ => ∃ x, vs = [x, x] ∧ Lf x ∧ Q (.bl true) H
def spSame : Sp := fun vs H Q _ => ∃ x, vs = [x, x] ∧ IsP H x ∧ ∀ H', Same H H' → Q (.bl true) H'
def spRows : Sp := fun vs H Q _ => ∃ a b xs, vs = [.ref a, .ref b] ∧ H a = some (.lst xs) ∧ H b = some (.lst xs) ∧ xs.length ≤ 300 ∧ (∀ x ∈ xs, IsP H x) ∧ ∀ H', Same H H' → Q (.bl true) H'
def spThing : Sp := fun vs H Q _ => ∃ c k, vs = [.int c, .int k] ∧ ∀ x H', Same H H' → IsP H' x → Q x H'
def spBeside : Sp := fun vs H Q _ => ∃ c, vs = [.int c] ∧ ∀ x H', Same H H' → IsP H' x → Q x H'
def spTold : Sp := fun vs H Q _ => ∃ r b d p q xs ys, vs = [.ref r, .ref b, .ref d] ∧ H r = some (.lst xs) ∧ H b = some (.lst ys) ∧ xs.length = ys.length ∧ xs.length ≤ 300 ∧ (∀ x ∈ xs, IsP H x) ∧ (∀ y ∈ ys, IsP H y) ∧
  H d = some (.tup [.ref p, .ref q]) ∧ H p = some (.lst (Kp xs)) ∧ H q = some (.lst (Kb xs ys)) ∧ ∀ H', Same H H' → Q (.bl true) H'
def spLaw (K : PySem.W.Frag) : Sp := fun vs H Q _ => ∃ (a : Addr) (ns : List Int), vs = [.ref a] ∧ SqL K H a (ns.map V.int) ∧ ns.length ≤ 63 ∧ ∀ H', Q (.bl true) H'
local macro_rules | `(tactic| walk_at "rd") => `(tactic| simp only [L2.tVar, L2.tC, L2.tOp, L2.tUn, L2.rI, L2.rI0, L2.rU, L2.tTest, L2.tB, L2.tAnd, L2.tOr, L2.tNot, L2.tAndV, L2.tOrV, L2.tNotV, L2.tIf, L2.tNext, L2.tSeq, L2.tRet, L2.tRetN, L2.tIfS, L2.gName, L2.tAsg, L2.tCall, L2.tCB, L2.tNil, L2.tCons, L2.tDrop, L2.tTup, L2.tLst, L2.start, L2.tSl, L2.tPart, L2.tNoPart, L2.rEq_int, L2.rNe_int, L2.rEq_bl, L2.rNe_bl, L2.rEq_str, L2.rNe_str, L2.CDiv, L2.cpow_10, L2.cpow_2, L2.tFor_eq, L2.tyV_str, L2.iStr, L2.tComp, L2.capt, L2.tYes, L2.rOrd, L2.one_inj, L2.tBM, L2.tBM0, Option.getD_some, L2.iList, L2.iTup, L2.iRng1, L2.iRng2,
  Int.reduceLT, Int.reduceLE, Int.reduceToNat, Int.reducePow, Int.reduceMul, Int.reduceSub, Int.reduceAdd, Int.reduceNeg, Int.reduceEq, Int.reduceNe, Int.reduceDiv, Int.reduceMod, Nat.reduceLT, Nat.reducePow, Nat.reduceLeDiff, Nat.reduceMul,
  List.map_cons, List.map_nil, List.length_cons, List.length_nil, List.cons_append, List.nil_append, Nat.zero_add, Nat.reduceAdd, Nat.reduceSub, Nat.sub_self, List.replicate_succ, List.replicate_zero, List.append_nil, List.getElem?_cons_zero, List.getElem?_cons_succ, List.set_cons_zero, List.set_cons_succ,
  Option.some.injEq, L2.V.int.injEq, L2.V.bl.injEq, L2.V.str.injEq, L2.V.ref.injEq, and_assoc, exists_and_left, exists_eq', exists_eq, exists_eq_left, exists_eq_left', decide_eq_true_eq, Bool.not_eq_true', decide_eq_false_iff_not, ↓reduceIte, Bool.false_eq_true, if_true, if_false, Bool.not_true, Bool.not_false, true_and, and_true, List.cons.injEq, Bool.true_eq_false, reduceCtorEq, decide_true, decide_false, L2.cxOf_K, L2.isi_int_str, L2.isi_int_tuple, L2.isi_int_int, L2.isi_int_bool, L2.isi_bl_str, L2.isi_bl_tuple, L2.isi_bl_int, L2.isi_bl_bool, L2.isi_str_str, L2.isi_str_tuple, L2.isi_str_int, L2.isi_str_bool, L2.isi_non_str, L2.isi_non_tuple, L2.isi_non_int, L2.isi_non_bool, L2.isi_tup_str, L2.isi_tup_tuple, L2.isi_tup_int, L2.isi_tup_bool, L2.isi_lst_str, L2.isi_lst_tuple, L2.isi_lst_int, L2.isi_lst_bool, L2.isi_dK_str, L2.isi_dK_tuple, L2.isi_dK_int, L2.isi_dK_bool, L2.tCompN, L2.tAsg, L2.iZip2, spSame, spThing, spBeside, L2.iEnum, L2.gTup, L2.gCons, L2.gNil, L2.rEq_non])
section
variable {P : Program} {w : World} {K : PySem.W.Frag} {mg : Str → Option Value} {base : Heap} {a : Ad}
theorem ok_packed (T : Txt K mg a) : FnOk P w K mg base CX0 1 a.f_packed a.d_packed p_packed spPacked := by
  refine T.F_packed.ok sc_packed (fun vs H Q E h => ?_) (fun cdv A outer s H vs Q E hr h => ?_)
  · obtain ⟨a, b, xs, ys, rfl, _⟩ := h
    rfl
  have nd := sc_packed.nd
  obtain ⟨a1, b1, xs, ys, rfl, ha, hb, hl, h3, q⟩ := h
  refine ⟨_, (pss_cons (ps_setCT (i := 2) nd rfl (Or.inl rfl) "key" [] [] rfl ⟨rfl, rfl, by decide +kernel, by decide +kernel, rfl, by decide +kernel, by decide +kernel, rfl, by decide +kernel⟩ rfl (pi_list (pv 0)) (fun C s1 H1 fp => (pt_cmpR op_notN (pv 0) pe_non (nomark _))) (fun C s1 H1 fp => (pv 0)))
  (pss_cons (ps_setCT2 (i := 3) nd rfl (Or.inl rfl) "key" "thing" [] [] rfl ⟨rfl, rfl, by decide +kernel, by decide +kernel, by decide +kernel, by decide +kernel, rfl, by decide +kernel⟩ rfl rfl rfl (pi_zip2 false false rfl T.z_zip (pa_cons (pv 0) (pa_cons (pv 1) pa_nil))) (fun C s1 H1 fp => (pt_cmpR op_notN (pv 0) pe_non (nomark _))) (fun C s1 H1 fp => (pv 1)))
  (pss_one (ps_ret (pe_tup (pa_cons (pv 2) (pa_cons (pv 3) pa_nil))))))), ?_⟩
  (try walk_at "rd")
  refine ⟨⟨_, SqL.of ha⟩, compW_list (xs := xs) (fun i zs H' => H' = H ∧ zs = Kp (xs.take i)) ⟨rfl, rfl⟩ (fun _ _ _ _ h => by rw [h.1]; exact SqL.of ha) (fun i zs H' hi h => ?_) (fun i x zs H' e h => ?_) (fun zs H' h => ?_)⟩
  · obtain ⟨rfl, rfl⟩ := h
    exact small1000 (Nat.le_trans Kp_len (by rw [List.length_take]; omega))
  · obtain ⟨rfl, rfl⟩ := h
    (try walk_at "rd")
    rw [take_snoc2 e, Kp_snoc]
    by_cases c : x = V.non
    · have hN : NN x = false := by unfold NN; simp [c]
      rw [if_neg (fun h => h c), hN]; rfl
    · have hN : NN x = true := by unfold NN; simp [c]
      rw [if_pos c, hN]; rfl
  · obtain ⟨rfl, rfl⟩ := h
    rw [List.take_length]
    intro p hp
    have g1 := same_upd_none (o := HO.lst (Kp xs)) hp
    generalize hH1 : upd H' p (HO.lst (Kp xs)) = H1 at g1 ⊢
    have hp1 : H1 p = some (.lst (Kp xs)) := by rw [← hH1]; exact upd_same
    refine ⟨⟨_, SqL.of (g1 _ _ ha)⟩, ⟨_, SqL.of (g1 _ _ hb)⟩, compW_zip2 (xs := xs) (ys := ys) hl (Nat.le_of_lt (small1000 (by omega))) (fun i zs H2 => Same H1 H2 ∧ zs.length ≤ i ∧ zs = Kb (xs.take i) (ys.take i)) ⟨Same.refl H1, Nat.zero_le _, rfl⟩
      (fun i zs H2 _ h => ⟨SqL.of (h.1 _ _ (g1 _ _ ha)), SqL.of (h.1 _ _ (g1 _ _ hb)), h.2.1⟩) (fun i x y t zs H2 ex ey h ht => ?_) (fun zs H2 h => ?_)⟩
    · obtain ⟨g, hz, rfl⟩ := h
      have g2 := g.trans (same_upd_none (o := HO.tup [x, y]) ht)
      (try walk_at "rd")
      have lx : (xs.take i).length = (ys.take i).length := by rw [List.length_take, List.length_take]; omega
      rw [take_snoc2 ex, take_snoc2 ey, Kb_snoc lx]
      by_cases c : x = V.non
      · have hN : NN x = false := by unfold NN; simp [c]
        rw [if_neg (fun h => h c), hN]
        exact ⟨g2, by omega, rfl⟩
      · have hN : NN x = true := by unfold NN; simp [c]
        rw [if_pos c, hN]
        exact ⟨g2, by rw [List.length_append, List.length_singleton]; omega, rfl⟩
    · obtain ⟨g, hz, rfl⟩ := h
      rw [List.take_length, hl, List.take_length]
      intro p2 hp2
      have g2 := same_upd_none (o := HO.lst (Kb xs ys)) hp2
      have hn : H1 p2 = none := g.free hp2
      have np : p ≠ p2 := ne_of_none hp1 hn
      (try walk_at "rd")
      refine ⟨by decide, fun t ht => ?_⟩
      have g3 := same_upd_none (o := HO.tup [V.ref p, V.ref p2]) ht
      have G := ((g1.trans g).trans g2).trans g3
      exact q t p p2 _ G hp (g1.free hn) np upd_same (g3 _ _ (g2 _ _ (g _ _ hp1))) (g3 _ _ upd_same)
theorem ok_leaf (T : Txt K mg a) : FnOk P w K mg base CX0 1 a.f__law_same a.d__law_same p__law_same spLeaf := by
  refine T.F__law_same.ok sc__law_same (fun vs H Q E h => ?_) (fun cdv A outer s H vs Q E hr h => ?_)
  · obtain ⟨x, rfl, _⟩ := h
    rfl
  have nd := sc__law_same.nd
  obtain ⟨x, rfl, hx, q⟩ := h
  refine ⟨_, (pss_cons (ps_if (PW.pt (pw_or (pt_val (pe_callB call_isi rfl T.z_isinstance boot_isinstance (pa_cons (pv 0) (pa_cons (pe_bltn (v := .ty "bool") rfl T.z_bool boot_bool rfl) pa_nil)))) (pw_or1 (pt_cmpR op_ne (pe_callB call_isi rfl T.z_isinstance boot_isinstance (pa_cons (pv 0) (pa_cons (pe_bltn (v := .ty "tuple") rfl T.z_tuple boot_tuple rfl) pa_nil))) (pe_callB call_isi rfl T.z_isinstance boot_isinstance (pa_cons (pv 1) (pa_cons (pe_bltn (v := .ty "tuple") rfl T.z_tuple boot_tuple rfl) pa_nil))) (nomark _))))) (pss_one (ps_ret pe_bl)) pss_nil)
  (pss_cons (ps_if (pt_val (pe_callB call_isi rfl T.z_isinstance boot_isinstance (pa_cons (pv 1) (pa_cons (pe_bltn (v := .ty "tuple") rfl T.z_tuple boot_tuple rfl) pa_nil)))) (pss_one ps_never) pss_nil)
  (pss_one (ps_ret (pe_cmpR op_eq (pv 0) (pv 1) (nomark _)))))), ?_⟩
  rcases hx with ⟨i, rfl⟩ | ⟨z, rfl⟩ | rfl
  · (try walk_at "rd")
    exact q
  · (try walk_at "rd")
    exact q
  · (try walk_at "rd")
    exact q
theorem ok__law_same (T : Txt K mg a)(G__law_same : FnOk P w K mg base CX0 1 a.f__law_same a.d__law_same p__law_same spLeaf) : FnOk P w K mg base CX0 2 a.f__law_same a.d__law_same p__law_same spSame := by
  refine T.F__law_same.ok sc__law_same (fun vs H Q E h => ?_) (fun cdv A outer s H vs Q E hr h => ?_)
  · obtain ⟨x, rfl, _⟩ := h
    rfl
  have nd := sc__law_same.nd
  obtain ⟨x, rfl, hx, q⟩ := h
  rcases hx with hx | ⟨p, ys, rfl, hp, hl, hy⟩
  · have q0 := q H (Same.refl H)
    refine ⟨_, (pss_cons (ps_if (PW.pt (pw_or (pt_val (pe_callB call_isi rfl T.z_isinstance boot_isinstance (pa_cons (pv 0) (pa_cons (pe_bltn (v := .ty "bool") rfl T.z_bool boot_bool rfl) pa_nil)))) (pw_or1 (pt_cmpR op_ne (pe_callB call_isi rfl T.z_isinstance boot_isinstance (pa_cons (pv 0) (pa_cons (pe_bltn (v := .ty "tuple") rfl T.z_tuple boot_tuple rfl) pa_nil))) (pe_callB call_isi rfl T.z_isinstance boot_isinstance (pa_cons (pv 1) (pa_cons (pe_bltn (v := .ty "tuple") rfl T.z_tuple boot_tuple rfl) pa_nil))) (nomark _))))) (pss_one (ps_ret pe_bl)) pss_nil)
  (pss_cons (ps_if (pt_val (pe_callB call_isi rfl T.z_isinstance boot_isinstance (pa_cons (pv 1) (pa_cons (pe_bltn (v := .ty "tuple") rfl T.z_tuple boot_tuple rfl) pa_nil)))) (pss_one ps_never) pss_nil)
  (pss_one (ps_ret (pe_cmpR op_eq (pv 0) (pv 1) (nomark _)))))), ?_⟩
    rcases hx with ⟨i, rfl⟩ | ⟨z, rfl⟩ | rfl
    · (try walk_at "rd")
      exact q0
    · (try walk_at "rd")
      exact q0
    · (try walk_at "rd")
      exact q0
  · refine ⟨_, (pss_cons (ps_if (PW.pt (pw_or (pt_val (pe_callB call_isi rfl T.z_isinstance boot_isinstance (pa_cons (pv 0) (pa_cons (pe_bltn (v := .ty "bool") rfl T.z_bool boot_bool rfl) pa_nil)))) (pw_or1 (pt_cmpR op_ne (pe_callB call_isi rfl T.z_isinstance boot_isinstance (pa_cons (pv 0) (pa_cons (pe_bltn (v := .ty "tuple") rfl T.z_tuple boot_tuple rfl) pa_nil))) (pe_callB call_isi rfl T.z_isinstance boot_isinstance (pa_cons (pv 1) (pa_cons (pe_bltn (v := .ty "tuple") rfl T.z_tuple boot_tuple rfl) pa_nil))) (nomark _))))) (pss_one (ps_ret pe_bl)) pss_nil)
  (pss_cons (ps_if (pt_val (pe_callB call_isi rfl T.z_isinstance boot_isinstance (pa_cons (pv 1) (pa_cons (pe_bltn (v := .ty "tuple") rfl T.z_tuple boot_tuple rfl) pa_nil)))) (pss_one (ps_ret (pe_and (pe_cmpR op_eq (pe_callB call_lenC rfl T.z_len PySem.boot_len (pa_cons (pv 0) pa_nil)) (pe_callB call_lenC rfl T.z_len PySem.boot_len (pa_cons (pv 1) pa_nil)) (nomark _)) (pe_one (pe_callB (call_all rfl) rfl T.z_all boot_all (pa_cons (pe_comp2 "_law_one" "_law_two" [] [] rfl ⟨rfl, rfl, by decide +kernel, by decide +kernel, by decide +kernel, by decide +kernel, rfl, by decide +kernel⟩ rfl rfl rfl (pi_zip2 true true rfl T.z_zip (pa_cons (pv 0) (pa_cons (pv 1) pa_nil))) (fun C s1 H1 fp => (pe_call G__law_same hr rfl T.m__law_same T.F__law_same.kp T.b__law_same .nil pass0 (pa_cons (pv 0) (pa_cons (pv 1) pa_nil))))) pa_nil)))))) pss_nil)
  (pss_one (ps_ret (pe_cmpR op_eq (pv 0) (pv 1) (nomark _)))))), ?_⟩
    (try walk_at "rd")
    rw [isi_tup_bool hp]
    (try walk_at "rd")
    rw [isi_tup_tuple hp, isi_tup_tuple hp]
    (try walk_at "rd")
    rw [isi_tup_tuple hp]
    (try walk_at "rd")
    rw [lenC_tup hp, lenC_tup hp]
    (try walk_at "rd")
    refine ⟨⟨_, SqT.of hp⟩, ⟨_, SqT.of hp⟩, compW_zip2 (xs := ys) (ys := ys) rfl (Nat.le_of_lt (small1000 (by omega))) (fun i zs H2 => Same H H2 ∧ zs.length ≤ i ∧ zs = (List.replicate i true).map V.bl) ⟨Same.refl H, Nat.zero_le _, rfl⟩
      (fun i zs H2 _ h => ⟨SqT.of (h.1 _ _ hp), SqT.of (h.1 _ _ hp), h.2.1⟩) (fun i x y t zs H2 ex ey h ht => ?_) (fun zs H2 h => ?_)⟩
    · obtain ⟨g, hz, rfl⟩ := h
      have g2 := g.trans (same_upd_none (o := HO.tup [x, y]) ht)
      rw [ex] at ey
      cases ey
      (try walk_at "rd")
      refine ⟨x, rfl, hy x (List.mem_of_getElem? ex), g2, by rw [List.length_append, List.length_singleton]; omega, ?_⟩
      exact rep_bl
    · obtain ⟨g, hz, rfl⟩ := h
      intro l hl'
      refine ⟨l, _, rfl, SqL.of upd_same, ?_⟩
      rw [all_rep]
      exact q _ (g.trans (same_upd_none hl'))
theorem ok__law_rows_same (T : Txt K mg a)(G__law_same : FnOk P w K mg base CX0 2 a.f__law_same a.d__law_same p__law_same spSame) : FnOk P w K mg base CX0 3 a.f__law_rows_same a.d__law_rows_same p__law_rows_same spRows := by
  refine T.F__law_rows_same.ok sc__law_rows_same (fun vs H Q E h => ?_) (fun cdv A outer s H vs Q E hr h => ?_)
  · obtain ⟨r, b, xs, rfl, _⟩ := h
    rfl
  have nd := sc__law_rows_same.nd
  obtain ⟨r, b, xs, rfl, hr1, hb, hl, hx, q⟩ := h
  refine ⟨_, (pss_cons (ps_if (PW.pt (pw_or (pt_not (pt_val (pe_callB call_isi rfl T.z_isinstance boot_isinstance (pa_cons (pv 0) (pa_cons (pe_bltn (v := .ty "list") rfl T.z_list boot_list rfl) pa_nil))))) (pw_or1 (pt_cmpR op_ne (pe_callB call_lenC rfl T.z_len PySem.boot_len (pa_cons (pv 0) pa_nil)) (pe_callB call_lenC rfl T.z_len PySem.boot_len (pa_cons (pv 1) pa_nil)) (nomark _))))) (pss_one (ps_ret pe_bl)) pss_nil)
  (pss_one (ps_ret (pe_callB (call_all rfl) rfl T.z_all boot_all (pa_cons (pe_comp2 "_law_one" "_law_two" [] [] rfl ⟨rfl, rfl, by decide +kernel, by decide +kernel, by decide +kernel, by decide +kernel, rfl, by decide +kernel⟩ rfl rfl rfl (pi_zip2 false false rfl T.z_zip (pa_cons (pv 0) (pa_cons (pv 1) pa_nil))) (fun C s1 H1 fp => (pe_call (G__law_same.mono (by decide)) hr rfl T.m__law_same T.F__law_same.kp T.b__law_same .nil pass0 (pa_cons (pv 0) (pa_cons (pv 1) pa_nil))))) pa_nil))))), ?_⟩
  (try walk_at "rd")
  rw [isi_lst_list hr1]
  (try walk_at "rd")
  rw [lenC_lst hr1, lenC_lst hb]
  (try walk_at "rd")
  refine ⟨⟨_, SqL.of hr1⟩, ⟨_, SqL.of hb⟩, compW_zip2 (xs := xs) (ys := xs) rfl (Nat.le_of_lt (small1000 (by omega))) (fun i zs H2 => Same H H2 ∧ zs.length ≤ i ∧ zs = (List.replicate i true).map V.bl) ⟨Same.refl H, Nat.zero_le _, rfl⟩
    (fun i zs H2 _ h => ⟨SqL.of (h.1 _ _ hr1), SqL.of (h.1 _ _ hb), h.2.1⟩) (fun i x y t zs H2 ex ey h ht => ?_) (fun zs H2 h => ?_)⟩
  · obtain ⟨g, hz, rfl⟩ := h
    have g2 := g.trans (same_upd_none (o := HO.tup [x, y]) ht)
    rw [ex] at ey
    cases ey
    (try walk_at "rd")
    exact ⟨(hx x (List.mem_of_getElem? ex)).same g2.tups, fun H3 g3 => ⟨g2.trans g3, by rw [List.length_append, List.length_singleton]; omega, rep_bl⟩⟩
  · obtain ⟨g, hz, rfl⟩ := h
    intro l hl'
    refine ⟨l, _, rfl, SqL.of upd_same, ?_⟩
    rw [all_rep]
    exact q _ (g.trans (same_upd_none hl'))
theorem ok__law_thing_by (T : Txt K mg a) : FnOk P w K mg base CX0 1 a.f__law_thing_by a.d__law_thing_by p__law_thing_by spThing := by
  refine T.F__law_thing_by.ok sc__law_thing_by (fun vs H Q E h => ?_) (fun cdv A outer s H vs Q E hr h => ?_)
  · obtain ⟨c, k, rfl, _⟩ := h
    rfl
  have nd := sc__law_thing_by.nd
  obtain ⟨c, k, rfl, q⟩ := h
  refine ⟨_, (pss_cons (ps_if (pt_cmpR op_eq (pe_op op_mod (pv 0) pe_int) pe_int (nomark _)) (pss_one (ps_ret pe_non)) pss_nil)
  (pss_cons (ps_if (pt_cmpR op_eq (pe_op op_mod (pv 0) pe_int) pe_int (nomark _)) (pss_one (ps_ret (pe_op op_add (pe_op op_mul pe_int (pe_op op_mod (pe_op op_fdiv (pv 0) pe_int) (pe_op op_pow pe_int pe_int))) (pv 1)))) pss_nil)
  (pss_one (ps_ret (pe_tup (pa_cons (pe_op op_repS0 pe_str (pe_op op_mod (pe_op op_fdiv (pv 0) pe_int) pe_int)) (pa_cons (pv 1) pa_nil))))))), ?_⟩
  (try walk_at "rd")
  have q0 : ∀ x, Lf x → Q x H := fun x hx => q x H (Same.refl H) (.inl hx)
  refine ite2 (fun _ => q0 _ (.inr (.inr rfl))) (fun _ => ite2 (fun _ => ?_) (fun _ => ?_))
  · refine ⟨.inl ⟨by decide, by decide⟩, q0 _ (.inl ⟨_, rfl⟩)⟩
  · refine ⟨_, _, rfl, rfl, by omega, by omega, by decide +kernel, by decide +kernel, fun r hr' => ⟨by decide, fun t ht => ?_⟩⟩
    exact q _ _ (same_upd_none ht) (.inr ⟨t, _, rfl, upd_same, (by show 2 ≤ 10; decide), fun y hy => by
      rcases List.mem_cons.mp hy with rfl | hy
      · exact .inr (.inl ⟨_, rfl⟩)
      · rw [List.mem_singleton.mp hy]; exact .inl ⟨_, rfl⟩⟩)
theorem ok__law_beside_by (T : Txt K mg a) : FnOk P w K mg base CX0 1 a.f__law_beside_by a.d__law_beside_by p__law_beside_by spBeside := by
  refine T.F__law_beside_by.ok sc__law_beside_by (fun vs H Q E h => ?_) (fun cdv A outer s H vs Q E hr h => ?_)
  · obtain ⟨c, rfl, _⟩ := h
    rfl
  have nd := sc__law_beside_by.nd
  obtain ⟨c, rfl, q⟩ := h
  refine ⟨_, (pss_cons (ps_if (pt_cmpR op_eq (pe_op op_mod (pv 0) pe_int) pe_int (nomark _)) (pss_one (ps_ret pe_non)) pss_nil)
  (pss_cons (ps_if (pt_cmpR op_eq (pe_op op_mod (pv 0) pe_int) pe_int (nomark _)) (pss_one (ps_ret (pe_op op_mod (pe_op op_fdiv (pv 0) pe_int) (pe_op op_pow pe_int pe_int)))) pss_nil)
  (pss_cons (ps_if (pt_cmpR op_eq (pe_op op_mod (pv 0) pe_int) pe_int (nomark _)) (pss_one (ps_ret (pe_op op_repS0 pe_str (pe_op op_mod (pe_op op_fdiv (pv 0) pe_int) pe_int)))) pss_nil)
  (pss_one (ps_ret (pe_tup (pa_cons (pe_op op_mod (pe_op op_fdiv (pv 0) pe_int) pe_int) (pa_cons pe_non pa_nil)))))))), ?_⟩
  (try walk_at "rd")
  have q0 : ∀ x, Lf x → Q x H := fun x hx => q x H (Same.refl H) (.inl hx)
  refine ite2 (fun _ => q0 _ (.inr (.inr rfl))) (fun _ => ite2 (fun _ => q0 _ (.inl ⟨_, rfl⟩)) (fun _ => ite2 (fun _ => ?_) (fun _ => ?_)))
  · exact ⟨_, _, rfl, rfl, by omega, by omega, by decide +kernel, by decide +kernel, fun r hr' => q0 _ (.inr (.inl ⟨_, rfl⟩))⟩
  · refine ⟨by decide, fun t ht => ?_⟩
    exact q _ _ (same_upd_none ht) (.inr ⟨t, _, rfl, upd_same, (by show 2 ≤ 10; decide), fun y hy => by
      rcases List.mem_cons.mp hy with rfl | hy
      · exact .inl ⟨_, rfl⟩
      · rw [List.mem_singleton.mp hy]; exact .inr (.inr rfl)⟩)
theorem ok__law_told (T : Txt K mg a)(G_packed : FnOk P w K mg base CX0 1 a.f_packed a.d_packed p_packed spPacked)(G__law_rows_same : FnOk P w K mg base CX0 3 a.f__law_rows_same a.d__law_rows_same p__law_rows_same spRows) : FnOk P w K mg base CX0 4 a.f__law_told a.d__law_told p__law_told spTold := by
  refine T.F__law_told.ok sc__law_told (fun vs H Q E h => ?_) (fun cdv A outer s H vs Q E hr h => ?_)
  · obtain ⟨r, b, d, p, q0, xs, ys, rfl, _⟩ := h
    rfl
  have nd := sc__law_told.nd
  obtain ⟨r, b, d, p1, p2, xs, ys, rfl, hr1, hb, hl, h3, hx, hy, hd, hp1, hp2, q⟩ := h
  refine ⟨_, (pss_cons (ps_set (i := 3) nd rfl (Or.inl rfl) (pe_tup (pa_cons (pe_callTy call_listC rfl T.z_list boot_list (pa_cons (pv 0) pa_nil)) (pa_cons (pe_callTy call_listC rfl T.z_list boot_list (pa_cons (pv 1) pa_nil)) pa_nil))))
  (pss_cons (ps_set (i := 4) nd rfl (Or.inl rfl) (pe_call (G_packed.mono (by decide)) hr rfl T.m_packed T.F_packed.kp T.b_packed .nil pass0 (pa_cons (pe_ix ix_C (pv 3) pe_int (fun _ _ => rfl)) (pa_cons (pe_ix ix_C (pv 3) pe_int (fun _ _ => rfl)) pa_nil))))
  (pss_cons (ps_if (PW.pt (pw_or (pt_not (pt_val (pe_callB call_isi rfl T.z_isinstance boot_isinstance (pa_cons (pv 4) (pa_cons (pe_bltn (v := .ty "tuple") rfl T.z_tuple boot_tuple rfl) pa_nil))))) (pw_or1 (pt_cmpR op_ne (pe_callB call_lenC rfl T.z_len PySem.boot_len (pa_cons (pv 4) pa_nil)) pe_int (nomark _))))) (pss_one (ps_ret pe_bl)) pss_nil)
  (pss_cons (ps_if (PW.pt (pw_or (pt_not (pt_val (pe_call (G__law_rows_same.mono (by decide)) hr rfl T.m__law_rows_same T.F__law_rows_same.kp T.b__law_rows_same .nil pass0 (pa_cons (pe_ix ix_C (pv 4) pe_int (fun _ _ => rfl)) (pa_cons (pe_ix ix_C (pv 2) pe_int (fun _ _ => rfl)) pa_nil))))) (pw_or1 (pt_not (pt_val (pe_call (G__law_rows_same.mono (by decide)) hr rfl T.m__law_rows_same T.F__law_rows_same.kp T.b__law_rows_same .nil pass0 (pa_cons (pe_ix ix_C (pv 4) pe_int (fun _ _ => rfl)) (pa_cons (pe_ix ix_C (pv 2) pe_int (fun _ _ => rfl)) pa_nil)))))))) (pss_one (ps_ret pe_bl)) pss_nil)
  (pss_cons (ps_expr (pe_bm PySem.F.plainAttrs_list PySem.F.slot_list_append PySem.F.type_list_append mt_appC (pe_ix ix_C (pv 4) pe_int (fun _ _ => rfl)) (pa_cons pe_int pa_nil)))
  (pss_cons (ps_expr (pe_bm PySem.F.plainAttrs_list PySem.F.slot_list_append PySem.F.type_list_append mt_appC (pe_ix ix_C (pv 4) pe_int (fun _ _ => rfl)) (pa_cons pe_int pa_nil)))
  (pss_one (ps_ret (pe_and (pe_call (G__law_rows_same.mono (by decide)) hr rfl T.m__law_rows_same T.F__law_rows_same.kp T.b__law_rows_same .nil pass0 (pa_cons (pe_ix ix_C (pv 3) pe_int (fun _ _ => rfl)) (pa_cons (pv 0) pa_nil))) (pe_one (pe_call (G__law_rows_same.mono (by decide)) hr rfl T.m__law_rows_same T.F__law_rows_same.kp T.b__law_rows_same .nil pass0 (pa_cons (pe_ix ix_C (pv 3) pe_int (fun _ _ => rfl)) (pa_cons (pv 1) pa_nil))))))))))))), ?_⟩
  (try walk_at "rd")
  rw [listC_lst hr1]
  intro r1 n1
  have g1 := same_upd_none (o := HO.lst xs) n1
  show listC [V.ref b] _ _
  rw [listC_lst (g1 _ _ hb)]
  intro b1 n2
  have g2 := same_upd_none (o := HO.lst ys) n2
  have hr1' := g2 _ _ (upd_same (H := H) (a := r1) (o := HO.lst xs))
  have hb1' := upd_same (H := upd H r1 (HO.lst xs)) (a := b1) (o := HO.lst ys)
  generalize upd (upd H r1 (HO.lst xs)) b1 (HO.lst ys) = H1 at g2 hr1' hb1' ⊢
  have G1 := g1.trans g2
  refine ⟨by decide, fun t ht => ?_⟩
  have g3 := same_upd_none (o := HO.tup [V.ref r1, V.ref b1]) ht
  have htu := upd_same (H := H1) (a := t) (o := HO.tup [V.ref r1, V.ref b1])
  have hr2 := g3 _ _ hr1'
  have hb2 := g3 _ _ hb1'
  generalize upd H1 t (HO.tup [V.ref r1, V.ref b1]) = H2 at g3 htu hr2 hb2 ⊢
  have G2 := G1.trans g3
  (try walk_at "rd")
  rw [ixC_tup (v := V.ref r1) htu rfl, ixC_tup (v := V.ref b1) htu rfl]
  refine ⟨r1, b1, xs, ys, rfl, hr2, hb2, hl, h3, fun f p' q' H3 g4 np nq npq hf hfp hfq => ?_⟩
  have G3 := G2.trans g4
  have hx3 : ∀ x ∈ xs, IsP H3 x := fun x m => (hx x m).same G3.tups
  have hy3 : ∀ x ∈ ys, IsP H3 x := fun x m => (hy x m).same G3.tups
  (try walk_at "rd")
  rw [isi_tup_tuple hf]
  (try walk_at "rd")
  rw [lenC_tup hf]
  (try walk_at "rd")
  rw [ixC_tup (v := V.ref p') hf rfl, ixC_tup (v := V.ref p1) (G3 _ _ hd) rfl]
  refine ⟨p', p1, Kp xs, rfl, hfp, G3 _ _ hp1, Nat.le_trans Kp_len h3, fun x m => hx3 x (mem_Kp m), fun H4 g5 => ?_⟩
  (try walk_at "rd")
  rw [ixC_tup (v := V.ref q') (g5 _ _ hf) rfl, ixC_tup (v := V.ref p2) (g5 _ _ (G3 _ _ hd)) rfl]
  refine ⟨q', p2, Kb xs ys, rfl, g5 _ _ hfq, g5 _ _ (G3 _ _ hp2), Nat.le_trans Kb_len h3, fun x m => (hy3 x (mem_Kb m)).same g5.tups, fun H5 g6 => ?_⟩
  have g56 := g5.trans g6
  have G5 := G3.trans g56
  have hf5 := g56 _ _ hf
  have hfp5 := g56 _ _ hfp
  have hfq5 := g56 _ _ hfq
  (try walk_at "rd")
  rw [ixC_tup (v := V.ref p') hf5 rfl]
  (try walk_at "rd")
  rw [tyV_lst hfp5, appC_lst hfp5]
  refine ⟨True.intro, small1000 (by have := Kp_len (xs := xs); omega), ?_⟩
  have np0 : H p' = none := G2.free np
  have nq0 : H q' = none := G2.free nq
  have hft : f ≠ p' := fun e => by rw [e, hfp5] at hf5; cases hf5
  have S6 : Same H (upd H5 p' (HO.lst (Kp xs ++ [V.int 1]))) := G5.upd np0
  have S26 : Same H2 (upd H5 p' (HO.lst (Kp xs ++ [V.int 1]))) := (g4.trans g56).upd np
  have hf6 : upd H5 p' (HO.lst (Kp xs ++ [V.int 1])) f = some (.tup [V.ref p', V.ref q']) := by rw [upd_ne hft]; exact hf5
  have hfq6 : upd H5 p' (HO.lst (Kp xs ++ [V.int 1])) q' = some (.lst (Kb xs ys)) := by rw [upd_ne (Ne.symm npq)]; exact hfq5
  generalize upd H5 p' (HO.lst (Kp xs ++ [V.int 1])) = H6 at S6 S26 hf6 hfq6 ⊢
  rw [ixC_tup (v := V.ref q') hf6 rfl]
  (try walk_at "rd")
  rw [tyV_lst hfq6, appC_lst hfq6]
  refine ⟨True.intro, small1000 (by have := Kb_len (xs := xs) (ys := ys); omega), ?_⟩
  have S7 : Same H (upd H6 q' (HO.lst (Kb xs ys ++ [V.int 2]))) := S6.upd nq0
  have S27 : Same H2 (upd H6 q' (HO.lst (Kb xs ys ++ [V.int 2]))) := S26.upd nq
  generalize upd H6 q' (HO.lst (Kb xs ys ++ [V.int 2])) = H7 at S7 S27 ⊢
  rw [ixC_tup (v := V.ref r1) (S27 _ _ htu) rfl]
  refine ⟨r1, r, xs, rfl, S27 _ _ hr2, S7 _ _ hr1, h3, fun x m => (hx x m).same S7.tups, fun H8 g8 => ?_⟩
  (try walk_at "rd")
  rw [ixC_tup (v := V.ref b1) (g8 _ _ (S27 _ _ htu)) rfl]
  refine ⟨b1, b, ys, rfl, g8 _ _ (S27 _ _ hb2), g8 _ _ (S7 _ _ hb), by omega, fun x m => (hy x m).same (S7.trans g8).tups, fun H9 g9 => ?_⟩
  exact q H9 ((S7.trans g8).trans g9)
end
end My

set_option Elab.async false
set_option linter.all false
set_option maxRecDepth 100000
set_option maxHeartbeats 4000000
namespace My
open PySem L2 PyProof.Rows
local macro_rules | `(tactic| walk_at "rd") => `(tactic| simp only [L2.tVar, L2.tC, L2.tOp, L2.tUn, L2.rI, L2.rI0, L2.rU, L2.tTest, L2.tB, L2.tAnd, L2.tOr, L2.tNot, L2.tAndV, L2.tOrV, L2.tNotV, L2.tIf, L2.tNext, L2.tSeq, L2.tRet, L2.tRetN, L2.tIfS, L2.gName, L2.tAsg, L2.tCall, L2.tCB, L2.tNil, L2.tCons, L2.tDrop, L2.tTup, L2.tLst, L2.start, L2.tSl, L2.tPart, L2.tNoPart, L2.rEq_int, L2.rNe_int, L2.rEq_bl, L2.rNe_bl, L2.rEq_str, L2.rNe_str, L2.CDiv, L2.cpow_10, L2.cpow_2, L2.tFor_eq, L2.tyV_str, L2.iStr, L2.tComp, L2.capt, L2.tYes, L2.rOrd, L2.one_inj, L2.tBM, L2.tBM0, Option.getD_some, L2.iList, L2.iTup, L2.iRng1, L2.iRng2,
  Int.reduceLT, Int.reduceLE, Int.reduceToNat, Int.reducePow, Int.reduceMul, Int.reduceSub, Int.reduceAdd, Int.reduceNeg, Int.reduceEq, Int.reduceNe, Int.reduceDiv, Int.reduceMod, Nat.reduceLT, Nat.reducePow, Nat.reduceLeDiff, Nat.reduceMul,
  List.map_cons, List.map_nil, List.length_cons, List.length_nil, List.cons_append, List.nil_append, Nat.zero_add, Nat.reduceAdd, Nat.reduceSub, Nat.sub_self, List.replicate_succ, List.replicate_zero, List.append_nil, List.getElem?_cons_zero, List.getElem?_cons_succ, List.set_cons_zero, List.set_cons_succ,
  Option.some.injEq, L2.V.int.injEq, L2.V.bl.injEq, L2.V.str.injEq, L2.V.ref.injEq, and_assoc, exists_and_left, exists_eq', exists_eq, exists_eq_left, exists_eq_left', decide_eq_true_eq, Bool.not_eq_true', decide_eq_false_iff_not, ↓reduceIte, Bool.false_eq_true, if_true, if_false, Bool.not_true, Bool.not_false, true_and, and_true, List.cons.injEq, Bool.true_eq_false, reduceCtorEq, decide_true, decide_false, L2.cxOf_K, L2.isi_int_str, L2.isi_int_tuple, L2.isi_int_int, L2.isi_int_bool, L2.isi_bl_str, L2.isi_bl_tuple, L2.isi_bl_int, L2.isi_bl_bool, L2.isi_str_str, L2.isi_str_tuple, L2.isi_str_int, L2.isi_str_bool, L2.isi_non_str, L2.isi_non_tuple, L2.isi_non_int, L2.isi_non_bool, L2.isi_tup_str, L2.isi_tup_tuple, L2.isi_tup_int, L2.isi_tup_bool, L2.isi_lst_str, L2.isi_lst_tuple, L2.isi_lst_int, L2.isi_lst_bool, L2.isi_dK_str, L2.isi_dK_tuple, L2.isi_dK_int, L2.isi_dK_bool, L2.tCompN, L2.tAsg, L2.iZip2, spSame, spThing, spBeside, L2.iEnum, L2.gTup, L2.gCons, L2.gNil, L2.rEq_non])
section
variable {P : Program} {w : World} {K : PySem.W.Frag} {mg : Str → Option Value} {base : Heap} {a : Ad}
theorem law0 (T : Txt K mg a)(G__law_thing_by : FnOk P w K mg base CX0 1 a.f__law_thing_by a.d__law_thing_by p__law_thing_by spThing)(G__law_beside_by : FnOk P w K mg base CX0 1 a.f__law_beside_by a.d__law_beside_by p__law_beside_by spBeside)(G__law_told : FnOk P w K mg base CX0 4 a.f__law_told a.d__law_told p__law_told spTold) : FnOk P w K mg base CX0 5 a.f_law a.d_law p_law (spLaw K) := by
  refine T.F_law.ok sc_law (fun vs H Q E h => ?_) (fun cdv A outer s H vs Q E hr h => ?_)
  · obtain ⟨b, ns, rfl, _⟩ := h
    rfl
  have nd := sc_law.nd
  obtain ⟨b, ns, rfl, hS, h63, q⟩ := h
  refine ⟨_, (pss_cons (ps_set (i := 1) nd rfl (Or.inl rfl) (pe_lst pa_nil))
  (pss_cons (ps_set (i := 2) nd rfl (Or.inl rfl) (pe_lst pa_nil))
  (pss_cons (ps_set (i := 3) nd rfl (Or.inl rfl) (pe_and (pe_cmpR op_gt (pe_callB call_len_seq rfl T.z_len PySem.boot_len (pa_cons (pv 0) pa_nil)) pe_int (nomark _)) (pe_one (pe_cmpR op_eq (pe_op op_mod (pe_op op_fdiv (pe_ix ix_list (pv 0) pe_int (fun _ _ => rfl)) pe_int) pe_int) pe_int (nomark _)))))
  (pss_cons (ps_for PassesOwn.never rfl (pi_enum rfl rfl T.z_enumerate (pe_slice sl_list (pv 0) po_none (po_some pe_int))) (pg_tup rfl (pgs_cons (pg_name (i := 4) nd rfl (Or.inl rfl)) (pgs_cons (pg_name (i := 5) nd rfl (Or.inl rfl)) pgs_nil))) (pss_cons (ps_if (PW.pt (pw_and (pt_val (pv 3)) (pw_and1 (pt_cmpR op_eq (pe_op op_mod (pv 5) pe_int) pe_int (nomark _))))) (pss_one (ps_set (i := 5) nd rfl (Or.inl rfl) (pe_op op_add (pv 5) pe_int))) pss_nil)
  (pss_cons (ps_expr (pe_bm PySem.F.plainAttrs_list PySem.F.slot_list_append PySem.F.type_list_append mt_appC (pv 1) (pa_cons (pe_call (G__law_thing_by.mono (by decide)) hr rfl T.m__law_thing_by T.F__law_thing_by.kp T.b__law_thing_by .nil pass0 (pa_cons (pv 5) (pa_cons (pv 4) pa_nil))) pa_nil)))
  (pss_one (ps_expr (pe_bm PySem.F.plainAttrs_list PySem.F.slot_list_append PySem.F.type_list_append mt_appC (pv 2) (pa_cons (pe_call (G__law_beside_by.mono (by decide)) hr rfl T.m__law_beside_by T.F__law_beside_by.kp T.b__law_beside_by .nil pass0 (pa_cons (pe_op op_fdiv (pv 5) pe_int) pa_nil)) pa_nil)))))))
  (pss_cons (ps_set (i := 6) nd rfl (Or.inl rfl) (pe_tup (pa_cons (pe_lst pa_nil) (pa_cons (pe_lst pa_nil) pa_nil))))
  (pss_cons (ps_for PassesOwn.never rfl (pi_zip2 false false rfl T.z_zip (pa_cons (pv 1) (pa_cons (pv 2) pa_nil))) (pg_tup rfl (pgs_cons (pg_name (i := 7) nd rfl (Or.inl rfl)) (pgs_cons (pg_name (i := 8) nd rfl (Or.inl rfl)) pgs_nil))) (pss_one (ps_if (pt_cmpR op_notN (pv 7) pe_non (nomark _)) (pss_cons (ps_expr (pe_bm PySem.F.plainAttrs_list PySem.F.slot_list_append PySem.F.type_list_append mt_appC (pe_ix ix_C (pv 6) pe_int (fun _ _ => rfl)) (pa_cons (pv 7) pa_nil)))
  (pss_one (ps_expr (pe_bm PySem.F.plainAttrs_list PySem.F.slot_list_append PySem.F.type_list_append mt_appC (pe_ix ix_C (pv 6) pe_int (fun _ _ => rfl)) (pa_cons (pv 8) pa_nil))))) pss_nil)))
  (pss_one (ps_ret (pe_and (pe_call (G__law_told.mono (by decide)) hr rfl T.m__law_told T.F__law_told.kp T.b__law_told .nil pass0 (pa_cons (pv 1) (pa_cons (pv 2) (pa_cons (pv 6) pa_nil)))) (pe_one (pe_call (G__law_told.mono (by decide)) hr rfl T.m__law_told T.F__law_told.kp T.b__law_told .nil pass0 (pa_cons (pv 1) (pa_cons (pv 2) (pa_cons (pv 6) pa_nil)))))))))))))), ?_⟩
  (try walk_at "rd")
  refine ⟨by decide, fun r hr1 => ⟨by decide, fun e he => ?_⟩⟩
  have g1 := same_upd_none (o := HO.lst []) hr1
  have g2 := same_upd_none (o := HO.lst []) he
  have hr2 := g2 _ _ (upd_same (H := H) (a := r) (o := HO.lst []))
  have he2 := upd_same (H := upd H r (HO.lst [])) (a := e) (o := HO.lst [])
  have nre : r ≠ e := ne_of_none upd_same he
  have hS2 := (g1.trans g2).seq hS
  generalize upd (upd H r (HO.lst [])) e (HO.lst []) = H2 at hr2 he2 hS2 ⊢
  refine ⟨_, .inl hS2, ?_⟩
  rw [List.length_map]
  refine ite2 (fun c => ?_) (fun c => ?_)
  · have h0 : 0 < ns.length := by omega
    have e0 : atI (ns.map V.int) ((0 : Nat) : Int) = some (V.int ns[0]) := atI_nat (by simp [h0])
    refine ⟨b, _, 0, V.int ns[0], rfl, rfl, hS2, e0, _, rfl, ?_⟩
    generalize decide (ns[0] / 9 % 3 = 1) = bb
    refine ⟨b, _, rfl, hS2, fun t ht => ?_⟩
    rw [show cutV (ns.map V.int) none (some 300) = ns.map V.int from (cut_take (n := 300)).trans (by rw [List.take_of_length_le (by omega)])]
    have g3 := same_upd_none (o := HO.lst (ns.map V.int)) ht
    have nrt : r ≠ t := ne_of_none hr2 ht
    have net : e ≠ t := ne_of_none he2 ht
    refine ⟨t, rfl, ⟨_, SqL.of upd_same⟩, forW_enum (xs := ns.map V.int) (fun i σ H' => ∃ bb u v rs bs, σ = [some (.ref b), some (.ref r), some (.ref e), some (.bl bb), u, v, none, none, none] ∧ H' t = some (.lst (ns.map V.int)) ∧ H' r = some (.lst rs) ∧ H' e = some (.lst bs) ∧ rs.length = i ∧ bs.length = i ∧ (∀ x ∈ rs, IsP H' x) ∧ (∀ x ∈ bs, IsP H' x))
      ⟨bb, none, none, [], [], rfl, upd_same, g3 _ _ hr2, g3 _ _ he2, rfl, rfl, (fun x hx => by cases hx), fun x hx => by cases hx⟩ (fun i σ H' _ h => by obtain ⟨_, _, _, _, _, _, h, _⟩ := h; exact SqL.of h) (fun i x p σ H' ex h hp => ?_) (fun σ H' h => ?_)⟩
    · obtain ⟨bb, u, v, rs, bs, rfl, hT, hR, hB, lr, lb, pr, pb⟩ := h
      obtain ⟨n, _, rfl⟩ := List.mem_map.mp (List.mem_of_getElem? ex)
      have il : i < ns.length := by have := (List.getElem?_eq_some_iff.mp ex).1; rwa [List.length_map] at this
      have gp := same_upd_none (o := HO.tup [V.int (i : Nat), V.int n]) hp
      have hP := upd_same (H := H') (a := p) (o := HO.tup [V.int (i : Nat), V.int n])
      have hT := gp _ _ hT
      have hR := gp _ _ hR
      have hB := gp _ _ hB
      have pr : ∀ x ∈ rs, IsP _ x := fun x hx => (pr x hx).same gp.tups
      have pb : ∀ x ∈ bs, IsP _ x := fun x hx => (pb x hx).same gp.tups
      generalize upd H' p (HO.tup [V.int (i : Nat), V.int n]) = H3 at hP hT hR hB pr pb ⊢
      have fin : ∀ (z w : V) H4 H5, Same H3 H4 → IsP H4 z → Same (upd H4 r (HO.lst (rs ++ [z]))) H5 → IsP H5 w → (upd H5 e (HO.lst (bs ++ [w]))) t = some (.lst (ns.map V.int)) ∧ ∃ rs', (upd H5 e (HO.lst (bs ++ [w]))) r = some (.lst rs') ∧ ∃ bs', (upd H5 e (HO.lst (bs ++ [w]))) e = some (.lst bs') ∧ rs'.length = i + 1 ∧ bs'.length = i + 1 ∧ (∀ x ∈ rs', IsP (upd H5 e (HO.lst (bs ++ [w]))) x) ∧ (∀ x ∈ bs', IsP (upd H5 e (HO.lst (bs ++ [w]))) x) := by
        intro z w H4 H5 s4 pz s5 pw
        have hR4 := s4 _ _ hR
        have t5 : TupS H4 H5 := (ts_upd_lst hR4).trans s5.tups
        have hB5 : H5 e = some (.lst bs) := s5 _ _ (by rw [upd_ne (Ne.symm nre)]; exact s4 _ _ hB)
        have t6 : TupS H5 (upd H5 e (HO.lst (bs ++ [w]))) := ts_upd_lst hB5
        refine ⟨?_, rs ++ [z], ?_, bs ++ [w], upd_same, by rw [List.length_append, lr]; rfl, by rw [List.length_append, lb]; rfl, fun x hx => ?_, fun x hx => ?_⟩
        · rw [upd_ne (Ne.symm net)]; exact s5 _ _ (by rw [upd_ne (Ne.symm nrt)]; exact s4 _ _ hT)
        · rw [upd_ne nre]; exact s5 _ _ upd_same
        · rcases List.mem_append.mp hx with m | m
          · exact ((pr x m).same s4.tups).same (t5.trans t6)
          · rw [List.mem_singleton.mp m]; exact pz.same (t5.trans t6)
        · rcases List.mem_append.mp hx with m | m
          · exact ((pb x m).same (s4.tups.trans t5)).same t6
          · rw [List.mem_singleton.mp m]; exact pw.same t6
      have hB4 : ∀ z H4, Same H3 H4 → upd H4 r (HO.lst (rs ++ [z])) e = some (.lst bs) := fun z H4 s4 => by rw [upd_ne (Ne.symm nre)]; exact s4 _ _ hB
      (try walk_at "rd")
      refine ⟨_, SqT.of hP, rfl, _, _, rfl, _, _, rfl, rfl, ?_⟩
      have tR : tyV K "list" (V.ref r) H3 := by rw [tyV_lst hR]; exact True.intro
      refine ite2 (fun _ => ⟨n, rfl, ite2 (fun _ => ⟨n, rfl, tR, _, rfl, fun z H4 s4 pz => ?_⟩) (fun _ => ⟨tR, n, rfl, _, rfl, fun z H4 s4 pz => ?_⟩)⟩) (fun _ => ⟨tR, n, rfl, _, rfl, fun z H4 s4 pz => ?_⟩)
      all_goals
        rw [appC_lst (s4 _ _ hR)]
        refine ⟨small1000 (by omega), ?_⟩
        have tB : tyV K "list" (V.ref e) (upd H4 r (HO.lst (rs ++ [z]))) := by rw [tyV_lst (hB4 z H4 s4)]; exact True.intro
        refine ⟨tB, ?_⟩
        first
          | (intro w' H5 s5 pw
             rw [appC_lst (s5 _ _ (hB4 z H4 s4))]
             exact ⟨small1000 (by omega), fin z w' H4 H5 s4 pz s5 pw⟩)
          | (refine ⟨n, rfl, fun w' H5 s5 pw => ?_⟩
             rw [appC_lst (s5 _ _ (hB4 z H4 s4))]
             exact ⟨small1000 (by omega), fin z w' H4 H5 s4 pz s5 pw⟩)
    · obtain ⟨bb, u, v, rs, bs, rfl, hT, hR, hB, lr, lb, pr, pb⟩ := h
      rw [List.length_map] at lr lb
      (try walk_at "rd")
      refine ⟨by decide, fun d1 n1 => ⟨by decide, fun d2 n2 => ⟨by decide, fun d n3 => ?_⟩⟩⟩
      have k1 := same_upd_none (o := HO.lst []) n1
      have k2 := same_upd_none (o := HO.lst []) n2
      have k3 := same_upd_none (o := HO.tup [V.ref d1, V.ref d2]) n3
      have nd12 : d1 ≠ d2 := ne_of_none upd_same n2
      have hd1 := k3 _ _ (k2 _ _ (upd_same (H := H') (a := d1) (o := HO.lst [])))
      have hd2 := k3 _ _ (upd_same (H := upd H' d1 (HO.lst [])) (a := d2) (o := HO.lst []))
      have hd := upd_same (H := upd (upd H' d1 (HO.lst [])) d2 (HO.lst [])) (a := d) (o := HO.tup [V.ref d1, V.ref d2])
      have K3 := (k1.trans k2).trans k3
      have hR := K3 _ _ hR
      have hB := K3 _ _ hB
      have pr : ∀ x ∈ rs, IsP _ x := fun x hx => (pr x hx).same K3.tups
      have pb : ∀ x ∈ bs, IsP _ x := fun x hx => (pb x hx).same K3.tups
      have r1 : r ≠ d1 := ne_of_none (by assumption) n1
      have r2 : r ≠ d2 := ne_of_none (k1 _ _ (by assumption)) n2
      have e1 : e ≠ d1 := ne_of_none (by assumption) n1
      have e2 : e ≠ d2 := ne_of_none (k1 _ _ (by assumption)) n2
      generalize upd (upd (upd H' d1 (HO.lst [])) d2 (HO.lst [])) d (HO.tup [V.ref d1, V.ref d2]) = H4 at hd1 hd2 hd hR hB pr pb ⊢
      refine ⟨⟨_, SqL.of hR⟩, ⟨_, SqL.of hB⟩, forW_zip2 (xs := rs) (ys := bs) (by omega) (fun i σ H5 => (∃ uu vv, σ = [some (.ref b), some (.ref r), some (.ref e), some (.bl bb), u, v, some (.ref d), uu, vv]) ∧ TupS H4 H5 ∧ H5 r = some (.lst rs) ∧ H5 e = some (.lst bs) ∧ H5 d1 = some (.lst (Kp (rs.take i))) ∧ H5 d2 = some (.lst (Kb (rs.take i) (bs.take i))))
        ⟨⟨none, none, rfl⟩, fun _ _ h => h, hR, hB, hd1, hd2⟩ (fun i σ H5 _ h => ⟨SqL.of h.2.2.1, SqL.of h.2.2.2.1⟩) (fun i x y p σ H5 ex ey h hp => ?_) (fun σ H5 h => ?_)⟩
      · obtain ⟨⟨uu, vv, rfl⟩, tt, hR5, hB5, hd15, hd25⟩ := h
        have gp := same_upd_none (o := HO.tup [x, y]) hp
        have hP := upd_same (H := H5) (a := p) (o := HO.tup [x, y])
        have tt := tt.trans gp.tups
        have hR5 := gp _ _ hR5
        have hB5 := gp _ _ hB5
        have hd15 := gp _ _ hd15
        have hd25 := gp _ _ hd25
        generalize upd H5 p (HO.tup [x, y]) = H6 at hP tt hR5 hB5 hd15 hd25 ⊢
        have lx : (rs.take i).length = (bs.take i).length := by rw [List.length_take, List.length_take]; omega
        have il : i < rs.length := (List.getElem?_eq_some_iff.mp ex).1
        (try walk_at "rd")
        refine ⟨_, SqT.of hP, rfl, _, _, rfl, _, _, rfl, rfl, ?_⟩
        rw [take_snoc2 ex, take_snoc2 ey, Kp_snoc, Kb_snoc lx]
        by_cases c : x = V.non
        · have hN : NN x = false := by unfold NN; simp [c]
          rw [if_neg (fun h => h c), hN]
          exact ⟨tt, hR5, hB5, hd15, hd25⟩
        · have hN : NN x = true := by unfold NN; simp [c]
          rw [if_pos c, hN]
          have td := tt _ _ hd
          rw [ixC_tup (v := V.ref d1) td rfl]
          (try walk_at "rd")
          rw [tyV_lst hd15, appC_lst hd15]
          have l1 := Kp_len (xs := rs.take i)
          have l2 := Kb_len (xs := rs.take i) (ys := bs.take i)
          rw [List.length_take] at l1 l2
          refine ⟨True.intro, small1000 (by omega), ?_⟩
          have t7 : TupS H6 (upd H6 d1 (HO.lst (Kp (rs.take i) ++ [x]))) := ts_upd_lst hd15
          have hd27 : upd H6 d1 (HO.lst (Kp (rs.take i) ++ [x])) d2 = some (.lst (Kb (rs.take i) (bs.take i))) := by rw [upd_ne (Ne.symm nd12)]; exact hd25
          rw [ixC_tup (v := V.ref d2) (t7 _ _ td) rfl]
          (try walk_at "rd")
          rw [tyV_lst hd27, appC_lst hd27]
          refine ⟨True.intro, small1000 (by omega), (tt.trans t7).trans (ts_upd_lst hd27), ?_, ?_, ?_, ?_⟩
          · rw [upd_ne r2, upd_ne r1]; exact hR5
          · rw [upd_ne e2, upd_ne e1]; exact hB5
          · rw [upd_ne nd12, upd_same]
          · exact upd_same
      · obtain ⟨⟨uu, vv, rfl⟩, tt, hR5, hB5, hd15, hd25⟩ := h
        have lrb : rs.length = bs.length := by omega
        rw [List.take_length] at hd15
        rw [List.take_length, lrb, List.take_length] at hd25
        (try walk_at "rd")
        refine ⟨r, e, d, d1, d2, rs, bs, rfl, hR5, hB5, by omega, by omega, fun x hx => (pr x hx).same tt, fun x hx => (pb x hx).same tt, tt _ _ hd, hd15, hd25, fun H7 g7 => ?_⟩
        (try walk_at "rd")
        refine ⟨r, e, d, d1, d2, rs, bs, rfl, g7 _ _ hR5, g7 _ _ hB5, by omega, by omega, fun x hx => ((pr x hx).same tt).same g7.tups, fun x hx => ((pb x hx).same tt).same g7.tups, g7 _ _ (tt _ _ hd), g7 _ _ hd15, g7 _ _ hd25, fun H8 g8 => ?_⟩
        exact q H8
  · obtain ⟨bb, hbb⟩ : ∃ bb : Bool, V.bl bb = V.bl false := ⟨false, rfl⟩
    rw [← hbb]
    refine ⟨b, _, rfl, hS2, fun t ht => ?_⟩
    rw [show cutV (ns.map V.int) none (some 300) = ns.map V.int from (cut_take (n := 300)).trans (by rw [List.take_of_length_le (by omega)])]
    have g3 := same_upd_none (o := HO.lst (ns.map V.int)) ht
    have nrt : r ≠ t := ne_of_none hr2 ht
    have net : e ≠ t := ne_of_none he2 ht
    refine ⟨t, rfl, ⟨_, SqL.of upd_same⟩, forW_enum (xs := ns.map V.int) (fun i σ H' => ∃ bb u v rs bs, σ = [some (.ref b), some (.ref r), some (.ref e), some (.bl bb), u, v, none, none, none] ∧ H' t = some (.lst (ns.map V.int)) ∧ H' r = some (.lst rs) ∧ H' e = some (.lst bs) ∧ rs.length = i ∧ bs.length = i ∧ (∀ x ∈ rs, IsP H' x) ∧ (∀ x ∈ bs, IsP H' x))
      ⟨bb, none, none, [], [], rfl, upd_same, g3 _ _ hr2, g3 _ _ he2, rfl, rfl, (fun x hx => by cases hx), fun x hx => by cases hx⟩ (fun i σ H' _ h => by obtain ⟨_, _, _, _, _, _, h, _⟩ := h; exact SqL.of h) (fun i x p σ H' ex h hp => ?_) (fun σ H' h => ?_)⟩
    · obtain ⟨bb, u, v, rs, bs, rfl, hT, hR, hB, lr, lb, pr, pb⟩ := h
      obtain ⟨n, _, rfl⟩ := List.mem_map.mp (List.mem_of_getElem? ex)
      have il : i < ns.length := by have := (List.getElem?_eq_some_iff.mp ex).1; rwa [List.length_map] at this
      have gp := same_upd_none (o := HO.tup [V.int (i : Nat), V.int n]) hp
      have hP := upd_same (H := H') (a := p) (o := HO.tup [V.int (i : Nat), V.int n])
      have hT := gp _ _ hT
      have hR := gp _ _ hR
      have hB := gp _ _ hB
      have pr : ∀ x ∈ rs, IsP _ x := fun x hx => (pr x hx).same gp.tups
      have pb : ∀ x ∈ bs, IsP _ x := fun x hx => (pb x hx).same gp.tups
      generalize upd H' p (HO.tup [V.int (i : Nat), V.int n]) = H3 at hP hT hR hB pr pb ⊢
      have fin : ∀ (z w : V) H4 H5, Same H3 H4 → IsP H4 z → Same (upd H4 r (HO.lst (rs ++ [z]))) H5 → IsP H5 w → (upd H5 e (HO.lst (bs ++ [w]))) t = some (.lst (ns.map V.int)) ∧ ∃ rs', (upd H5 e (HO.lst (bs ++ [w]))) r = some (.lst rs') ∧ ∃ bs', (upd H5 e (HO.lst (bs ++ [w]))) e = some (.lst bs') ∧ rs'.length = i + 1 ∧ bs'.length = i + 1 ∧ (∀ x ∈ rs', IsP (upd H5 e (HO.lst (bs ++ [w]))) x) ∧ (∀ x ∈ bs', IsP (upd H5 e (HO.lst (bs ++ [w]))) x) := by
        intro z w H4 H5 s4 pz s5 pw
        have hR4 := s4 _ _ hR
        have t5 : TupS H4 H5 := (ts_upd_lst hR4).trans s5.tups
        have hB5 : H5 e = some (.lst bs) := s5 _ _ (by rw [upd_ne (Ne.symm nre)]; exact s4 _ _ hB)
        have t6 : TupS H5 (upd H5 e (HO.lst (bs ++ [w]))) := ts_upd_lst hB5
        refine ⟨?_, rs ++ [z], ?_, bs ++ [w], upd_same, by rw [List.length_append, lr]; rfl, by rw [List.length_append, lb]; rfl, fun x hx => ?_, fun x hx => ?_⟩
        · rw [upd_ne (Ne.symm net)]; exact s5 _ _ (by rw [upd_ne (Ne.symm nrt)]; exact s4 _ _ hT)
        · rw [upd_ne nre]; exact s5 _ _ upd_same
        · rcases List.mem_append.mp hx with m | m
          · exact ((pr x m).same s4.tups).same (t5.trans t6)
          · rw [List.mem_singleton.mp m]; exact pz.same (t5.trans t6)
        · rcases List.mem_append.mp hx with m | m
          · exact ((pb x m).same (s4.tups.trans t5)).same t6
          · rw [List.mem_singleton.mp m]; exact pw.same t6
      have hB4 : ∀ z H4, Same H3 H4 → upd H4 r (HO.lst (rs ++ [z])) e = some (.lst bs) := fun z H4 s4 => by rw [upd_ne (Ne.symm nre)]; exact s4 _ _ hB
      (try walk_at "rd")
      refine ⟨_, SqT.of hP, rfl, _, _, rfl, _, _, rfl, rfl, ?_⟩
      have tR : tyV K "list" (V.ref r) H3 := by rw [tyV_lst hR]; exact True.intro
      refine ite2 (fun _ => ⟨n, rfl, ite2 (fun _ => ⟨n, rfl, tR, _, rfl, fun z H4 s4 pz => ?_⟩) (fun _ => ⟨tR, n, rfl, _, rfl, fun z H4 s4 pz => ?_⟩)⟩) (fun _ => ⟨tR, n, rfl, _, rfl, fun z H4 s4 pz => ?_⟩)
      all_goals
        rw [appC_lst (s4 _ _ hR)]
        refine ⟨small1000 (by omega), ?_⟩
        have tB : tyV K "list" (V.ref e) (upd H4 r (HO.lst (rs ++ [z]))) := by rw [tyV_lst (hB4 z H4 s4)]; exact True.intro
        refine ⟨tB, ?_⟩
        first
          | (intro w' H5 s5 pw
             rw [appC_lst (s5 _ _ (hB4 z H4 s4))]
             exact ⟨small1000 (by omega), fin z w' H4 H5 s4 pz s5 pw⟩)
          | (refine ⟨n, rfl, fun w' H5 s5 pw => ?_⟩
             rw [appC_lst (s5 _ _ (hB4 z H4 s4))]
             exact ⟨small1000 (by omega), fin z w' H4 H5 s4 pz s5 pw⟩)
    · obtain ⟨bb, u, v, rs, bs, rfl, hT, hR, hB, lr, lb, pr, pb⟩ := h
      rw [List.length_map] at lr lb
      (try walk_at "rd")
      refine ⟨by decide, fun d1 n1 => ⟨by decide, fun d2 n2 => ⟨by decide, fun d n3 => ?_⟩⟩⟩
      have k1 := same_upd_none (o := HO.lst []) n1
      have k2 := same_upd_none (o := HO.lst []) n2
      have k3 := same_upd_none (o := HO.tup [V.ref d1, V.ref d2]) n3
      have nd12 : d1 ≠ d2 := ne_of_none upd_same n2
      have hd1 := k3 _ _ (k2 _ _ (upd_same (H := H') (a := d1) (o := HO.lst [])))
      have hd2 := k3 _ _ (upd_same (H := upd H' d1 (HO.lst [])) (a := d2) (o := HO.lst []))
      have hd := upd_same (H := upd (upd H' d1 (HO.lst [])) d2 (HO.lst [])) (a := d) (o := HO.tup [V.ref d1, V.ref d2])
      have K3 := (k1.trans k2).trans k3
      have hR := K3 _ _ hR
      have hB := K3 _ _ hB
      have pr : ∀ x ∈ rs, IsP _ x := fun x hx => (pr x hx).same K3.tups
      have pb : ∀ x ∈ bs, IsP _ x := fun x hx => (pb x hx).same K3.tups
      have r1 : r ≠ d1 := ne_of_none (by assumption) n1
      have r2 : r ≠ d2 := ne_of_none (k1 _ _ (by assumption)) n2
      have e1 : e ≠ d1 := ne_of_none (by assumption) n1
      have e2 : e ≠ d2 := ne_of_none (k1 _ _ (by assumption)) n2
      generalize upd (upd (upd H' d1 (HO.lst [])) d2 (HO.lst [])) d (HO.tup [V.ref d1, V.ref d2]) = H4 at hd1 hd2 hd hR hB pr pb ⊢
      refine ⟨⟨_, SqL.of hR⟩, ⟨_, SqL.of hB⟩, forW_zip2 (xs := rs) (ys := bs) (by omega) (fun i σ H5 => (∃ uu vv, σ = [some (.ref b), some (.ref r), some (.ref e), some (.bl bb), u, v, some (.ref d), uu, vv]) ∧ TupS H4 H5 ∧ H5 r = some (.lst rs) ∧ H5 e = some (.lst bs) ∧ H5 d1 = some (.lst (Kp (rs.take i))) ∧ H5 d2 = some (.lst (Kb (rs.take i) (bs.take i))))
        ⟨⟨none, none, rfl⟩, fun _ _ h => h, hR, hB, hd1, hd2⟩ (fun i σ H5 _ h => ⟨SqL.of h.2.2.1, SqL.of h.2.2.2.1⟩) (fun i x y p σ H5 ex ey h hp => ?_) (fun σ H5 h => ?_)⟩
      · obtain ⟨⟨uu, vv, rfl⟩, tt, hR5, hB5, hd15, hd25⟩ := h
        have gp := same_upd_none (o := HO.tup [x, y]) hp
        have hP := upd_same (H := H5) (a := p) (o := HO.tup [x, y])
        have tt := tt.trans gp.tups
        have hR5 := gp _ _ hR5
        have hB5 := gp _ _ hB5
        have hd15 := gp _ _ hd15
        have hd25 := gp _ _ hd25
        generalize upd H5 p (HO.tup [x, y]) = H6 at hP tt hR5 hB5 hd15 hd25 ⊢
        have lx : (rs.take i).length = (bs.take i).length := by rw [List.length_take, List.length_take]; omega
        have il : i < rs.length := (List.getElem?_eq_some_iff.mp ex).1
        (try walk_at "rd")
        refine ⟨_, SqT.of hP, rfl, _, _, rfl, _, _, rfl, rfl, ?_⟩
        rw [take_snoc2 ex, take_snoc2 ey, Kp_snoc, Kb_snoc lx]
        by_cases c : x = V.non
        · have hN : NN x = false := by unfold NN; simp [c]
          rw [if_neg (fun h => h c), hN]
          exact ⟨tt, hR5, hB5, hd15, hd25⟩
        · have hN : NN x = true := by unfold NN; simp [c]
          rw [if_pos c, hN]
          have td := tt _ _ hd
          rw [ixC_tup (v := V.ref d1) td rfl]
          (try walk_at "rd")
          rw [tyV_lst hd15, appC_lst hd15]
          have l1 := Kp_len (xs := rs.take i)
          have l2 := Kb_len (xs := rs.take i) (ys := bs.take i)
          rw [List.length_take] at l1 l2
          refine ⟨True.intro, small1000 (by omega), ?_⟩
          have t7 : TupS H6 (upd H6 d1 (HO.lst (Kp (rs.take i) ++ [x]))) := ts_upd_lst hd15
          have hd27 : upd H6 d1 (HO.lst (Kp (rs.take i) ++ [x])) d2 = some (.lst (Kb (rs.take i) (bs.take i))) := by rw [upd_ne (Ne.symm nd12)]; exact hd25
          rw [ixC_tup (v := V.ref d2) (t7 _ _ td) rfl]
          (try walk_at "rd")
          rw [tyV_lst hd27, appC_lst hd27]
          refine ⟨True.intro, small1000 (by omega), (tt.trans t7).trans (ts_upd_lst hd27), ?_, ?_, ?_, ?_⟩
          · rw [upd_ne r2, upd_ne r1]; exact hR5
          · rw [upd_ne e2, upd_ne e1]; exact hB5
          · rw [upd_ne nd12, upd_same]
          · exact upd_same
      · obtain ⟨⟨uu, vv, rfl⟩, tt, hR5, hB5, hd15, hd25⟩ := h
        have lrb : rs.length = bs.length := by omega
        rw [List.take_length] at hd15
        rw [List.take_length, lrb, List.take_length] at hd25
        (try walk_at "rd")
        refine ⟨r, e, d, d1, d2, rs, bs, rfl, hR5, hB5, by omega, by omega, fun x hx => (pr x hx).same tt, fun x hx => (pb x hx).same tt, tt _ _ hd, hd15, hd25, fun H7 g7 => ?_⟩
        (try walk_at "rd")
        refine ⟨r, e, d, d1, d2, rs, bs, rfl, g7 _ _ hR5, g7 _ _ hB5, by omega, by omega, fun x hx => ((pr x hx).same tt).same g7.tups, fun x hx => ((pb x hx).same tt).same g7.tups, g7 _ _ (tt _ _ hd), g7 _ _ hd15, g7 _ _ hd25, fun H8 g8 => ?_⟩
        exact q H8
end
end My

set_option Elab.async false
set_option linter.all false
set_option maxRecDepth 100000
set_option maxHeartbeats 4000000
namespace My
open PySem L2 PyProof.Rows
theorem ok_law {P : Program} {w : World} {K : PySem.W.Frag} {mg : Str → Option Value} {base : Heap} {a : Ad} (T : Txt K mg a) : FnOk P w K mg base CX0 5 a.f_law a.d_law p_law (spLaw K) :=
  have g1 := ok__law_same T (ok_leaf T)
  law0 T (ok__law_thing_by T) (ok__law_beside_by T) (ok__law_told T (ok_packed T) (ok__law_rows_same T g1))
theorem txt_mk {K : PySem.W.Frag} {h : Heap} {mg : Str → Option Value} (X : K.In h) (G : h.Ns mainGlobals mg)
    {f_packed : Addr} {od_packed an_packed : Option Addr} {sl_packed : Array (Option Value)} {oc_packed kV_packed dc_packed pm_packed cd_packed ct_packed : Value}
    (a_packed : PySem.W.nsIn K mainGlobals "packed" = some (some (.ref f_packed)))
    (l_packed : K.lookup f_packed = some ⟨oc_packed, od_packed, .func (PySem.W.fnOf "packed" "packed" (defArgs s_packed) (defBody s_packed) (defScope s_packed) .none kV_packed dc_packed pm_packed an_packed cd_packed ct_packed), sl_packed⟩) (c_packed : PySem.W.codeIn K cd_packed "packed" = true) (k_packed : PySem.W.keepIn K (.ref f_packed) = true)
    {f__law_same : Addr} {od__law_same an__law_same : Option Addr} {sl__law_same : Array (Option Value)} {oc__law_same kV__law_same dc__law_same pm__law_same cd__law_same ct__law_same : Value}
    (a__law_same : PySem.W.nsIn K mainGlobals "_law_same" = some (some (.ref f__law_same)))
    (l__law_same : K.lookup f__law_same = some ⟨oc__law_same, od__law_same, .func (PySem.W.fnOf "_law_same" "_law_same" (defArgs s__law_same) (defBody s__law_same) (defScope s__law_same) .none kV__law_same dc__law_same pm__law_same an__law_same cd__law_same ct__law_same), sl__law_same⟩) (c__law_same : PySem.W.codeIn K cd__law_same "_law_same" = true) (k__law_same : PySem.W.keepIn K (.ref f__law_same) = true)
    {f__law_rows_same : Addr} {od__law_rows_same an__law_rows_same : Option Addr} {sl__law_rows_same : Array (Option Value)} {oc__law_rows_same kV__law_rows_same dc__law_rows_same pm__law_rows_same cd__law_rows_same ct__law_rows_same : Value}
    (a__law_rows_same : PySem.W.nsIn K mainGlobals "_law_rows_same" = some (some (.ref f__law_rows_same)))
    (l__law_rows_same : K.lookup f__law_rows_same = some ⟨oc__law_rows_same, od__law_rows_same, .func (PySem.W.fnOf "_law_rows_same" "_law_rows_same" (defArgs s__law_rows_same) (defBody s__law_rows_same) (defScope s__law_rows_same) .none kV__law_rows_same dc__law_rows_same pm__law_rows_same an__law_rows_same cd__law_rows_same ct__law_rows_same), sl__law_rows_same⟩) (c__law_rows_same : PySem.W.codeIn K cd__law_rows_same "_law_rows_same" = true) (k__law_rows_same : PySem.W.keepIn K (.ref f__law_rows_same) = true)
    {f__law_thing_by : Addr} {od__law_thing_by an__law_thing_by : Option Addr} {sl__law_thing_by : Array (Option Value)} {oc__law_thing_by kV__law_thing_by dc__law_thing_by pm__law_thing_by cd__law_thing_by ct__law_thing_by : Value}
    (a__law_thing_by : PySem.W.nsIn K mainGlobals "_law_thing_by" = some (some (.ref f__law_thing_by)))
    (l__law_thing_by : K.lookup f__law_thing_by = some ⟨oc__law_thing_by, od__law_thing_by, .func (PySem.W.fnOf "_law_thing_by" "_law_thing_by" (defArgs s__law_thing_by) (defBody s__law_thing_by) (defScope s__law_thing_by) .none kV__law_thing_by dc__law_thing_by pm__law_thing_by an__law_thing_by cd__law_thing_by ct__law_thing_by), sl__law_thing_by⟩) (c__law_thing_by : PySem.W.codeIn K cd__law_thing_by "_law_thing_by" = true) (k__law_thing_by : PySem.W.keepIn K (.ref f__law_thing_by) = true)
    {f__law_beside_by : Addr} {od__law_beside_by an__law_beside_by : Option Addr} {sl__law_beside_by : Array (Option Value)} {oc__law_beside_by kV__law_beside_by dc__law_beside_by pm__law_beside_by cd__law_beside_by ct__law_beside_by : Value}
    (a__law_beside_by : PySem.W.nsIn K mainGlobals "_law_beside_by" = some (some (.ref f__law_beside_by)))
    (l__law_beside_by : K.lookup f__law_beside_by = some ⟨oc__law_beside_by, od__law_beside_by, .func (PySem.W.fnOf "_law_beside_by" "_law_beside_by" (defArgs s__law_beside_by) (defBody s__law_beside_by) (defScope s__law_beside_by) .none kV__law_beside_by dc__law_beside_by pm__law_beside_by an__law_beside_by cd__law_beside_by ct__law_beside_by), sl__law_beside_by⟩) (c__law_beside_by : PySem.W.codeIn K cd__law_beside_by "_law_beside_by" = true) (k__law_beside_by : PySem.W.keepIn K (.ref f__law_beside_by) = true)
    {f__law_told : Addr} {od__law_told an__law_told : Option Addr} {sl__law_told : Array (Option Value)} {oc__law_told kV__law_told dc__law_told pm__law_told cd__law_told ct__law_told : Value}
    (a__law_told : PySem.W.nsIn K mainGlobals "_law_told" = some (some (.ref f__law_told)))
    (l__law_told : K.lookup f__law_told = some ⟨oc__law_told, od__law_told, .func (PySem.W.fnOf "_law_told" "_law_told" (defArgs s__law_told) (defBody s__law_told) (defScope s__law_told) .none kV__law_told dc__law_told pm__law_told an__law_told cd__law_told ct__law_told), sl__law_told⟩) (c__law_told : PySem.W.codeIn K cd__law_told "_law_told" = true) (k__law_told : PySem.W.keepIn K (.ref f__law_told) = true)
    {f_law : Addr} {od_law an_law : Option Addr} {sl_law : Array (Option Value)} {oc_law kV_law dc_law pm_law cd_law ct_law : Value}
    (a_law : PySem.W.nsIn K mainGlobals "law" = some (some (.ref f_law)))
    (l_law : K.lookup f_law = some ⟨oc_law, od_law, .func (PySem.W.fnOf "law" "law" (defArgs s_law) (defBody s_law) (defScope s_law) .none kV_law dc_law pm_law an_law cd_law ct_law), sl_law⟩) (c_law : PySem.W.codeIn K cd_law "law" = true) (k_law : PySem.W.keepIn K (.ref f_law) = true)
    (z_all : PySem.W.nsIn K mainGlobals "all" = some none)
    (z_bool : PySem.W.nsIn K mainGlobals "bool" = some none)
    (z_enumerate : PySem.W.nsIn K mainGlobals "enumerate" = some none)
    (z_isinstance : PySem.W.nsIn K mainGlobals "isinstance" = some none)
    (z_len : PySem.W.nsIn K mainGlobals "len" = some none)
    (z_list : PySem.W.nsIn K mainGlobals "list" = some none)
    (z_tuple : PySem.W.nsIn K mainGlobals "tuple" = some none)
    (z_zip : PySem.W.nsIn K mainGlobals "zip" = some none)
    : ∃ a : Ad, Txt K mg a ∧ a.f_law = f_law ∧ a.d_law = PySem.W.fnOf "law" "law" (defArgs s_law) (defBody s_law) (defScope s_law) .none kV_law dc_law pm_law an_law cd_law ct_law := by
  refine ⟨⟨f_packed, PySem.W.fnOf "packed" "packed" (defArgs s_packed) (defBody s_packed) (defScope s_packed) .none kV_packed dc_packed pm_packed an_packed cd_packed ct_packed, f__law_same, PySem.W.fnOf "_law_same" "_law_same" (defArgs s__law_same) (defBody s__law_same) (defScope s__law_same) .none kV__law_same dc__law_same pm__law_same an__law_same cd__law_same ct__law_same, f__law_rows_same, PySem.W.fnOf "_law_rows_same" "_law_rows_same" (defArgs s__law_rows_same) (defBody s__law_rows_same) (defScope s__law_rows_same) .none kV__law_rows_same dc__law_rows_same pm__law_rows_same an__law_rows_same cd__law_rows_same ct__law_rows_same, f__law_thing_by, PySem.W.fnOf "_law_thing_by" "_law_thing_by" (defArgs s__law_thing_by) (defBody s__law_thing_by) (defScope s__law_thing_by) .none kV__law_thing_by dc__law_thing_by pm__law_thing_by an__law_thing_by cd__law_thing_by ct__law_thing_by, f__law_beside_by, PySem.W.fnOf "_law_beside_by" "_law_beside_by" (defArgs s__law_beside_by) (defBody s__law_beside_by) (defScope s__law_beside_by) .none kV__law_beside_by dc__law_beside_by pm__law_beside_by an__law_beside_by cd__law_beside_by ct__law_beside_by, f__law_told, PySem.W.fnOf "_law_told" "_law_told" (defArgs s__law_told) (defBody s__law_told) (defScope s__law_told) .none kV__law_told dc__law_told pm__law_told an__law_told cd__law_told ct__law_told, f_law, PySem.W.fnOf "law" "law" (defArgs s_law) (defBody s_law) (defScope s_law) .none kV_law dc_law pm_law an_law cd_law ct_law⟩, ⟨?_, ?_, ?_, ?_, ?_, ?_, ?_, ?_, ?_, ?_, ?_, ?_, ?_, ?_, ?_, ?_, ?_, ?_, ?_, ?_, ?_, ?_, ?_, ?_, ?_, ?_, ?_, ?_, ?_⟩, rfl, rfl⟩
  · exact fun_mk (st := s_packed) l_packed c_packed k_packed
  · exact (fun_mk (st := s_packed) l_packed c_packed k_packed).binds (ps := p_packed) fun _ _ _ _ _ _ us hl => match us, hl with | [_, _], _ => rfl
  · exact PySem.W.mg_of X G a_packed
  · exact fun_mk (st := s__law_same) l__law_same c__law_same k__law_same
  · exact (fun_mk (st := s__law_same) l__law_same c__law_same k__law_same).binds (ps := p__law_same) fun _ _ _ _ _ _ us hl => match us, hl with | [_, _], _ => rfl
  · exact PySem.W.mg_of X G a__law_same
  · exact fun_mk (st := s__law_rows_same) l__law_rows_same c__law_rows_same k__law_rows_same
  · exact (fun_mk (st := s__law_rows_same) l__law_rows_same c__law_rows_same k__law_rows_same).binds (ps := p__law_rows_same) fun _ _ _ _ _ _ us hl => match us, hl with | [_, _], _ => rfl
  · exact PySem.W.mg_of X G a__law_rows_same
  · exact fun_mk (st := s__law_thing_by) l__law_thing_by c__law_thing_by k__law_thing_by
  · exact (fun_mk (st := s__law_thing_by) l__law_thing_by c__law_thing_by k__law_thing_by).binds (ps := p__law_thing_by) fun _ _ _ _ _ _ us hl => match us, hl with | [_, _], _ => rfl
  · exact PySem.W.mg_of X G a__law_thing_by
  · exact fun_mk (st := s__law_beside_by) l__law_beside_by c__law_beside_by k__law_beside_by
  · exact (fun_mk (st := s__law_beside_by) l__law_beside_by c__law_beside_by k__law_beside_by).binds (ps := p__law_beside_by) fun _ _ _ _ _ _ us hl => match us, hl with | [_], _ => rfl
  · exact PySem.W.mg_of X G a__law_beside_by
  · exact fun_mk (st := s__law_told) l__law_told c__law_told k__law_told
  · exact (fun_mk (st := s__law_told) l__law_told c__law_told k__law_told).binds (ps := p__law_told) fun _ _ _ _ _ _ us hl => match us, hl with | [_, _, _], _ => rfl
  · exact PySem.W.mg_of X G a__law_told
  · exact fun_mk (st := s_law) l_law c_law k_law
  · exact (fun_mk (st := s_law) l_law c_law k_law).binds (ps := p_law) fun _ _ _ _ _ _ us hl => match us, hl with | [_], _ => rfl
  · exact PySem.W.mg_of X G a_law
  · exact PySem.W.mg_none_of X G z_all
  · exact PySem.W.mg_none_of X G z_bool
  · exact PySem.W.mg_none_of X G z_enumerate
  · exact PySem.W.mg_none_of X G z_isinstance
  · exact PySem.W.mg_none_of X G z_len
  · exact PySem.W.mg_none_of X G z_list
  · exact PySem.W.mg_none_of X G z_tuple
  · exact PySem.W.mg_none_of X G z_zip
theorem all_mk {l : PySem.W.OpenLaw} {w : World} {K : PySem.W.Frag} {h : Heap} {mg : Str → Option Value} {fa f_law : Addr} (X : K.In h) (G : h.Ns mainGlobals mg) (hfa : mg "law" = some (.ref fa)) {kV dc pm cd ct : Value} {an : Option Addr}
    (T : ∃ a : Ad, Txt K mg a ∧ a.f_law = f_law ∧ a.d_law = PySem.W.fnOf "law" "law" (defArgs s_law) (defBody s_law) (defScope s_law) .none kV dc pm an cd ct) :
    ∃ fd : FuncData, (∀ (s : Shared) (v : Value), BindsTo s fd ⟨[v], []⟩ [("_law_script", v)]) ∧ ∀ base : Heap, K.In base → base.Ns mainGlobals mg → FnOk l.prog w K mg base CX0 5 fa fd ["_law_script"] (spLaw K) := by
  obtain ⟨a, T, e1, e2⟩ := T
  have e := hfa.symm.trans T.m_law
  cases e
  refine ⟨a.d_law, ?_, fun base _ _ => ok_law T⟩
  rw [e2]
  exact fun s v => .of_eq rfl
theorem walk {l : PySem.W.OpenLaw} {q : Program} {loose : List Str} {XP : (Str → Option Value) → Heap → Prop} {YP : World → Heap → Prop} {d : DefRec} {K : Params → PySem.W.Frag} (hn : l.most = some 63) (hdf : d.params.defaults = [])
    (hY : ∀ (w : World) (h : Heap), YP w h → (K w.params).In h)
    (F : ∀ (w : World) (mg : Str → Option Value) (fa : Addr) (h : Heap), (K w.params).In h → h.Ns mainGlobals mg → mg d.name = some (.ref fa) →
      ∃ fd : FuncData, (∀ (s : Shared) (u : Value), BindsTo s fd ⟨[u], []⟩ [("_law_script", u)]) ∧ ∀ base : Heap, (K w.params).In base → base.Ns mainGlobals mg → FnOk l.prog w (K w.params) mg base CX0 5 fa fd ["_law_script"] (spLaw (K w.params))) :
    PySem.W.WalkO q loose XP YP l.row.toRowW d [] (fun f vs => PySem.call f vs) :=
  L2.walk_of (n := 63) (k := 5) (x := "_law_script") (CX := fun _ => CX0) (sp := fun w => spLaw (K w.params)) hn (by decide) hdf ⟨rfl, by decide, by decide⟩ hY F (fun _ _ a ns hl _ hS => ⟨a, ns, rfl, hS, hl, fun _ => rfl⟩) fun _ _ _ _ _ z => z
end My
open PySem PySem.W PyProof.Rows
set_option maxRecDepth 100000 in
set_option maxHeartbeats 0 in
theorem PySem.Challenge.cw_slotbook_k51_packed_holds : PySem.Challenge.rw_slotbook_k51_packed.Holds := by
  w_on; o_law; k_head; (case hw => w_witness2)
  k_fill
  refine My.walk (l := PySem.Challenge.rw_slotbook_k51_packed) rfl rfl (fun w h Y => PySem.W.kIn_of Y) ?F
  case F =>
    intro w mg fa h KX G hmg
    refine' My.all_mk KX G hmg (My.txt_mk KX G ?a_packed ?l_packed ?c_packed ?k_packed ?a__law_same ?l__law_same ?c__law_same ?k__law_same ?a__law_rows_same ?l__law_rows_same ?c__law_rows_same ?k__law_rows_same ?a__law_thing_by ?l__law_thing_by ?c__law_thing_by ?k__law_thing_by ?a__law_beside_by ?l__law_beside_by ?c__law_beside_by ?k__law_beside_by ?a__law_told ?l__law_told ?c__law_told ?k__law_told ?a_law ?l_law ?c_law ?k_law ?z_all ?z_bool ?z_enumerate ?z_isinstance ?z_len ?z_list ?z_tuple ?z_zip)
    (case a_packed => k_is)
    (case l_packed => k_is)
    (case c_packed => k_is)
    (case k_packed => k_is)
    (case a__law_same => k_is)
    (case l__law_same => k_is)
    (case c__law_same => k_is)
    (case k__law_same => k_is)
    (case a__law_rows_same => k_is)
    (case l__law_rows_same => k_is)
    (case c__law_rows_same => k_is)
    (case k__law_rows_same => k_is)
    (case a__law_thing_by => k_is)
    (case l__law_thing_by => k_is)
    (case c__law_thing_by => k_is)
    (case k__law_thing_by => k_is)
    (case a__law_beside_by => k_is)
    (case l__law_beside_by => k_is)
    (case c__law_beside_by => k_is)
    (case k__law_beside_by => k_is)
    (case a__law_told => k_is)
    (case l__law_told => k_is)
    (case c__law_told => k_is)
    (case k__law_told => k_is)
    (case a_law => k_is)
    (case l_law => k_is)
    (case c_law => k_is)
    (case k_law => k_is)
    (case z_all => k_is)
    (case z_bool => k_is)
    (case z_enumerate => k_is)
    (case z_isinstance => k_is)
    (case z_len => k_is)
    (case z_list => k_is)
    (case z_tuple => k_is)
    (case z_zip => k_is)

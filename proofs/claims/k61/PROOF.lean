import PyProof.Rows.All
import Wide.All
import OpenK.AllK
import Wide.FinOn
import Lean
import PyProof.EqAt
import PyProof.EqKinds
import PyProof.TupleCall
import PyProof.ZipIter
import PyProof.ExcAttrAll.ValueError
import PyProof.FactsAll.tuple_2
import PyProof.ListMulRoad
import PyProof.StrOps2
import KE.IntBitsLaws
import PySem.Challenge.RW_slotbook_k61_a_walk
set_option Elab.async false
set_option maxRecDepth 100000
set_option linter.all false
set_option maxHeartbeats 4000000
namespace L2
open PySem PySem.Spec PyProof.Rows
abbrev Key := Sum Int Str
def zKW : Key -> Value -> Bool
 | .inl k, v => Value.isInt k v
 | .inr x, v => Value.isStrOf x v
def zMd (w : World) : Key -> Int
 | .inl k => hashInt k
 | .inr x => hashStr w x
theorem Qw : ∀ {k : Key} {v : Value}, zKW k v = true -> (∃ i t, k = Sum.inl i /\ v = Value.int i t) \/ (∃ x t, k = Sum.inr x /\ v = Value.str x t)
 | .inl i, v, h => by
  obtain ⟨t, e⟩ := Value.isInt_shape (k := i) (v := v) h
  exact .inl ⟨i, t, rfl, e⟩
 | .inr x, v, h => by
  obtain ⟨t, e⟩ := Value.isStrOf_shape (x := x) (v := v) h
  exact .inr ⟨x, t, rfl, e⟩
theorem zLB (a b : Int) : decide ((Sum.inl a : Key) = Sum.inl b) = (a == b) := by
 by_cases e : a = b
 ·subst e; simp
 ·have h : ¬ (Sum.inl a : Key) = Sum.inl b := fun q => e (Sum.inl.inj q)
  rw [decide_eq_false h]
  exact (beq_eq_false_iff_ne.mpr e).symm
theorem zKx (a b : Str) : decide ((Sum.inr a : Key) = Sum.inr b) = decide (a = b) := by
 by_cases e : a = b
 ·subst e; simp
 ·have h : ¬ (Sum.inr a : Key) = Sum.inr b := fun q => e (Sum.inr.inj q)
  rw [decide_eq_false h, decide_eq_false e]
theorem zLi (a : Int) (b : Str) : decide ((Sum.inl a : Key) = Sum.inr b) = false := decide_eq_false (fun q => nomatch q)
theorem zLL (a : Str) (b : Int) : decide ((Sum.inr a : Key) = Sum.inl b) = false := decide_eq_false (fun q => nomatch q)
def zDC (prog : Program) (w : World) : PySem.KeyKind prog w Key where
 is := zKW
 hash := zMd w
 inj := fun v a b ha hb => by
  rcases Qw ha with ⟨i, t, rfl, rfl⟩ | ⟨x, t, rfl, rfl⟩
  ·rcases Qw hb with ⟨j, u, rfl, e⟩ | ⟨y, u, rfl, e⟩
   ·injection e with e1 _; rw [e1]
   ·exact nomatch e
  ·rcases Qw hb with ⟨j, u, rfl, e⟩ | ⟨y, u, rfl, e⟩
   ·exact nomatch e
   ·injection e with e1 _; rw [e1]
 byValue := fun k v h => by
  rcases Qw h with ⟨i, t, rfl, rfl⟩ | ⟨x, t, rfl, rfl⟩ <;> rfl
 pyHash := fun hv h => by
  rcases Qw hv with ⟨i, t, rfl, rfl⟩ | ⟨x, t, rfl, rfl⟩
  ·exact wpAny_pyHash_int h
  ·exact wpAny_pyHash_str h
 eqBool := fun hu hv h => by
  rcases Qw hu with ⟨i, t, rfl, rfl⟩ | ⟨x, t, rfl, rfl⟩
  ·rcases Qw hv with ⟨j, u, rfl, rfl⟩ | ⟨y, u, rfl, rfl⟩
   ·rw [zLB] at h; exact wpAny_eqBool_int h
   ·rw [zLi] at h; exact SeqAt.EqAt.int_str i t y u _ _ _ _ h
  ·rcases Qw hv with ⟨j, u, rfl, rfl⟩ | ⟨y, u, rfl, rfl⟩
   ·rw [zLL] at h; exact SeqAt.EqAt.str_int x t j u _ _ _ _ h
   ·rw [zKx] at h; exact wpAny_eqBool_str h
 «strs» := fun k x t v h => by
  rcases Qw h with ⟨i, u, rfl, e⟩ | ⟨y, u, rfl, e⟩
  ·exact nomatch e
  ·injection e with e1 _
   subst e1
   cases v <;> rfl
end L2
namespace L2
open PySem PySem.Spec PyProof.Rows
inductive V where
 | non | bl (b : Bool) | int (i : Int) | str (x : Str) | byt (b : Array UInt8) | flt (b : UInt64) | ref (a : Addr) | ty (n : String)
 deriving DecidableEq
def RelV : V -> Value -> Prop
 | .non, u => u = Value.none
 | .bl b, u => u = Value.bool b
 | .int i, u => ∃ t, u = Value.int i t
 | .str x, u => ∃ t, u = Value.str x t
 | .byt b, u => ∃ t, u = Value.bytes b t
 | .flt b, u => ∃ t, u = Value.float b t
 | .ref a, u => u = Value.ref a
 | .ty n, u => u = Value.type n
abbrev Vals : List V -> List Value -> Prop := Paired RelV
theorem Vals.length {xs : List V} {us : List Value} (r : Vals xs us) : xs.length = us.length := Paired.length r
theorem Vals.get : ∀ {xs : List V} {us : List Value} {i : Nat} {x : V}, Vals xs us -> xs[i]? = some x -> ∃ u, us[i]? = some u /\ RelV x u
 | _, _, _, _, .nil, e => by simp at e
 | _, _, 0, _, .cons r _, e => by simp at e; subst e; exact ⟨_, rfl, r⟩
 | _, _, i + 1, x, .cons _ t, e => by
  obtain ⟨u, h1, h2⟩ := Vals.get (i := i) (x := x) t (by simpa using e)
  exact ⟨u, by simpa using h1, h2⟩
theorem Vals.set {x : V} {u : Value} (r : RelV x u) : ∀ {xs : List V} {us : List Value} (i : Nat), Vals xs us -> Vals (xs.set i x) (us.set i u)
 | _, _, _, .nil => .nil
 | _, _, 0, .cons _ t => .cons r t
 | _, _, i + 1, .cons q t => .cons q (Vals.set r i t)
theorem Vals.append : ∀ {xs ys : List V} {us ws : List Value}, Vals xs us -> Vals ys ws -> Vals (xs ++ ys) (us ++ ws)
 | _, _, _, _, .nil, s => s
 | _, _, _, _, .cons r t, s => .cons r (Vals.append t s)
theorem Vals.take : ∀ {xs : List V} {us : List Value} (n : Nat), Vals xs us -> Vals (xs.take n) (us.take n)
 | _, _, 0, _ => .nil
 | _, _, _ + 1, .nil => .nil
 | _, _, n + 1, .cons r t => .cons r (Vals.take n t)
theorem Vals.drop : ∀ {xs : List V} {us : List Value} (n : Nat), Vals xs us -> Vals (xs.drop n) (us.drop n)
 | _, _, 0, r => r
 | _, _, _ + 1, .nil => .nil
 | _, _, n + 1, .cons _ t => Vals.drop n t
def RelO : Option V -> Option Value -> Prop
 | some v, some u => RelV v u
 | none, none => True
 | _, _ => False
def KV {κ : Type} : List (κ × V) -> List (κ × Value) -> Prop := Paired fun (p : κ × V) (q : κ × Value) => p.1 = q.1 /\ RelV p.2 q.2
def kV : Key -> V
 | .inl i => .int i
 | .inr x => .str x
inductive HO where
 | lst (xs : List V)
 | tup (xs : List V)
 | dK (kvs : List (Key × V)) | dT (kvs : List (List Key × V))
 | set (S : Int -> Bool) (n : Nat)
 | ins (C dx : Addr) (fs : List (Str × V))
 | own (x : Addr)
 | xd (fs : List (Str × V))
 | met (f x : Addr)
 | rng (lo hi : Int)
 | frz (o : Obj) (u : HO)
 | tbl (ps : Array Value)
 | ext (φ : Heap -> Prop)
abbrev Hp := Addr -> Option HO
def upd (H : Hp) (a : Addr) (o : HO) : Hp := fun b => if b = a then some o else H b
theorem QD {H : Hp} {a : Addr} {o : HO} : upd H a o a = some o := by unfold upd; rw [if_pos rfl]
theorem QG {H : Hp} {a b : Addr} {o : HO} (h : b ≠ a) : upd H a o b = H b := by unfold upd; rw [if_neg h]
theorem Q4 {H : Hp} {a : Addr} {o u : HO} : upd (upd H a o) a u = upd H a u := by
 funext b; unfold upd; split <;> rfl
theorem zFf {H : Hp} {a b : Addr} {o u : HO} (h : H a = some o) (h' : H b = some u) (d : o ≠ u) : a ≠ b := by
 intro e; subst e; rw [h] at h'; exact d (Option.some.inj h')
theorem QH {H : Hp} {a b : Addr} {o : HO} (h : H a = some o) (h' : H b = none) : a ≠ b := by
 intro e; subst e; rw [h] at h'; cases h'
section
variable (P : Program) (w : World)
def ObjOk (H : Hp) (h : Heap) (a : Addr) : HO -> Prop
 | .lst xs => xs.length <= sizeLine /\ ∃ (its : List Value) (n : Nat), Vals xs its /\ h.get? a = some { cls := .type "list", data := .seq its.toArray n }
 | .tup xs => xs.length <= sizeLine /\ ∃ its : List Value, Vals xs its /\ IsTup h a its.toArray
 | .dK kvs => kvs.length <= sizeLine /\ (a == sysModules) = false /\ ∃ vs, KV kvs vs /\ h.DictOf (zDC P w) a vs
 | .dT kvs => kvs.length <= sizeLine /\ (a == sysModules) = false /\ ∃ xs : List (List Key × Addr × Value),
   Paired (fun (p : List Key × V) (q : List Key × Addr × Value) => p.1 = q.1 /\ H q.2.1 = some (.tup (p.1.map kV)) /\ RelV p.2 q.2.2) kvs xs /\
   ∃ o es ep, h.get? a = some o /\ o.ExactDict /\ o.data = .dict es ep /\ es.toList = xs.map (entryOfKey (tupleKind (zDC P w))) /\ (xs.map (·.1)).Nodup
 | .set S n => h.SetOf (intKind P w) a S n
 | .ins C dx fs => H dx = some (.own a) /\ fs.length <= 1000 /\ dx ≠ a /\ h.get? a = some (W.instObj C dx) /\
   ∃ mA, h.Ns1 dx mA /\ (∀ f, RelO (fs.lookup f) (mA f)) /\ PySem.Within mA (fs.map (·.1))
 | .own _ => ∃ o, h.get? a = some o
 | .xd fs => ∃ mA, h.Ns1 a mA /\ ∀ f, RelO (fs.lookup f) (mA f)
 | .rng lo hi => ∃ t u v, h.get? a = some { cls := .type "range", data := .fields #[.int lo t, .int hi u, .int 1 v] }
 | .frz o u => h.get? a = some o /\ ObjOk H h a u
 | .tbl ps => h.get? a = some { cls := .none, data := .fields ps }
 | .met f x => h.get? a = some (PySem.W.methodObj (.ref f) (.ref x))
 | .ext φ => φ h /\ (∃ o, h.get? a = some o) /\ ∀ h1 h2 : Heap, φ h1 -> (∀ o, h1.get? a = some o -> h2.get? a = some o) -> φ h2
def HOk (H : Hp) (h : Heap) : Prop := ∀ a o, H a = some o -> ObjOk P w H h a o
end
section
variable {P : Program} {w : World} {H H' : Hp} {h h' : Heap} {a : Addr} {o : HO}
theorem ObjOk.lt (x : ObjOk P w H h a o) : a < h.objs.size := by
 cases o with
 | lst xs => obtain ⟨_, _, _, _, e⟩ := x; exact Heap.lt_size e
 | tup xs => obtain ⟨_, _, _, p⟩ := x; exact p.lt
 | dK kvs => obtain ⟨_, _, _, _, o, _, _, e, _⟩ := x; exact Heap.lt_size e
 | dT kvs => obtain ⟨_, _, _, _, o, _, _, e, _⟩ := x; exact Heap.lt_size e
 | set S n => obtain ⟨o, _, _, _, e, _⟩ := x; exact Heap.lt_size e
 | ins C dx fs => obtain ⟨_, _, _, e, _⟩ := x; exact Heap.lt_size e
 | own y => obtain ⟨_, e⟩ := x; exact Heap.lt_size e
 | xd fs => obtain ⟨_, ⟨_, _, _, e, _⟩, _⟩ := x; exact Heap.lt_size e
 | rng lo hi => obtain ⟨_, _, _, e⟩ := x; exact Heap.lt_size e
 | frz ob u => obtain ⟨e, _⟩ := x; exact Heap.lt_size e
 | tbl ps => exact Heap.lt_size (show h.get? a = some _ from x)
 | met f y => exact Heap.lt_size (show h.get? a = some _ from x)
 | ext φ => obtain ⟨_, ⟨_, e⟩, _⟩ := x; exact Heap.lt_size e
theorem Paired.mapP {α β : Type} {F G : α -> β -> Prop} : ∀ {l₁ : List α} {l₂ : List β}, Paired F l₁ l₂ -> (∀ a b, F a b -> G a b) -> Paired G l₁ l₂
 | _, _, .nil, _ => .nil
 | _, _, .cons r t, f => .cons (f _ _ r) (Paired.mapP t f)
theorem ObjOk.stay (x : ObjOk P w H h a o) (k : ∀ b u, (b = a \/ H b = some (.own a)) -> h.get? b = some u -> h'.get? b = some u)
  (ho : ∀ b, H b = some (.own a) -> H' b = some (.own a)) (ht : ∀ b xs, H b = some (.tup xs) -> H' b = some (.tup xs)) : ObjOk P w H' h' a o := by
 induction o with
 | lst xs => obtain ⟨z, its, n, r, e⟩ := x; exact ⟨z, its, n, r, k _ _ (.inl rfl) e⟩
 | tup xs => obtain ⟨z, its, r, ob, e, c⟩ := x; exact ⟨z, its, r, ob, k _ _ (.inl rfl) e, c⟩
 | dK kvs => obtain ⟨z, y, vs, r, ob, es, ep, e, c⟩ := x; exact ⟨z, y, vs, r, ob, es, ep, k _ _ (.inl rfl) e, c⟩
 | dT kvs =>
  obtain ⟨z, y, xs, r, ob, es, ep, e, c⟩ := x
  exact ⟨z, y, xs, Paired.mapP r fun p q z => ⟨z.1, ht _ _ z.2.1, z.2.2⟩, ob, es, ep, k _ _ (.inl rfl) e, c⟩
 | set S n => obtain ⟨ob, es, ep, t, e, c⟩ := x; exact ⟨ob, es, ep, t, k _ _ (.inl rfl) e, c⟩
 | ins C dx fs =>
  obtain ⟨d, z, ne, e, mA, ⟨od, es, ep, e2, c⟩, r⟩ := x
  exact ⟨ho _ d, z, ne, k _ _ (.inl rfl) e, mA, ⟨od, es, ep, k _ _ (.inr d) e2, c⟩, r⟩
 | own y => obtain ⟨ob, e⟩ := x; exact ⟨ob, k _ _ (.inl rfl) e⟩
 | xd fs => obtain ⟨mA, ⟨od, es, ep, e, c⟩, r⟩ := x; exact ⟨mA, ⟨od, es, ep, k _ _ (.inl rfl) e, c⟩, r⟩
 | rng lo hi => obtain ⟨t, u, v, e⟩ := x; exact ⟨t, u, v, k _ _ (.inl rfl) e⟩
 | frz ob u ih => obtain ⟨e, q⟩ := x; exact ⟨k _ _ (.inl rfl) e, ih q⟩
 | tbl ps =>
  have e : h.get? a = some { cls := .none, data := .fields ps } := x
  show h'.get? a = some { cls := .none, data := .fields ps }
  exact k a _ (.inl rfl) e
 | met f y =>
  have e : h.get? a = some (PySem.W.methodObj (.ref f) (.ref y)) := x
  show h'.get? a = some (PySem.W.methodObj (.ref f) (.ref y))
  exact k a _ (.inl rfl) e
 | ext φ => obtain ⟨p, ⟨o, e⟩, st⟩ := x; exact ⟨st _ _ p fun o q => k _ _ (.inl rfl) q, ⟨o, k _ _ (.inl rfl) e⟩, st⟩
theorem HOk.lt (x : HOk P w H h) (e : H a = some o) : a < h.objs.size := (x a o e).lt
theorem HOk.fresh (x : HOk P w H h) (e : h.objs.size <= a) : H a = none := by
 cases q : H a with
 | none => rfl
 | some u => exact absurd (Nat.lt_of_lt_of_le (x.lt q) e) (Nat.lt_irrefl _)
theorem HOk.kept (x : HOk P w H h) (k : ∀ b u, h.get? b = some u -> h'.get? b = some u) : HOk P w H h' := fun a o e =>
 (x a o e).stay (fun b u _ q => k b u q) (fun _ q => q) fun _ _ q => q
theorem HOk.laid (x : HOk P w H h) (k : ∀ b u, h.get? b = some u -> h'.get? b = some u) (hp : h.objs.size <= a) (new : ObjOk P w (upd H a o) h' a o) : HOk P w (upd H a o) h' := fun b u e => by
 have hn := x.fresh hp
 by_cases hb : b = a
 ·subst hb; rw [QD] at e; cases e; exact new
 ·rw [QG hb] at e
  exact (x b u e).stay (fun c v _ q => k c v q) (fun c q => by rw [QG (QH q hn)]; exact q) fun c xs q => by rw [QG (QH q hn)]; exact q
end
def Rd (H : Hp) (a : Addr) (u : HO) : Prop := H a = some u \/ ∃ o, H a = some (.frz o u)
theorem Rd.ok {P : Program} {w : World} {H : Hp} {h : Heap} {a : Addr} {u : HO} (r : Rd H a u) (x : HOk P w H h) : ObjOk P w H h a u := by
 rcases r with r | ⟨o, r⟩
 ·exact x a u r
 ·obtain ⟨_, q⟩ := x a _ r
  exact q
def Mut : Option HO -> Prop
 | some (.lst _) => True
 | some (.dK _) => True
 | some (.dT _) => True
 | some (.set _ _) => True
 | some (.ins _ _ _) => True
 | some (.ext _) => True
 | _ => False
section
variable {P : Program} {w : World} {H : Hp} {h h' : Heap} {x e : Addr} {o' : HO}
theorem HOk.write (ok : HOk P w H h) (mu : Mut (H x)) (he : e = x \/ H e = some (.own x)) (k : ∀ b u, b ≠ e -> h.get? b = some u -> h'.get? b = some u) (heo : ∃ u, h'.get? e = some u)
  (new : ObjOk P w (upd H x o') h' x o') : HOk P w (upd H x o') h' := fun b u q => by
 have nown : ∀ c y, H c = some (.own y) -> c ≠ x := fun c y r z => by subst z; rw [r] at mu; exact mu
 have ntup : ∀ c xs, H c = some (.tup xs) -> c ≠ x := fun c xs r z => by subst z; rw [r] at mu; exact mu
 by_cases hb : b = x
 ·subst hb; rw [QD] at q; cases q; exact new
 ·rw [QG hb] at q
  by_cases hbe : b = e
  ·have q' : H b = some (.own x) := by
    rcases he with z | z
    ·exact absurd (hbe.trans z) hb
    ·rw [hbe]; exact z
   rw [q] at q'; cases q'
   obtain ⟨v, hv⟩ := heo
   exact ⟨v, by rw [hbe]; exact hv⟩
  ·refine (ok b u q).stay (fun c v hc r => k c v ?_ r) (fun c r => by rw [QG (nown c b r)]; exact r) fun c xs r => by rw [QG (ntup c xs r)]; exact r
   rcases hc with rfl | hc
   ·exact hbe
   ·rintro rfl
    rcases he with z | z
    ·exact nown c b hc z
    ·rw [hc] at z; cases z; exact hb rfl
end
structure Un (fs ex : List Addr) (H H' : Hp) (h h' : Heap) : Prop where
 keep : ∀ b o, h.get? b = some o -> H b = none -> b ∉ fs -> b ∉ ex -> h'.get? b = some o
 slot : ∀ b o, h.get? b = some o -> H b = none -> b ∈ fs -> b ∉ ex -> ∃ sl, h'.get? b = some { o with slots := sl }
 free : ∀ b o, h.get? b = some o -> H b = none -> b ∉ ex -> H' b = none
 there : ∀ b o, h.get? b = some o -> b ∉ ex -> ∃ o', h'.get? b = some o'
 tups : ∀ b xs, H b = some (.tup xs) -> H' b = some (.tup xs)
 frzs : ∀ b o u, H b = some (.frz o u) -> H' b = some (.frz o u)
 tbls : ∀ b ps, H b = some (.tbl ps) -> ∃ more, H' b = some (.tbl (ps ++ more))
section
variable {fs fs' ex ex' : List Addr} {H H1 H2 : Hp} {h h1 h2 h' : Heap} {a x e : Addr} {o : HO}
theorem Un.any (u : Un fs ex H H1 h h1) {b : Addr} {ob : Obj} (q : h.get? b = some ob) (n : H b = none) (hx : b ∉ ex) : ∃ sl, h1.get? b = some { ob with slots := sl } := by
 by_cases hb : b ∈ fs
 ·exact u.slot b ob q n hb hx
 ·exact ⟨ob.slots, u.keep b ob q n hb hx⟩
theorem Un.kept (k : ∀ b u, h.get? b = some u -> h'.get? b = some u) : Un fs ex H H h h' :=
 ⟨fun b ob q _ _ _ => k b ob q, fun b ob q _ _ _ => ⟨ob.slots, k b ob q⟩, fun _ _ _ n _ => n, fun b ob q _ => ⟨ob, k b ob q⟩, fun _ _ q => q, fun _ _ _ q => q, fun _ ps q => ⟨#[], by rw [q]; simp⟩⟩
theorem Un.refl : Un fs ex H H h h := Un.kept fun _ _ q => q
theorem Un.laid (k : ∀ b u, h.get? b = some u -> h'.get? b = some u) (hp : h.objs.size <= a) (hn : H a = none) : Un fs ex H (upd H a o) h h' where
 keep := fun b u q _ _ _ => k b u q
 slot := fun b u q _ _ _ => ⟨u.slots, k b u q⟩
 free := fun b u q n _ => by rw [QG (Nat.ne_of_lt (Nat.lt_of_lt_of_le (Heap.lt_size q) hp))]; exact n
 there := fun b u q _ => ⟨u, k b u q⟩
 tups := fun b xs q => by rw [QG (QH q hn)]; exact q
 frzs := fun b u xs q => by rw [QG (QH q hn)]; exact q
 tbls := fun b ps q => ⟨#[], by rw [QG (QH q hn), q]; simp⟩
theorem Un.write (mu : Mut (H x)) (he : e = x \/ H e = some (.own x)) (k : ∀ b u, b ≠ e -> h.get? b = some u -> h'.get? b = some u) (heo : ∃ u, h'.get? e = some u) : Un fs ex H (upd H x o) h h' := by
 have hx : ∀ b, H b = none -> b ≠ x := fun b n z => by subst z; rw [n] at mu; exact mu
 have hb : ∀ b, H b = none -> b ≠ e := fun b n z => by
  subst z
  rcases he with r | r
  ·exact hx b n r
  ·rw [n] at r; cases r
 have hm : ∀ b u, H b = some u -> ¬ Mut (some u) -> b ≠ x := fun b u q nm z => by subst z; rw [q] at mu; exact nm mu
 refine ⟨fun b u q n _ _ => k b u (hb b n) q, fun b u q n _ _ => ⟨u.slots, k b u (hb b n) q⟩, fun b u q n _ => by rw [QG (hx b n)]; exact n, fun b u q _ => ?_,
  fun b xs q => by rw [QG (hm b _ q fun z => z)]; exact q, fun b u xs q => by rw [QG (hm b _ q fun z => z)]; exact q, fun b ps q => ⟨#[], by rw [QG (hm b _ q fun z => z), q]; simp⟩⟩
 by_cases hbe : b = e
 ·subst hbe; exact heo
 ·exact ⟨u, k b u hbe q⟩
end
def trk (h : Heap) (H : Hp) : List Addr := (List.range h.objs.size).filter fun a => (H a).isSome
def zCg (h : Heap) (H : Hp) : Heap := W.hideAll h (trk h H)
theorem zGs (h : Heap) (H : Hp) : (zCg h H).objs.size = h.objs.size := PySem.W.hideAll_size _ _
theorem zIw {h : Heap} {H : Hp} {b : Addr} {o : Obj} (e : h.get? b = some o) (n : H b = none) : (zCg h H).get? b = some o :=
 PySem.W.hideAll_get _ e fun hm => by
  have q : (H b).isSome = true := (List.mem_filter.mp hm).2
  rw [n] at q; simp at q
theorem zJo {h : Heap} {H : Hp} {b : Addr} {o : Obj} (e : (zCg h H).get? b = some o) : h.get? b = some o /\ H b = none := by
 have e' : h.get? b = some o := PySem.W.of_hideAll (trk h H) e
 refine ⟨e', ?_⟩
 cases q : H b with
 | none => rfl
 | some x =>
  have hm : b ∈ trk h H := List.mem_filter.mpr ⟨List.mem_range.mpr (Heap.lt_size e'), by simp [q]⟩
  have z : (zCg h H).get? b = none := PySem.W.hideAll_none (trk h H) hm
  rw [z] at e; cases e
def zJd (g h : Heap) (L : Addr) : List (Addr × Obj) := (List.range h.objs.size).filterMap fun a => if a = L \/ (g.get? a).isSome = true then none else (h.get? a).map fun o => (a, o)
def YL (g h : Heap) (L d : Addr) : List (Addr × Obj) := (zJd g h L).filter fun p => decide (p.1 ≠ d)
end L2
namespace L2
open PySem PySem.Spec PyProof.Rows
structure Mod (K : W.Frag) (mg : Str -> Option Value) (base : Heap) : Prop where
 kin : K.In base
 glob : base.Ns mainGlobals mg
 blt : ∃ mb, base.Ns builtinsNs mb /\ ∀ x : Str, x ≠ "__name__" -> mb x = bootBuiltins x
 nolimit : base.NoLimit
structure Cx where
 prog : Program
 w : World
 K : W.Frag
 mg : Str -> Option Value
 base : Heap
 A : Around
 N : List Str
 s₀ : Shared
 H₀ : Hp
 env : Env
 outer : List Env
 stack : List Env
 ex : List Addr
 fn : Str -> Bool
 calm : Bool
 pn : List (Addr × Obj)
 xe : Value -> Shared -> Prop
def frs (l : List Env) : List Addr := l.filterMap (·.frame)
abbrev Cx.fs (X : Cx) : List Addr := frs X.outer
def Vis (sc : Scope) (x : Str) : Prop := sc.names.lookup x = some .local \/ sc.names.lookup x = some .cell \/ sc.names.lookup x = some .free
def Loc (sc : Scope) (x : Str) : Prop := sc.names.lookup x = some .local \/ sc.names.lookup x = some .cell
def zMh (env : Env) (h : Heap) (m : Str -> Option Value) (x : Str) (u : Value) : Prop :=
 (env.kindOf x = some .local /\ m x = some u) \/ ((env.kindOf x = some .cell \/ env.kindOf x = some .free) /\ ∃ c, env.cells.lookup x = some c /\ h.IsCell c (some u))
structure Cx.Ok (X : Cx) : Prop where
 mod : Mod X.K X.mg X.base
 kind : X.env.scope.kind = .function
 glob : X.env.globals = mainGlobals
 blt : X.env.builtins = builtinsNs
 above : X.s₀.heap.objs.size <= X.env.locals
 inj : ∀ x y c, X.env.cells.lookup x = some c -> X.env.cells.lookup y = some c -> x = y
 has : ∀ x, (X.env.kindOf x = some .cell \/ X.env.kindOf x = some .free) -> ∃ c, X.env.cells.lookup x = some c
 cab : ∀ x c, X.fn x = true -> X.env.cells.lookup x = some c -> X.s₀.heap.objs.size <= c
 hd : X.calm = true -> X.A.handled = none
 frames : X.A.frames = some X.stack
 stk : X.stack = X.outer \/ (X.stack = X.env :: X.outer /\ X.env.frame = some X.env.locals)
 exf : ∀ b ∈ X.ex, b ≠ X.env.locals /\ ∀ x c, X.env.cells.lookup x = some c -> c ≠ b
 bs : ∀ b o, X.base.get? b = some o -> X.s₀.heap.get? b = some o /\ X.H₀ b = none
 bsz : X.base.objs.size <= X.s₀.heap.objs.size
 noex : ∀ b o, X.base.get? b = some o -> b ∉ X.ex
 exfs : ∀ b ∈ X.ex, b ∉ X.fs
 funs : X.s₀.heap.FunFrames X.base X.outer
 frf : ∀ b ∈ X.fs, X.H₀ b = none
structure Inv (X : Cx) (pins : List (Addr × Obj)) (σ : List (Option V)) (H : Hp) (s : Shared) : Prop where
 ok : X.Ok
 os : s.os = X.s₀.os
 bare : AllBare s.gens
 base : Un X.fs X.ex X.H₀ H X.s₀.heap s.heap
 loc : ∃ m, s.heap.Ns X.env.locals m /\ ∀ (i : Nat) (x : Str) (v : V), X.N[i]? = some x -> σ[i]? = some (some v) -> Vis X.env.scope x -> ∃ u, RelV v u /\ zMh X.env s.heap m x u
 cell : ∀ x c, X.env.cells.lookup x = some c -> ∃ v, s.heap.IsCell c v
 free : H X.env.locals = none
 freeC : ∀ x c, X.env.cells.lookup x = some c -> H c = none
 pin : ∀ p ∈ X.pn ++ pins, s.heap.get? p.1 = some p.2 /\ H p.1 = none /\ p.1 ≠ X.env.locals /\ p.1 ∉ X.fs /\ ∀ v, p.2.data ≠ .cell v
 hok : HOk X.prog X.w H s.heap
 len : σ.length = X.N.length
section
variable {X : Cx} {pins : List (Addr × Obj)} {σ : List (Option V)} {H H' : Hp} {s : Shared} {h' : Heap}
theorem Cx.Ok.nofr (ok : X.Ok) {b : Addr} {o : Obj} (e : X.base.get? b = some o) : b ∉ X.fs := fun hb => by
 have := (ok.funs.mem hb).1
 rw [e] at this; cases this
theorem Inv.bs (I : Inv X pins σ H s) : ∀ b o, X.base.get? b = some o -> s.heap.get? b = some o /\ H b = none := fun b o e =>
 ⟨I.base.keep b o (I.ok.bs b o e).1 (I.ok.bs b o e).2 (I.ok.nofr e) (I.ok.noex b o e), I.base.free b o (I.ok.bs b o e).1 (I.ok.bs b o e).2 (I.ok.noex b o e)⟩
theorem Inv.bk (I : Inv X pins σ H s) : ∀ b o, X.base.get? b = some o -> s.heap.get? b = some o := fun b o e => (I.bs b o e).1
theorem Inv.mod (I : Inv X pins σ H s) : Mod X.K X.mg X.base := I.ok.mod
theorem Inv.kIn (I : Inv X pins σ H s) : X.K.In s.heap := I.ok.mod.kin.keeps I.bk
theorem Inv.lt (I : Inv X pins σ H s) : X.env.locals < s.heap.objs.size := let ⟨_, hn, _⟩ := I.loc; hn.lt
theorem Inv.sz (I : Inv X pins σ H s) : X.s₀.heap.objs.size <= s.heap.objs.size := Nat.le_trans I.ok.above (Nat.le_of_lt I.lt)
theorem Inv.nofs (I : Inv X pins σ H s) {a : Addr} (h : s.heap.objs.size <= a) : a ∉ X.fs := fun hb => by
 obtain ⟨_, o, ho, _⟩ := I.ok.funs.mem hb
 exact absurd (Nat.lt_of_lt_of_le (Heap.lt_size ho) (Nat.le_trans I.sz h)) (Nat.lt_irrefl _)
theorem Inv.cne (I : Inv X pins σ H s) : ∀ x c, X.env.cells.lookup x = some c -> c ≠ X.env.locals := fun x c e z => by
 obtain ⟨v, o, ho, hd⟩ := I.cell x c e
 obtain ⟨m, ⟨o', es, ep, ho', hd', _⟩, _⟩ := I.loc
 rw [z, ho'] at ho; cases ho; rw [hd'] at hd; cases hd
theorem Inv.funs (I : Inv X pins σ H s) : s.heap.FunFrames X.base X.outer := by
 have all : ∀ (l : List Env), (∀ b ∈ frs l, b ∈ X.fs) -> X.s₀.heap.FunFrames X.base l -> s.heap.FunFrames X.base l := by
  intro l
  induction l with
  | nil => intro _ _; trivial
  | cons env r ih =>
   intro hs hl
   obtain ⟨hk, ⟨L, o, hf, hn, ho, hd⟩, hr⟩ := hl
   have hL : L ∈ X.fs := hs L (by unfold frs; rw [List.filterMap_cons, hf]; exact List.mem_cons_self)
   obtain ⟨sl, e⟩ := I.base.slot L o ho (I.ok.frf L hL) hL fun z => I.ok.exfs L z hL
   exact ⟨hk, ⟨L, _, hf, hn, e, hd⟩, ih (fun b hb => hs b (by unfold frs; rw [List.filterMap_cons, hf]; exact List.mem_cons_of_mem _ hb)) hr⟩
 exact all X.outer (fun _ hb => hb) I.ok.funs
theorem Inv.stack (I : Inv X pins σ H s) : s.heap.FunFrames X.base X.stack := by
 rcases I.ok.stk with e | ⟨e, hf⟩
 ·rw [e]; exact I.funs
 ·rw [e]
  obtain ⟨m, hn, _⟩ := I.loc
  refine .cons (by rw [I.ok.kind]; decide) hf hn ?_ I.funs
  exact Heap.get?_none_of_le (Nat.le_trans I.ok.bsz I.ok.above)
theorem Inv.stkSub (I : Inv X pins σ H s) : ∀ b ∈ frs X.stack, b ∈ X.env.locals :: X.fs := fun b hb => by
 rcases I.ok.stk with e | ⟨e, hf⟩
 ·rw [e] at hb; exact List.mem_cons_of_mem _ hb
 ·rw [e] at hb
  unfold frs at hb
  rw [List.filterMap_cons, hf] at hb
  exact hb
theorem Inv.stkFree (I : Inv X pins σ H s) : ∀ b ∈ frs X.stack, H b = none := fun b hb => by
 rcases List.mem_cons.mp (I.stkSub b hb) with e | hb
 ·rw [e]; exact I.free
 ·obtain ⟨_, o, ho, _⟩ := I.ok.funs.mem hb
  exact I.base.free b o ho (I.ok.frf b hb) fun z => I.ok.exfs b z hb
theorem Inv.step {g' : Array GenState} {t' : Nat} {d' : Drawn} {ch : List Addr} (I : Inv X pins σ H s)
  (hch : ∀ b ∈ ch, (b ∈ X.ex \/ X.s₀.heap.objs.size <= b) /\ b ≠ X.env.locals /\ (∀ x c, X.env.cells.lookup x = some c -> c ≠ b) /\ ∀ p ∈ X.pn ++ pins, p.1 ≠ b)
  (keep : ∀ b o, b ≠ X.env.locals -> b ∉ X.fs -> b ∉ ch -> s.heap.get? b = some o -> H b = none -> h'.get? b = some o)
  (slot : ∀ b o, b ≠ X.env.locals -> b ∈ X.fs -> b ∉ ch -> s.heap.get? b = some o -> H b = none -> ∃ sl, h'.get? b = some { o with slots := sl }) (free : ∀ b o, b ∉ ch -> s.heap.get? b = some o -> H b = none -> H' b = none)
  (there : ∀ b o, b ∉ ch -> s.heap.get? b = some o -> ∃ o', h'.get? b = some o')
  (tups : ∀ b xs, H b = some (.tup xs) -> H' b = some (.tup xs)) (frzs : ∀ b o u, H b = some (.frz o u) -> H' b = some (.frz o u)) (tbls : ∀ b ps, H b = some (.tbl ps) -> ∃ more, H' b = some (.tbl (ps ++ more)))
  (ns : ∀ m, s.heap.Ns X.env.locals m -> h'.Ns X.env.locals m) (hok : HOk X.prog X.w H' h') (hg : AllBare g') :
  Inv X pins σ H' { s with heap := h', gens := g', drawn := d', toks := t' } := by
 have neL : ∀ b o, X.s₀.heap.get? b = some o -> b ≠ X.env.locals := fun b o e => Nat.ne_of_lt (Nat.lt_of_lt_of_le (Heap.lt_size e) I.ok.above)
 have neC : ∀ b o, X.s₀.heap.get? b = some o -> b ∉ X.ex -> b ∉ ch := fun b o e hx hb => by
  rcases (hch b hb).1 with z | z
  ·exact hx z
  ·exact absurd (Nat.lt_of_lt_of_le (Heap.lt_size e) z) (Nat.lt_irrefl _)
 have cellK : ∀ x c, X.env.cells.lookup x = some c -> ∀ v, s.heap.IsCell c v -> h'.IsCell c v := fun x c e v ⟨o, ho, hd⟩ => by
  have nch : c ∉ ch := fun z => (hch c z).2.2.1 x c e rfl
  by_cases hc : c ∈ X.fs
  ·obtain ⟨sl, q⟩ := slot c o (I.cne x c e) hc nch ho (I.freeC x c e)
   exact ⟨_, q, hd⟩
  ·exact ⟨o, keep c o (I.cne x c e) hc nch ho (I.freeC x c e), hd⟩
 refine ⟨I.ok, I.os, hg, ⟨fun b o e n hb hx => ?_, fun b o e n hb hx => ?_, fun b o e n hx => ?_, fun b o e hx => ?_, fun b xs e => tups b xs (I.base.tups b xs e), fun b o xs e => frzs b o xs (I.base.frzs b o xs e), fun b ps e => ?_⟩, ?_, fun x c e => ?_, ?_, fun x c e => ?_, fun p hp => ?_, hok, I.len⟩
 ·exact keep b o (neL b o e) hb (neC b o e hx) (I.base.keep b o e n hb hx) (I.base.free b o e n hx)
 ·obtain ⟨sl, e1⟩ := I.base.slot b o e n hb hx
  obtain ⟨sl', e2⟩ := slot b _ (neL b o e) hb (neC b o e hx) e1 (I.base.free b o e n hx)
  exact ⟨sl', e2⟩
 ·obtain ⟨o', e1⟩ := I.base.there b o e hx
  exact free b o' (neC b o e hx) e1 (I.base.free b o e n hx)
 ·obtain ⟨o', e1⟩ := I.base.there b o e hx
  exact there b o' (neC b o e hx) e1
 ·obtain ⟨m1, e1⟩ := I.base.tbls b ps e
  obtain ⟨m2, e2⟩ := tbls b _ e1
  exact ⟨m1 ++ m2, by rw [e2, Array.append_assoc]⟩
 ·obtain ⟨m, hn, hl⟩ := I.loc
  refine ⟨m, ns m hn, fun i x v e1 e2 e3 => ?_⟩
  obtain ⟨u, r, l⟩ := hl i x v e1 e2 e3
  refine ⟨u, r, ?_⟩
  rcases l with l | ⟨k, c, e, z⟩
  ·exact .inl l
  ·exact .inr ⟨k, c, e, cellK x c e _ z⟩
 ·obtain ⟨v, z⟩ := I.cell x c e
  exact ⟨v, cellK x c e v z⟩
 ·obtain ⟨m, ⟨o, _, _, ho, _⟩, _⟩ := I.loc
  exact free _ o (fun z => (hch _ z).2.1 rfl) ho I.free
 ·obtain ⟨v, o, ho, hd⟩ := I.cell x c e
  exact free c o (fun z => (hch c z).2.2.1 x c e rfl) ho (I.freeC x c e)
 ·obtain ⟨e, n, ne, nf, d⟩ := I.pin p hp
  have nch : p.1 ∉ ch := fun z => (hch p.1 z).2.2.2 p hp rfl
  exact ⟨keep p.1 p.2 ne nf nch e n, free p.1 p.2 nch e n, ne, nf, d⟩
theorem Inv.un {t' : Nat} (I : Inv X pins σ H s) (u : Un X.fs [] H H' s.heap h') (hok : HOk X.prog X.w H' h') : Inv X pins σ H' { s with heap := h', toks := t' } := by
 obtain ⟨m, ⟨o, es, ep, ho, r⟩, _⟩ := id I.loc
 obtain ⟨sl, hL⟩ := u.any ho I.free (by simp)
 exact I.step (g' := s.gens) (d' := s.drawn) (ch := []) (fun _ z => nomatch z) (fun b o _ hb _ e n => u.keep b o e n hb (by simp)) (fun b o _ hb _ e n => u.slot b o e n hb (by simp)) (fun b o _ e n => u.free b o e n (by simp)) (fun b o _ e => u.there b o e (by simp)) u.tups u.frzs u.tbls (fun m' hm => by
  obtain ⟨o', es', ep', ho', r'⟩ := hm
  rw [ho] at ho'; cases ho'
  exact ⟨_, es', ep', hL, r'⟩) hok I.bare
theorem Inv.call {g' : Array GenState} {t' : Nat} {d' : Drawn} {ch : List Addr} (I : Inv X pins σ H s) (u : Un (frs X.stack) ch H H' s.heap h') (hok : HOk X.prog X.w H' h') (hg : AllBare g')
  (hch : ∀ b ∈ ch, (b ∈ X.ex \/ X.s₀.heap.objs.size <= b) /\ b ≠ X.env.locals /\ (∀ x c, X.env.cells.lookup x = some c -> c ≠ b) /\ ∀ p ∈ X.pn ++ pins, p.1 ≠ b) :
  Inv X pins σ H' { s with heap := h', gens := g', drawn := d', toks := t' } := by
 obtain ⟨m, ⟨o, es, ep, ho, r⟩, _⟩ := id I.loc
 obtain ⟨sl, hL⟩ := u.any ho I.free fun z => (hch _ z).2.1 rfl
 exact I.step (ch := ch) hch (fun b o hL hb hc e n => u.keep b o e n (fun z => (List.mem_cons.mp (I.stkSub b z)).elim hL hb) hc) (fun b o _ _ hc e n => u.any e n hc) (fun b o hc e n => u.free b o e n hc) (fun b o hc e => u.there b o e hc) u.tups u.frzs u.tbls (fun m' hm => by
  obtain ⟨o', es', ep', ho', r'⟩ := hm
  rw [ho] at ho'; cases ho'
  exact ⟨_, es', ep', hL, r'⟩) hok hg
theorem Inv.turned {t' : Nat} {it : Addr} (I : Inv X pins σ H s) (k : ∀ b o, b ≠ it -> s.heap.get? b = some o -> h'.get? b = some o) (hn : H it = none) (hL : it ≠ X.env.locals)
  (h1 : it ∈ X.ex \/ X.s₀.heap.objs.size <= it) (h2 : ∀ x c, X.env.cells.lookup x = some c -> c ≠ it) (h3 : ∀ p ∈ X.pn ++ pins, p.1 ≠ it) : Inv X pins σ H { s with heap := h', toks := t' } := by
 have nit : ∀ b u, H b = some u -> b ≠ it := fun b u e z => by rw [z, hn] at e; cases e
 refine I.step (g' := s.gens) (d' := s.drawn) (ch := [it]) (fun b hb => ?_) (fun b o _ _ hc e _ => k b o (fun z => hc (by simp [z])) e) (fun b o _ _ hc e _ => ⟨o.slots, k b o (fun z => hc (by simp [z])) e⟩) (fun _ _ _ _ n => n)
  (fun b o hc e => ⟨o, k b o (fun z => hc (by simp [z])) e⟩) (fun _ _ e => e) (fun _ _ _ e => e) (fun b ps e => ⟨#[], by rw [e]; simp⟩) (fun m hm => ?_) (fun b u e => ?_) I.bare
 ·have e : b = it := by simpa using hb
  subst e
  exact ⟨h1, hL, h2, h3⟩
 ·obtain ⟨o, es, ep, ho, r⟩ := hm
  exact ⟨o, es, ep, k _ o (Ne.symm hL) ho, r⟩
 ·refine (I.hok b u e).stay (fun c v hc q => k c v ?_ q) (fun _ q => q) fun _ _ q => q
  rcases hc with z | z
  ·rw [z]; exact nit b u e
  ·exact nit c _ z
theorem Inv.tok (I : Inv X pins σ H s) (t : Nat) : Inv X pins σ H { s with toks := t } := I.un (h' := s.heap) (t' := t) Un.refl I.hok
theorem Inv.kept {t' : Nat} (I : Inv X pins σ H s) (k : ∀ b u, s.heap.get? b = some u -> h'.get? b = some u) : Inv X pins σ H { s with heap := h', toks := t' } := I.un (Un.kept k) (I.hok.kept k)
theorem Inv.laid {a : Addr} {o : HO} {t' : Nat} (I : Inv X pins σ H s) (k : ∀ b u, s.heap.get? b = some u -> h'.get? b = some u) (hp : s.heap.objs.size <= a) (new : ObjOk X.prog X.w (upd H a o) h' a o) :
  Inv X pins σ (upd H a o) { s with heap := h', toks := t' } := I.un (Un.laid k hp (I.hok.fresh hp)) (I.hok.laid k hp new)
theorem Inv.write {x e : Addr} {o : HO} {t' : Nat} (I : Inv X pins σ H s) (mu : Mut (H x)) (he : e = x \/ H e = some (.own x)) (k : ∀ b u, b ≠ e -> s.heap.get? b = some u -> h'.get? b = some u) (heo : ∃ u, h'.get? e = some u)
  (new : ObjOk X.prog X.w (upd H x o) h' x o) : Inv X pins σ (upd H x o) { s with heap := h', toks := t' } := I.un (Un.write mu he k heo) (I.hok.write mu he k heo new)
theorem Inv.pins_of {pins' : List (Addr × Obj)} (I : Inv X pins σ H s) (h : ∀ p ∈ pins', s.heap.get? p.1 = some p.2 /\ H p.1 = none /\ p.1 ≠ X.env.locals /\ p.1 ∉ X.fs /\ ∀ v, p.2.data ≠ .cell v) : Inv X pins' σ H s :=
 ⟨I.ok, I.os, I.bare, I.base, I.loc, I.cell, I.free, I.freeC, fun p hp => (List.mem_append.mp hp).elim (fun z => I.pin p (List.mem_append_left _ z)) (h p), I.hok, I.len⟩
theorem zDT {N : List Str} (hN : N.Nodup) {i j : Nat} {x : Str} (a : N[i]? = some x) (b : N[j]? = some x) : i = j := by
 obtain ⟨h1, e1⟩ := List.getElem?_eq_some_iff.mp a
 obtain ⟨h2, e2⟩ := List.getElem?_eq_some_iff.mp b
 exact (List.getElem_inj hN).mp (e1.trans e2.symm)
theorem Jl {M : Model} {A : Around} {E : Value -> Shared -> Prop} {i : Nat} {x : Str} {v : V} {u : Value} {Q : Unit -> Shared -> Prop} (I : Inv X pins σ H s) (hN : X.N.Nodup) (hi : X.N[i]? = some x) (hx : Loc X.env.scope x) (r : RelV v u)
  (h : ∀ s', Inv X pins (σ.set i (some v)) H s' -> (∃ a, Heap.SameBut a s.heap s'.heap /\ (a = X.env.locals \/ X.env.cells.lookup x = some a)) -> Q () s') (hf : X.fn x = true \/ X.env.scope.names.lookup x = some .local := by first | exact .inl rfl | exact .inr rfl | assumption) : wpAny M A (storeName X.env x u) Q E s := by
 obtain ⟨m, hn, hl⟩ := id I.loc
 have hcls : (X.env.scope.kind == .class || (X.env.scope.kind == .module && X.env.locals != X.env.globals)) = false := by rw [I.ok.kind]; rfl
 have hiσ : i < σ.length := by rw [I.len]; exact (List.getElem?_eq_some_iff.mp hi).1
 have cne := I.cne
 have tracked : ∀ {a : Addr} {h' : Heap}, (∃ o, s.heap.get? a = some o /\ H a = none) -> Heap.SameBut a s.heap h' -> HOk X.prog X.w H h' := fun {a h'} ha hs b ob e => by
  obtain ⟨_, _, hfree⟩ := ha
  refine (I.hok b ob e).stay (fun c w' hc q => (hs.2 c ?_).trans q) (fun _ q => q) fun _ _ q => q
  rintro rfl
  rcases hc with rfl | hc
  ·rw [hfree] at e; cases e
  ·rw [hfree] at hc; cases hc
 rcases hx with hk | hk
 ·refine wpAny_storeName_local hk hn (fun h' hn' hs => ?_) hcls
  obtain ⟨oL, _, _, hoL, _⟩ := id hn
  refine h _ ⟨I.ok, I.os, I.bare, ⟨fun b o e n hb hx => ?_, fun b o e n hb hx => ?_, I.base.free, fun b o e hx => ?_, I.base.tups, I.base.frzs, I.base.tbls⟩, ⟨_, hn', fun j y v' e1 e2 e3 => ?_⟩, fun y c e => ?_, I.free, I.freeC, fun p hp => ?_, tracked ⟨oL, hoL, I.free⟩ hs, by simpa using I.len⟩ ⟨_, hs, .inl rfl⟩
  ·exact (hs.2 b (Nat.ne_of_lt (Nat.lt_of_lt_of_le (Heap.lt_size e) I.ok.above))).trans (I.base.keep b o e n hb hx)
  ·obtain ⟨sl, e1⟩ := I.base.slot b o e n hb hx
   exact ⟨sl, (hs.2 b (Nat.ne_of_lt (Nat.lt_of_lt_of_le (Heap.lt_size e) I.ok.above))).trans e1⟩
  ·obtain ⟨o', e1⟩ := I.base.there b o e hx
   exact ⟨o', (hs.2 b (Nat.ne_of_lt (Nat.lt_of_lt_of_le (Heap.lt_size e) I.ok.above))).trans e1⟩
  ·by_cases hj : j = i
   ·subst hj
    rw [hi] at e1; cases e1
    rw [List.getElem?_set_self hiσ] at e2
    cases e2
    exact ⟨u, r, .inl ⟨hk, by simp⟩⟩
   ·rw [List.getElem?_set_ne (Ne.symm hj)] at e2
    obtain ⟨u', r', q⟩ := hl j y v' e1 e2 e3
    refine ⟨u', r', ?_⟩
    rcases q with ⟨k, e⟩ | ⟨k, c, e, z⟩
    ·refine .inl ⟨k, ?_⟩
     have : y ≠ x := fun e => hj (zDT hN e1 (e ▸ hi))
     simp [this, e]
    ·exact .inr ⟨k, c, e, z.sameBut hs (cne y c e)⟩
  ·obtain ⟨w', z⟩ := I.cell y c e
   exact ⟨w', z.sameBut hs (cne y c e)⟩
  ·obtain ⟨e, n, ne, nf, d⟩ := I.pin p hp
   exact ⟨(hs.2 p.1 ne).trans e, n, ne, nf, d⟩
 ·have hfn : X.fn x = true := by
   rcases hf with z | z
   ·exact z
   ·rw [z] at hk; cases hk
  obtain ⟨c, hc⟩ := I.ok.has x (.inl hk)
  obtain ⟨w', z⟩ := I.cell x c hc
  refine wpAny_storeName_cell I.ok.kind hk hc z (fun h' hc' hs => ?_)
  obtain ⟨oc, hoc, hocd⟩ := id z
  refine h { s with heap := h' } ⟨I.ok, I.os, I.bare, ⟨fun b o e n hb hx => ?_, fun b o e n hb hx => ?_, I.base.free, fun b o e hx => ?_, I.base.tups, I.base.frzs, I.base.tbls⟩, ⟨m, hn.sameBut hs (Ne.symm (cne x c hc)), fun j y v' e1 e2 e3 => ?_⟩, fun y c' e => ?_, I.free, I.freeC, fun p hp => ?_, tracked ⟨oc, hoc, I.freeC x c hc⟩ hs, by simpa using I.len⟩ ⟨c, hs, .inr hc⟩
  ·exact (hs.2 b (Nat.ne_of_lt (Nat.lt_of_lt_of_le (Heap.lt_size e) (I.ok.cab x c hfn hc)))).trans (I.base.keep b o e n hb hx)
  ·obtain ⟨sl, e1⟩ := I.base.slot b o e n hb hx
   exact ⟨sl, (hs.2 b (Nat.ne_of_lt (Nat.lt_of_lt_of_le (Heap.lt_size e) (I.ok.cab x c hfn hc)))).trans e1⟩
  ·obtain ⟨o', e1⟩ := I.base.there b o e hx
   exact ⟨o', (hs.2 b (Nat.ne_of_lt (Nat.lt_of_lt_of_le (Heap.lt_size e) (I.ok.cab x c hfn hc)))).trans e1⟩
  ·by_cases hj : j = i
   ·subst hj
    rw [hi] at e1; cases e1
    rw [List.getElem?_set_self hiσ] at e2
    cases e2
    exact ⟨u, r, .inr ⟨.inl hk, c, hc, hc'⟩⟩
   ·rw [List.getElem?_set_ne (Ne.symm hj)] at e2
    obtain ⟨u', r', q⟩ := hl j y v' e1 e2 e3
    refine ⟨u', r', ?_⟩
    rcases q with q | ⟨k, c', e, z'⟩
    ·exact .inl q
    ·refine .inr ⟨k, c', e, z'.sameBut hs ?_⟩
     rintro rfl
     exact hj (zDT hN e1 (I.ok.inj _ _ _ e hc ▸ hi))
  ·by_cases hcc : c' = c
   ·subst hcc; exact ⟨_, hc'⟩
   ·obtain ⟨w2, z2⟩ := I.cell y c' e
    exact ⟨w2, z2.sameBut hs hcc⟩
  ·obtain ⟨e, n, ne, nf, d⟩ := I.pin p hp
   refine ⟨(hs.2 p.1 ?_).trans e, n, ne, nf, d⟩
   intro q
   rw [q, hoc] at e
   have q' : oc = p.2 := Option.some.inj e
   exact d w' (by rw [← q']; exact hocd)
theorem zBX {M : Model} {A : Around} {E : Value -> Shared -> Prop} {i : Nat} {x : Str} {v : V} {u : Value} {Q : Unit -> Shared -> Prop} (I : Inv X pins σ H s) (hN : X.N.Nodup) (hi : X.N[i]? = some x) (hx : Loc X.env.scope x) (r : RelV v u)
  (h : ∀ s', Inv X pins (σ.set i (some v)) H s' -> Q () s') (hf : X.fn x = true \/ X.env.scope.names.lookup x = some .local := by first | exact .inl rfl | exact .inr rfl | assumption) : wpAny M A (storeName X.env x u) Q E s :=
 Jl I hN hi hx r (fun s' I' _ => h s' I') hf
theorem Inv.call' {s' : Shared} {ch : List Addr} (I : Inv X pins σ H s) (ho : s'.os = s.os) (u : Un (frs X.stack) ch H H' s.heap s'.heap) (hok : HOk X.prog X.w H' s'.heap) (hg : AllBare s'.gens)
  (hch : ∀ b ∈ ch, (b ∈ X.ex \/ X.s₀.heap.objs.size <= b) /\ b ≠ X.env.locals /\ (∀ x c, X.env.cells.lookup x = some c -> c ≠ b) /\ ∀ p ∈ X.pn ++ pins, p.1 ≠ b) : Inv X pins σ H' s' := by
 obtain ⟨h', g', d', t', o'⟩ := s'
 have e : o' = s.os := ho
 subst e
 exact I.call (g' := g') (t' := t') (d' := d') u hok hg hch
end
abbrev XK := Value -> Option Addr -> Hp -> Prop
abbrev St := List (Option V)
abbrev VK := V -> Hp -> Prop
abbrev TE := St -> Hp -> VK -> Prop
abbrev TT := St -> Hp -> (Bool -> Hp -> Prop) -> Prop
abbrev TA := St -> Hp -> (List V -> Hp -> Prop) -> Prop
structure Ends where
 nx : St -> Hp -> Prop
 rt : VK
 bk : St -> Hp -> Prop := fun _ _ => False
 ct : St -> Hp -> Prop := fun _ _ => False
abbrev TS := Ends -> St -> Hp -> Prop
def EP (X : Cx) (pins : List (Addr × Obj)) (σ : St) (Q : VK) (u : Value) (s' : Shared) : Prop := ∃ v H', Inv X pins σ H' s' /\ RelV v u /\ Q v H'
def TP (X : Cx) (pins : List (Addr × Obj)) (σ : St) (Q : Bool -> Hp -> Prop) (b : Bool) (s' : Shared) : Prop := ∃ H', Inv X pins σ H' s' /\ Q b H'
def AP (X : Cx) (pins : List (Addr × Obj)) (σ : St) (Q : List V -> Hp -> Prop) (us : List Value) (s' : Shared) : Prop := ∃ vs H', Inv X pins σ H' s' /\ Vals vs us /\ Q vs H'
def SP (X : Cx) (pins : List (Addr × Obj)) (D : Ends) (f : Flow) (s' : Shared) : Prop :=
 match f with
 | .next => ∃ σ' H', Inv X pins σ' H' s' /\ D.nx σ' H'
 | .brk => ∃ σ' H', Inv X pins σ' H' s' /\ D.bk σ' H'
 | .cont => ∃ σ' H', Inv X pins σ' H' s' /\ D.ct σ' H'
 | .ret u => ∃ v σ' H', Inv X pins σ' H' s' /\ RelV v u /\ D.rt v H'
def PE (X : Cx) (e : Expr) (t : TE) : Prop :=
 ∀ (pins : List (Addr × Obj)) (s : Shared) (σ : St) (H : Hp) (Q : VK), Inv X pins σ H s -> t σ H Q -> wpAny (model X.prog X.w) X.A (eval e X.env) (EP X pins σ Q) X.xe s
def PT (X : Cx) (e : Expr) (t : TT) : Prop :=
 ∀ (pins : List (Addr × Obj)) (s : Shared) (σ : St) (H : Hp) (Q : Bool -> Hp -> Prop), Inv X pins σ H s -> t σ H Q -> wpAny (model X.prog X.w) X.A (isTrue e X.env (eval e X.env)) (TP X pins σ Q) X.xe s
def PW (X : Cx) (e : Expr) (t : TT) : Prop :=
 ∀ (WS : Sem Value) (pins : List (Addr × Obj)) (s : Shared) (σ : St) (H : Hp) (Q : Bool -> Hp -> Prop), Inv X pins σ H s -> t σ H Q -> wpAny (model X.prog X.w) X.A (isTrue e X.env WS) (TP X pins σ Q) X.xe s
theorem PW.pt {X : Cx} {e : Expr} {t : TT} (h : PW X e t) : PT X e t := h _
def PA (X : Cx) (es : List Expr) (t : TA) : Prop :=
 ∀ (pos : Pos) (pins : List (Addr × Obj)) (s : Shared) (σ : St) (H : Hp) (Q : List V -> Hp -> Prop), Inv X pins σ H s -> t σ H Q -> wpAny (model X.prog X.w) X.A (spliced (backTo pos (starEach es X.env))) (AP X pins σ Q) X.xe s
def PS (X : Cx) (st : Stmt) (t : TS) : Prop :=
 ∀ (pins : List (Addr × Obj)) (s : Shared) (σ : St) (H : Hp) (D : Ends), Inv X pins σ H s -> t D σ H -> wpAny (model X.prog X.w) X.A (exec st X.env) (SP X pins D) X.xe s
def PSs (X : Cx) (st : List Stmt) (t : TS) : Prop :=
 ∀ (pins : List (Addr × Obj)) (s : Shared) (σ : St) (H : Hp) (D : Ends), Inv X pins σ H s -> t D σ H -> wpAny (model X.prog X.w) X.A (execs st X.env) (SP X pins D) X.xe s
theorem thn {α : Type} {t : Sem α} {Q Q' : α -> Shared -> Prop} {M : Model} {A : Around} {E : Value -> Shared -> Prop} {s : Shared} (h : wpAny M A t Q E s) (hQ : ∀ a s, Q a s -> Q' a s) : wpAny M A t Q' E s := wpAny_mono h hQ fun _ _ x => x
end L2
namespace L2
open PySem PySem.Spec PyProof.Rows
section
variable {X : Cx}
def zDn (i : Nat) : TE := fun σ H Q => ∃ v, σ[i]? = some (some v) /\ Q v H
def tC (v : V) : TE := fun _ H Q => Q v H
theorem zLF {i : Nat} {x : Str} {pos : Pos} (hN : X.N[i]? = some x) (hv : Vis X.env.scope x) (hd : (x == ("__debug__" : Str)) = false := by decide) (hcd : (x == ("__classdict__" : Str)) = false := by decide) : PE X (.Name x pos) (zDn i) := by
 intro pins s σ H Q I h
 obtain ⟨v, e, h⟩ := h
 obtain ⟨m, hn, hl⟩ := I.loc
 obtain ⟨u, r, l⟩ := hl i x v hN e hv
 have fin : EP X pins σ Q u s := ⟨v, H, I, r, h⟩
 rcases l with ⟨hk, hm⟩ | ⟨hk, c, hc, hcell⟩
 ·exact wpAny_Name (wpAny_loadName_local I.ok.kind hk hn hm fin) hd
 ·rcases hk with hk | hk
  ·exact wpAny_Name (wpAny_loadName_cell I.ok.kind hk hc hcell fin) hd
  ·exact wpAny_Name (wpAny_loadName_free I.ok.kind hk hc hcell fin hcd) hd
theorem QE {i j pos} : PE X (.Constant (.int i) j pos) (tC (.int i)) := fun _ _ _ H _ I h => wpAny_Constant_int ⟨.int i, H, I.tok _, ⟨_, rfl⟩, h⟩
theorem Yg {b j pos} : PE X (.Constant (.bool b) j pos) (tC (.bl b)) := fun _ _ _ H _ I h => Constant_bool ⟨.bl b, H, I, rfl, h⟩
theorem Q6 {j pos} : PE X (.Constant .none j pos) (tC .non) := fun _ _ _ H _ I h => Constant_none ⟨.non, H, I, rfl, h⟩
theorem Yb {x j pos} : PE X (.Constant (.str x) j pos) (tC (.str x)) := fun _ _ _ H _ I h => Calls.Constant_str ⟨.str x, H, I.tok _, ⟨_, rfl⟩, h⟩
def Gl (X : Cx) (x : Str) : Prop := X.env.kindOf x = some .globalImplicit
theorem WE {E : Value -> Shared -> Prop} {pins : List (Addr × Obj)} {s : Shared} {σ : St} {H : Hp} {x : Str} {u : Value} {pos : Pos} {Q : Value -> Shared -> Prop} (I : Inv X pins σ H s) (hg : Gl X x) (hm : X.mg x = some u) (h : Q u s)
  (hd : (x == ("__debug__" : Str)) = false := by decide) : wpAny (model X.prog X.w) X.A (eval (.Name x pos) X.env) Q E s :=
 Calls.Name_function_global I.ok.kind hg (Calls.loadGlobal_global (by rw [I.ok.glob]; exact I.mod.glob.keeps I.bk) hm h) hd
theorem Zc {E : Value -> Shared -> Prop} {pins : List (Addr × Obj)} {s : Shared} {σ : St} {H : Hp} {x : Str} {u : Value} {pos : Pos} {Q : Value -> Shared -> Prop} (I : Inv X pins σ H s) (hg : Gl X x) (hm : X.mg x = none) (hv : bootBuiltins x = some u) (h : Q u s)
  (hn : x ≠ "__name__" := by decide) (hd : (x == ("__debug__" : Str)) = false := by decide) : wpAny (model X.prog X.w) X.A (eval (.Name x pos) X.env) Q E s := by
 obtain ⟨mb, h1, h2⟩ := I.mod.blt
 exact Calls.Name_function_global I.ok.kind hg (Calls.loadGlobal_builtin (by rw [I.ok.glob]; exact I.mod.glob.keeps I.bk) hm (by rw [I.ok.blt]; exact h1.keeps I.bk) ((h2 x hn).trans hv) h) hd
theorem Q0 {x : Str} {v : V} {u : Value} {pos : Pos} (hg : Gl X x) (hm : X.mg x = some u) (r : RelV v u) (hd : (x == ("__debug__" : Str)) = false := by decide) : PE X (.Name x pos) (tC v) :=
 fun _ _ _ H _ I h => WE I hg hm ⟨v, H, I, r, h⟩ hd
theorem QY {x : Str} {v : V} {u : Value} {pos : Pos} (hg : Gl X x) (hm : X.mg x = none) (hv : bootBuiltins x = some u) (r : RelV v u) (hn : x ≠ "__name__" := by decide) (hd : (x == ("__debug__" : Str)) = false := by decide) : PE X (.Name x pos) (tC v) :=
 fun _ _ _ H _ I h => Zc I hg hm hv ⟨v, H, I, r, h⟩ hn hd
variable {a b : Expr} {ta tb : TE} {pos : Pos}
def tB (t : TE) : TT := fun σ H Q => t σ H fun x H1 => ∃ c, x = .bl c /\ Q c H1
theorem Qa {e : Expr} {t : TE} (h : PE X e t) (he : ∀ WS, isTrue e X.env WS = (do let v ← WS; standAt e.pos; holding [v] (truthy v)) := by intro _; rfl) : PT X e (tB t) := by
 intro pins s σ H Q I hw
 refine isTrue_plain (thn (h pins s σ H _ I hw) fun v s1 ⟨x, H1, I1, r1, q1⟩ => ?_) (he _)
 obtain ⟨d, rfl, q⟩ := q1
 cases r1
 exact wpAny_truthy_bool ⟨H1, I1, q⟩
variable {tA tB' : TT} {YL : List Expr}
def zLN (t u : TT) : TT := fun σ H Q => t σ H fun c H1 => if c = true then u σ H1 Q else Q false H1
def tOr (t u : TT) : TT := fun σ H Q => t σ H fun c H1 => if c = true then Q true H1 else u σ H1 Q
def zKu (t : TT) : TT := fun σ H Q => t σ H fun c H1 => Q (!c) H1
theorem zDG (ha : PT X a tA) : PW X (.BoolOp .And [a] pos) tA := by
 intro wh pins s σ H Q I h
 refine isTrue_and (thn (ha pins s σ H Q I h) fun c s1 e => ?_)
 cases c with
 | true => exact isTrue_and_nil e
 | false => exact e
theorem zEf (ha : PT X a tA) : PW X (.BoolOp .Or [a] pos) tA := by
 intro wh pins s σ H Q I h
 refine isTrue_or (thn (ha pins s σ H Q I h) fun c s1 e => ?_)
 cases c with
 | false => exact isTrue_or_nil e
 | true => exact e
theorem zEx (ha : PT X a tA) (hb : PW X (.BoolOp .And (b :: YL) pos) tB') : PW X (.BoolOp .And (a :: b :: YL) pos) (zLN tA tB') := by
 intro wh pins s σ H Q I h
 refine isTrue_and (thn (ha pins s σ H _ I h) fun c s1 ⟨H1, I1, q1⟩ => ?_)
 cases c with
 | true => exact hb wh pins s1 σ H1 Q I1 q1
 | false => exact ⟨H1, I1, q1⟩
theorem zIF (ha : PT X a tA) (hb : PW X (.BoolOp .Or (b :: YL) pos) tB') : PW X (.BoolOp .Or (a :: b :: YL) pos) (tOr tA tB') := by
 intro wh pins s σ H Q I h
 refine isTrue_or (thn (ha pins s σ H _ I h) fun c s1 ⟨H1, I1, q1⟩ => ?_)
 cases c with
 | true => exact ⟨H1, I1, q1⟩
 | false => exact hb wh pins s1 σ H1 Q I1 q1
theorem zA2 (ha : PT X a tA) : PT X (.UnaryOp .Not a pos) (zKu tA) := by
 intro pins s σ H Q I h
 exact isTrue_not (ha pins s σ H (fun c H1 => Q (!c) H1) I h)
def zH4 (ta tb : TE) : TE := fun σ H Q => ta σ H fun x H1 => ∃ c, x = .bl c /\ if c = true then tb σ H1 Q else Q (.bl false) H1
def zLt (ta tb : TE) : TE := fun σ H Q => ta σ H fun x H1 => ∃ c, x = .bl c /\ if c = true then Q (.bl true) H1 else tb σ H1 Q
def zIS (ta : TE) : TE := fun σ H Q => ta σ H fun x H1 => ∃ c, x = .bl c /\ Q (.bl (!c)) H1
theorem ZD {op} {t : TE} (h : PE X a t) : PE X (.BoolOp op [a] pos) t := fun pins s σ H Q I hw => BoolOp_one (h pins s σ H Q I hw)
theorem Za (ha : PE X a ta) (hb : PE X (.BoolOp .And (b :: YL) pos) tb) : PE X (.BoolOp .And (a :: b :: YL) pos) (zH4 ta tb) := by
 intro pins s σ H Q I h
 refine BoolOp_and (thn (ha pins s σ H _ I h) fun v s1 ⟨x, H1, I1, r1, q1⟩ => ?_)
 obtain ⟨c, rfl, q1⟩ := q1
 cases r1
 refine wpAny_truthy_bool ?_
 cases c with
 | true => exact hb pins s1 σ H1 Q I1 q1
 | false => exact ⟨.bl false, H1, I1, rfl, q1⟩
theorem zMH (ha : PE X a ta) (hb : PE X (.BoolOp .Or (b :: YL) pos) tb) : PE X (.BoolOp .Or (a :: b :: YL) pos) (zLt ta tb) := by
 intro pins s σ H Q I h
 refine BoolOp_or (thn (ha pins s σ H _ I h) fun v s1 ⟨x, H1, I1, r1, q1⟩ => ?_)
 obtain ⟨c, rfl, q1⟩ := q1
 cases r1
 refine wpAny_truthy_bool ?_
 cases c with
 | false => exact hb pins s1 σ H1 Q I1 q1
 | true => exact ⟨.bl true, H1, I1, rfl, q1⟩
theorem zIG (ha : PE X a ta) : PE X (.UnaryOp .Not a pos) (zIS ta) := by
 intro pins s σ H Q I h
 refine UnaryOp_ (thn (ha pins s σ H _ I h) fun v s1 ⟨x, H1, I1, r1, q1⟩ => ?_)
 obtain ⟨c, rfl, q1⟩ := q1
 cases r1
 exact not_of (wpAny_truthy_bool ⟨.bl (!c), H1, I1, rfl, q1⟩)
def tIf (t : TT) (ta tb : TE) : TE := fun σ H Q => t σ H fun c H1 => if c = true then ta σ H1 Q else tb σ H1 Q
theorem Zw {c : Expr} (hc : PT X c tA) (ha : PE X a ta) (hb : PE X b tb) : PE X (.IfExp c a b pos) (tIf tA ta tb) := by
 intro pins s σ H Q I h
 refine wpAny_IfExp (thn (hc pins s σ H _ I h) fun d s1 ⟨H1, I1, q1⟩ => ?_)
 cases d with
 | true => exact ha pins s1 σ H1 Q I1 q1
 | false => exact hb pins s1 σ H1 Q I1 q1
end
end L2
namespace L2
open PySem PySem.Spec PyProof.Rows
def SqL (K : W.Frag) (H : Hp) (a : Addr) (xs : List V) : Prop :=
 Rd H a (.lst xs) \/
  ∃ (o : Obj) (its : Array Value) (n : Nat), K.lookup a = some o /\ o.cls = .type "list" /\ o.dict = none /\ o.data = .seq its n /\ its.size <= sizeLine /\ Vals xs its.toList
def SqT (K : W.Frag) (H : Hp) (a : Addr) (xs : List V) : Prop :=
 Rd H a (.tup xs) \/
  ∃ (o : Obj) (its : Array Value) (n : Nat), K.lookup a = some o /\ o.cls = .type "tuple" /\ o.data = .seq its n /\ its.size <= sizeLine /\ Vals xs its.toList
def zMi : Value -> Option V
 | .none => some .non
 | .bool b => some (.bl b)
 | .int i _ => some (.int i)
 | .str x _ => some (.str x)
 | .bytes b _ => some (.byt b)
 | .float b _ => some (.flt b)
 | .ref a => some (.ref a)
 | .type n => some (.ty n)
 | _ => none
theorem RelV.abs {x : V} {u : Value} (r : RelV x u) : zMi u = some x := by
 cases x with
 | non => cases r; rfl
 | bl _ => cases r; rfl
 | int _ => obtain ⟨t, rfl⟩ := r; rfl
 | str _ => obtain ⟨t, rfl⟩ := r; rfl
 | byt _ => obtain ⟨t, rfl⟩ := r; rfl
 | flt _ => obtain ⟨t, rfl⟩ := r; rfl
 | ref _ => cases r; rfl
 | ty _ => cases r; rfl
theorem RelV.inj {x y : V} {u : Value} (r : RelV x u) (q : RelV y u) : x = y := Option.some.inj (r.abs.symm.trans q.abs)
theorem Vals.inj : ∀ {xs ys : List V} {us : List Value}, Vals xs us -> Vals ys us -> xs = ys
 | _, _, _, .nil, .nil => rfl
 | _, _, _, .cons r t, .cons r' t' => by rw [r.inj r', Vals.inj t t']
section
variable {X : Cx} {pins : List (Addr × Obj)} {σ : St} {H : Hp} {s : Shared} {a : Addr} {xs ys : List V}
theorem SqL.of {K : W.Frag} (h : H a = some (.lst xs)) : SqL K H a xs := .inl (.inl h)
theorem SqT.of {K : W.Frag} (h : H a = some (.tup xs)) : SqT K H a xs := .inl (.inl h)
theorem Inv.list (I : Inv X pins σ H s) (h : SqL X.K H a xs) : ∃ its : List Value, Vals xs its /\ PlainL s.heap a its.toArray /\ xs.length <= sizeLine := by
 rcases h with h | ⟨o, its, n, hk, hc, hd, hs, hz, r⟩
 ·obtain ⟨z, its, n, r, e⟩ := h.ok I.hok
  exact ⟨its, r, ⟨_, n, e, rfl, rfl, rfl⟩, z⟩
 ·refine ⟨its.toList, r, ⟨o, n, I.kIn a o hk, hc, hd, by simpa using hs⟩, ?_⟩
  have e := r.length
  simp only [Array.length_toList] at e
  omega
theorem Inv.tuple (I : Inv X pins σ H s) (h : SqT X.K H a xs) : ∃ its : List Value, Vals xs its /\ IsTup s.heap a its.toArray /\ xs.length <= sizeLine := by
 rcases h with h | ⟨o, its, n, hk, hc, hs, hz, r⟩
 ·obtain ⟨z, its, r, p⟩ := h.ok I.hok
  exact ⟨its, r, p, z⟩
 ·refine ⟨its.toList, r, ⟨o, I.kIn a o hk, hc, n, by simpa using hs⟩, ?_⟩
  have e := r.length
  simp only [Array.length_toList] at e
  omega
theorem Inv.list_inj (I : Inv X pins σ H s) (h : SqL X.K H a xs) (h' : SqL X.K H a ys) : xs = ys := by
 obtain ⟨its, r, ⟨o, n, e, _, _, d⟩, _⟩ := I.list h
 obtain ⟨its', r', ⟨o', n', e', _, _, d'⟩, _⟩ := I.list h'
 rw [e] at e'; cases e'
 rw [d] at d'
 injection d' with d1 _
 have : its = its' := by simpa using congrArg Array.toList d1
 subst this
 exact r.inj r'
theorem Inv.tuple_inj (I : Inv X pins σ H s) (h : SqT X.K H a xs) (h' : SqT X.K H a ys) : xs = ys := by
 obtain ⟨its, r, ⟨o, e, _, n, d⟩, _⟩ := I.tuple h
 obtain ⟨its', r', ⟨o', e', _, n', d'⟩, _⟩ := I.tuple h'
 rw [e] at e'; cases e'
 rw [d] at d'
 injection d' with d1 _
 have : its = its' := by simpa using congrArg Array.toList d1
 subst this
 exact r.inj r'
end
abbrev Cx.wish (X : Cx) (E : Value -> Shared -> Prop) : Cx := { X with xe := E }
abbrev Cx.nox (X : Cx) : Cx := X.wish fun _ _ => False
theorem Cx.Ok.wish {X : Cx} (ok : X.Ok) (E : Value -> Shared -> Prop) : (X.wish E).Ok :=
 ⟨ok.mod, ok.kind, ok.glob, ok.blt, ok.above, ok.inj, ok.has, ok.cab, ok.hd, ok.frames, ok.stk, ok.exf, ok.bs, ok.bsz, ok.noex, ok.exfs, ok.funs, ok.frf⟩
theorem Cx.Ok.unwish {X : Cx} {E : Value -> Shared -> Prop} (ok : (X.wish E).Ok) : X.Ok :=
 ⟨ok.mod, ok.kind, ok.glob, ok.blt, ok.above, ok.inj, ok.has, ok.cab, ok.hd, ok.frames, ok.stk, ok.exf, ok.bs, ok.bsz, ok.noex, ok.exfs, ok.funs, ok.frf⟩
section
variable {X : Cx} {pins : List (Addr × Obj)} {σ : St} {H : Hp} {s : Shared} {E : Value -> Shared -> Prop}
theorem Inv.wish (I : Inv X pins σ H s) (E : Value -> Shared -> Prop) : Inv (X.wish E) pins σ H s := ⟨I.ok.wish E, I.os, I.bare, I.base, I.loc, I.cell, I.free, I.freeC, I.pin, I.hok, I.len⟩
theorem Inv.unwish (I : Inv (X.wish E) pins σ H s) : Inv X pins σ H s := ⟨I.ok.unwish, I.os, I.bare, I.base, I.loc, I.cell, I.free, I.freeC, I.pin, I.hok, I.len⟩
theorem SP.unwish {D : Ends} {f : Flow} {s' : Shared} (h : SP (X.wish E) pins D f s') : SP X pins D f s' := by
 cases f with
 | next => obtain ⟨σ', H', I, q⟩ := h; exact ⟨σ', H', I.unwish, q⟩
 | brk => obtain ⟨σ', H', I, q⟩ := h; exact ⟨σ', H', I.unwish, q⟩
 | cont => obtain ⟨σ', H', I, q⟩ := h; exact ⟨σ', H', I.unwish, q⟩
 | ret u => obtain ⟨v, σ', H', I, r, q⟩ := h; exact ⟨v, σ', H', I.unwish, r, q⟩
theorem PSs.nox {st : List Stmt} {t : TS} (h : PSs X.nox st t) : PSs X st t := fun pins s σ H D I hw =>
 wpAny_mono (h pins s σ H D (I.wish _) hw) (fun _ _ q => q.unwish) fun _ _ z => False.elim z
end
section
variable {X : Cx} {st : Stmt} {YL : List Stmt} {t u : TS} {e : Expr} {te : TE} {pos : Pos}
def zIt : TS := fun D σ H => D.nx σ H
def zLA (t u : TS) : TS := fun D σ H => t { D with nx := u D } σ H
theorem QN : PSs X [] zIt := fun _ _ σ H _ I h => wpAny_execs_nil ⟨σ, H, I, h⟩
theorem QB (h1 : PS X st t) (h2 : PSs X YL u) : PSs X (st :: YL) (zLA t u) := by
 intro pins s σ H D I h
 refine wpAny_execs_cons (thn (h1 pins s σ H { D with nx := u D } I h) fun f s1 q => ?_)
 cases f with
 | next =>
  obtain ⟨σ', H', I', q⟩ := q
  exact h2 pins s1 σ' H' D I' q
 | ret v => exact q
 | brk => exact q
 | cont => exact q
theorem QF (h1 : PS X st t) : PSs X [st] t := by
 intro pins s σ H D I h
 refine wpAny_execs_cons (thn (h1 pins s σ H D I h) fun f s1 q => ?_)
 cases f with
 | next => exact wpAny_execs_nil q
 | ret v => exact q
 | brk => exact q
 | cont => exact q
def zLC : TS := fun D σ H => D.bk σ H
theorem zHK : PS X (.Break pos) zLC := fun _ _ σ H _ I h => wpAny_Break ⟨σ, H, I, h⟩
theorem Inv.quiet {pins : List (Addr × Obj)} {σ : St} {H : Hp} {s : Shared} (I : Inv X pins σ H s) : interactive X.env = false := by simp [interactive, I.ok.kind]
def zHx (te : TE) : TS := fun D σ H => te σ H fun _ H1 => D.nx σ H1
theorem Qn (he : PE X e te) (hs : swapsWith e none pos.line X.env = pure false := by rfl) : PS X (.Expr e pos) (zHx te) := by
 intro pins s σ H D I h
 exact wpAny_Expr_any (thn (he pins s σ H _ I h) fun v s1 ⟨x, H1, I1, r1, q1⟩ => ⟨σ, H1, I1, q1⟩) I.quiet hs
def zKJ (te : TE) : TS := fun D σ H => te σ H D.rt
theorem QL (he : PE X e te) : PS X (.Return (some e) pos) (zKJ te) := by
 intro pins s σ H D I h
 exact wpAny_Return_some (thn (he pins s σ H _ I h) fun v s1 ⟨x, H1, I1, r1, q1⟩ => ⟨x, σ, H1, I1, r1, q1⟩)
def zKc : TS := fun D _ H => D.rt .non H
def zKs (c : TT) (t u : TS) : TS := fun D σ H => c σ H fun b H1 => if b = true then t D σ H1 else u D σ H1
theorem QU {c : Expr} {a b : List Stmt} {tc : TT} (hc : PT X c tc) (ha : PSs X a t) (hb : PSs X b u) : PS X (.If c a b pos) (zKs tc t u) := by
 intro pins s σ H D I h
 refine wpAny_If (thn (hc pins s σ H _ I h) fun d s1 ⟨H1, I1, q1⟩ => ?_)
 cases d with
 | true => exact ha pins s1 σ H1 D I1 q1
 | false => exact hb pins s1 σ H1 D I1 q1
def zIH : TS := fun _ _ _ => False
theorem Yr : PS X st zIH := fun _ _ _ _ _ _ h => h.elim
theorem Qe {sts : List Stmt} : PSs X sts zIH := fun _ _ _ _ _ _ h => h.elim
end
abbrev TG := V -> St -> Hp -> (St -> Hp -> Prop) -> Prop
abbrev TGs := List V -> St -> Hp -> (St -> Hp -> Prop) -> Prop
def PG (X : Cx) (target : Expr) (t : TG) : Prop :=
 ∀ (pins : List (Addr × Obj)) (s : Shared) (σ : St) (H : Hp) (v : V) (u : Value) (Q : St -> Hp -> Prop), Inv X pins σ H s -> RelV v u -> t v σ H Q ->
  wpAny (model X.prog X.w) X.A (assign target X.env u) (fun _ s' => ∃ σ' H', Inv X pins σ' H' s' /\ Q σ' H') X.xe s
def PGs (X : Cx) (ts : List Expr) (t : TGs) : Prop :=
 ∀ (pins : List (Addr × Obj)) (s : Shared) (σ : St) (H : Hp) (vs : List V) (us : List Value) (Q : St -> Hp -> Prop), Inv X pins σ H s -> Vals vs us -> t vs σ H Q ->
  wpAny (model X.prog X.w) X.A (assignInOrder ((assignEach ts X.env).map (·.2)) us) (fun _ s' => ∃ σ' H', Inv X pins σ' H' s' /\ Q σ' H') X.xe s
abbrev zIm := V -> V -> V -> Hp -> (Hp -> Prop) -> Prop
def zJ7 (X : Cx) (t : zIm) : Prop :=
 ∀ (pins : List (Addr × Obj)) (s : Shared) (σ : St) (H : Hp) (o i v : V) (ov iv u : Value) (Q : Hp -> Prop), Inv X pins σ H s -> RelV o ov -> RelV i iv -> RelV v u -> t o i v H Q ->
  wpAny (model X.prog X.w) X.A (setItem ov iv u) (fun _ s' => ∃ H', Inv X pins σ H' s' /\ Q H') X.xe s
section
variable {X : Cx} {pos : Pos}
def Zd (i : Nat) : TG := fun v σ H Q => Q (σ.set i (some v)) H
theorem YF {i : Nat} {x : Str} (hN : X.N.Nodup) (hi : X.N[i]? = some x) (hx : Loc X.env.scope x) (hf : X.fn x = true \/ X.env.scope.names.lookup x = some .local := by first | exact .inl rfl | exact .inr rfl | assumption) : PG X (.Name x pos) (Zd i) := by
 intro pins s σ H v u Q I r h
 exact wpAny_assign_Name (zBX I hN hi hx r (fun s' I' => ⟨_, H, I', h⟩) hf)
def zJY : TGs := fun vs σ H Q => vs = [] /\ Q σ H
def zDm (t : TG) (u : TGs) : TGs := fun vs σ H Q => ∃ v r, vs = v :: r /\ t v σ H fun σ' H' => u r σ' H' Q
theorem zFZ : PGs X [] zJY := by
 intro pins s σ H vs us Q I r h
 obtain ⟨e, h⟩ := h
 subst e
 cases r
 exact assignInOrder_nil ⟨σ, H, I, h⟩
theorem Wn {e : Expr} {es : List Expr} {t : TG} {u : TGs} (h1 : PG X e t) (h2 : PGs X es u)
  (hs : (assignEach (e :: es) X.env).map (·.2) = assign e X.env :: (assignEach es X.env).map (·.2) := by rfl) : PGs X (e :: es) (zDm t u) := by
 intro pins s σ H vs us Q I r h
 obtain ⟨v, vr, e1, h⟩ := h
 subst e1
 cases r with
 | cons r rr =>
  rw [hs]
  refine assignInOrder_cons (thn (h1 pins s σ H _ _ _ I r h) fun _ s1 ⟨σ1, H1, I1, q1⟩ => ?_)
  exact h2 pins s1 σ1 H1 _ _ Q I1 rr q1
def zJy (K : W.Frag) (n : Nat) (t : TGs) : TG := fun v σ H Q => ∃ a xs, v = .ref a /\ SqT K H a xs /\ xs.length = n /\ t xs σ H Q
theorem zHB {es : List Expr} {k : Nat} {t : TGs} {n : Nat} (hc : X.calm = true) (h : PGs X es t)
  (hn : (assignEach es X.env).length = n := by rfl) (hst : (assignEach es X.env).findIdx? (·.1) = none := by rfl) : PG X (.Tuple es k pos) (zJy X.K n t) := by
 intro pins s σ H v u Q I r hw
 obtain ⟨a, xs, e1, hq, hl, hw⟩ := hw
 subst e1
 cases r
 obtain ⟨its, rv, ht, hz⟩ := I.tuple hq
 refine assign_Tuple_tuple (I.ok.hd hc) ht (by simp [hn, ← hl, rv.length]) hst fun h' hx => ?_
 have I1 : Inv X pins σ H { s with heap := h' } := I.kept (t' := s.toks) fun b o e => hx b o (Nat.ne_of_lt (Heap.lt_size e)) e
 exact h pins _ σ H xs _ Q I1 (by simpa using rv) hw
def zLU (to ti : TE) (t : zIm) : TG := fun v σ H Q => to σ H fun o H1 => ti σ H1 fun i H2 => t o i v H2 fun H3 => Q σ H3
theorem Wj {o i : Expr} {to ti : TE} {t : zIm} (ho : PE X o to) (hi : PE X i ti) (hs : zJ7 X t)
  (ha : ∀ v, assign (.Subscript o i pos) X.env v = (do
   let ov ← holding [v] (eval o X.env)
   let iv ← holding [v, ov] (eval i X.env)
   standAt pos
   holding [v, ov, iv] (setItem ov iv v)
   release [v, ov, iv] []) := by intro _; rfl) : PG X (.Subscript o i pos) (zLU to ti t) := by
 intro pins s σ H v u Q I r h
 rw [ha]
 refine wpAny_bind (wpAny_holding (thn (ho pins s σ H _ I h) fun ov s1 ⟨x, H1, I1, r1, q1⟩ => ?_))
 refine wpAny_bind (wpAny_holding (thn (hi pins s1 σ H1 _ I1 q1) fun iv s2 ⟨y, H2, I2, r2, q2⟩ => ?_))
 refine wpAny_bind (wpAny_standAt (wpAny_bind (wpAny_holding (thn (hs pins s2 σ H2 x y v ov iv u _ I2 r1 r2 r q2) fun _ s3 ⟨H3, I3, q3⟩ => ?_))))
 exact wpAny_release ⟨σ, H3, I3, q3⟩
def zBh (te : TE) (g : TG) : TS := fun D σ H => te σ H fun x H1 => g x σ H1 D.nx
theorem WV {tg e : Expr} {te : TE} {g : TG} (he : PE X e te) (hg : PG X tg g) (hs : swapsWithSole [tg] e pos.line X.env = pure false := by rfl) (hw : swappedStores [tg] e X.env = pure none := by rfl)
  (h1 : (assignEach [tg] X.env).map (·.2) = [assign tg X.env] := by rfl) : PS X (.Assign [tg] e pos) (zBh te g) := by
 intro pins s σ H D I h
 refine wpAny_Assign_stores (thn (he pins s σ H _ I h) fun v s1 ⟨x, H1, I1, r1, q1⟩ => ?_) hs hw
 rw [h1]
 exact thn (hg pins s1 σ H1 x v _ I1 r1 q1) fun _ s2 q => q
theorem QW {i : Nat} {x : Str} {e : Expr} {te : TE} {pos' : Pos} (hN : X.N.Nodup) (hi : X.N[i]? = some x) (hx : Loc X.env.scope x) (he : PE X e te) (hs : swapsWith e (some (.Name x pos')) pos.line X.env = pure false := by rfl) (hf : X.fn x = true \/ X.env.scope.names.lookup x = some .local := by first | exact .inl rfl | exact .inr rfl | assumption) :
  PS X (.Assign [.Name x pos'] e pos) (zBh te (Zd i)) := by
 intro pins s σ H D I h
 refine wpAny_Assign_Name (thn (he pins s σ H _ I h) fun v s1 ⟨y, H1, I1, r1, q1⟩ => ?_) hs
 exact zBX I1 hN hi hx r1 (fun s2 I2 => ⟨_, H1, I2, q1⟩) hf
end
section
variable {X : Cx} {pos : Pos}
def zIx (c : TT) (tb : TS) : TS := fun D σ H => ∃ W : Nat -> St -> Hp -> Prop, (∃ m, W m σ H) /\ ∀ m σ H, W m σ H ->
 c σ H fun b H1 => if b = true then ∃ N : St -> Hp -> Prop, (∀ σ' H', N σ' H' -> ∃ m', m' < m /\ W m' σ' H') /\ tb { D with nx := N, ct := N, bk := D.nx } σ H1 else D.nx σ H1
theorem zHR {c : Expr} {body : List Stmt} {tc : TT} {tb : TS} (hp : PassesOwn (model X.prog X.w) X.A X.env X.xe) (hc : PT X c tc) (hb : PSs X body tb) : PS X (.While c body [] pos) (zIx tc tb) := by
 intro pins s σ H D I h
 obtain ⟨W, ⟨m0, w0⟩, turn⟩ := h
 refine wpAny_While (codeAny_whileLoop (fun n s' => ∃ σ' H', Inv X pins σ' H' s' /\ W n σ' H') ?_ m0 ⟨σ, H, I, w0⟩)
 rintro n s1 ⟨σ1, H1, I1, w1⟩
 refine wpAny_passesOwn hp (thn (hc pins s1 σ1 H1 _ I1 (turn n σ1 H1 w1)) fun b s2 ⟨H2, I2, q2⟩ => ?_)
 cases b with
 | true =>
  obtain ⟨N, hN, q2⟩ := q2
  rw [if_pos rfl]
  refine wpAny_passesOwn hp (thn (hb pins s2 σ1 H2 _ I2 q2) fun f s3 q3 => ?_)
  cases f with
  | next =>
   obtain ⟨σ3, H3, I3, n3⟩ := q3
   obtain ⟨m', hm, w3⟩ := hN σ3 H3 n3
   exact ⟨m', hm, σ3, H3, I3, w3⟩
  | cont =>
   obtain ⟨σ3, H3, I3, n3⟩ := q3
   obtain ⟨m', hm, w3⟩ := hN σ3 H3 n3
   exact ⟨m', hm, σ3, H3, I3, w3⟩
  | brk => exact q3
  | ret v => exact q3
 | false =>
  rw [if_neg Bool.false_ne_true]
  exact wpAny_execs_nil ⟨σ1, H2, I2, q2⟩
end
structure It where
 go : Nat -> Hp -> Prop
 yld : Nat -> Hp -> V -> Hp -> Prop
 stop : Nat -> Hp -> Prop
def Zh (X : Cx) (pins : List (Addr × Obj)) (H : Hp) (b : Addr) : Prop :=
 H b = none /\ b ≠ X.env.locals /\ b ∉ X.fs /\ (b ∈ X.ex \/ X.s₀.heap.objs.size <= b) /\ (∀ x c, X.env.cells.lookup x = some c -> c ≠ b) /\ ∀ p ∈ X.pn ++ pins, p.1 ≠ b
theorem Inv.fpOk {X : Cx} {pins : List (Addr × Obj)} {σ : St} {H H' : Hp} {s : Shared} {b : Addr} (I : Inv X pins σ H s) (hb : s.heap.objs.size <= b) (hn : H' b = none) : Zh X pins H' b := by
 refine ⟨hn, Nat.ne_of_gt (Nat.lt_of_lt_of_le I.lt hb), I.nofs hb, .inr (Nat.le_trans I.sz hb), fun x c e z => ?_, fun p hp z => ?_⟩
 ·obtain ⟨v, q⟩ := I.cell x c e
  exact absurd (Nat.lt_of_lt_of_le q.lt (by rw [z]; exact hb)) (Nat.lt_irrefl _)
 ·exact absurd (Nat.lt_of_lt_of_le (Heap.lt_size (I.pin p hp).1) (by rw [z]; exact hb)) (Nat.lt_irrefl _)
structure Turn (P : Program) (w : World) (K : W.Frag) (tg : Expr) (J : It) (fp : List Addr) (it : Addr) (tn : Nat -> Heap -> Prop) : Prop where
 mem : it ∈ fp
 obj : ∀ i h, tn i h -> ∀ b ∈ fp, ∃ o, h.get? b = some o /\ ∀ v, o.data ≠ .cell v
 keep : ∀ i h h', tn i h -> (∀ b ∈ fp, ∀ o, h.get? b = some o -> h'.get? b = some o) -> tn i h'
 item : ∀ (X : Cx), X.prog = P -> X.w = w -> X.K = K -> X.calm = true -> ∀ (i : Nat) (pins : List (Addr × Obj)) (s : Shared) (σ : St) (H : Hp) (E : Value -> Shared -> Prop), Inv X pins σ H s -> (∀ b ∈ fp, Zh X pins H b) -> tn i s.heap -> J.go i H ->
  wpAny (model P w) X.A (pyNext (.ref it)) (fun r s1 => ∃ u, r = some u /\
   wpAny (model P w) X.A (letOwnedTupleGo tg (.ref it) u) (fun _ s2 => ∃ x H', Inv X pins σ H' s2 /\ RelV x u /\ J.yld i H x H' /\ tn (i + 1) s2.heap /\ ∀ b ∈ fp, H' b = none) E s1) E s
 done : ∀ (X : Cx), X.prog = P -> X.w = w -> X.K = K -> X.calm = true -> ∀ (i : Nat) (pins : List (Addr × Obj)) (s : Shared) (σ : St) (H : Hp) (E : Value -> Shared -> Prop), Inv X pins σ H s -> (∀ b ∈ fp, Zh X pins H b) -> tn i s.heap -> J.stop i H ->
  wpAny (model P w) X.A (pyNext (.ref it)) (fun r s1 => r = none /\ Inv X pins σ H s1) E s
 self : ∀ (A : Around) (i : Nat) (s : Shared) (Q : Value -> Shared -> Prop) (E : Value -> Shared -> Prop), tn i s.heap -> Q (.ref it) s -> wpAny (model P w) A (pyIter (.ref it)) Q E s
abbrev TI := St -> Hp -> (It -> Hp -> Prop) -> Prop
def PIE (X : Cx) (pins : List (Addr × Obj)) (σ : St) (tg : Expr) (R : It -> Hp -> Prop) (itv : Value) (s2 : Shared) : Prop :=
 ∃ (it : Addr) (fp : List Addr) (tn : Nat -> Heap -> Prop) (J : It) (H' : Hp), itv = .ref it /\ Inv X pins σ H' s2 /\ Turn X.prog X.w X.K tg J fp it tn /\ tn 0 s2.heap /\ (∀ b ∈ fp, Zh X pins H' b) /\ R J H'
def PI (X : Cx) (tg iter : Expr) (wi : TI) : Prop :=
 ∀ (pins : List (Addr × Obj)) (s : Shared) (σ : St) (H : Hp) (R : It -> Hp -> Prop), Inv X pins σ H s -> wi σ H R ->
  wpAny (model X.prog X.w) X.A (eval iter X.env) (fun v s1 => wpAny (model X.prog X.w) X.A (pyIter v) (PIE X pins σ tg R) X.xe s1) X.xe s
theorem zFm {M : Model} {A : Around} {E : Value -> Shared -> Prop} {s : Shared} {tg : Expr} {it : Addr} {u : Value} {o : Obj} {n : String} {vs : Array Value} {Q : Unit -> Shared -> Prop} (ho : s.heap.get? it = some o) (hc : o.cls = .type n) (hd : o.data = .fields vs)
  (hn : ["enumerate", "zip", "dict_itemiterator", "dict_reverseitemiterator", "odict_iterator", "itertools.zip_longest", "itertools.pairwise"].contains n = false) (hQ : Q () s) : wpAny M A (letOwnedTupleGo tg (.ref it) u) Q E s := by
 unfold letOwnedTupleGo
 cases tg <;> first
  | exact wpAny_pure hQ
  | (cases u <;> first
    | exact wpAny_pure hQ
    | (refine wpAny_bind (wpAny_load ho ?_)
       rw [hc, hd]
       show wpAny M A (if (["enumerate", "zip", "dict_itemiterator", "dict_reverseitemiterator", "odict_iterator", "itertools.zip_longest", "itertools.pairwise"].contains n && vs[0]? == some (rawInt _)) = true then _ else _) Q E s
       rw [if_neg (by intro h; rw [hn, Bool.false_and] at h; cases h)]
       exact wpAny_pure hQ))
def Itl (K : W.Frag) (a : Addr) : It :=
 ⟨fun i H => ∃ xs x, SqL K H a xs /\ xs[i]? = some x, fun i H x H' => H' = H /\ ∀ xs, SqL K H a xs -> xs[i]? = some x, fun i H => ∃ xs, SqL K H a xs /\ xs.length <= i⟩
def Itt (K : W.Frag) (a : Addr) : It :=
 ⟨fun i H => ∃ xs x, SqT K H a xs /\ xs[i]? = some x, fun i H x H' => H' = H /\ ∀ xs, SqT K H a xs -> xs[i]? = some x, fun i H => ∃ xs, SqT K H a xs /\ xs.length <= i⟩
def Itr (lo : Int) (n : Nat) : It := ⟨fun i _ => i < n, fun i H x H' => H' = H /\ x = .int (lo + i), fun i _ => n <= i⟩
theorem zGo {P : Program} {w : World} {K : W.Frag} {tg : Expr} (a it : Addr) : Turn P w K tg (Itl K a) [it] it (fun i h => h.IsListIter it a i) where
 mem := by simp
 obj := fun i h st b hb => by
  have e : b = it := by simpa using hb
  subst e
  obtain ⟨o, e, c, d⟩ := st
  exact ⟨o, e, fun v z => by rw [d] at z; cases z⟩
 keep := fun i h h' st k => st.at fun o e => k it (by simp) o e
 item := by
  intro X hP hw hK hc i pins s σ H E I hf st hg
  subst hP hw hK
  obtain ⟨xs, x, hq, hx⟩ := hg
  obtain ⟨its, rv, p, hz⟩ := I.list hq
  obtain ⟨u, hu, ru⟩ := rv.get hx
  obtain ⟨f0, f1, f2, f3, f4, f5⟩ := hf it (by simp)
  refine wpAny_pyNext_list_item st p.isList (x := u) (by simpa using hu) fun h' st' sb => ?_
  have I1 : Inv X pins σ H { s with heap := h' } := I.turned (t' := s.toks) (fun b o hb e => (sb.2 b hb).trans e) f0 f1 f3 f4 f5
  obtain ⟨o, e, c, d⟩ := id st'
  exact ⟨u, rfl, zFm (s := { s with heap := h' }) e c d (by decide) ⟨x, H, I1, ru, ⟨rfl, fun ys hy => by rw [I.list_inj hy hq]; exact hx⟩, st', fun b hb => (hf b hb).1⟩⟩
 done := by
  intro X hP hw hK hc i pins s σ H E I hf st hg
  subst hP hw hK
  obtain ⟨xs, hq, hx⟩ := hg
  obtain ⟨its, rv, p, hz⟩ := I.list hq
  obtain ⟨f0, f1, f2, f3, f4, f5⟩ := hf it (by simp)
  have hl := rv.length
  exact wpAny_pyNext_list_end (I.ok.hd hc) st p.isList (by simp; omega) fun h' eb => ⟨rfl, I.turned (t' := s.toks) (fun b o hb e => eb b o hb e) f0 f1 f3 f4 f5⟩
 self := fun _ _ _ _ _ st h => wpAny_pyIter_listiter st h
theorem zEi {P : Program} {w : World} {K : W.Frag} {tg : Expr} (a it : Addr) : Turn P w K tg (Itt K a) [it] it (fun i h => h.IsTupleIter it a i) where
 mem := by simp
 obj := fun i h st b hb => by
  have e : b = it := by simpa using hb
  subst e
  obtain ⟨o, e, c, d⟩ := st
  exact ⟨o, e, fun v z => by rw [d] at z; cases z⟩
 keep := fun i h h' st k => st.at fun o e => k it (by simp) o e
 item := by
  intro X hP hw hK hc i pins s σ H E I hf st hg
  subst hP hw hK
  obtain ⟨xs, x, hq, hx⟩ := hg
  obtain ⟨its, rv, p, hz⟩ := I.tuple hq
  obtain ⟨u, hu, ru⟩ := rv.get hx
  obtain ⟨f0, f1, f2, f3, f4, f5⟩ := hf it (by simp)
  refine wpAny_pyNext_tuple_item st (show s.heap.IsTuple a its.toArray from p) (x := u) (by simpa using hu) fun h' st' sb => ?_
  have I1 : Inv X pins σ H { s with heap := h' } := I.turned (t' := s.toks) (fun b o hb e => (sb.2 b hb).trans e) f0 f1 f3 f4 f5
  obtain ⟨o, e, c, d⟩ := id st'
  exact ⟨u, rfl, zFm (s := { s with heap := h' }) e c d (by decide) ⟨x, H, I1, ru, ⟨rfl, fun ys hy => by rw [I.tuple_inj hy hq]; exact hx⟩, st', fun b hb => (hf b hb).1⟩⟩
 done := by
  intro X hP hw hK hc i pins s σ H E I hf st hg
  subst hP hw hK
  obtain ⟨xs, hq, hx⟩ := hg
  obtain ⟨its, rv, p, hz⟩ := I.tuple hq
  obtain ⟨f0, f1, f2, f3, f4, f5⟩ := hf it (by simp)
  have hl := rv.length
  exact wpAny_pyNext_tuple_end (I.ok.hd hc) st (show s.heap.IsTuple a its.toArray from p) (by simp; omega) fun h' eb => ⟨rfl, I.turned (t' := s.toks) (fun b o hb e => eb b o hb e) f0 f1 f3 f4 f5⟩
 self := fun _ _ _ _ _ st h => wpAny_pyIter_tupleiter st h
theorem zEq {P : Program} {w : World} {K : W.Frag} {tg : Expr} (it : Addr) (lo : Int) (n : Nat) : Turn P w K tg (Itr lo n) [it] it (fun i h => IsRangeIter h it (lo + (i : Nat) * 1) ((n : Int) - (i : Nat)) 1) where
 mem := by simp
 obj := fun i h st b hb => by
  have e : b = it := by simpa using hb
  subst e
  exact ⟨_, st, fun v z => by
   have z' : Data.fields _ = Data.cell v := z
   cases z'⟩
 keep := fun i h h' st k => k it (by simp) _ st
 item := by
  intro X hP hw hK hc i pins s σ H E I hf st hg
  subst hP hw hK
  obtain ⟨f0, f1, f2, f3, f4, f5⟩ := hf it (by simp)
  have W := Walks.range (prog := X.prog) (w := X.w) (I.ok.hd hc) it lo 1 n
  refine W.item i s _ _ hg st fun v h' tk hv st' kk => ?_
  obtain ⟨t, rfl⟩ := hv
  have I1 : Inv X pins σ H { s with heap := h', toks := tk } := I.turned (fun b o hb e => kk b o (by simpa using hb) e) f0 f1 f3 f4 f5
  refine ⟨_, rfl, zFm (s := { s with heap := h', toks := tk }) (n := "range_iterator") st' rfl rfl (by decide) ⟨.int (lo + i), H, I1, ⟨t, ?_⟩, ⟨rfl, rfl⟩, st', fun b hb => (hf b hb).1⟩⟩
  rw [Int.mul_one]
 done := by
  intro X hP hw hK hc i pins s σ H E I hf st hg
  subst hP hw hK
  obtain ⟨f0, f1, f2, f3, f4, f5⟩ := hf it (by simp)
  exact wpAny_pyNext_range_end (I.ok.hd hc) st (by have : n <= i := hg; omega) fun h' eb => ⟨rfl, I.turned (t' := s.toks) (fun b o hb e => eb b o hb e) f0 f1 f3 f4 f5⟩
 self := fun _ _ _ _ _ st h => wpAny_pyIter_rangeiter st h
end L2
namespace L2
open PySem PySem.Spec PyProof.Rows
section
variable {X : Cx} {tg : Expr}
def zIs (K : W.Frag) (tl : TE) : TI := fun σ H R => tl σ H fun x H1 => ∃ a, x = .ref a /\ (∃ xs, SqL K H1 a xs) /\ R (Itl K a) H1
def zLr (K : W.Frag) (tl : TE) : TI := fun σ H R => tl σ H fun x H1 => ∃ a, x = .ref a /\ (∃ xs, SqT K H1 a xs) /\ R (Itt K a) H1
theorem Z9 {l : Expr} {tl : TE} (hl : PE X l tl) : PI X tg l (zIs X.K tl) := by
 intro pins s σ H R I h
 refine thn (hl pins s σ H _ I h) fun v s1 ⟨x, H1, I1, r1, q1⟩ => ?_
 obtain ⟨a, e, ⟨xs, hq⟩, q⟩ := q1
 subst e
 cases r1
 obtain ⟨its, rv, p, hz⟩ := I1.list hq
 refine wpAny_pyIter_list p.isList ?_
 refine ⟨s1.heap.objs.size, [s1.heap.objs.size], _, _, H1, rfl, I1.kept (t' := s1.toks) fun b o e => Heap.get?_push_of_some _ e, zGo a _, ⟨_, Heap.get?_push_size _ rfl, rfl, rfl⟩, fun b hb => ?_, q⟩
 have e : b = s1.heap.objs.size := by simpa using hb
 subst e
 exact I1.fpOk (Nat.le_refl _) (I1.hok.fresh (Nat.le_refl _))
theorem zIc {l : Expr} {tl : TE} (hl : PE X l tl) : PI X tg l (zLr X.K tl) := by
 intro pins s σ H R I h
 refine thn (hl pins s σ H _ I h) fun v s1 ⟨x, H1, I1, r1, q1⟩ => ?_
 obtain ⟨a, e, ⟨xs, hq⟩, q⟩ := q1
 subst e
 cases r1
 obtain ⟨its, rv, p, hz⟩ := I1.tuple hq
 refine wpAny_pyIter_tuple (show s1.heap.IsTuple a its.toArray from p) ?_
 refine ⟨s1.heap.objs.size, [s1.heap.objs.size], _, _, H1, rfl, I1.kept (t' := s1.toks) fun b o e => Heap.get?_push_of_some _ e, zEi a _, ⟨_, Heap.get?_push_size _ rfl, rfl, rfl⟩, fun b hb => ?_, q⟩
 have e : b = s1.heap.objs.size := by simpa using hb
 subst e
 exact I1.fpOk (Nat.le_refl _) (I1.hok.fresh (Nat.le_refl _))
theorem zH1 {pins : List (Addr × Obj)} {σ : St} {H : Hp} {s : Shared} {R : It -> Hp -> Prop} {E : Value -> Shared -> Prop} {lo hi : Int} {t u v : Tok} {tk : Nat} (I : Inv X pins σ H s) (h1 : -(2 ^ 62) <= lo) (h2 : lo < 2 ^ 62) (h3 : -(2 ^ 62) <= hi) (h4 : hi < 2 ^ 62)
  (q : R (Itr lo (hi - lo).toNat) H) : wpAny (model X.prog X.w) X.A (pyIter (.ref s.heap.objs.size)) (PIE X pins σ tg R) E { s with heap := s.heap.push { cls := .type "range", data := .fields #[.int lo t, .int hi u, .int 1 v] }, toks := tk } := by
 refine wpAny_pyIter_range (IsRange.new ..) (small_one h1 h2 h3 h4) ?_
 have I1 : Inv X pins σ H { s with heap := s.heap.push { cls := .type "range", data := .fields #[.int lo t, .int hi u, .int 1 v] }, toks := tk } := I.kept fun b o e => Heap.get?_push_of_some _ e
 refine ⟨(s.heap.push { cls := .type "range", data := .fields #[.int lo t, .int hi u, .int 1 v] }).objs.size, [(s.heap.push { cls := .type "range", data := .fields #[.int lo t, .int hi u, .int 1 v] }).objs.size], _, _, H, rfl,
  I1.kept (t' := tk) fun b o e => Heap.get?_push_of_some _ e, zEq _ lo (hi - lo).toNat, ?_, fun b hb => ?_, q⟩
 ·have e1 : lo + ((0 : Nat) : Int) * 1 = lo := by simp
  have e2 : (((hi - lo).toNat : Nat) : Int) - ((0 : Nat) : Int) = Builtin.Range.rangeSize lo hi 1 := by rw [rangeSize_one]; split <;> omega
  show IsRangeIter _ _ (lo + ((0 : Nat) : Int) * 1) ((((hi - lo).toNat : Nat) : Int) - ((0 : Nat) : Int)) 1
  rw [e1, e2]
  exact Heap.get?_push_size _ rfl
 ·have e : b = (s.heap.push { cls := .type "range", data := .fields #[.int lo t, .int hi u, .int 1 v] }).objs.size := by simpa using hb
  subst e
  exact I1.fpOk (Nat.le_refl _) (I1.hok.fresh (Nat.le_refl _))
def zIA (ta : TA) : TI := fun σ H R => ta σ H fun vs H1 => ∃ j : Int, vs = [.int j] /\ -(2 ^ 62) <= j /\ j < 2 ^ 62 /\ R (Itr 0 j.toNat) H1
def zKk (ta : TA) : TI := fun σ H R => ta σ H fun vs H1 => ∃ i j : Int, vs = [.int i, .int j] /\ (-(2 ^ 62) <= i /\ i < 2 ^ 62 /\ -(2 ^ 62) <= j /\ j < 2 ^ 62) /\ R (Itr i (j - i).toNat) H1
theorem WD {a : Expr} {ta : TA} {p pos : Pos} (hg : Gl X "range") (hm : X.mg "range" = none) (ha : PA X [a] ta) (hs : starEach [a] X.env = [(false, eval a X.env)] := by rfl) : PI X tg (.Call (.Name "range" p) [a] [] pos) (zIA ta) := by
 intro pins s σ H R I h
 refine Call_ (Zc I hg hm boot_range (PyProof.Rows.callWith_type1 (thn (ha pos pins s σ H _ I h) fun us s1 ⟨vs, H1, I1, r1, q1⟩ => ?_) hs rfl))
 obtain ⟨j, e, q1, q2, q⟩ := q1
 subst e
 cases r1 with
 | cons r rr =>
  cases rr
  obtain ⟨t, rfl⟩ := r
  exact call_range_1 (zH1 I1 (by omega) (by omega) q1 q2 (by simpa using q))
def zMU (wi : TI) (g : TG) (tb : TS) : TS := fun D σ H => wi σ H fun J H1 => ∃ W : Nat -> Nat -> St -> Hp -> Prop, (∃ m, W 0 m σ H1) /\ ∀ i m σ H, W i m σ H ->
 (J.stop i H /\ D.nx σ H) \/ (J.go i H /\ ∃ N : St -> Hp -> Prop, (∀ σ' H', N σ' H' -> ∃ m', m' < m /\ W (i + 1) m' σ' H') /\ ∀ x H', J.yld i H x H' -> g x σ H' fun σ2 H2 => tb { D with nx := N, ct := N, bk := D.nx } σ2 H2)
def Zi (fp : List Addr) (h : Heap) : List (Addr × Obj) := fp.filterMap fun b => (h.get? b).map fun o => (b, o)
theorem YT {fp : List Addr} {h : Heap} {b : Addr} {o : Obj} (hb : b ∈ fp) (e : h.get? b = some o) : (b, o) ∈ Zi fp h := List.mem_filterMap.mpr ⟨b, hb, by rw [e]; rfl⟩
theorem zGX {fp : List Addr} {h : Heap} {p : Addr × Obj} (hp : p ∈ Zi fp h) : p.1 ∈ fp /\ h.get? p.1 = some p.2 := by
 obtain ⟨b, hb, e⟩ := List.mem_filterMap.mp hp
 cases q : h.get? b with
 | none => rw [q] at e; cases e
 | some o =>
  rw [q] at e
  have e' : (b, o) = p := Option.some.inj e
  subst e'
  exact ⟨hb, q⟩
theorem Inv.pinned {pins : List (Addr × Obj)} {σ : St} {H : Hp} {s : Shared} {fp : List Addr} (I : Inv X pins σ H s) (hf : ∀ b ∈ fp, Zh X pins H b) (ho : ∀ b ∈ fp, ∃ o, s.heap.get? b = some o /\ ∀ v, o.data ≠ .cell v) : Inv X (pins ++ Zi fp s.heap) σ H s :=
 I.pins_of fun p hp => (List.mem_append.mp hp).elim (fun z => I.pin p (List.mem_append_right _ z)) fun z => by
  obtain ⟨hb, e⟩ := zGX z
  obtain ⟨f0, f1, f2, _⟩ := hf p.1 hb
  obtain ⟨o, e', d⟩ := ho p.1 hb
  rw [e] at e'; cases e'
  exact ⟨e, f0, f1, f2, d⟩
theorem Inv.unpinned {pins pl : List (Addr × Obj)} {σ : St} {H : Hp} {s : Shared} (I : Inv X (pins ++ pl) σ H s) : Inv X pins σ H s := I.pins_of fun p hp => I.pin p (List.mem_append_right _ (List.mem_append_left _ hp))
theorem ZY {iter : Expr} {body : List Stmt} {wi : TI} {g : TG} {tb : TS} {pos : Pos} (hp : PassesOwn (model X.prog X.w) X.A X.env X.xe) (hc : X.calm = true) (hi : PI X tg iter wi) (hg : PG X tg g) (hb : PSs X body tb)
  (hs : ∀ x, foldedSetIterable iter X.env x = pure x := by intro _; rfl) : PS X (.For tg iter body [] pos) (zMU wi g tb) := by
 intro pins s σ H D I h
 refine wpAny_For (thn (hi pins s σ H _ I h) fun v s1 h1 => thn h1 fun itv s2 h2 => ?_) hs
 obtain ⟨it, fp, tn, J, H2, e, I2, T, st2, f2, W, ⟨m0, w0⟩, turn⟩ := h2
 subst e
 have stat : ∀ {H' : Hp}, (∀ b ∈ fp, H' b = none) -> ∀ b ∈ fp, Zh X pins H' b := fun hn b hb => ⟨hn b hb, (f2 b hb).2⟩
 refine codeAny_forLoop_any (fun n s' => ∃ i σ' H', Inv X pins σ' H' s' /\ tn i s'.heap /\ (∀ b ∈ fp, H' b = none) /\ W i n σ' H') ?_ m0 ⟨0, σ, H2, I2, st2, fun b hb => (f2 b hb).1, w0⟩
 rintro n s3 ⟨i, σ3, H3, I3, st3, fr3, w3⟩
 rcases turn i n σ3 H3 w3 with ⟨stop, qn⟩ | ⟨go, N, hN, step⟩
 ·refine wpAny_passesOwn hp (thn (T.done X rfl rfl rfl hc i pins s3 σ3 H3 X.xe I3 (stat fr3) st3 stop) fun r s4 ⟨hr, I4⟩ => ?_)
  subst hr
  exact wpAny_execs_nil ⟨σ3, H3, I4, qn⟩
 ·refine wpAny_passesOwn hp (thn (T.item X rfl rfl rfl hc i pins s3 σ3 H3 X.xe I3 (stat fr3) st3 go) fun r s4 ⟨u, hr, h4⟩ => ?_)
  subst hr
  refine wpAny_passesOwn hp (thn h4 fun _ s5 ⟨x, H5, I5, r5, y5, st5, fr5⟩ => ?_)
  have I5' := I5.pinned (stat fr5) (T.obj _ _ st5)
  refine wpAny_passesOwn hp (thn (hg _ s5 σ3 H5 x u _ I5' r5 (step x H5 y5)) fun _ s6 ⟨σ6, H6, I6, q6⟩ => ?_)
  refine wpAny_passesOwn hp (thn (hb _ s6 σ6 H6 _ I6 q6) fun f s7 q7 => ?_)
  have again : ∀ {σ7 : St} {H7 : Hp}, Inv X (pins ++ Zi fp s5.heap) σ7 H7 s7 -> N σ7 H7 -> ∃ m, m < n /\ ∃ i σ' H', Inv X pins σ' H' s7 /\ tn i s7.heap /\ (∀ b ∈ fp, H' b = none) /\ W i m σ' H' := fun {σ7 H7} I7 n7 => by
   obtain ⟨m', hm, w7⟩ := hN σ7 H7 n7
   refine ⟨m', hm, i + 1, σ7, H7, I7.unpinned, T.keep _ _ _ st5 fun b hb o e => (I7.pin (b, o) (List.mem_append_right _ (List.mem_append_right _ (YT hb e)))).1, fun b hb => ?_, w7⟩
   obtain ⟨o, e, d⟩ := T.obj _ _ st5 b hb
   exact (I7.pin (b, o) (List.mem_append_right _ (List.mem_append_right _ (YT hb e)))).2.1
  cases f with
  | next => obtain ⟨σ7, H7, I7, n7⟩ := q7; exact again I7 n7
  | cont => obtain ⟨σ7, H7, I7, n7⟩ := q7; exact again I7 n7
  | brk => obtain ⟨σ7, H7, I7, q7⟩ := q7; exact ⟨σ7, H7, I7.unpinned, q7⟩
  | ret v => obtain ⟨x7, σ7, H7, I7, r7, q7⟩ := q7; exact ⟨x7, σ7, H7, I7.unpinned, r7, q7⟩
end
theorem zHG {K : W.Frag} {a : Addr} {xs : List V} {g : TG} {tb : TS} {D : Ends} {σ : St} {H : Hp} (Pv : Nat -> St -> Hp -> Prop) (h0 : Pv 0 σ H) (hl : ∀ i σ H, i <= xs.length -> Pv i σ H -> SqL K H a xs)
  (hs : ∀ i x σ H, xs[i]? = some x -> Pv i σ H -> g x σ H fun σ2 H2 => tb { D with nx := Pv (i + 1), ct := Pv (i + 1), bk := D.nx } σ2 H2) (hd : ∀ σ H, Pv xs.length σ H -> D.nx σ H) :
  ∃ W : Nat -> Nat -> St -> Hp -> Prop, (∃ m, W 0 m σ H) /\ ∀ i m σ H, W i m σ H ->
   ((Itl K a).stop i H /\ D.nx σ H) \/ ((Itl K a).go i H /\ ∃ N : St -> Hp -> Prop, (∀ σ' H', N σ' H' -> ∃ m', m' < m /\ W (i + 1) m' σ' H') /\ ∀ x H', (Itl K a).yld i H x H' -> g x σ H' fun σ2 H2 => tb { D with nx := N, ct := N, bk := D.nx } σ2 H2) := by
 refine ⟨fun i m σ H => m = xs.length - i /\ i <= xs.length /\ Pv i σ H, ⟨xs.length, by simp, Nat.zero_le _, h0⟩, ?_⟩
 rintro i m σ H ⟨rfl, hi, p⟩
 have q := hl i σ H hi p
 by_cases hlt : i < xs.length
 ·refine .inr ⟨⟨xs, xs[i], q, by simp [hlt]⟩, Pv (i + 1), fun σ' H' p' => ⟨xs.length - (i + 1), by omega, rfl, hlt, p'⟩, fun x H' y => ?_⟩
  obtain ⟨e, y⟩ := y
  subst e
  exact hs i x σ _ (y xs q) p
 ·have e : i = xs.length := by omega
  subst e
  exact .inl ⟨⟨xs, q, Nat.le_refl _⟩, hd σ H p⟩
theorem zJP {K : W.Frag} {a : Addr} {xs : List V} {g : TG} {tb : TS} {D : Ends} {σ : St} {H : Hp} (Pv : Nat -> St -> Hp -> Prop) (h0 : Pv 0 σ H) (hl : ∀ i σ H, i <= xs.length -> Pv i σ H -> SqT K H a xs)
  (hs : ∀ i x σ H, xs[i]? = some x -> Pv i σ H -> g x σ H fun σ2 H2 => tb { D with nx := Pv (i + 1), ct := Pv (i + 1), bk := D.nx } σ2 H2) (hd : ∀ σ H, Pv xs.length σ H -> D.nx σ H) :
  ∃ W : Nat -> Nat -> St -> Hp -> Prop, (∃ m, W 0 m σ H) /\ ∀ i m σ H, W i m σ H ->
   ((Itt K a).stop i H /\ D.nx σ H) \/ ((Itt K a).go i H /\ ∃ N : St -> Hp -> Prop, (∀ σ' H', N σ' H' -> ∃ m', m' < m /\ W (i + 1) m' σ' H') /\ ∀ x H', (Itt K a).yld i H x H' -> g x σ H' fun σ2 H2 => tb { D with nx := N, ct := N, bk := D.nx } σ2 H2) := by
 refine ⟨fun i m σ H => m = xs.length - i /\ i <= xs.length /\ Pv i σ H, ⟨xs.length, by simp, Nat.zero_le _, h0⟩, ?_⟩
 rintro i m σ H ⟨rfl, hi, p⟩
 have q := hl i σ H hi p
 by_cases hlt : i < xs.length
 ·refine .inr ⟨⟨xs, xs[i], q, by simp [hlt]⟩, Pv (i + 1), fun σ' H' p' => ⟨xs.length - (i + 1), by omega, rfl, hlt, p'⟩, fun x H' y => ?_⟩
  obtain ⟨e, y⟩ := y
  subst e
  exact hs i x σ _ (y xs q) p
 ·have e : i = xs.length := by omega
  subst e
  exact .inl ⟨⟨xs, q, Nat.le_refl _⟩, hd σ H p⟩
theorem zGG {lo : Int} {n : Nat} {g : TG} {tb : TS} {D : Ends} {σ : St} {H : Hp} (Pv : Nat -> St -> Hp -> Prop) (h0 : Pv 0 σ H)
  (hs : ∀ i σ H, i < n -> Pv i σ H -> g (.int (lo + i)) σ H fun σ2 H2 => tb { D with nx := Pv (i + 1), ct := Pv (i + 1), bk := D.nx } σ2 H2) (hd : ∀ σ H, Pv n σ H -> D.nx σ H) :
  ∃ W : Nat -> Nat -> St -> Hp -> Prop, (∃ m, W 0 m σ H) /\ ∀ i m σ H, W i m σ H ->
   ((Itr lo n).stop i H /\ D.nx σ H) \/ ((Itr lo n).go i H /\ ∃ N : St -> Hp -> Prop, (∀ σ' H', N σ' H' -> ∃ m', m' < m /\ W (i + 1) m' σ' H') /\ ∀ x H', (Itr lo n).yld i H x H' -> g x σ H' fun σ2 H2 => tb { D with nx := N, ct := N, bk := D.nx } σ2 H2) := by
 refine ⟨fun i m σ H => m = n - i /\ i <= n /\ Pv i σ H, ⟨n, by simp, Nat.zero_le _, h0⟩, ?_⟩
 rintro i m σ H ⟨rfl, hi, p⟩
 by_cases hlt : i < n
 ·refine .inr ⟨hlt, Pv (i + 1), fun σ' H' p' => ⟨n - (i + 1), by omega, rfl, hlt, p'⟩, fun x H' y => ?_⟩
  obtain ⟨e, y⟩ := y
  subst e y
  exact hs i σ _ hlt p
 ·have e : i = n := by omega
  subst e
  exact .inl ⟨Nat.le_refl _, hd σ H p⟩
end L2
namespace L2
open PySem PySem.Spec PyProof.Rows
abbrev R2 := V -> V -> Hp -> VK -> Prop
def OpR (X : Cx) (f : Value -> Value -> Sem Value) (r : R2) : Prop :=
 ∀ (pins : List (Addr × Obj)) (s : Shared) (σ : St) (H : Hp) (x y : V) (v u : Value) (Q : VK), Inv X pins σ H s -> RelV x v -> RelV y u -> r x y H Q ->
  wpAny (model X.prog X.w) X.A (f v u) (EP X pins σ Q) X.xe s
def UnR (X : Cx) (f : Value -> Sem Value) (r : V -> Hp -> VK -> Prop) : Prop :=
 ∀ (pins : List (Addr × Obj)) (s : Shared) (σ : St) (H : Hp) (x : V) (v : Value) (Q : VK), Inv X pins σ H s -> RelV x v -> r x H Q ->
  wpAny (model X.prog X.w) X.A (f v) (EP X pins σ Q) X.xe s
def WK (X : Cx) (f : Value) (r : List V -> Hp -> VK -> Prop) : Prop :=
 ∀ (pins : List (Addr × Obj)) (s : Shared) (σ : St) (H : Hp) (xs : List V) (us : List Value) (Q : VK), Inv X pins σ H s -> Vals xs us -> r xs H Q ->
  wpAny (model X.prog X.w) X.A (call f us) (EP X pins σ Q) X.xe s
def zMp (X : Cx) (r : V -> Hp -> (Bool -> Hp -> Prop) -> Prop) : Prop :=
 ∀ (pins : List (Addr × Obj)) (s : Shared) (σ : St) (H : Hp) (x : V) (v : Value) (Q : Bool -> Hp -> Prop), Inv X pins σ H s -> RelV x v -> r x H Q ->
  wpAny (model X.prog X.w) X.A (truthy v) (TP X pins σ Q) X.xe s
def tOp (r : R2) (ta tb : TE) : TE := fun σ H Q => ta σ H fun x H1 => tb σ H1 fun y H2 => r x y H2 Q
def tUn (r : V -> Hp -> VK -> Prop) (ta : TE) : TE := fun σ H Q => ta σ H fun x H1 => r x H1 Q
def rI (C : Int -> Int -> Prop) (g : Int -> Int -> V) : R2 := fun x y H Q => ∃ i j, x = .int i /\ y = .int j /\ C i j /\ Q (g i j) H
def rI0 (g : Int -> Int -> V) : R2 := fun x y H Q => ∃ i j, x = .int i /\ y = .int j /\ Q (g i j) H
def rU (g : Int -> V) : V -> Hp -> VK -> Prop := fun x H Q => ∃ i, x = .int i /\ Q (g i) H
section
variable {X : Cx} {a b c : Expr} {ta tb tc : TE} {pos : Pos}
theorem zLs (ha : PE X a ta) (hb : PE X b tb) {pins : List (Addr × Obj)} {s : Shared} {σ : St} {H : Hp} {R : V -> V -> Hp -> Prop} (I : Inv X pins σ H s)
  (h : ta σ H fun x H1 => tb σ H1 fun y H2 => R x y H2) {Q : Value -> Shared -> Prop} {f : Value -> Value -> Sem Value}
  (hf : ∀ v u s2 x y H2, Inv X pins σ H2 s2 -> RelV x v -> RelV y u -> R x y H2 -> wpAny (model X.prog X.w) X.A (f v u) Q X.xe s2) :
  wpAny (model X.prog X.w) X.A (eval a X.env) (fun v s₁ => wpAny (model X.prog X.w) X.A (eval b X.env) (fun u s₂ => wpAny (model X.prog X.w) X.A (f v u) Q X.xe s₂) X.xe s₁) X.xe s := by
 refine thn (ha pins s σ H _ I h) fun v s1 ⟨x, H1, I1, r1, q1⟩ => ?_
 refine thn (hb pins s1 σ H1 _ I1 q1) fun u s2 ⟨y, H2, I2, r2, q2⟩ => ?_
 exact hf v u s2 x y H2 I2 r1 r2 q2
theorem QK {op : Operator} {r : R2} (ho : OpR X (binaryOp op) r) (ha : PE X a ta) (hb : PE X b tb) : PE X (.BinOp a op b pos) (tOp r ta tb) := by
 intro pins s σ H Q I h
 exact wpAny_BinOp (zLs ha hb I h fun v u s2 x y H2 I2 rx ry q => ho pins s2 σ H2 x y v u Q I2 rx ry q)
theorem zDx {op : UnaryOp} {r : V -> Hp -> VK -> Prop} (ho : UnR X (unaryOp op) r) (ha : PE X a ta) : PE X (.UnaryOp op a pos) (tUn r ta) := by
 intro pins s σ H Q I h
 exact UnaryOp_ (thn (ha pins s σ H _ I h) fun v s1 ⟨x, H1, I1, r1, q1⟩ => ho pins s1 σ H1 x v Q I1 r1 q1)
theorem opI {f : Value -> Value -> Sem Value} {C : Int -> Int -> Prop} {g : Int -> Int -> Int}
  (rule : ∀ (i j : Int) (t u : Tok) (s : Shared) (Q : Value -> Shared -> Prop) (E : Value -> Shared -> Prop), C i j -> Q (.int (g i j) s.toks) { s with toks := s.toks + 1 } -> wpAny (model X.prog X.w) X.A (f (.int i t) (.int j u)) Q E s) :
  OpR X f (rI C fun i j => .int (g i j)) := by
 intro pins s σ H x y v u Q I rx ry h
 obtain ⟨i, j, rfl, rfl, hc, q⟩ := h
 obtain ⟨t, rfl⟩ := rx
 obtain ⟨t', rfl⟩ := ry
 exact rule i j t t' s _ _ hc ⟨.int (g i j), H, I.tok _, ⟨_, rfl⟩, q⟩
theorem zG9 {f : Value -> Value -> Sem Value} {g : Int -> Int -> Int}
  (rule : ∀ (i j : Int) (t u : Tok) (s : Shared) (Q : Value -> Shared -> Prop) (E : Value -> Shared -> Prop), Q (.int (g i j) s.toks) { s with toks := s.toks + 1 } -> wpAny (model X.prog X.w) X.A (f (.int i t) (.int j u)) Q E s) :
  OpR X f (rI0 fun i j => .int (g i j)) := by
 intro pins s σ H x y v u Q I rx ry h
 obtain ⟨i, j, rfl, rfl, q⟩ := h
 obtain ⟨t, rfl⟩ := rx
 obtain ⟨t', rfl⟩ := ry
 exact rule i j t t' s _ _ ⟨.int (g i j), H, I.tok _, ⟨_, rfl⟩, q⟩
theorem zJr {f : Value -> Value -> Sem Value} {g : Int -> Int -> Bool}
  (rule : ∀ (i j : Int) (t u : Tok) (s : Shared) (Q : Value -> Shared -> Prop) (E : Value -> Shared -> Prop), Q (.bool (g i j)) s -> wpAny (model X.prog X.w) X.A (f (.int i t) (.int j u)) Q E s) :
  OpR X f (rI0 fun i j => .bl (g i j)) := by
 intro pins s σ H x y v u Q I rx ry h
 obtain ⟨i, j, rfl, rfl, q⟩ := h
 obtain ⟨t, rfl⟩ := rx
 obtain ⟨t', rfl⟩ := ry
 exact rule i j t t' s _ _ ⟨.bl (g i j), H, I, rfl, q⟩
def zLG (i j : Int) : Prop := 0 < j /\ j < 1073741824
def zLW (i j : Int) : Prop := 0 <= j /\ j <= 1000000 /\ i.natAbs < 2 ^ 64
def CMul (i j : Int) : Prop := (-(2 ^ 64) < i /\ i < 2 ^ 64) \/ (-(2 ^ 64) < j /\ j < 2 ^ 64)
theorem CMul.ok {i j : Int} (h : CMul i j) : IntMulOk i j := by
 rcases h with ⟨h1, h2⟩ | ⟨h1, h2⟩
 ·exact .of_left (intBits_le_64 h1 h2)
 ·exact .of_right (intBits_le_64 h1 h2)
theorem Yf : OpR X (binaryOp .Add) (rI0 fun i j => .int (i + j)) := zG9 fun _ _ _ _ _ _ _ q => add_int q
theorem Yp : OpR X (binaryOp .Sub) (rI0 fun i j => .int (i - j)) := zG9 fun _ _ _ _ _ _ _ q => sub_int q
theorem YW : OpR X (binaryOp .Mult) (rI CMul fun i j => .int (i * j)) := opI fun _ _ _ _ _ _ _ hc q => mul_int q hc.ok
theorem Qp : OpR X (binaryOp .FloorDiv) (rI zLG fun i j => .int (i / j)) := opI fun i j _ _ _ _ _ hc q => by
 have h1 : (0 : Int) < j := hc.1
 have h2 : j < 1073741824 := hc.2
 exact floordiv_int (by omega) (by rw [Int.fdiv_eq_ediv_of_nonneg i (by omega)]; exact q) (.inl (PyProof.noPylong_small (by omega)))
theorem Qh : OpR X (binaryOp .Mod) (rI (fun _ j => 0 < j) fun i j => .int (i % j)) := opI fun i j _ _ _ _ _ hc q => by
 have h1 : (0 : Int) < j := hc
 exact mod_int' (by omega) (by rw [Int.fmod_eq_emod_of_nonneg i (by omega)]; exact q)
theorem We : OpR X (binaryOp .Pow) (rI zLW fun i j => .int (i ^ j.toNat)) := opI fun _ _ _ _ _ _ _ hc q => pow_int_small hc.1 hc.2.1 hc.2.2 q
theorem zKy : OpR X (binaryOp .BitAnd) (rI0 fun i j => .int (Builtin.bitAnd i j)) := zG9 fun _ _ _ _ _ _ _ q => and_int q
theorem zL2 : OpR X (binaryOp .BitOr) (rI0 fun i j => .int (Builtin.bitOr i j)) := zG9 fun _ _ _ _ _ _ _ q => or_int q
theorem zLJ : OpR X (binaryOp .BitXor) (rI0 fun i j => .int (Builtin.bitXor i j)) := zG9 fun _ _ _ _ _ _ _ q => xor_int q
theorem unI {f : Value -> Sem Value} {g : Int -> Int}
  (rule : ∀ (i : Int) (t : Tok) (s : Shared) (Q : Value -> Shared -> Prop) (E : Value -> Shared -> Prop), Q (.int (g i) s.toks) { s with toks := s.toks + 1 } -> wpAny (model X.prog X.w) X.A (f (.int i t)) Q E s) :
  UnR X f (rU fun i => .int (g i)) := by
 intro pins s σ H x v Q I rx h
 obtain ⟨i, rfl, q⟩ := h
 obtain ⟨t, rfl⟩ := rx
 exact rule i t s _ _ ⟨.int (g i), H, I.tok _, ⟨_, rfl⟩, q⟩
theorem zA1 : UnR X (unaryOp .USub) (rU fun i => .int (-i)) := unI fun _ _ _ _ _ q => neg_int q
end
def zD0 : V -> V -> Bool
 | .non, .non => true | .non, .int _ => true | .int _, .non => true | .non, .bl _ => true | .bl _, .non => true | .non, .str _ => true | .str _, .non => true
 | .int _, .int _ => true | .bl _, .bl _ => true | .str _, .str _ => true | .byt _, .byt _ => true
 | .int _, .str _ => true | .str _, .int _ => true | .bl _, .str _ => true | .str _, .bl _ => true
 | _, _ => false
def rEq : R2 := fun x y H Q => zD0 x y = true /\ Q (.bl (decide (x = y))) H
def rNe : R2 := fun x y H Q => zD0 x y = true /\ Q (.bl (!decide (x = y))) H
theorem zE5 {i j : Int} : decide (V.int i = V.int j) = (i == j) := by
 rw [Bool.eq_iff_iff]
 simp
theorem zH2 {i j : Bool} : decide (V.bl i = V.bl j) = (i == j) := by
 rw [Bool.eq_iff_iff]
 simp
theorem zFg {i j : Str} : decide (V.str i = V.str j) = (i == j) := by
 rw [Bool.eq_iff_iff]
 simp
theorem zFa {i j : Array UInt8} : decide (V.byt i = V.byt j) = (i.toList == j.toList) := by
 rw [Bool.eq_iff_iff]
 cases i
 cases j
 simp
section
variable {X : Cx} {a b c : Expr} {ta tb tc : TE} {pos : Pos}
theorem Qb {pins : List (Addr × Obj)} {σ : St} {H : Hp} {s : Shared} {Q : VK} {k k' : Bool} (I : Inv X pins σ H s) (q : Q (.bl k) H) (e : k = k') : EP X pins σ Q (.bool k') s := by
 subst e
 exact ⟨.bl k, H, I, rfl, q⟩
theorem YC : OpR X (compareOp .Eq) rEq := by
 intro pins s σ H x y v u Q I rx ry h
 obtain ⟨hs, q⟩ := h
 cases x with
 | non =>
  cases rx
  cases y with
  | non => cases ry; exact PySem.EqNone.eq_none_none (Qb I q (by simp))
  | bl j => cases ry; exact PySem.EqNone.eq_none_bool (Qb I q (by simp))
  | int j => obtain ⟨t', rfl⟩ := ry; exact PySem.EqNone.eq_none_int (Qb I q (by simp))
  | str j => obtain ⟨t', rfl⟩ := ry; exact PySem.EqNone.eq_none_str (Qb I q (by simp))
  | _ => exact absurd (show false = true from hs) Bool.false_ne_true
 | bl i =>
  cases rx
  cases y with
  | non => cases ry; exact PySem.EqNone.eq_bool_none (Qb I q (by simp))
  | bl j => cases ry; exact eq_bool (Qb I q zH2)
  | str j => obtain ⟨t', rfl⟩ := ry; exact PySem.EqMixed.eq_bool_str (Qb I q (by simp))
  | _ => exact absurd (show false = true from hs) Bool.false_ne_true
 | int i =>
  obtain ⟨t, rfl⟩ := rx
  cases y with
  | non => cases ry; exact PySem.EqNone.eq_int_none (Qb I q (by simp))
  | int j => obtain ⟨t', rfl⟩ := ry; exact eq_int (Qb I q zE5)
  | str j => obtain ⟨t', rfl⟩ := ry; exact PySem.EqMixed.eq_int_str (Qb I q (by simp))
  | _ => exact absurd (show false = true from hs) Bool.false_ne_true
 | str i =>
  obtain ⟨t, rfl⟩ := rx
  cases y with
  | non => cases ry; exact PySem.EqNone.eq_str_none (Qb I q (by simp))
  | bl j => cases ry; exact PySem.EqMixed.eq_str_bool (Qb I q (by simp))
  | int j => obtain ⟨t', rfl⟩ := ry; exact PySem.EqMixed.eq_str_int (Qb I q (by simp))
  | str j => obtain ⟨t', rfl⟩ := ry; exact eq_str (Qb I q zFg)
  | _ => exact absurd (show false = true from hs) Bool.false_ne_true
 | byt i =>
  obtain ⟨t, rfl⟩ := rx
  cases y with
  | byt j => obtain ⟨t', rfl⟩ := ry; exact PySem.W.eq_bytes (Qb I q zFa)
  | _ => exact absurd (show false = true from hs) Bool.false_ne_true
 | _ => cases y <;> exact absurd (show false = true from hs) Bool.false_ne_true
theorem zH6 : OpR X (compareOp .NotEq) rNe := by
 intro pins s σ H x y v u Q I rx ry h
 obtain ⟨hs, q⟩ := h
 cases x with
 | non =>
  cases rx
  cases y with
  | non => cases ry; exact PySem.EqNone.ne_none_none (Qb I q (by simp))
  | bl j => cases ry; exact PySem.EqNone.ne_none_bool (Qb I q (by simp))
  | int j => obtain ⟨t', rfl⟩ := ry; exact PySem.EqNone.ne_none_int (Qb I q (by simp))
  | str j => obtain ⟨t', rfl⟩ := ry; exact PySem.EqNone.ne_none_str (Qb I q (by simp))
  | _ => exact absurd (show false = true from hs) Bool.false_ne_true
 | bl i =>
  cases rx
  cases y with
  | non => cases ry; exact PySem.EqNone.ne_bool_none (Qb I q (by simp))
  | bl j => cases ry; exact ne_bool (Qb I q (congrArg not zH2))
  | str j => obtain ⟨t', rfl⟩ := ry; exact PySem.EqMixed.ne_bool_str (Qb I q (by simp))
  | _ => exact absurd (show false = true from hs) Bool.false_ne_true
 | int i =>
  obtain ⟨t, rfl⟩ := rx
  cases y with
  | non => cases ry; exact PySem.EqNone.ne_int_none (Qb I q (by simp))
  | int j => obtain ⟨t', rfl⟩ := ry; exact ne_int (Qb I q (congrArg not zE5))
  | str j => obtain ⟨t', rfl⟩ := ry; exact PySem.EqMixed.ne_int_str (Qb I q (by simp))
  | _ => exact absurd (show false = true from hs) Bool.false_ne_true
 | str i =>
  obtain ⟨t, rfl⟩ := rx
  cases y with
  | non => cases ry; exact PySem.EqNone.ne_str_none (Qb I q (by simp))
  | bl j => cases ry; exact PySem.EqMixed.ne_str_bool (Qb I q (by simp))
  | int j => obtain ⟨t', rfl⟩ := ry; exact PySem.EqMixed.ne_str_int (Qb I q (by simp))
  | str j => obtain ⟨t', rfl⟩ := ry; exact ne_str (Qb I q (congrArg not zFg))
  | _ => exact absurd (show false = true from hs) Bool.false_ne_true
 | byt i =>
  obtain ⟨t, rfl⟩ := rx
  cases y with
  | byt j => obtain ⟨t', rfl⟩ := ry; exact PySem.W.ne_bytes (Qb I q (congrArg not zFa))
  | _ => exact absurd (show false = true from hs) Bool.false_ne_true
 | _ => cases y <;> exact absurd (show false = true from hs) Bool.false_ne_true
theorem zA3 : OpR X (compareOp .Lt) (rI0 fun i j => .bl (decide (i < j))) := zJr fun _ _ _ _ _ _ _ q => lt_int q
theorem zFI : OpR X (compareOp .LtE) (rI0 fun i j => .bl (decide (i <= j))) := zJr fun _ _ _ _ _ _ _ q => le_int q
theorem zBZ : OpR X (compareOp .Gt) (rI0 fun i j => .bl (decide (j < i))) := zJr fun _ _ _ _ _ _ _ q => gt_int q
theorem zKl : OpR X (compareOp .GtE) (rI0 fun i j => .bl (decide (j <= i))) := zJr fun _ _ _ _ _ _ _ q => ge_int q
theorem zCR : OpR X (compareOp .Is) (fun x y H Q => y = .non /\ Q (.bl (decide (x = .non))) H) := by
 intro pins s σ H x y v u Q I rx ry h
 obtain ⟨rfl, q⟩ := h
 cases ry
 refine is_none_gen (Qb I q ?_)
 cases x <;> first
  | (cases rx; rfl)
  | (obtain ⟨t, rfl⟩ := rx; rfl)
theorem JK : OpR X (compareOp .IsNot) (fun x y H Q => y = .non /\ Q (.bl (!decide (x = .non))) H) := by
 intro pins s σ H x y v u Q I rx ry h
 obtain ⟨rfl, q⟩ := h
 cases ry
 refine isnot_none_gen (Qb I q ?_)
 cases x <;> first
  | (cases rx; rfl)
  | (obtain ⟨t, rfl⟩ := rx; rfl)
theorem QR (b : Expr) {op : CmpOp} (h : op ≠ .In := by decide) (h2 : op ≠ .NotIn := by decide) : behindInMarks op b = false := by
 have e1 : (op == CmpOp.In) = false := by cases op <;> first | rfl | exact absurd rfl h
 have e2 : (op == CmpOp.NotIn) = false := by cases op <;> first | rfl | exact absurd rfl h2
 cases b <;> simp [behindInMarks, e1, e2]
theorem YH {op : CmpOp} {r : R2} (ho : OpR X (compareOp op) r) (ha : PE X a ta) (hb : PE X b tb) (hm : behindInMarks op b = false) : PE X (.Compare a [op] [b] pos) (tOp r ta tb) := by
 intro pins s σ H Q I h
 exact wpAny_Compare1 (zLs ha hb I h fun v u s2 x y H2 I2 rx ry q => ho pins s2 σ H2 x y v u Q I2 rx ry q) hm
def zHl (t : TE) : TT := fun σ H Q => t σ H fun x H' => ∃ k, x = .bl k /\ Q k H'
theorem QT {op : CmpOp} {r : R2} (ho : OpR X (compareOp op) r) (ha : PE X a ta) (hb : PE X b tb) (hm : behindInMarks op b = false) : PT X (.Compare a [op] [b] pos) (zHl (tOp r ta tb)) := by
 intro pins s σ H Q I h
 refine wpAny_isTrue_Compare1 (thn (ha pins s σ H _ I h) fun v s1 ⟨x, H1, I1, r1, q1⟩ => thn (hb pins s1 σ H1 _ I1 q1) fun u s2 ⟨y, H2, I2, r2, q2⟩ =>
  thn (ho pins s2 σ H2 x y v u _ I2 r1 r2 q2) fun c s3 ⟨z, H3, I3, r3, k, e, q3⟩ => ?_) hm
 subst e
 cases r3
 exact wpAny_truthy_bool ⟨H3, I3, q3⟩
def zEI (r r' : R2) (ta tb tc : TE) : TE := fun σ H Q => ta σ H fun x H1 => tb σ H1 fun y H2 => r x y H2 fun z H3 => ∃ k, z = .bl k /\
 (if k = true then tc σ H3 fun w' H4 => r' y w' H4 Q else Q (.bl false) H3)
theorem zDN {op op' : CmpOp} {r r' : R2} (ho : OpR X (compareOp op) r) (ho' : OpR X (compareOp op') r') (ha : PE X a ta) (hb : PE X b tb) (hc : PE X c tc)
  (hm : lastMarks [op, op'] [b, c] = false := by with_unfolding_all rfl) : PE X (.Compare a [op, op'] [b, c] pos) (zEI r r' ta tb tc) := by
 intro pins s σ H Q I h
 refine Compare_chain (thn (ha pins s σ H _ I h) fun v s1 ⟨x, H1, I1, r1, q1⟩ => chain_link (thn (hb pins s1 σ H1 _ I1 q1) fun u s2 ⟨y, H2, I2, r2, q2⟩ =>
  thn (ho pins s2 σ H2 x y v u _ I2 r1 r2 q2) fun d s3 ⟨z, H3, I3, r3, k, e, q3⟩ => ?_)) hm
 subst e
 cases r3
 refine wpAny_truthy_bool ?_
 cases k with
 | false => exact ite_ff ⟨.bl false, H3, I3, rfl, q3⟩
 | true => exact ite_tt (chain_last (thn (hc pins s3 σ H3 _ I3 q3) fun w' s4 ⟨z', H4, I4, r4, q4⟩ => ho' pins s4 σ H4 y z' u w' Q I4 r2 r4 q4))
def zMG (K : W.Frag) (x : V) (H : Hp) (k : Bool) : Prop :=
 match x with
 | .non => k = false
 | .bl b => k = b
 | .int i => k = (i != 0)
 | .str y => y.length <= sizeLine /\ k = ((y.length : Int) != 0)
 | .byt y => y.size <= sizeLine /\ k = ((y.size : Int) != 0)
 | .ref p => (∃ xs, SqL K H p xs /\ k = !xs.isEmpty) \/ (∃ xs, SqT K H p xs /\ k = !xs.isEmpty) \/ ∃ kvs, H p = some (.dK kvs) /\ k = !kvs.isEmpty
 | _ => False
theorem zEr {κ : Type} {kvs : List (κ × V)} {vs : List (κ × Value)} (r : KV kvs vs) : (!vs.isEmpty) = !kvs.isEmpty := by
 cases r <;> rfl
theorem zAh {xs : List V} {its : List Value} (r : Vals xs its) : (!its.toArray.isEmpty) = !xs.isEmpty := by
 cases r <;> simp
theorem Jw : (sizeLine : Nat) < 2 ^ 63 := by rw [sizeLine_eq]; decide
theorem zKz : zMp X (fun x H Q => ∃ k, zMG X.K x H k /\ Q k H) := by
 intro pins s σ H x v Q I rx h
 obtain ⟨k, e, q⟩ := h
 have hl := Jw
 have hs : sizeLine = 16777216 := sizeLine_eq
 cases x with
 | non =>
  cases rx
  have e' : k = false := e
  subst e'
  exact truthy_none ⟨H, I, q⟩
 | bl b =>
  cases rx
  have e' : k = b := e
  subst e'
  exact wpAny_truthy_bool ⟨H, I, q⟩
 | int i =>
  obtain ⟨t, rfl⟩ := rx
  have e' : k = (i != 0) := e
  subst e'
  exact PySem.P.truthy_int ⟨H, I, q⟩
 | str y =>
  obtain ⟨t, rfl⟩ := rx
  obtain ⟨hy, e'⟩ : y.length <= sizeLine /\ k = ((y.length : Int) != 0) := e
  subst e'
  exact PySem.P.truthy_str (by omega) ⟨H, I.tok _, q⟩
 | byt y =>
  obtain ⟨t, rfl⟩ := rx
  obtain ⟨hy, e'⟩ : y.size <= sizeLine /\ k = ((y.size : Int) != 0) := e
  subst e'
  exact PySem.W.truthy_bytes (by omega) ⟨H, I.tok _, q⟩
 | ref p =>
  cases rx
  have e' : (∃ xs, SqL X.K H p xs /\ k = !xs.isEmpty) \/ (∃ xs, SqT X.K H p xs /\ k = !xs.isEmpty) \/ ∃ kvs, H p = some (.dK kvs) /\ k = !kvs.isEmpty := e
  rcases e' with ⟨xs, hx, e'⟩ | ⟨xs, hx, e'⟩ | ⟨kvs, hx, e'⟩
  ·subst e'
   obtain ⟨its, r, pl, hz⟩ := I.list hx
   have hlen := r.length
   exact wpAny_truthy_list pl.isList (by simp only [List.size_toArray]; omega) ⟨H, I.tok _, by rw [zAh r]; exact q⟩
  ·subst e'
   obtain ⟨its, r, pl, hz⟩ := I.tuple hx
   have hlen := r.length
   exact truthy_tuple pl (by simp only [List.size_toArray]; omega) ⟨H, I.tok _, by rw [zAh r]; exact q⟩
  ·subst e'
   obtain ⟨hz, hS, vs, r, m⟩ : kvs.length <= sizeLine /\ (p == sysModules) = false /\ ∃ vs, KV kvs vs /\ s.heap.DictOf (zDC X.prog X.w) p vs := I.hok p _ hx
   have hlen : kvs.length = vs.length := Paired.length r
   exact wpAny_truthy_dict hS m (by omega) ⟨H, I.tok _, by rw [zEr r]; exact q⟩
 | _ => exact (show False from e).elim
theorem zDQ (ha : PE X a ta) (he : ∀ WS, isTrue a X.env WS = (do let v ← WS; standAt a.pos; holding [v] (truthy v))) :
  PT X a (fun σ H Q => ta σ H fun x H' => ∃ k, zMG X.K x H' k /\ Q k H') := by
 intro pins s σ H Q I h
 exact isTrue_plain (thn (ha pins s σ H _ I h) fun v s1 ⟨x, H1, I1, r1, q1⟩ => zKz pins s1 σ H1 x v Q I1 r1 q1) (he _)
theorem ZT : OpR X (binaryOp .Add) (fun x y H Q => ∃ i j, x = .str i /\ y = .str j /\ i.length + j.length <= sizeLine /\ Q (.str (i ++ j)) H) := by
 intro pins s σ H x y v u Q I rx ry h
 obtain ⟨i, j, rfl, rfl, hz, q⟩ := h
 obtain ⟨t, rfl⟩ := rx
 obtain ⟨t', rfl⟩ := ry
 exact add_str (fun t' tk => ⟨.str (i ++ j), H, I.tok _, ⟨_, rfl⟩, q⟩) hz
theorem zFk {x : V} {us : List Value} (r : Vals [x] us) : ∃ u, us = [u] /\ RelV x u := by
 cases r with
 | cons r1 r2 => cases r2; exact ⟨_, rfl, r1⟩
theorem zMW {x y : V} {us : List Value} (r : Vals [x, y] us) : ∃ u w', us = [u, w'] /\ RelV x u /\ RelV y w' := by
 cases r with
 | cons r1 r2 =>
  cases r2 with
  | cons r3 r4 => cases r4; exact ⟨_, _, rfl, r1, r3⟩
theorem zIl : WK X (.builtin "ord") (fun xs H Q => ∃ x, xs = [.str x] /\ x.length = 1 /\ Q (.int (x.cps.getD 0 0 : Nat)) H) := by
 intro pins s σ H xs us Q I r h
 obtain ⟨x, rfl, hz, q⟩ := h
 obtain ⟨u, rfl, t, rfl⟩ := zFk r
 exact ord_of_one hz ⟨.int _, H, I.tok _, ⟨_, rfl⟩, q⟩
end
end L2
namespace L2
open PySem PySem.Spec PyProof.Rows
structure ObjM (h : Heap) (x dx C : Addr) (mA : Str -> Option Value) : Prop where
 obj : h.get? x = some (W.instObj C dx)
 ns : h.Ns1 dx mA
 ne : dx ≠ x
theorem zGv {h : Heap} {dx : Addr} {mA : Str -> Option Value} (n : h.Ns1 dx mA) : ∃ od, h.get? dx = some od /\ ∀ name, PySem.W.lookIn name od = some (mA name) := by
 obtain ⟨o, es, ep, ho, hd, hk, _, hm⟩ := n
 refine ⟨o, ho, fun name => ?_⟩
 have e := hm name
 unfold nsFind findBy at e
 rw [← Array.find?_toList] at e
 unfold PySem.W.lookIn
 rw [hd]
 dsimp only
 split
 ·rename_i y q
  rw [q] at e
  exact congrArg some e
 ·rename_i q
  rw [q] at e
  have a : es.toList.any (·.refKey) = false := by
   rw [List.any_eq_false]
   intro y hy
   obtain ⟨z, t, hkey⟩ := hk y (Array.mem_toList_iff.mp hy)
   simp [DictEntry.refKey, hkey]
  have a' : ¬ es.toList.any (·.refKey) = true := by rw [a]; exact Bool.false_ne_true
  rw [if_neg a']
  exact congrArg some e
theorem ObjM.look {h : Heap} {x dx C : Addr} {mA : Str -> Option Value} (I : ObjM h x dx C mA) : ∃ od, PySem.W.InstAt h x (W.instObj C dx) C (some od) /\ ∀ name, PySem.W.lookIn name od = some (mA name) :=
 let ⟨od, ho, hl⟩ := zGv I.ns
 ⟨od, ⟨I.obj, rfl, rfl, ho⟩, hl⟩
section
variable {prog : Program} {w : World} {A : Around} {E : Value -> Shared -> Prop} {s : Shared} {K : W.Frag} {x dx C f : Addr} {mA : Str -> Option Value} {name : Str} {v : Value}
theorem zKL {expr : Bool} {Q : Value -> Shared -> Prop} (X : K.In s.heap) (I : ObjM s.heap x dx C mA) (hg : W.plainGet K C name = true) (hh : PySem.W.hasDictIn K C = true)
  (ha : W.findIn K (.ref C) name = some none) (hv : mA name = some v) (hv' : PySem.W.handedIn v = true) (h : Q v { s with toks := s.toks + 1 }) :
  wpAny (model prog w) A (getAttr (.ref x) name expr) Q E s := by
 obtain ⟨od, J, hl⟩ := I.look
 exact PySem.W.get_value X J (PySem.W.plainGet_of hg).1 (PySem.W.findObj_own hh ha rfl (by rw [hl, hv])) hv' h
theorem zIR {pl : Sem Bool} {Q : Value × List Value -> Shared -> Prop} (X : K.In s.heap) (I : ObjM s.heap x dx C mA) (hg : W.plainGet K C name = true)
  (hf : W.findIn K (.ref C) name = some (some (.ref f))) (ht : W.isFn K (.ref f) = true) (hv : mA name = none) (h : Q (.ref f, [.ref x]) s) :
  wpAny (model prog w) A (getMethod (.ref x) name pl) Q E s := by
 obtain ⟨od, J, hl⟩ := I.look
 exact PySem.W.method_fn X J (PySem.W.plainGet_of hg).1 (PySem.W.plainGet_of hg).2 hf (beq_iff_eq.mp ht) (by show (PySem.W.lookIn name od).map (·.isSome) = some false; rw [hl, hv]; rfl) h
theorem zJq {ns : List Str} {Q : Unit -> Shared -> Prop} (X : K.In s.heap) (I : ObjM s.heap x dx C mA)
  (hs : W.findIn K (.ref C) "__setattr__" = some (some (.builtin "object.__setattr__"))) (hp : PySem.W.plainOver K C = true) (ht : PySem.W.takerIn K C name = some none) (hh : PySem.W.hasDictIn K C = true)
  (hw : PySem.Within mA ns) (hsz : ns.length <= sizeLine)
  (h : ∀ h', ObjM h' x dx C (fun y => if y = name then some v else mA y) -> Heap.SameBut dx s.heap h' -> Q () { s with heap := h', toks := s.toks + 2 }) :
  wpAny (model prog w) A (setAttr (.ref x) name v) Q E s := by
 obtain ⟨od, J, hl⟩ := I.look
 refine PySem.W.set_plain X J hs (PySem.W.osa_open (s := { s with toks := s.toks + 1 }) (r := none) X J hp ht fun b => ?_)
 obtain ⟨cd, hc, hd'⟩ := PySem.W.any_some hh
 have hx : s.heap.get? x = some ⟨.ref C, some dx, .plain, #[]⟩ := I.obj
 refine wpAny_bind (wpAny_pure (wpAny_bind (wpAny_bind (wpAny_loadPart hx (wpAny_bind (PySem.W.Looks.here (s := { s with toks := s.toks + 1 }) (PySem.W.looks_clsIn X hc) ?_))))))
 rw [hd']
 refine wpAny_pure (a := some dx) (wpAny_bind (wpAny_pure (wpAny_bind ?_)))
 refine wpAny_nsSet1 (s := { s with toks := s.toks + 1 }) I.ns fun h' hn2 hs2 => ?_
 obtain ⟨oD, esD, epD, hoD, hdD, hcD⟩ := hn2.count (PySem.Within.cons name v hw)
 refine wpAny_bind (wpAny_lookBehind hoD (by rw [hdD]; exact pastItsLine_dict (Nat.le_trans hcD (by rw [List.length_cons]; omega))) ?_)
 exact wpAny_pure (h _ ⟨(hs2.2 _ (Ne.symm I.ne)).trans I.obj, hn2, I.ne⟩ hs2)
theorem zHs {R : Result -> Shared -> Prop} {vs : List Value} {kw : List (Str × Value)} (X : K.In s.heap) (hm : PySem.W.makesIn K C = true)
  (hi : W.findIn K (.ref C) "__init__" = some (some (.ref f))) (hf : PySem.W.typeIn K (.ref f) = some (.type "function"))
  (h : codeAny (model prog w) (A.under (.builtin "type.__call__" ⟨.ref C :: vs, kw⟩)) (.call (.ref f) ⟨.ref (s.heap.objs.size + 1) :: vs, kw⟩) (PySem.W.InitBack (s.heap.objs.size + 1) R)
   { s with heap := (s.heap.push W.emptyDict).push (W.instObj C s.heap.objs.size) }) :
  codeAny (model prog w) A (.call (.ref C) ⟨vs, kw⟩) R s := by
 obtain ⟨hh, g, d, t, os⟩ := s
 exact PySem.W.make_core (PySem.W.makes_of X hm) (PySem.W.looks_findIn X hi) (fun self => PySem.W.bind_fn X self hf) (.inl rfl) h
end
def Qk (f : Str) (v : V) : List (Str × V) -> List (Str × V)
 | [] => [(f, v)]
 | (g, x) :: r => if g = f then (g, v) :: r else (g, x) :: Qk f v r
theorem Jz (f g : Str) (v : V) : ∀ fs : List (Str × V), (Qk f v fs).lookup g = if g = f then some v else fs.lookup g
 | [] => by
  show List.lookup g [(f, v)] = _
  by_cases h : g = f
  ·have hb : (g == f) = true := beq_iff_eq.mpr h
   simp only [List.lookup, hb, if_pos h]
  ·have hb : (g == f) = false := beq_eq_false_iff_ne.mpr h
   simp only [List.lookup, hb, if_neg h]
 | (k, x) :: r => by
  have ih := Jz f g v r
  rw [show Qk f v ((k, x) :: r) = (if k = f then (k, v) :: r else (k, x) :: Qk f v r) from rfl]
  by_cases hk : k = f
  ·rw [if_pos hk]
   by_cases h : g = k
   ·have hb : (g == k) = true := beq_iff_eq.mpr h
    simp only [List.lookup, hb, if_pos (h.trans hk)]
   ·have hb : (g == k) = false := beq_eq_false_iff_ne.mpr h
    simp only [List.lookup, hb, if_neg (fun e : g = f => h (e.trans hk.symm))]
  ·rw [if_neg hk]
   by_cases h : g = k
   ·have hb : (g == k) = true := beq_iff_eq.mpr h
    simp only [List.lookup, hb, if_neg (fun e : g = f => hk (h.symm.trans e))]
   ·have hb : (g == k) = false := beq_eq_false_iff_ne.mpr h
    simp only [List.lookup, hb]
    exact ih
theorem JV (f : Str) (v : V) : ∀ fs : List (Str × V), f ∈ (Qk f v fs).map (·.1) /\ ∀ g, g ∈ fs.map (·.1) -> g ∈ (Qk f v fs).map (·.1)
 | [] => ⟨by simp [Qk], fun g h => by simp at h⟩
 | (k, x) :: r => by
  obtain ⟨i1, i2⟩ := JV f v r
  rw [show Qk f v ((k, x) :: r) = (if k = f then (k, v) :: r else (k, x) :: Qk f v r) from rfl]
  by_cases hk : k = f
  ·rw [if_pos hk]
   subst hk
   exact ⟨by simp, fun g h => by simpa using h⟩
  ·rw [if_neg hk]
   refine ⟨?_, fun g h => ?_⟩
   ·rw [List.map_cons]
    exact List.mem_cons_of_mem _ i1
   ·rw [List.map_cons] at h ⊢
    rcases List.mem_cons.mp h with e | e
    ·exact List.mem_cons.mpr (.inl e)
    ·exact List.mem_cons_of_mem _ (i2 g e)
theorem Qi (f : Str) (v : V) : ∀ fs : List (Str × V), (Qk f v fs).length <= fs.length + 1
 | [] => by simp [Qk]
 | (k, x) :: r => by
  have ih := Qi f v r
  rw [show Qk f v ((k, x) :: r) = (if k = f then (k, v) :: r else (k, x) :: Qk f v r) from rfl]
  by_cases hk : k = f
  ·rw [if_pos hk, List.length_cons, List.length_cons]; omega
  ·rw [if_neg hk, List.length_cons, List.length_cons]; omega
theorem RelO.some_of {v : V} {o : Option Value} (r : RelO (some v) o) : ∃ u, o = some u /\ RelV v u := by
 cases o with
 | none => exact (show False from r).elim
 | some u => exact ⟨u, rfl, r⟩
theorem RelO.none_of {o : Option Value} (r : RelO none o) : o = none := by
 cases o with
 | none => rfl
 | some u => exact (show False from r).elim
theorem zGg {v : V} {u : Value} (r : RelV v u) : PySem.W.handedIn u = true := by
 cases v with
 | non => cases (show u = Value.none from r); rfl
 | bl b => cases (show u = Value.bool b from r); rfl
 | int i => obtain ⟨t, e⟩ := (show ∃ t, u = Value.int i t from r); cases e; rfl
 | str x => obtain ⟨t, e⟩ := (show ∃ t, u = Value.str x t from r); cases e; rfl
 | byt b => obtain ⟨t, e⟩ := (show ∃ t, u = Value.bytes b t from r); cases e; rfl
 | flt b => obtain ⟨t, e⟩ := (show ∃ t, u = Value.float b t from r); cases e; rfl
 | ref a => cases (show u = Value.ref a from r); rfl
 | ty n => cases (show u = Value.type n from r); rfl
section
variable {P : Program} {w : World} {H H' : Hp} {h h' : Heap} {a C dx : Addr} {fs fs' : List (Str × V)}
theorem zAV (hok : HOk P w H h) (e : H a = some (.ins C dx fs)) : ∃ mA, ObjM h a dx C mA /\ (∀ f, RelO (fs.lookup f) (mA f)) /\ PySem.Within mA (fs.map (·.1)) /\ fs.length <= 1000 /\ H dx = some (.own a) := by
 obtain ⟨d, z, ne, ob, mA, n, r, q⟩ := (show ObjOk P w H h a (.ins C dx fs) from hok a _ e)
 exact ⟨mA, ⟨ob, n, ne⟩, r, q, z, d⟩
end
structure Cls (K : W.Frag) (C : Addr) : Prop where
 pg : W.plainGet K C Str.empty = true
 hd : PySem.W.hasDictIn K C = true
 po : PySem.W.plainOver K C = true
 sa : W.findIn K (.ref C) "__setattr__" = some (some (.builtin "object.__setattr__"))
theorem Cls.get {K : W.Frag} {C : Addr} (c : Cls K C) (f : Str) : W.plainGet K C f = true := c.pg
def NoAttr (K : W.Frag) (C : Addr) (f : Str) : Prop := W.findIn K (.ref C) f = some none
theorem NoAttr.taker {K : W.Frag} {C : Addr} {f : Str} (n : NoAttr K C f) : PySem.W.takerIn K C f = some none := by
 unfold PySem.W.takerIn
 rw [show W.findIn K (.ref C) f = some none from n]
 rfl
structure Meth (K : W.Frag) (C : Addr) (m : Str) (f : Addr) : Prop where
 at_ : W.findIn K (.ref C) m = some (some (.ref f))
 fn : W.isFn K (.ref f) = true
 kp : W.keepIn K (.ref f) = true
section
variable {X : Cx} {pins : List (Addr × Obj)} {σ : St} {H : Hp} {s : Shared} {a C dx : Addr} {fs : List (Str × V)} {f : Str} {v : V} {A : Around} {E : Value -> Shared -> Prop}
theorem zBN {b : Bool} {Q : Value -> Shared -> Prop} (I : Inv X pins σ H s) (e : H a = some (.ins C dx fs)) (c : Cls X.K C) (n : NoAttr X.K C f) (l : fs.lookup f = some v)
  (h : ∀ u s', Inv X pins σ H s' -> RelV v u -> Q u s') : wpAny (model X.prog X.w) A (getAttr (.ref a) f b) Q E s := by
 obtain ⟨mA, O, r, _, _, _⟩ := zAV I.hok e
 obtain ⟨u, hu, ru⟩ := RelO.some_of (v := v) (o := mA f) (by rw [← l]; exact r f)
 exact zKL I.kIn O (c.get f) c.hd n hu (zGg ru) (h u _ (I.tok _) ru)
theorem zA5 {m : Str} {g : Addr} {pl : Sem Bool} {Q : Value × List Value -> Shared -> Prop} (I : Inv X pins σ H s) (e : H a = some (.ins C dx fs)) (c : Cls X.K C) (k : Meth X.K C m g) (l : fs.lookup m = none)
  (h : Q (.ref g, [.ref a]) s) : wpAny (model X.prog X.w) A (getMethod (.ref a) m pl) Q E s := by
 obtain ⟨mA, O, r, _, _, _⟩ := zAV I.hok e
 have hn : mA m = none := RelO.none_of (by rw [← l]; exact r m)
 exact zIR I.kIn O (c.get m) k.at_ k.fn hn h
theorem zBa {y : V} {u : Value} {Q : Unit -> Shared -> Prop} (I : Inv X pins σ H s) (e : H a = some (.ins C dx fs)) (c : Cls X.K C) (n : NoAttr X.K C f) (hl : fs.length < 1000) (ry : RelV y u)
  (h : ∀ s', Inv X pins σ (upd H a (.ins C dx (Qk f y fs))) s' -> Q () s') : wpAny (model X.prog X.w) A (setAttr (.ref a) f u) Q E s := by
 obtain ⟨mA, O, r, wi, _, ho⟩ := zAV I.hok e
 have hz : (fs.map (·.1)).length <= sizeLine := by rw [List.length_map, sizeLine_eq]; omega
 refine zJq I.kIn O c.sa c.po n.taker c.hd wi hz fun h' O' sb => h _ ?_
 have hd : ∃ o, h'.get? dx = some o := let ⟨o, _, _, e', _⟩ := O'.ns; ⟨o, e'⟩
 refine I.write (x := a) (e := dx) (by rw [e]; exact True.intro) (.inr ho) (fun b q hb z => (sb.2 b hb).trans z) hd ?_
 refine ⟨by rw [QG O.ne]; exact ho, ?_, O.ne, O'.obj, _, O'.ns, fun g => ?_, fun g hg => ?_⟩
 ·have := Qi f y fs; omega
 ·show RelO ((Qk f y fs).lookup g) (if g = f then some u else mA g)
  rw [Jz]
  by_cases q : g = f
  ·rw [if_pos q, if_pos q]; exact ry
  ·rw [if_neg q, if_neg q]; exact r g
 ·by_cases q : g = f
  ·rw [q]; exact (JV f y fs).1
  ·refine (JV f y fs).2 g (wi g fun z => hg ?_)
   show (if g = f then some u else mA g) = none
   rw [if_neg q]; exact z
theorem Inv.made (I : Inv X pins σ H s) : Inv X pins σ (upd (upd H s.heap.objs.size (.own (s.heap.objs.size + 1))) (s.heap.objs.size + 1) (.ins C s.heap.objs.size []))
  { s with heap := (s.heap.push W.emptyDict).push (W.instObj C s.heap.objs.size) } := by
 have e1 : (s.heap.push W.emptyDict).get? s.heap.objs.size = some W.emptyDict := Heap.get?_push_size s.heap rfl
 have e2 : ((s.heap.push W.emptyDict).push (W.instObj C s.heap.objs.size)).get? (s.heap.objs.size + 1) = some (W.instObj C s.heap.objs.size) := by
  have := Heap.get?_push_size (s.heap.push W.emptyDict) (o := W.instObj C s.heap.objs.size) rfl
  rwa [Heap.size_push] at this
 have e3 : (s.heap.push W.emptyDict).Ns s.heap.objs.size (fun _ => none) := ⟨W.emptyDict, #[], _, e1, rfl, (fun e he => absurd he (by simp)), fun _ => rfl⟩
 have I1 := I.laid (a := s.heap.objs.size) (o := .own (s.heap.objs.size + 1)) (h' := s.heap.push W.emptyDict) (t' := s.toks) (fun b u q => Heap.get?_push_of_some _ q) (Nat.le_refl _) ⟨_, e1⟩
 refine I1.laid (a := s.heap.objs.size + 1) (o := .ins C s.heap.objs.size []) (t' := s.toks) (fun b u q => Heap.get?_push_of_some _ q) (Nat.le_of_eq (Heap.size_push _ _)) ?_
 have ne : s.heap.objs.size ≠ s.heap.objs.size + 1 := Nat.ne_of_lt (Nat.lt_succ_self _)
 refine ⟨by rw [QG ne, QD], Nat.zero_le _, ne, e2, fun _ => none, (Heap.Ns1.of_empty e3).at fun o q => Heap.get?_push_of_some _ q, fun _ => True.intro, fun y hy => absurd rfl hy⟩
theorem zJN {prog : Program} {w : World} {env : Env} {e : Expr} {f : Str} {pos : Pos} {s : Shared} {Q : Value -> Shared -> Prop} (hb : attributeBase e f env (eval e env) = eval e env)
  (h : wpAny (model prog w) A (eval e env) (fun o s₁ => wpAny (model prog w) A (getAttr o f true) Q E s₁) E s) : wpAny (model prog w) A (eval (.Attribute e f pos) env) Q E s :=
 Attribute_any_ h (by rw [arm_eval_Attribute, hb])
end
def zMT (X : Cx) (op : Operator) (rd : V -> V -> Hp -> VK -> Prop) : Prop :=
 ∀ (pins : List (Addr × Obj)) (s : Shared) (σ : St) (H : Hp) (x y : V) (u v : Value) (Q : VK), Inv X pins σ H s -> RelV x u -> RelV y v -> rd x y H Q -> wpAny (model X.prog X.w) X.A (inplaceOp op u v) (EP X pins σ Q) X.xe s
section
variable {X : Cx} {o e value : Expr} {f : Str} {pos pos' tpos : Pos} {ta tv : TE}
def zK1 : V -> V -> Hp -> VK -> Prop := fun x y H Q => ∃ i j, x = .int i /\ y = .int j /\ Q (.int (i + j)) H
theorem zBF : zMT X .Add zK1 := by
 rintro pins s σ H x y u v Q I rx ry ⟨i, j, rfl, rfl, q⟩
 obtain ⟨t, rfl⟩ := (show ∃ t, u = Value.int i t from rx)
 obtain ⟨t', rfl⟩ := (show ∃ t', v = Value.int j t' from ry)
 exact PyProof.Rows.iadd_int ⟨.int (i + j), H, I.tok _, ⟨_, rfl⟩, q⟩
end
section
variable {X : Cx} {pins : List (Addr × Obj)} {σ : St} {H : Hp} {s : Shared} {A : Around} {E : Value -> Shared -> Prop} {Q : Value -> Shared -> Prop} {c : Value} {b : Bool}
inductive TyOf (K : W.Frag) (H : Hp) : V -> Value -> Prop where
 | non : TyOf K H .non (.type "NoneType")
 | bl (x : Bool) : TyOf K H (.bl x) (.type "bool")
 | int (i : Int) : TyOf K H (.int i) (.type "int")
 | str (x : Str) : TyOf K H (.str x) (.type "str")
 | flt (x : UInt64) : TyOf K H (.flt x) (.type "float")
 | lst {a : Addr} {xs : List V} (e : H a = some (.lst xs)) : TyOf K H (.ref a) (.type "list")
 | frz {a : Addr} {o : Obj} {xs : List V} (e : H a = some (.frz o (.lst xs))) : TyOf K H (.ref a) (.type "list")
 | tup {a : Addr} {xs : List V} (e : H a = some (.tup xs)) : TyOf K H (.ref a) (.type "tuple")
 | dK {a : Addr} {kvs : List (Key × V)} (e : H a = some (.dK kvs)) : TyOf K H (.ref a) (.type "dict")
 | dT {a : Addr} {kvs : List (List Key × V)} (e : H a = some (.dT kvs)) : TyOf K H (.ref a) (.type "dict")
 | ins {a C dx : Addr} {fs : List (Str × V)} (e : H a = some (.ins C dx fs)) (cl : Cls K C) (ha : W.findIn K (.ref C) "__class__" = some (some (.builtin "object.__class__")))
   (hn : PySem.W.specialIn K (.builtin "object.__class__") "__get__" = some (some (.builtin "getset_descriptor.__get__"))) (htk : PySem.W.takesIn K (.builtin "object.__class__") = some true)
   (hm : W.mroIn K C (.type "object") = some true) : TyOf K H (.ref a) (.ref C)
theorem zGu {x : V} {u t : Value} (I : Inv X pins σ H s) (rx : RelV x u) (ty : TyOf X.K H x t) (e : W.kitOne X.K t c = some b) (h : ∀ tk, Q (.bool b) { s with toks := tk }) :
  wpAny (model X.prog X.w) A (call (.builtin "isinstance") [u, c]) Q E s := by
 cases ty with
 | non => cases (show u = Value.none from rx); exact PySem.W.kia_one PySem.W.kitx_none I.kIn True.intro e (fun z => nomatch z) h
 | bl y => cases (show u = Value.bool y from rx); exact PySem.W.kia_one PySem.W.kitx_bool I.kIn True.intro e (fun z => nomatch z) h
 | int i => obtain ⟨t, q⟩ := (show ∃ t, u = Value.int i t from rx); cases q; exact PySem.W.kia_one PySem.W.kitx_int I.kIn True.intro e (fun z => nomatch z) h
 | str y => obtain ⟨t, q⟩ := (show ∃ t, u = Value.str y t from rx); cases q; exact PySem.W.kia_one PySem.W.kitx_str I.kIn True.intro e (fun z => nomatch z) h
 | flt y => obtain ⟨t, q⟩ := (show ∃ t, u = Value.float y t from rx); cases q; exact PySem.W.kia_one PySem.W.kitx_float I.kIn True.intro e (fun z => nomatch z) h
 | @lst a xs ea =>
  cases (show u = Value.ref a from rx)
  obtain ⟨_, _, n, _, h1⟩ := (show ObjOk X.prog X.w H s.heap a (.lst xs) from I.hok a _ ea)
  exact PySem.W.kia_one PySem.W.kitx_list I.kIn ⟨_, h1, rfl⟩ e (fun z => nomatch z) h
 | @frz a ob xs ea =>
  cases (show u = Value.ref a from rx)
  obtain ⟨_, _, _, n, _, h1⟩ := (show ObjOk X.prog X.w H s.heap a (.frz ob (.lst xs)) from I.hok a _ ea)
  exact PySem.W.kia_one PySem.W.kitx_list I.kIn ⟨_, h1, rfl⟩ e (fun z => nomatch z) h
 | @tup a xs ea =>
  cases (show u = Value.ref a from rx)
  obtain ⟨_, _, _, p⟩ := (show ObjOk X.prog X.w H s.heap a (.tup xs) from I.hok a _ ea)
  obtain ⟨o, h1, h2, _⟩ := p
  exact PySem.W.kia_one PySem.W.kitx_tuple I.kIn ⟨o, h1, h2⟩ e (fun z => nomatch z) h
 | @dK a kvs ea =>
  cases (show u = Value.ref a from rx)
  obtain ⟨_, _, vs, _, p⟩ := (show ObjOk X.prog X.w H s.heap a (.dK kvs) from I.hok a _ ea)
  obtain ⟨o, es, ep, h1, h2, _⟩ := p
  exact PySem.W.kia_one PySem.W.kitx_dict I.kIn ⟨o, h1, h2.1⟩ e (fun z => nomatch z) h
 | @dT a kvs ea =>
  cases (show u = Value.ref a from rx)
  obtain ⟨_, _, xs, _, o, es, ep, h1, h2, _⟩ := (show ObjOk X.prog X.w H s.heap a (.dT kvs) from I.hok a _ ea)
  exact PySem.W.kia_one PySem.W.kitx_dict I.kIn ⟨o, h1, h2.1⟩ e (fun z => nomatch z) h
 | @ins a C dx fs ea cl ha hn htk hm =>
  cases (show u = Value.ref a from rx)
  obtain ⟨mA, O, _⟩ := zAV I.hok ea
  obtain ⟨od, J, _⟩ := O.look
  exact PySem.W.kia_one (PySem.W.kitx_own (cl.get _) cl.hd ha hn htk hm) I.kIn J e (fun z => nomatch z) h
end
end L2
namespace L2
open PySem PySem.Spec PyProof.Rows
structure Room (k : Nat) (A : Around) : Prop where
 hd : A.handled = none
 dp : A.depth + 3 * k + 5 < recursionLimit
 un : A.units + 16 * k + 200 < cLine
theorem Room.mono {j k : Nat} {A : Around} (r : Room k A) (h : j <= k) : Room j A := ⟨r.hd, by have := r.dp; omega, by have := r.un; omega⟩
theorem Room.deeper {k : Nat} {A : Around} (r : Room (k + 1) A) (env : Env) : Room k (A.deeper env) :=
 ⟨r.hd, by have := r.dp; show A.depth + 1 + 3 * k + 5 < _; omega, by have := r.un; show A.units + 3 + 16 * k + 200 < _; omega⟩
theorem zET {A : Around} {C : Addr} {us : List Value} {kw : List (Str × Value)} : (A.under (.builtin "type.__call__" ⟨.ref C :: us, kw⟩)).depth = A.depth + 1 := by
 first | rfl | simp [Around.under, Code.weight, Code.isCreation, Code.isGuard, Code.isCaller, Code.frames, Code.isFrame, guardIds]
theorem zEe {A : Around} {C : Addr} {us : List Value} {kw : List (Str × Value)} : (A.under (.builtin "type.__call__" ⟨.ref C :: us, kw⟩)).units = A.units + 1 := by
 first | rfl | simp [Around.under, Code.cUnits, Code.frames, Code.isFrame]
theorem Room.make {k : Nat} {A : Around} (r : Room (k + 1) A) (C : Addr) (us : List Value) (kw : List (Str × Value)) : Room k (A.under (.builtin "type.__call__" ⟨.ref C :: us, kw⟩)) :=
 ⟨r.hd, by have := r.dp; rw [zET]; omega, by have := r.un; rw [zEe]; omega⟩
theorem Room.depth {k : Nat} {A : Around} (r : Room k A) : A.depth < recursionLimit := by have := r.dp; omega
theorem Room.units {k : Nat} {A : Around} (r : Room k A) : A.units + 64 < cLine := by have := r.un; omega
def zF6 : TA := fun _ H Q => Q [] H
def zDw (ta : TE) (tr : TA) : TA := fun σ H Q => ta σ H fun x H1 => tr σ H1 fun xs H2 => Q (x :: xs) H2
section
variable {X : Cx} {e : Expr} {es : List Expr} {te : TE} {t : TA} {pos : Pos}
theorem QC : PA X [] zF6 := fun _ _ _ _ H Q I h => Calls.spliced_nil ⟨[], H, I, .nil, h⟩
theorem QA (ha : PE X e te) (hr : PA X es t) (hs : starEach (e :: es) X.env = (false, eval e X.env) :: starEach es X.env := by rfl) : PA X (e :: es) (zDw te t) := by
 intro pos pins s σ H Q I h
 rw [hs]
 show wpAny _ _ (spliced ((false, eval e X.env) :: backTo pos (starEach es X.env))) _ _ s
 refine Calls.spliced_cons (thn (ha pins s σ H _ I h) fun u s1 ⟨x, H1, I1, r1, q1⟩ => ?_)
 exact thn (hr pos pins s1 σ H1 _ I1 q1) fun us s2 ⟨xs, H2, I2, r2, q2⟩ => ⟨x :: xs, H2, I2, .cons r1 r2, q2⟩
def zJI (t : TA) : TE := fun σ H Q => t σ H fun xs H1 => xs.length <= sizeLine /\ ∀ p, H1 p = none -> Q (.ref p) (upd H1 p (.tup xs))
def zLa (t : TA) : TE := fun σ H Q => t σ H fun xs H1 => xs.length <= sizeLine /\ ∀ p, H1 p = none -> Q (.ref p) (upd H1 p (.lst xs))
theorem YK {x1} (h : PA X es t) : PE X (.Tuple es x1 pos) (zJI t) := by
 intro pins s σ H Q I hq
 refine wpAny_Tuple_spliced (thn (h pos pins s σ H _ I hq) fun us s1 ⟨xs, H1, I1, r, z, q⟩ => ⟨by rw [← r.length]; exact z, ?_⟩)
 have hf : H1 s1.heap.objs.size = none := I1.hok.fresh (Nat.le_refl _)
 refine ⟨.ref s1.heap.objs.size, upd H1 s1.heap.objs.size (.tup xs), I1.laid (t' := s1.toks) (fun b u e => Heap.get?_push_of_some _ e) (Nat.le_refl _) ?_, rfl, q _ hf⟩
 exact ⟨z, us, r, ⟨_, Heap.get?_push_size _ rfl, rfl, _, rfl⟩⟩
theorem Y3 (h : PA X es t) : PE X (.List es pos) (zLa t) := by
 intro pins s σ H Q I hq
 refine wpAny_List_spliced (thn (h pos pins s σ H _ I hq) fun us s1 ⟨xs, H1, I1, r, z, q⟩ => ⟨by rw [← r.length]; exact z, ?_⟩)
 have hf : H1 s1.heap.objs.size = none := I1.hok.fresh (Nat.le_refl _)
 refine ⟨.ref s1.heap.objs.size, upd H1 s1.heap.objs.size (.lst xs), I1.laid (t' := s1.toks) (fun b u e => Heap.get?_push_of_some _ e) (Nat.le_refl _) ?_, rfl, q _ hf⟩
 exact ⟨z, us, 0, r, Heap.get?_push_size _ rfl⟩
end
abbrev Sp := List V -> Hp -> VK -> XK -> Prop
abbrev CXT := List Env -> Hp -> Shared -> XK -> Value -> Shared -> Prop
structure Env0 (P : Program) (w : World) (K : W.Frag) (mg : Str -> Option Value) (base : Heap) (A : Around) (outer : List Env) (s : Shared) (H : Hp) : Prop where
 frames : A.frames = some outer
 mod : Mod K mg base
 bs : ∀ b o, base.get? b = some o -> s.heap.get? b = some o /\ H b = none
 bsz : base.objs.size <= s.heap.objs.size
 funs : s.heap.FunFrames base outer
 frf : ∀ b ∈ frs outer, H b = none
 hok : HOk P w H s.heap
 bare : AllBare s.gens
def CE (outer : List Env) (P : Program) (w : World) (H : Hp) (s : Shared) (Q : VK) (u : Value) (s' : Shared) : Prop :=
 ∃ v H', s'.os = s.os /\ AllBare s'.gens /\ Un (frs outer) [] H H' s.heap s'.heap /\ HOk P w H' s'.heap /\ RelV v u /\ Q v H'
def CR (CX : CXT) (outer : List Env) (P : Program) (w : World) (H : Hp) (s : Shared) (Q : VK) (E : XK) (r : Result) (s' : Shared) : Prop :=
 match r with
 | .ok (.ret u) => CE outer P w H s Q u s'
 | .ok _ => False
 | .error e => CX outer H s E e s'
structure FnOk (P : Program) (w : World) (K : W.Frag) (mg : Str -> Option Value) (base : Heap) (CX : CXT) (k : Nat) (f : Addr) (fd : FuncData) (ps : List Str) (sp : Sp) : Prop where
 len : ∀ vs H Q E, sp vs H Q E -> vs.length = ps.length
 run : ∀ (A : Around) (outer : List Env) (s : Shared) (H : Hp) (args : Args) (us : List Value) (vs : List V) (Q : VK) (E : XK), Room k A -> Env0 P w K mg base A outer s H -> BindsTo s fd args (ps.zip us) -> Vals vs us -> sp vs H Q E ->
  codeAny (model P w) A (.call (.ref f) args) (CR CX outer P w H s Q E) s
theorem FnOk.mono {P : Program} {w : World} {K : W.Frag} {mg : Str -> Option Value} {base : Heap} {CX : CXT} {j k : Nat} {f : Addr} {fd : FuncData} {ps : List Str} {sp : Sp} (F : FnOk P w K mg base CX j f fd ps sp) (h : j <= k) :
  FnOk P w K mg base CX k f fd ps sp := ⟨F.len, fun A outer s H args us vs Q E hr => F.run A outer s H args us vs Q E (hr.mono h)⟩
theorem FnOk.imp {P : Program} {w : World} {K : W.Frag} {mg : Str -> Option Value} {base : Heap} {CX : CXT} {k : Nat} {f : Addr} {fd : FuncData} {ps : List Str} {sp sp' : Sp} (F : FnOk P w K mg base CX k f fd ps sp)
  (h : ∀ vs H Q E, sp' vs H Q E -> sp vs H Q E) : FnOk P w K mg base CX k f fd ps sp' :=
 ⟨fun vs H Q E q => F.len vs H Q E (h _ _ _ _ q), fun A outer s H args us vs Q E hr he hb hv hs => F.run A outer s H args us vs Q E hr he hb hv (h _ _ _ _ hs)⟩
theorem Env0.make {P : Program} {w : World} {K : W.Frag} {mg : Str -> Option Value} {base : Heap} {A : Around} {outer : List Env} {s : Shared} {H : Hp} (e : Env0 P w K mg base A outer s H) (C : Addr) (us : List Value) (kw : List (Str × Value)) :
  Env0 P w K mg base (A.under (.builtin "type.__call__" ⟨.ref C :: us, kw⟩)) outer s H := ⟨by first | exact e.frames | (simpa [Around.under, Code.envs, Code.isFrame, pushEnvs] using e.frames), e.mod, e.bs, e.bsz, e.funs, e.frf, e.hok, e.bare⟩
section
variable {X : Cx} {pins : List (Addr × Obj)} {σ : St} {H : Hp} {s s' : Shared}
theorem Inv.env0 (I : Inv X pins σ H s) : Env0 X.prog X.w X.K X.mg X.base X.A X.stack s H :=
 ⟨I.ok.frames, I.ok.mod, I.bs, Nat.le_trans I.ok.bsz I.sz, I.stack, I.stkFree, I.hok, I.bare⟩
theorem Inv.after {Q : VK} {u : Value} (I : Inv X pins σ H s) (h : CE X.stack X.prog X.w H s Q u s') : EP X pins σ Q u s' := by
 obtain ⟨v, H', os, bare, un, hok, r, q⟩ := h
 obtain ⟨hh, g, d, t, os'⟩ := s'
 obtain rfl : os' = s.os := os
 exact ⟨v, H', I.call (h' := hh) (g' := g) (d' := d) (t' := t) (ch := []) un hok bare (fun b z => absurd z (by simp)), r, q⟩
end
def zFR (sp : Sp) (dvs : List V) (E : XK) (t : TA) : TE := fun σ H Q => t σ H fun vs H1 => sp (vs ++ dvs) H1 Q E
def zFx (C : Addr) (sp : Sp) (dvs : List V) (E : XK) (t : TA) : TE := fun σ H Q => t σ H fun vs H1 => ∀ x dx, H1 x = none -> H1 dx = none -> dx ≠ x ->
 sp (.ref x :: (vs ++ dvs)) (upd (upd H1 dx (.own x)) x (.ins C dx [])) (fun v H2 => v = .non /\ Q (.ref x) H2) E
def Binds (K : W.Frag) (fd : FuncData) (ps : List Str) (ds : List Value) : Prop :=
 ∀ (s : Shared) (us : List Value), K.In s.heap -> (us ++ ds).length = ps.length -> BindsTo s fd ⟨us, []⟩ (ps.zip (us ++ ds))
theorem Binds.all {K : W.Frag} {fd : FuncData} {ps : List Str} (h : ∀ us : List Value, us.length = ps.length -> bindArgs fd ⟨us, []⟩ = pure (ps.zip us)) : Binds K fd ps [] := fun s us _ hl => by
 rw [List.append_nil] at hl ⊢
 exact .of_eq (h us hl)
def Yo (CX : CXT) (X : Cx) (E : XK) : Prop := ∀ (pins : List (Addr × Obj)) (σ : St) (H : Hp) (s : Shared) (e : Value) (s' : Shared), Inv X pins σ H s -> CX X.stack H s E e s' -> X.xe e s'
section
variable {X : Cx} {CX : CXT} {k : Nat} {f C : Addr} {fd : FuncData} {ps : List Str} {sp : Sp} {dvs : List V} {ds : List Value} {E : XK} {x m : Str} {p pos apos : Pos} {e o : Expr} {es : List Expr} {ta : TE} {t : TA}
theorem zCt {pins : List (Addr × Obj)} {σ : St} {H : Hp} {s : Shared} {Q : VK} {us : List Value} {vs : List V} (F : FnOk X.prog X.w X.K X.mg X.base CX k f fd ps sp) (hr : Room k X.A) (hb : Binds X.K fd ps ds) (hd : Vals dvs ds) (hx : Yo CX X E)
  (I : Inv X pins σ H s) (r : Vals vs us) (h : sp (vs ++ dvs) H Q E) : wpAny (model X.prog X.w) X.A (call (.ref f) us) (EP X pins σ Q) X.xe s := by
 have r2 : Vals (vs ++ dvs) (us ++ ds) := r.append hd
 have hl : (us ++ ds).length = ps.length := by rw [← r2.length]; exact F.len _ _ _ _ h
 refine wpAny_call (codeAny_mono (F.run X.A X.stack s H ⟨us, []⟩ (us ++ ds) (vs ++ dvs) Q E hr I.env0 (hb s us I.kIn hl) r2 h) fun r s' hq => ?_)
 cases r with
 | error e => exact hx pins σ H s e s' I hq
 | ok fl =>
  cases fl with
  | ret u => exact I.after hq
  | next => exact False.elim hq
  | brk => exact False.elim hq
  | cont => exact False.elim hq
theorem QO (F : FnOk X.prog X.w X.K X.mg X.base CX k f fd ps sp) (hr : Room k X.A) (hg : Gl X x) (hm : X.mg x = some (.ref f)) (hk : W.keepIn X.K (.ref f) = true) (hb : Binds X.K fd ps ds) (hd : Vals dvs ds) (hx : Yo CX X E)
  (ha : PA X (e :: es) t) (hdb : (x == ("__debug__" : Str)) = false := by decide) (he : starEach (e :: es) X.env = (false, eval e X.env) :: starEach es X.env := by rfl) (hpl : (backTo pos (starEach es X.env)).any (·.1) = false := by rfl) :
  PE X (.Call (.Name x p) (e :: es) [] pos) (zFR sp dvs E t) := by
 intro pins s σ H Q I h
 refine wpAny_Call_Name_kw (WE I hg hm ?_ hdb)
 refine PySem.W.callWith_K (h₀ := X.base) I.ok.mod.kin hk (thn (ha pos pins s σ H _ I h) fun us s1 ⟨vs, H1, I1, r, q⟩ => ⟨I1.kIn, ?_⟩) he hpl
 exact zCt F hr hb hd hx I1 r q
structure Mk (K : W.Frag) (C f : Addr) : Prop where
 makes : PySem.W.makesIn K C = true
 init : W.findIn K (.ref C) "__init__" = some (some (.ref f))
 fn : W.isFn K (.ref f) = true
 kp : W.keepIn K (.ref C) = true
theorem zEC {pins : List (Addr × Obj)} {σ : St} {H : Hp} {s : Shared} {Q : VK} {us : List Value} {vs : List V} (M : Mk X.K C f) (F : FnOk X.prog X.w X.K X.mg X.base CX k f fd ps sp) (hr : Room (k + 1) X.A) (hb : Binds X.K fd ps ds) (hd : Vals dvs ds)
  (hx : Yo CX X E) (I : Inv X pins σ H s) (r : Vals vs us)
  (h : ∀ x dx, H x = none -> H dx = none -> dx ≠ x -> sp (.ref x :: (vs ++ dvs)) (upd (upd H dx (.own x)) x (.ins C dx [])) (fun v H2 => v = .non /\ Q (.ref x) H2) E) :
  wpAny (model X.prog X.w) X.A (call (.ref C) us) (EP X pins σ Q) X.xe s := by
 have hq := h (s.heap.objs.size + 1) s.heap.objs.size (I.hok.fresh (Nat.le_succ _)) (I.hok.fresh (Nat.le_refl _)) (Nat.ne_of_lt (Nat.lt_succ_self _))
 have I2 := Inv.made (C := C) I
 have r2 : Vals (V.ref (s.heap.objs.size + 1) :: (vs ++ dvs)) (Value.ref (s.heap.objs.size + 1) :: (us ++ ds)) := .cons rfl (r.append hd)
 have hl : (Value.ref (s.heap.objs.size + 1) :: us ++ ds).length = ps.length := by
  have e := r2.length
  rw [F.len _ _ _ _ hq] at e
  exact e.symm
 refine wpAny_call (zHs (f := f) I.kIn M.makes M.init (beq_iff_eq.mp M.fn) (codeAny_mono (F.run _ X.stack _ _ ⟨Value.ref (s.heap.objs.size + 1) :: us, []⟩ (Value.ref (s.heap.objs.size + 1) :: (us ++ ds)) _ _ E (hr.make C us [])
  (I2.env0.make C us []) (hb _ (Value.ref (s.heap.objs.size + 1) :: us) I2.kIn hl) r2 hq) fun r s' hq' => ?_))
 cases r with
 | error e => exact hx pins σ _ _ e s' I2 hq'
 | ok fl =>
  cases fl with
  | ret u =>
   obtain ⟨v, H', I3, rv, ev, q3⟩ := I2.after hq'
   subst ev
   exact ⟨rv, ⟨V.ref (s.heap.objs.size + 1), H', I3, rfl, q3⟩⟩
  | next => exact False.elim hq'
  | brk => exact False.elim hq'
  | cont => exact False.elim hq'
theorem zAd (M : Mk X.K C f) (F : FnOk X.prog X.w X.K X.mg X.base CX k f fd ps sp) (hr : Room (k + 1) X.A) (hg : Gl X x) (hm : X.mg x = some (.ref C)) (hb : Binds X.K fd ps ds) (hd : Vals dvs ds) (hx : Yo CX X E)
  (ha : PA X (e :: es) t) (hdb : (x == ("__debug__" : Str)) = false := by decide) (he : starEach (e :: es) X.env = (false, eval e X.env) :: starEach es X.env := by rfl) (hpl : (backTo pos (starEach es X.env)).any (·.1) = false := by rfl) :
  PE X (.Call (.Name x p) (e :: es) [] pos) (zFx C sp dvs E t) := by
 intro pins s σ H Q I h
 refine wpAny_Call_Name_kw (WE I hg hm ?_ hdb)
 refine PySem.W.callWith_K (h₀ := X.base) I.ok.mod.kin M.kp (thn (ha pos pins s σ H _ I h) fun us s1 ⟨vs, H1, I1, r, q⟩ => ⟨I1.kIn, ?_⟩) he hpl
 exact zEC M F hr hb hd hx I1 r q
theorem zG3 (M : Mk X.K C f) (F : FnOk X.prog X.w X.K X.mg X.base CX k f fd ps sp) (hr : Room (k + 1) X.A) (hg : Gl X x) (hm : X.mg x = some (.ref C)) (hb : Binds X.K fd ps ds) (hd : Vals dvs ds) (hx : Yo CX X E)
  (hdb : (x == ("__debug__" : Str)) = false := by decide) : PE X (.Call (.Name x p) [] [] pos) (zFx C sp dvs E zF6) := by
 intro pins s σ H Q I h
 refine wpAny_Call_Name_kw (WE I hg hm ?_ hdb)
 exact PySem.W.callWith_K0 I.kIn M.kp (zEC (us := []) M F hr hb hd hx I .nil h)
end
structure FnScope (N P : List Str) (sc : Scope) : Prop where
 kind : sc.kind = .function
 co : sc.isCoroutine = false
 gen : sc.isGenerator = false
 nd : N.Nodup
 pre : N.take P.length = P
 par : ∀ x ∈ P, sc.names.lookup x = some .local \/ sc.names.lookup x = some .cell
 nofree : ∀ y ∈ sc.names, y.2 ≠ .free
theorem zBz {kindOf : Str -> Option NameKind} {x : Str} : ∀ {binds : List (Str × Value)} {m : Str -> Option Value}, (∀ v, (x, v) ∉ binds) -> bindL kindOf binds m x = m x
 | [], _, _ => rfl
 | (n, v) :: r, m, h => by
  unfold bindL
  rw [zBz fun w hw => h w (List.mem_cons_of_mem _ hw)]
  split
  ·have : x ≠ n := by rintro rfl; exact h v List.mem_cons_self
   simp [this]
  ·rfl
theorem zCB {kindOf : Str -> Option NameKind} {x : Str} : ∀ {binds : List (Str × Value)} {m : Str -> Option Value}, (∀ v, (x, v) ∉ binds) -> bindC kindOf binds m x = m x
 | [], _, _ => rfl
 | (n, v) :: r, m, h => by
  unfold bindC
  rw [zCB fun w hw => h w (List.mem_cons_of_mem _ hw)]
  split
  ·rfl
  ·have : x ≠ n := by rintro rfl; exact h v List.mem_cons_self
   simp [this]
theorem zB9 {kindOf : Str -> Option NameKind} {x : Str} {v : Value} : ∀ {P : List Str} {vs : List Value} {i : Nat} {m : Str -> Option Value}, P.Nodup -> P[i]? = some x -> vs[i]? = some v -> kindOf x = some .local ->
  bindL kindOf (P.zip vs) m x = some v
 | [], _, _, _, _, h, _, _ => by simp at h
 | _ :: _, [], _, _, _, _, h, _ => by simp at h
 | p :: P, w :: vs, 0, m, nd, h1, h2, hk => by
  simp at h1 h2; subst h1; subst h2
  show bindL kindOf ((p, w) :: P.zip vs) m p = _
  unfold bindL
  rw [zBz fun v hv => (List.nodup_cons.mp nd).1 (List.of_mem_zip hv).1, if_pos hk]
  simp
 | p :: P, w :: vs, i + 1, m, nd, h1, h2, hk => by
  show bindL kindOf ((p, w) :: P.zip vs) m x = _
  unfold bindL
  exact zB9 (i := i) (List.nodup_cons.mp nd).2 (by simpa using h1) (by simpa using h2) hk
theorem zCC {kindOf : Str -> Option NameKind} {x : Str} {v : Value} : ∀ {P : List Str} {vs : List Value} {i : Nat} {m : Str -> Option Value}, P.Nodup -> P[i]? = some x -> vs[i]? = some v -> kindOf x ≠ some .local ->
  bindC kindOf (P.zip vs) m x = some v
 | [], _, _, _, _, h, _, _ => by simp at h
 | _ :: _, [], _, _, _, _, h, _ => by simp at h
 | p :: P, w :: vs, 0, m, nd, h1, h2, hk => by
  simp at h1 h2; subst h1; subst h2
  show bindC kindOf ((p, w) :: P.zip vs) m p = _
  unfold bindC
  rw [zCB fun v hv => (List.nodup_cons.mp nd).1 (List.of_mem_zip hv).1, if_neg hk]
  simp
 | p :: P, w :: vs, i + 1, m, nd, h1, h2, hk => by
  show bindC kindOf ((p, w) :: P.zip vs) m x = _
  unfold bindC
  exact zCC (i := i) (List.nodup_cons.mp nd).2 (by simpa using h1) (by simpa using h2) hk
def Zf (N : List Str) (vs : List V) : St := vs.map some ++ List.replicate (N.length - vs.length) none
def zBm (CX : CXT) (P : Program) (w : World) (K : W.Frag) (mg : Str -> Option Value) (base : Heap) (N : List Str) (qual : Str) (scope : Scope) (f : Addr) (cd : Value) (A : Around) (outer : List Env) (s : Shared) (H : Hp) (E : XK) : Cx where
 prog := P
 w := w
 K := K
 mg := mg
 base := base
 A := A.deeper (envOfC qual scope s.heap.objs.size f cd)
 N := N
 s₀ := s
 H₀ := H
 env := envOfC qual scope s.heap.objs.size f cd
 outer := outer
 stack := envOfC qual scope s.heap.objs.size f cd :: outer
 ex := []
 calm := true
 fn := fun _ => true
 pn := []
 xe := fun e s' => wpAny (model P w) (A.deeper (envOfC qual scope s.heap.objs.size f cd)) (leaving (envOfC qual scope s.heap.objs.size f cd) e) (fun _ s'' => CX outer H s E e s'') (fun e' s'' => CX outer H s E e' s'') s'
theorem zDk {sc : Scope} {n : Nat} {x : Str} (h : sc.names.lookup x = some .cell) : ∃ c, (cellsFrom n sc.names []).lookup x = some c := by
 have q := PySem.W.cellsFrom_some sc.names n [] (.inl h)
 exact Option.isSome_iff_exists.mp q
theorem zGk {CX : CXT} {P : Program} {w : World} {K : W.Frag} {mg : Str -> Option Value} {base : Heap} {N ps : List Str} {qual : Str} {scope : Scope} {f : Addr} {cd : Value} {A : Around} {outer : List Env} {s s1 : Shared} {H : Hp} {E : XK} {us : List Value} {vs : List V}
  (S : FnScope N ps scope) (hd : A.handled = none) (e0 : Env0 P w K mg base A outer s H) (hl : vs.length = ps.length) (r : Vals vs us)
  (x : InCallC s s.heap.objs.size (bindL (envOfC qual scope s.heap.objs.size f cd).kindOf (ps.zip us) fun _ => none) (cellsFrom (s.heap.objs.size + 1) scope.names []) (bindC (envOfC qual scope s.heap.objs.size f cd).kindOf (ps.zip us) fun _ => none) s1) :
  Inv (zBm CX P w K mg base N qual scope f cd A outer s H E) [] (Zf N vs) H s1 := by
 have hpl : ps.length <= N.length := by have := congrArg List.length S.pre; rw [List.length_take] at this; omega
 obtain ⟨h1, tk, rfl, hk⟩ := x.done
 have noA : ∀ b : Addr, b ∉ (zBm CX P w K mg base N qual scope f cd A outer s H E).ex := fun b z => absurd (show b ∈ ([] : List Addr) from z) (by simp)
 refine ⟨⟨e0.mod, S.kind, rfl, rfl, Nat.le_refl _, fun y z c h1 h2 => ?_, fun y hy => ?_, fun y c _ h => ?_, fun _ => hd, Around.frames_deeper e0.frames, .inr ⟨rfl, rfl⟩, fun b z => absurd z (noA b), e0.bs, e0.bsz, fun b _ _ => noA b, fun b z => absurd z (noA b), e0.funs, e0.frf⟩,
  rfl, e0.bare, Un.kept hk, ⟨_, x.toInCall.ns, fun i y v h1 h2 h3 => ?_⟩, fun y c h => ⟨_, x.cell y c h⟩, e0.hok.fresh (Nat.le_refl _), fun y c h => ?_, fun p hp => absurd (show p ∈ ([] : List (Addr × Obj)) from hp) (by simp), e0.hok.kept hk, ?_⟩
 ·exact name_of_addr x.apart (PySem.mem_of_lookup h1) (PySem.mem_of_lookup h2)
 ·have hy : scope.names.lookup y = some .cell \/ scope.names.lookup y = some .free := hy
  rcases hy with hy | hy
  ·exact zDk hy
  ·exact absurd rfl (S.nofree _ (PySem.mem_of_lookup hy))
 ·exact Nat.le_of_lt (x.above y c (PySem.mem_of_lookup h))
 ·have hi : i < vs.length := by
   unfold Zf at h2
   by_cases hi : i < vs.length
   ·exact hi
   ·rw [List.getElem?_append_right (by simpa using hi)] at h2
    rw [List.getElem?_replicate] at h2
    split at h2 <;> cases h2
  have ha : vs[i]? = some v := by
   unfold Zf at h2
   rw [List.getElem?_append_left (by simpa using hi), List.getElem?_map] at h2
   cases e : vs[i]? with
   | none => rw [e] at h2; cases h2
   | some a => rw [e] at h2; cases h2; rfl
  obtain ⟨u, hu, rv⟩ := r.get ha
  have hp : ps[i]? = some y := by
   rw [← S.pre, List.getElem?_take_of_lt (by omega)]; exact h1
  have ndP : ps.Nodup := by rw [← S.pre]; exact S.nd.sublist (List.take_sublist _ _)
  refine ⟨u, rv, ?_⟩
  rcases S.par y (List.mem_of_getElem? hp) with k | k
  ·exact .inl ⟨k, zB9 ndP hp hu k⟩
  ·obtain ⟨c, e⟩ := zDk (n := s.heap.objs.size + 1) k
   refine .inr ⟨.inl k, c, e, ?_⟩
   have q := x.cell y c e
   rw [zCC ndP hp hu (by show scope.names.lookup y ≠ _; rw [k]; decide)] at q
   exact q
 ·exact e0.hok.fresh (Nat.le_of_lt (x.above y c (PySem.mem_of_lookup h)))
 ·unfold Zf
  show _ = N.length
  rw [List.length_append, List.length_map, List.length_replicate]
  omega
theorem zH0 {CX : CXT} {P : Program} {w : World} {K : W.Frag} {mg : Str -> Option Value} {base : Heap} {k : Nat} {f : Addr} {name qual : Str} {params : Arguments} {body : List Stmt} {scope : Scope} {dV kV doc pm cdv ct oc : Value} {an od : Option Addr}
  {osl : Array (Option Value)} {N ps : List Str} {sp : Sp} (lk : K.lookup f = some ⟨oc, od, .func (W.fnOf name qual params body scope dV kV doc pm an cdv ct), osl⟩) (hcd : W.codeIn K cdv qual = true) (S : FnScope N ps scope)
  (len : ∀ vs H Q E, sp vs H Q E -> vs.length = ps.length)
  (hbody : ∀ (A : Around) (outer : List Env) (s : Shared) (H : Hp) (vs : List V) (Q : VK) (E : XK), Room k (A.deeper (envOfC qual scope s.heap.objs.size f cdv)) -> sp vs H Q E ->
   ∃ t, PSs (zBm CX P w K mg base N qual scope f cdv A outer s H E) body t /\ t { nx := fun _ H' => Q .non H', rt := Q } (Zf N vs) H) :
  FnOk P w K mg base CX (k + 1) f (W.fnOf name qual params body scope dV kV doc pm an cdv ct) ps sp := by
 refine ⟨len, fun A outer s H args us vs Q E hr e0 hb r hsp => ?_⟩
 have hl := len _ _ _ _ hsp
 have KX : K.In s.heap := e0.mod.kin.keeps fun b o e => (e0.bs b o e).1
 have lim : s.heap.NoLimit := e0.mod.nolimit.keeps fun b o e => (e0.bs b o e).1
 have hkind : ∀ y ∈ ps.zip us, scope.names.lookup y.1 = some .local \/ (scope.names.lookup y.1 = some .cell /\ ((cellsFrom (s.heap.objs.size + 1) scope.names []).lookup y.1).isSome = true) := fun ⟨n, v⟩ hy => by
  rcases S.par n (List.of_mem_zip hy).1 with q | q
  ·exact .inl q
  ·exact .inr ⟨q, PySem.W.cellsFrom_some _ _ _ (.inl q)⟩
 refine codeAny_call_function hr.depth (KX _ _ lk) rfl S.co S.gen rfl (PySem.W.codeRec_of KX hcd) (hb _ _ _ _ ?_)
 refine wpAny_newFunctionEnv_cells S.kind hkind fun env he s1 x => ?_
 subst he
 refine ⟨lim.keeps x.toInCall.keep, codeAny_func ?_⟩
 obtain ⟨t, ht, hq⟩ := hbody A outer s H vs Q E (hr.deeper _) hsp
 have I : Inv (zBm CX P w K mg base N qual scope f cdv A outer s H E) [] (Zf N vs) H s1 := zGk S hr.hd e0 hl r x
 refine wpAny_mono (ht [] s1 (Zf N vs) H _ I hq) (fun fl s' hs => ?_) fun e s' hs => hs
 have fin : ∀ {σ' : St} {H' : Hp} {v : V} {u : Value}, Inv (zBm CX P w K mg base N qual scope f cdv A outer s H E) [] σ' H' s' -> RelV v u -> Q v H' -> CE outer P w H s Q u s' :=
  fun {σ' H' v u} J rv q => ⟨v, H', J.os, J.bare, J.base, J.hok, rv, q⟩
 cases fl with
 | ret u =>
  obtain ⟨v, σ', H', J, rv, q⟩ := hs
  exact fin J rv q
 | next =>
  obtain ⟨σ', H', J, q⟩ := hs
  exact fin (v := V.non) (u := Value.none) J rfl q
 | brk =>
  obtain ⟨_, _, _, q⟩ := hs
  exact False.elim q
 | cont =>
  obtain ⟨_, _, _, q⟩ := hs
  exact False.elim q
end L2
namespace L2
open PySem PySem.Spec PyProof.Rows
section
variable {X : Cx} {x : Str} {p pos : Pos} {e : Expr} {es : List Expr} {t : TA} {id T : String} {r : List V -> Hp -> VK -> Prop}
def tCB (r : List V -> Hp -> VK -> Prop) (t : TA) : TE := fun σ H Q => t σ H fun vs H1 => r vs H1 Q
theorem QM (hc : WK X (.builtin id) r) (hg : Gl X x) (hm : X.mg x = none) (hv : bootBuiltins x = some (.builtin id)) (ha : PA X (e :: es) t) (hn : x ≠ "__name__" := by decide) (hdb : (x == ("__debug__" : Str)) = false := by decide)
  (he : starEach (e :: es) X.env = (false, eval e X.env) :: starEach es X.env := by rfl) (hpl : (backTo pos (starEach es X.env)).any (·.1) = false := by rfl) : PE X (.Call (.Name x p) (e :: es) [] pos) (tCB r t) := by
 intro pins s σ H Q I h
 refine wpAny_Call_Name_kw (Zc I hg hm hv ?_ hn hdb)
 exact PyProof.Rows.callWith_builtin1 (thn (ha pos pins s σ H _ I h) fun us s1 ⟨vs, H1, I1, r1, q1⟩ => hc pins s1 σ H1 vs us Q I1 r1 q1) he hpl
theorem zBy (hc : WK X (.type T) r) (hg : Gl X x) (hm : X.mg x = none) (hv : bootBuiltins x = some (.type T)) (ha : PA X (e :: es) t) (hn : x ≠ "__name__" := by decide) (hdb : (x == ("__debug__" : Str)) = false := by decide)
  (he : starEach (e :: es) X.env = (false, eval e X.env) :: starEach es X.env := by rfl) (hpl : (backTo pos (starEach es X.env)).any (·.1) = false := by rfl) : PE X (.Call (.Name x p) (e :: es) [] pos) (tCB r t) := by
 intro pins s σ H Q I h
 refine wpAny_Call_Name_kw (Zc I hg hm hv ?_ hn hdb)
 exact PyProof.Rows.callWith_type1 (thn (ha pos pins s σ H _ I h) fun us s1 ⟨vs, H1, I1, r1, q1⟩ => hc pins s1 σ H1 vs us Q I1 r1 q1) he hpl
end
end L2
namespace HT
open PySem PyProof.Rows
section
variable {prog : Program} {w : World} {A : Around} {E : Value -> Shared -> Prop} {s : Shared}
def sIx (n d : Nat) : Option Int -> Nat
 | none => d
 | some v => if v < 0 then (v + (n : Int)).toNat else min v.toNat n
theorem zLV (n d : Nat) (hd : d <= n) (o : Option Int) : sIx n d o <= n := by
 cases o with
 | none => exact hd
 | some v =>
  show (if v < 0 then (v + (n : Int)).toNat else min v.toNat n) <= n
  by_cases hv : v < 0
  ·rw [if_pos hv]; omega
  ·rw [if_neg hv]; exact Nat.min_le_right _ _
theorem zFE (v : Int) (n d : Nat) : (if v < 0 then max (v + (n : Int)) 0 else min v (n : Int)) = ((sIx n d (some v) : Nat) : Int) := by
 show (if v < 0 then max (v + (n : Int)) 0 else min v (n : Int)) = (((if v < 0 then (v + (n : Int)).toNat else min v.toNat n) : Nat) : Int)
 by_cases hv : v < 0
 ·simp only [if_pos hv]; omega
 ·simp only [if_neg hv]; omega
theorem zEL (lo hi : Option Int) (n : Nat) : Builtin.Slice.sliceAdjust lo hi 1 (n : Int) = (((sIx n 0 lo : Nat) : Int), ((sIx n n hi : Nat) : Int)) := by
 have h1 : ¬ ((1 : Int) < 0) := by omega
 unfold Builtin.Slice.sliceAdjust
 simp only [h1, if_false]
 refine Prod.ext ?_ ?_
 ·cases lo with
  | none => rfl
  | some v => exact zFE v n 0
 ·cases hi with
  | none => rfl
  | some v => exact zFE v n n
theorem zE3 (i j : Nat) : Builtin.Slice.slicePlaces (i : Int) (j : Int) 1 = j - i := by
 unfold Builtin.Slice.slicePlaces
 have h1 : (1 : Int) > 0 := by omega
 simp only [h1, if_true, Int.ediv_one]
 split <;> omega
theorem zAo {v : Value} {o : Option Int} {Q : Option Int -> Shared -> Prop} (p : IsPart v o) (h : Q o s) : wpAny (model prog w) A (Builtin.Slice.slicePartIndex v) Q E s := by
 cases p with
 | none => exact slicePart_none h
 | int i t => exact slicePart_int h
theorem JW {sl : Addr} {vl vu : Value} {lo hi : Option Int} {n : Nat} {Q : Int × Int × Nat -> Shared -> Prop} (hs : s.heap.IsSliceOf sl vl vu .none) (pl : IsPart vl lo) (pu : IsPart vu hi)
  (h : Q (((sIx n 0 lo : Nat) : Int), 1, sIx n n hi - sIx n 0 lo) s) : wpAny (model prog w) A (Builtin.Slice.sliceApplied (.ref sl) (pure (n : Int))) Q E s := by
 obtain ⟨os, hos, hcs, hds⟩ := id hs
 unfold Builtin.Slice.sliceApplied Builtin.Slice.sliceFields
 refine wpAny_bind (wpAny_bind (wpAny_field hos hds (x := vl) rfl (wpAny_bind (wpAny_field hos hds (x := vu) rfl (wpAny_bind (wpAny_field hos hds (x := .none) rfl (wpAny_pure ?_)))))))
 refine wpAny_bind (slicePart_none ?_)
 show wpAny _ _ (if ((1 : Int) == 0) = true then _ else _) _ _ s
 rw [if_neg (by decide)]
 refine wpAny_bind (zAo pl (wpAny_bind (zAo pu (wpAny_bind (wpAny_pure ?_)))))
 show wpAny _ _ (match Builtin.Slice.sliceAdjust lo hi 1 (n : Int) with | (lo, hi) => pure (lo, (1 : Int), Builtin.Slice.slicePlaces lo hi 1)) _ _ s
 rw [zEL lo hi n]
 show wpAny _ _ (pure (((sIx n 0 lo : Nat) : Int), (1 : Int), Builtin.Slice.slicePlaces ((sIx n 0 lo : Nat) : Int) ((sIx n n hi : Nat) : Int) 1)) _ _ s
 rw [zE3]
 exact wpAny_pure h
theorem zIW (xs : Array Value) (i k : Nat) : ((List.range k).filterMap fun (m : Nat) => xs[((i : Int) + (m : Int) * 1).toNat]?).toArray = ((xs.toList.drop i).take k).toArray := by
 have e : (fun (m : Nat) => xs[((i : Int) + (m : Int) * 1).toNat]?) = fun m => xs[i + m]? := by
  funext m
  have : ((i : Int) + (m : Int) * 1).toNat = i + m := by omega
  rw [this]
 rw [e]
 have := pick_run xs i k
 rw [List.filterMap_map] at this
 have e2 : ((fun x => xs[x]?) ∘ fun x => i + x) = fun m => xs[i + m]? := rfl
 rw [e2] at this
 rw [this]
theorem getItem_tuple_cut {t sl : Addr} {items : Array Value} {vl vu : Value} {lo hi : Option Int} {Q : Value -> Shared -> Prop} (ht : IsTup s.heap t items) (hs : s.heap.IsSliceOf sl vl vu .none) (pl : IsPart vl lo) (pu : IsPart vu hi)
  (hw : ¬ (sIx items.size 0 lo = 0 /\ sIx items.size items.size hi = items.size))
  (h : Q (.ref s.heap.objs.size) { s with heap := s.heap.push { cls := .type "tuple", data := .seq ((items.toList.drop (sIx items.size 0 lo)).take (sIx items.size items.size hi - sIx items.size 0 lo)).toArray } })
  (hsz : items.size <= sizeLine) : wpAny (model prog w) A (getItem (.ref t) (.ref sl)) Q E s := by
 have htake : sizeOk (.seq ((items.toList.drop (sIx items.size 0 lo)).take (sIx items.size items.size hi - sIx items.size 0 lo)).toArray) := by
  show ((items.toList.drop (sIx items.size 0 lo)).take (sIx items.size items.size hi - sIx items.size 0 lo)).toArray.size <= sizeLine
  rw [List.size_toArray, List.length_take, List.length_drop, Array.length_toList]
  omega
 have hj : sIx items.size items.size hi <= items.size := zLV _ _ (Nat.le_refl _) hi
 obtain ⟨os, hos, hcs, hds⟩ := id hs
 have hTs : s.TypeIs (.ref sl) "slice" := ⟨os, hos, hcs⟩
 unfold getItem
 try with_reducible refine wpAny_holding ?_
 first | refine wpAny_bind (wpAny_pure ?_) | skip
 refine wpAny_bind (wpAny_sequenceKey ht.typeIs (by decide) ?_)
 refine wpAny_bind (wpAny_callSpecial?_slot (name := Str.ofString "__getitem__") ht.typeIs PyProof.Rows.slot_tuple_getitem
  (wpAny_call_entry PyProof.Rows.slot_tuple_getitem ht.typeIs entry_tuple_getitem ?_ (args_tuple_getitem _ _)))
 show wpAny _ _ (Builtin.Tuple.tupleItemsOf (.ref t) >>= _) _ _ s
 refine wpAny_bind (tupleItemsOf_ ht ?_)
 refine wpAny_bind (wpAny_typeOf hTs ?_)
 rw [if_pos (by decide)]
 refine wpAny_bind (JW hs pl pu ?_)
 have hno : ¬ ((((sIx items.size 0 lo : Nat) : Int) == 0 && (1 : Int) == 1 && (sIx items.size items.size hi - sIx items.size 0 lo) == items.size) = true) := by
  intro q
  rw [Bool.and_eq_true, Bool.and_eq_true] at q
  have q1 : ((sIx items.size 0 lo : Nat) : Int) = 0 := eq_of_beq q.1.1
  have q2 : sIx items.size items.size hi - sIx items.size 0 lo = items.size := eq_of_beq q.2
  exact hw ⟨by omega, by omega⟩
 show wpAny _ _ (if (((sIx items.size 0 lo : Nat) : Int) == 0 && (1 : Int) == 1 && (sIx items.size items.size hi - sIx items.size 0 lo) == items.size) = true then _ else _) _ _ s
 rw [if_neg hno, zIW]
 first
  | exact wpAny_bind (m := Builtin.Tuple.tupleExact _) (wpAny_newObj_type (wpAny_pure ⟨_, rfl, wpAny_pure h⟩) htake)
  | exact wpAny_bind (m := Builtin.Tuple.tupleExact _) (wpAny_newObj_type (wpAny_bind (wpAny_pure (wpAny_pure ⟨_, rfl, wpAny_pure h⟩))) htake)
  | exact wpAny_bind (wpAny_bind (m := Builtin.Tuple.tupleExact _) (wpAny_newObj_type (wpAny_pure (wpAny_pure ⟨_, rfl, wpAny_pure h⟩)) htake))
  | exact wpAny_bind (wpAny_bind (m := Builtin.Tuple.tupleExact _) (wpAny_newObj_type (wpAny_pure ⟨_, rfl, wpAny_pure h⟩) htake))
end
end HT
namespace L2
open PySem PySem.Spec PyProof.Rows
abbrev TO := St -> Hp -> (Option Int -> Hp -> Prop) -> Prop
def PO (X : Cx) (e : Option Expr) (t : TO) : Prop :=
 ∀ (pins : List (Addr × Obj)) (s : Shared) (σ : St) (H : Hp) (Q : Option Int -> Hp -> Prop), Inv X pins σ H s -> t σ H Q ->
  wpAny (model X.prog X.w) X.A (evalPart e X.env) (fun u s' => ∃ o H', Inv X pins σ H' s' /\ IsPart u o /\ Q o H') X.xe s
def zE4 : TO := fun _ H Q => Q none H
def zIj (t : TE) : TO := fun σ H Q => t σ H fun x H1 => ∃ i, x = .int i /\ Q (some i) H1
section
variable {X : Cx} {e : Expr} {te : TE} {lo hi : Option Expr} {tl th : TO} {pos p2 : Pos}
theorem zAY (h : PE X e te) : PO X (some e) (zIj te) := by
 intro pins s σ H Q I hw
 rw [evalPart_some]
 refine thn (h pins s σ H _ I hw) fun u s1 ⟨x, H1, I1, r1, q1⟩ => ?_
 obtain ⟨i, rfl, q⟩ := q1
 obtain ⟨t, rfl⟩ := r1
 exact ⟨some i, H1, I1, .int i t, q⟩
def SlR (X : Cx) (r : V -> Option Int -> Option Int -> Hp -> VK -> Prop) : Prop :=
 ∀ (pins : List (Addr × Obj)) (s : Shared) (σ : St) (H : Hp) (x : V) (v vl vu : Value) (lo hi : Option Int) (sl : Addr) (Q : VK), Inv X pins σ H s -> RelV x v -> s.heap.IsSliceOf sl vl vu .none -> IsPart vl lo -> IsPart vu hi -> r x lo hi H Q ->
  ∃ T id, typeLookup (.type T) "__getitem__" = pure (some (.builtin id)) /\ s.TypeIs v T /\ wpAny (model X.prog X.w) X.A (getItem v (.ref sl)) (EP X pins σ Q) X.xe s
def tSl (r : V -> Option Int -> Option Int -> Hp -> VK -> Prop) (te : TE) (tl th : TO) : TE := fun σ H Q => te σ H fun x H1 => tl σ H1 fun l H2 => th σ H2 fun u H3 => r x l u H3 Q
theorem zDJ {r : V -> Option Int -> Option Int -> Hp -> VK -> Prop} (hr : SlR X r) (he : PE X e te) (hl : PO X lo tl) (hu : PO X hi th) : PE X (.Subscript e (.Slice lo hi none p2) pos) (tSl r te tl th) := by
 intro pins s σ H Q I h
 refine Subscript_ (thn (he pins s σ H _ I h) fun v s1 ⟨x, H1, I1, r1, q1⟩ => ?_)
 refine wpAny_Slice (thn (hl pins s1 σ H1 _ I1 q1) fun vl s2 ⟨l, H2, I2, pl, q2⟩ => thn (hu pins s2 σ H2 _ I2 q2) fun vu s3 ⟨u, H3, I3, pu, q3⟩ => ?_)
 rw [evalPart_none]
 refine wpAny_pure ?_
 have I4 : Inv X pins σ H3 { s3 with heap := s3.heap.push { cls := .type "slice", data := .fields #[vl, vu, .none] } } := I3.kept (t' := s3.toks) fun b ob q => Heap.get?_push_of_some _ q
 obtain ⟨T, id, hT, ht, hg⟩ := hr pins { s3 with heap := s3.heap.push { cls := .type "slice", data := .fields #[vl, vu, .none] } } σ H3 x v vl vu l u s3.heap.objs.size Q I4 r1 (Heap.IsSliceOf.new ..) pl pu q3
 show wpAny (model X.prog X.w) X.A (subscriptTail e (.Slice lo hi none p2) v (.ref s3.heap.objs.size)) (EP X pins σ Q) X.xe { s3 with heap := s3.heap.push { cls := .type "slice", data := .fields #[vl, vu, .none] } }
 exact tail_any (ops := [.ref s3.heap.objs.size, v]) ht hT hg (by with_unfolding_all rfl)
def zEA (xs : List V) (lo hi : Option Int) : List V := (xs.drop (HT.sIx xs.length 0 lo)).take (HT.sIx xs.length xs.length hi - HT.sIx xs.length 0 lo)
theorem zAG (xs : List V) (lo hi : Option Int) : (zEA xs lo hi).length <= xs.length := by
 unfold zEA
 rw [List.length_take, List.length_drop]
 omega
def zMm (K : W.Frag) : V -> Option Int -> Option Int -> Hp -> VK -> Prop := fun x lo hi H Q => ∃ a xs, x = .ref a /\ SqT K H a xs /\
 ¬ (HT.sIx xs.length 0 lo = 0 /\ HT.sIx xs.length xs.length hi = xs.length) /\ ∀ p, H p = none -> Q (.ref p) (upd H p (.tup (zEA xs lo hi)))
theorem zLz : SlR X (zMm X.K) := by
 intro pins s σ H x v vl vu lo hi sl Q I rx hs pl pu h
 obtain ⟨a, xs, rfl, hx, hw, q⟩ := h
 cases rx
 obtain ⟨its, r, ht, hz⟩ := I.tuple hx
 have hlen : its.toArray.size = xs.length := by rw [List.size_toArray]; exact r.length.symm
 refine ⟨"tuple", _, PyProof.Rows.slot_tuple_getitem.lookup, ht.typeIs, ?_⟩
 refine HT.getItem_tuple_cut ht hs pl pu (by rw [hlen]; exact hw) ?_ (by rw [hlen]; exact hz)
 rw [hlen]
 refine ⟨.ref s.heap.objs.size, _, I.laid (t' := s.toks) (o := .tup (zEA xs lo hi)) (fun b ob q => Heap.get?_push_of_some _ q) (Nat.le_refl _) ?_, rfl, q _ (I.hok.fresh (Nat.le_refl _))⟩
 exact ⟨Nat.le_trans (zAG xs lo hi) hz, _, (r.drop (HT.sIx xs.length 0 lo)).take (HT.sIx xs.length xs.length hi - HT.sIx xs.length 0 lo), IsTup.new _ _⟩
end
end L2
namespace L2
open PySem PySem.Spec PyProof.Rows
def ixN (n : Nat) (i : Int) : Option Nat := if 0 <= i then (if i < n then some i.toNat else none) else if -(n : Int) <= i then some (i + n).toNat else none
def atI {α : Type} (xs : List α) (i : Int) : Option α := (ixN xs.length i).bind fun j => xs[j]?
theorem zFp {n : Nat} {i : Int} {j : Nat} (h : ixN n i = some j) : seqIndex? i n = some j /\ j < n /\ -(n : Int) <= i /\ i < n := by
 unfold ixN at h
 by_cases h0 : 0 <= i
 ·rw [if_pos h0] at h
  by_cases h1 : i < n
  ·rw [if_pos h1] at h
   have e : i.toNat = j := Option.some.inj h
   exact ⟨by rw [seqIndex_of h0 h1, e], by omega, by omega, h1⟩
  ·rw [if_neg h1] at h; cases h
 ·rw [if_neg h0] at h
  by_cases h1 : -(n : Int) <= i
  ·rw [if_pos h1] at h
   have e : (i + n).toNat = j := Option.some.inj h
   exact ⟨by rw [seqIndex_neg (by omega) h1, e], by omega, h1, by omega⟩
  ·rw [if_neg h1] at h; cases h
theorem zCU {α : Type} {xs : List α} {i : Int} {v : α} (h : atI xs i = some v) : ∃ j, seqIndex? i xs.length = some j /\ xs[j]? = some v /\ j < xs.length /\ -(xs.length : Int) <= i /\ i < xs.length := by
 unfold atI at h
 cases e : ixN xs.length i with
 | none => rw [e] at h; cases h
 | some j =>
  rw [e] at h
  obtain ⟨h1, h2, h3, h4⟩ := zFp e
  exact ⟨j, h1, h, h2, h3, h4⟩
theorem ZR {α : Type} {xs : List α} {j : Nat} {v : α} (h : xs[j]? = some v) : atI xs (j : Int) = some v := by
 have hj : j < xs.length := (List.getElem?_eq_some_iff.mp h).1
 have e : ixN xs.length (j : Int) = some j := by
  unfold ixN
  rw [if_pos (by omega), if_pos (by omega)]; simp
 unfold atI; rw [e]; exact h
theorem zIK {α : Type} (xs : List α) (v : α) : atI (xs ++ [v]) (-1) = some v := by
 have hl : (xs ++ [v]).length = xs.length + 1 := by simp
 have e : ixN (xs ++ [v]).length (-1) = some xs.length := by
  unfold ixN
  rw [hl, if_neg (by decide), if_pos (by omega)]
  congr 1
  omega
 unfold atI
 rw [e]
 show (xs ++ [v])[xs.length]? = some v
 simp
def zJ0 (b : Expr) : Prop := ∀ o i, subscripted b false o i = operate [o, i] (getItem o i)
def IxR (X : Cx) (r : R2) : Prop :=
 ∀ (value slice : Expr) (pins : List (Addr × Obj)) (s : Shared) (σ : St) (H : Hp) (x y : V) (v u : Value) (Q : VK), Inv X pins σ H s -> RelV x v -> RelV y u -> r x y H Q ->
  subscripted slice false v u = operate [v, u] (getItem v u) -> wpAny (model X.prog X.w) X.A (subscriptTail value slice v u) (EP X pins σ Q) X.xe s
def MtR (X : Cx) (id : String) (r : V -> List V -> Hp -> VK -> Prop) : Prop :=
 ∀ (pins : List (Addr × Obj)) (s : Shared) (σ : St) (H : Hp) (x : V) (xs : List V) (v : Value) (us : List Value) (Q : VK), Inv X pins σ H s -> RelV x v -> Vals xs us -> r x xs H Q ->
  wpAny (model X.prog X.w) X.A (call (.builtin id) (v :: us)) (EP X pins σ Q) X.xe s
section
variable {X : Cx} {a b : Expr} {ta tb : TE} {pos : Pos}
theorem Qt {r : R2} (hr : IxR X r) (ha : PE X a ta) (hb : PE X b tb) (hs : zJ0 b) : PE X (.Subscript a b pos) (tOp r ta tb) := by
 intro pins s σ H Q I h
 exact Subscript_ (zLs ha hb I h fun v u s2 x y H2 I2 rx ry q => hr a b pins s2 σ H2 x y v u Q I2 rx ry q (hs _ _))
def zMg (K : W.Frag) : R2 := fun x y H Q => ∃ p xs i v, x = .ref p /\ y = .int i /\ SqL K H p xs /\ atI xs i = some v /\ Q v H
def zMs (K : W.Frag) : R2 := fun x y H Q => ∃ p xs i v, x = .ref p /\ y = .int i /\ SqT K H p xs /\ atI xs i = some v /\ Q v H
theorem zFG : IxR X (zMg X.K) := by
 intro value slice pins s σ H x y v u Q I rx ry h hs
 obtain ⟨p, xs, i, z, rfl, rfl, hq, he, q⟩ := h
 cases rx
 obtain ⟨t, rfl⟩ := ry
 obtain ⟨its, r, pl, hz⟩ := I.list hq
 obtain ⟨j, h1, h2, h3, h4, h5⟩ := zCU he
 obtain ⟨w, ew, rw'⟩ := r.get h2
 have hl := r.length
 have hn := Jw
 have fin : EP X pins σ Q w s := ⟨z, H, I, rw', q⟩
 by_cases h0 : 0 <= i
 ·have hj : i.toNat = j := by
   rw [seqIndex_of h0 h5] at h1
   exact Option.some.inj h1
  exact item_listR pl.isList h0 (by omega) (by rw [hj]; simpa using ew) fin hs
 ·have hj : (i + (its.toArray.size : Int)).toNat = j := by
   rw [seqIndex_neg (by omega) h4] at h1
   rw [List.size_toArray, ← hl]
   exact Option.some.inj h1
  exact subscriptTail_builtinR (x := w) pl.isList.typeIs slot_list_getitem.lookup
   (wpAny_getItem_list_neg (Q := fun r s' => r = w /\ EP X pins σ Q r s') pl.isList (by omega) (by rw [List.size_toArray] <;> omega) (by omega) (by rw [hj]; simpa using ew) ⟨rfl, fin⟩) hs
theorem zLP : IxR X (zMs X.K) := by
 intro value slice pins s σ H x y v u Q I rx ry h hs
 obtain ⟨p, xs, i, z, rfl, rfl, hq, he, q⟩ := h
 cases rx
 obtain ⟨t, rfl⟩ := ry
 obtain ⟨its, r, pl, hz⟩ := I.tuple hq
 obtain ⟨j, h1, h2, h3, h4, h5⟩ := zCU he
 obtain ⟨w, ew, rw'⟩ := r.get h2
 have hl := r.length
 have hn := Jw
 have fin : EP X pins σ Q w s := ⟨z, H, I, rw', q⟩
 exact subscriptTail_builtinR (x := w) pl.typeIs slot_tuple_getitem.lookup
  (getItem_tuple (j := j) (Q := fun r s' => r = w /\ EP X pins σ Q r s') pl (by omega) (by omega) (by rw [List.size_toArray, ← hl]; exact h1) (by simpa using ew) ⟨rfl, fin⟩) hs
theorem zEn (its : List Value) (n j : Nat) (u : Value) : Obj.mapSeq (·.setIfInBounds j u) { cls := .type "list", data := .seq its.toArray n } = { cls := .type "list", data := .seq (its.set j u).toArray n } := by
 simp [Obj.mapSeq]
theorem Inv.lst {pins : List (Addr × Obj)} {σ : St} {H : Hp} {s : Shared} {p : Addr} {xs : List V} (I : Inv X pins σ H s) (h : H p = some (.lst xs)) :
  ∃ (its : List Value) (n : Nat), Vals xs its /\ s.heap.get? p = some { cls := .type "list", data := .seq its.toArray n } /\ xs.length <= sizeLine := by
 obtain ⟨z, its, n, r, e⟩ := I.hok p _ h
 exact ⟨its, n, r, e, z⟩
theorem Inv.lstUpd {pins : List (Addr × Obj)} {σ : St} {H : Hp} {s : Shared} {p : Addr} {xs ys : List V} {its its' : List Value} {n n' : Nat} {f : Obj -> Obj} (I : Inv X pins σ H s) (h : H p = some (.lst xs))
  (ho : s.heap.get? p = some { cls := .type "list", data := .seq its.toArray n }) (hf : f { cls := .type "list", data := .seq its.toArray n } = { cls := .type "list", data := .seq its'.toArray n' }) (r : Vals ys its') (hz : ys.length <= sizeLine) (t : Nat) :
  Inv X pins σ (upd H p (.lst ys)) { s with heap := s.heap.update p f, toks := t } := by
 have e : (s.heap.update p f).get? p = some { cls := .type "list", data := .seq its'.toArray n' } := by
  rw [Heap.get?_update_self f ho (by rw [hf] <;> rfl), hf]
 refine I.write (x := p) (e := p) (by rw [h]; trivial) (.inl rfl) (fun b u hb q => (Heap.get?_update_other _ _ (Ne.symm hb)).trans q) ⟨_, e⟩ ?_
 exact ⟨hz, its', n', r, e⟩
def zL3 : V -> V -> V -> Hp -> (Hp -> Prop) -> Prop := fun o i v H Q => ∃ p xs k j, o = .ref p /\ i = .int k /\ H p = some (.lst xs) /\ ixN xs.length k = some j /\ Q (upd H p (.lst (xs.set j v)))
theorem zHA : zJ7 X zL3 := by
 intro pins s σ H o i v ov iv u Q I ro ri rv h
 obtain ⟨p, xs, k, j, rfl, rfl, hp, hj, q⟩ := h
 cases ro
 obtain ⟨t, rfl⟩ := ri
 obtain ⟨its, n, r, ho, hz⟩ := I.lst hp
 obtain ⟨h1, h2, h3, h4⟩ := zFp hj
 have hl := r.length
 have hn := Jw
 have I' : Inv X pins σ (upd H p (.lst (xs.set j v))) { s with heap := s.heap.update p (Obj.mapSeq (·.setIfInBounds j u)) } :=
  I.lstUpd hp ho (zEn its n j u) (r.set rv j) (by rw [List.length_set]; exact hz) s.toks
 by_cases h0 : 0 <= k
 ·have hk : k.toNat = j := by
   rw [seqIndex_of h0 h4] at h1
   exact Option.some.inj h1
  exact PySem.W.ki_setAt ho h0 (by omega) (by rw [List.size_toArray, ← hl]; exact h4) (by rw [hk]; exact ⟨_, I', q⟩)
 ·have hk : (k + (its.toArray.size : Int)).toNat = j := by
   rw [seqIndex_neg (by omega) h3] at h1
   rw [List.size_toArray, ← hl]
   exact Option.some.inj h1
  exact PySem.W.ki_setBack ho (by omega) (by rw [List.size_toArray, ← hl]; exact h3) (by omega) (by rw [hk]; exact ⟨_, I', q⟩)
theorem zCu (lo hi : Option Int) (n : Nat) : (sliceBounds lo hi none n).1 = ((HT.sIx n 0 lo : Nat) : Int) /\ (sliceBounds lo hi none n).2.1 = ((HT.sIx n n hi : Nat) : Int) /\ (sliceBounds lo hi none n).2.2 = 1 := by
 refine ⟨?_, ?_, rfl⟩
 ·cases lo with
  | none => simp [sliceBounds, HT.sIx]
  | some i =>
   simp only [sliceBounds, HT.sIx, Option.getD_none, show (1 : Int) > 0 by decide, if_true]
   by_cases h : i < 0
   ·simp only [h, if_true] <;> omega
   ·simp only [h, if_false] <;> omega
 ·cases hi with
  | none => simp [sliceBounds, HT.sIx]
  | some i =>
   simp only [sliceBounds, HT.sIx, Option.getD_none, show (1 : Int) > 0 by decide, if_true]
   by_cases h : i < 0
   ·simp only [h, if_true] <;> omega
   ·simp only [h, if_false] <;> omega
theorem zBs (its : List Value) (lo hi : Option Int) : slicePick its.toArray lo hi none = ((its.drop (HT.sIx its.length 0 lo)).take (HT.sIx its.length its.length hi - HT.sIx its.length 0 lo)).toArray := by
 obtain ⟨h1, h2, h3⟩ := zCu lo hi its.toArray.size
 unfold slicePick
 rw [h1, h2, h3]
 simp only [sliceRange_one, pick_run, List.size_toArray] <;> rfl
def zMC (K : W.Frag) : V -> Option Int -> Option Int -> Hp -> VK -> Prop := fun x lo hi H Q => ∃ a xs, x = .ref a /\ SqL K H a xs /\ ∀ p, H p = none -> Q (.ref p) (upd H p (.lst (zEA xs lo hi)))
theorem zKK : SlR X (zMC X.K) := by
 intro pins s σ H x v vl vu lo hi sl Q I rx hs pl pu h
 obtain ⟨a, xs, rfl, hx, q⟩ := h
 cases rx
 obtain ⟨its, r, ht, hz⟩ := I.list hx
 have hlen := r.length
 refine ⟨"list", _, slot_list_getitem.lookup, ht.isList.typeIs, ?_⟩
 refine wpAny_getItem_list_slice ht.isList hs pl pu .none (by simp) ?_ (by rw [List.size_toArray] <;> omega)
 rw [zBs, ← hlen]
 refine ⟨.ref s.heap.objs.size, _, I.laid (t' := s.toks) (o := .lst (zEA xs lo hi)) (fun b ob q => Heap.get?_push_of_some _ q) (Nat.le_refl _) ?_, rfl, q _ (I.hok.fresh (Nat.le_refl _))⟩
 exact ⟨Nat.le_trans (zAG xs lo hi) hz, _, 0, (r.drop (HT.sIx xs.length 0 lo)).take (HT.sIx xs.length xs.length hi - HT.sIx xs.length 0 lo), Heap.get?_push_size _ rfl⟩
theorem ZS : WK X (.builtin "len") (fun xs H Q => ∃ p ys, xs = [.ref p] /\ (SqL X.K H p ys \/ SqT X.K H p ys) /\ Q (.int ys.length) H) := by
 intro pins s σ H xs us Q I r h
 obtain ⟨p, ys, rfl, hq, q⟩ := h
 obtain ⟨u, rfl, rx⟩ := zFk r
 cases rx
 have hn := Jw
 rcases hq with hq | hq
 ·obtain ⟨its, r', pl, hz⟩ := I.list hq
  have hlen := r'.length
  exact Calls.call_len_list pl.isList (by simp only [List.size_toArray] <;> omega) ⟨.int ys.length, H, I.tok _, ⟨s.toks + 1, by rw [List.size_toArray, hlen]⟩, q⟩
 ·obtain ⟨its, r', pl, hz⟩ := I.tuple hq
  have hlen := r'.length
  exact len_tuple pl (by simp only [List.size_toArray] <;> omega) ⟨.int ys.length, H, I.tok _, ⟨s.toks + 1, by rw [List.size_toArray, hlen]⟩, q⟩
theorem zCk : WK X (.builtin "len") (fun xs H Q => ∃ z, xs = [.str z] /\ z.length <= sizeLine /\ Q (.int z.length) H) := by
 intro pins s σ H xs us Q I r h
 obtain ⟨z, rfl, hz, q⟩ := h
 obtain ⟨u, rfl, t, rfl⟩ := zFk r
 have hn := Jw
 exact len_str (by omega) ⟨.int z.length, H, I.tok _, ⟨_, rfl⟩, q⟩
def tyV (K : W.Frag) (T : String) (x : V) (H : Hp) : Prop := match x with
 | .str _ => T = "str"
 | .int _ => T = "int"
 | .ref p => (T = "list" /\ ∃ xs, SqL K H p xs) \/ (T = "tuple" /\ ∃ o, K.lookup p = some o /\ o.cls = .type "tuple" /\ o.dict = none) \/
   (T = "dict" /\ ((∃ kvs, H p = some (.dK kvs)) \/ ∃ kvs, H p = some (.dT kvs))) \/ (T = "set" /\ ∃ S n, H p = some (.set S n))
 | _ => False
theorem zLv {pins : List (Addr × Obj)} {σ : St} {H : Hp} {s : Shared} {T : String} {x : V} {v : Value} (I : Inv X pins σ H s) (r : RelV x v) (ty : tyV X.K T x H) :
  s.TypeIs v T /\ ∀ a, v = .ref a -> ∃ ob, s.heap.get? a = some ob /\ ob.dict = none := by
 cases x with
 | str z =>
  obtain ⟨t, rfl⟩ := r
  cases (show T = "str" from ty)
  exact ⟨typeIs_str s z t, fun _ e => nomatch e⟩
 | int i =>
  obtain ⟨t, rfl⟩ := r
  cases (show T = "int" from ty)
  exact ⟨typeIs_int s i t, fun _ e => nomatch e⟩
 | ref p =>
  cases r
  rcases ty with ⟨rfl, xs, hq⟩ | ⟨rfl, o, hk, hc, hd⟩ | ⟨rfl, hk⟩ | ⟨rfl, S, n, hk⟩
  ·obtain ⟨its, _, pl, _⟩ := I.list hq
   refine ⟨pl.isList.typeIs, fun a e => ?_⟩
   cases e
   obtain ⟨o, n, e, c, hd, _⟩ := pl
   exact ⟨o, e, hd⟩
  ·refine ⟨⟨o, I.kIn p o hk, hc⟩, fun a e => ?_⟩
   cases e
   exact ⟨o, I.kIn _ o hk, hd⟩
  ·have z : ∃ o, s.heap.get? p = some o /\ o.ExactDict := by
    rcases hk with ⟨kvs, hk⟩ | ⟨kvs, hk⟩
    ·obtain ⟨_, _, _, _, o, _, _, e, ex, _⟩ := I.hok p _ hk
     exact ⟨o, e, ex⟩
    ·obtain ⟨_, _, _, _, o, _, _, e, ex, _⟩ := I.hok p _ hk
     exact ⟨o, e, ex⟩
   obtain ⟨o, e, ex⟩ := z
   refine ⟨⟨o, e, ex.1⟩, fun a e2 => ?_⟩
   cases e2
   exact ⟨o, e, ex.2.1⟩
  ·obtain ⟨o, _, _, _, e, ex, _⟩ := I.hok p _ hk
   refine ⟨⟨o, e, ex.1⟩, fun a e2 => ?_⟩
   cases e2
   exact ⟨o, e, ex.2.1⟩
 | _ => exact False.elim ty
def zMO (K : W.Frag) (T : String) (r : V -> List V -> Hp -> VK -> Prop) (to : TE) : TE := fun σ H Q => to σ H fun x H1 => tyV K T x H1 /\ r x [] H1 Q
def tBM (K : W.Frag) (T : String) (r : V -> List V -> Hp -> VK -> Prop) (to : TE) (t : TA) : TE := fun σ H Q => to σ H fun x H1 => tyV K T x H1 /\ t σ H1 fun xs H2 => r x xs H2 Q
variable {o e : Expr} {es : List Expr} {to : TE} {t : TA} {name : Str} {apos cpos : Pos} {T id : String} {r : V -> List V -> Hp -> VK -> Prop}
theorem zFW (pa : PlainAttrs T) (slot : Slot T name id) (hty : typeOf (.builtin id) = pure (.type "method_descriptor")) (hm : MtR X id r) (ho : PE X o to) (ha : PA X (e :: es) t)
  (hbase : attributeBase o name X.env (eval o X.env) = eval o X.env := by rfl)
  (hfew : ((backTo cpos (starEach (e :: es) X.env)).all (fun x => !x.1) && (backToKw cpos (keywordEach [] X.env)).all (fun x => x.1.isSome)
   && decide ((e :: es).length + ([] : List Keyword).length + (if ([] : List Keyword).isEmpty then 0 else 1) < 30)) = true := by rfl)
  (hline : (apos.endLine == cpos.line) = true := by rfl) (hs : starEach (e :: es) X.env = (false, eval e X.env) :: starEach es X.env := by rfl) (hplain : (backTo cpos (starEach es X.env)).any (·.1) = false := by rfl) :
  PE X (.Call (.Attribute o name apos) (e :: es) [] cpos) (tBM X.K T r to t) := by
 intro pins s σ H Q I h
 refine wpAny_Call_method_late hbase hfew hline rfl (thn (ho pins s σ H _ I h) fun v s1 ⟨x, H1, I1, r1, ty, q1⟩ => ?_)
 obtain ⟨h1, h2⟩ := zLv I1 r1 ty
 refine ⟨T, id, pa, slot, hty, h1, h2, ?_⟩
 have hA := ha cpos pins s1 σ H1 _ I1 q1
 rw [hs] at hA ⊢
 refine Calls.callWith_builtin (by show (false || (backTo cpos (starEach es X.env)).any (·.1)) = false; rw [hplain] <;> rfl) (Calls.evalArgs_plain ?_)
 exact thn hA fun us s2 ⟨vs, H2, I2, r2, q2⟩ => hm pins s2 σ H2 x vs v us Q I2 r1 r2 q2
end
end L2
namespace L2
open PySem PySem.Spec PyProof.Rows
def MtM (X : Cx) (id : String) (r : V -> List V -> Hp -> VK -> Prop) : Prop :=
 ∀ (pins : List (Addr × Obj)) (s : Shared) (σ : St) (H : Hp) (x : V) (xs : List V) (v : Value) (us : List Value) (Q : VK), Inv X pins σ H s -> RelV x v -> Vals xs us -> r x xs H Q ->
  wpAny (model X.prog X.w) X.A (call (.builtin id) (v :: us)) (EP X pins σ Q) X.xe s
theorem Vals.one : ∀ {x : V} {us : List Value}, Vals [x] us -> ∃ u, us = [u] /\ RelV x u
 | _, _, .cons r .nil => ⟨_, rfl, r⟩
theorem Vals.two : ∀ {x y : V} {us : List Value}, Vals [x, y] us -> ∃ u v, us = [u, v] /\ RelV x u /\ RelV y v
 | _, _, _, .cons r (.cons q .nil) => ⟨_, _, rfl, r, q⟩
theorem Vals.zero : ∀ {us : List Value}, Vals [] us -> us = []
 | _, .nil => rfl
theorem Vals.reverse {xs : List V} {us : List Value} (h : Vals xs us) : Vals xs.reverse us.reverse := by
 induction h with
 | nil => exact .nil
 | cons r t ih => rw [List.reverse_cons, List.reverse_cons]; exact Vals.append ih (.cons r .nil)
theorem Vals.rep {xs : List V} {us : List Value} (h : Vals xs us) : ∀ k : Nat, Vals (List.replicate k xs).flatten (List.replicate k us).flatten
 | 0 => .nil
 | k + 1 => by
  rw [List.replicate_succ, List.replicate_succ, List.flatten_cons, List.flatten_cons]
  exact Vals.append h (Vals.rep h k)
theorem zCD (its : List Value) : ∀ (k : Nat) (acc : List Value),
  List.foldl (fun x1 x2 => x1 ++ x2) acc.toArray (List.replicate k its.toArray) = (acc ++ (List.replicate k its).flatten).toArray
 | 0, acc => by simp
 | k + 1, acc => by
  have e : acc.toArray ++ its.toArray = (acc ++ its).toArray := by simp
  have e2 : (acc ++ its) ++ (List.replicate k its).flatten = acc ++ (List.replicate (k + 1) its).flatten := by
   rw [List.replicate_succ, List.flatten_cons, List.append_assoc]
  rw [← e2, ← zCD its k (acc ++ its), ← e, List.replicate_succ, List.foldl_cons]
section
variable {X : Cx} {pins : List (Addr × Obj)} {σ : St} {H : Hp} {s : Shared} {l b : Addr} {xs ys zs : List V}
theorem Inv.lset {its its' : List Value} {n : Nat} {f : Array Value -> Array Value} {t' : Nat} (I : Inv X pins σ H s) (hH : H l = some (.lst xs))
  (e : s.heap.get? l = some { cls := .type "list", data := .seq its.toArray n }) (hf : f its.toArray = its'.toArray) (hv : Vals ys its') (hz : ys.length <= sizeLine) :
  Inv X pins σ (upd H l (.lst ys)) { s with heap := s.heap.update l (Obj.mapSeq f), toks := t' } := by
 have q := PySem.IsL.update e f
 rw [hf] at q
 refine I.write (x := l) (e := l) (by rw [hH]; exact trivial) (.inl rfl) (fun b' u hb hu => (Heap.get?_update_other s.heap (Obj.mapSeq f) (Ne.symm hb)).trans hu) ⟨_, q⟩ ?_
 exact ⟨hz, its', _, hv, q⟩
theorem Inv.lnew {its : List Value} {t' : Nat} (I : Inv X pins σ H s) (hv : Vals ys its) (hz : ys.length <= sizeLine) :
  Inv X pins σ (upd H s.heap.objs.size (.lst ys)) { s with heap := s.heap.push { cls := .type "list", data := .seq its.toArray }, toks := t' } :=
 I.laid (fun _ _ q => Heap.get?_push_of_some _ q) (Nat.le_refl _) ⟨hz, its, 0, hv, Heap.get?_push_size _ rfl⟩
theorem Inv.fresh (I : Inv X pins σ H s) : H s.heap.objs.size = none := I.hok.fresh (Nat.le_refl _)
theorem Inv.lstM (I : Inv X pins σ H s) (hH : H l = some (.lst xs)) : xs.length <= sizeLine /\ ∃ (its : List Value) (n : Nat), Vals xs its /\ xs.length = its.length /\ s.heap.get? l = some { cls := .type "list", data := .seq its.toArray n } := by
 obtain ⟨z, its, n, r, e⟩ := I.hok l _ hH
 exact ⟨z, its, n, r, r.length, e⟩
theorem zIQ {n : Nat} (h : n <= sizeLine) : Builtin.List.listTooLong n = false := by
 unfold Builtin.List.listTooLong
 exact decide_eq_false (by omega)
end
section
variable {X : Cx}
def zJ8 : V -> List V -> Hp -> VK -> Prop := fun x vs H Q => ∃ l xs y, x = .ref l /\ vs = [y] /\ H l = some (.lst xs) /\ xs.length < sizeLine /\ Q .non (upd H l (.lst (xs ++ [y])))
theorem zGl : MtM X "list.append" zJ8 := by
 intro pins s σ H x vs v us Q I rx rv h
 obtain ⟨l, xs, y, rfl, rfl, hH, hz, q⟩ := h
 cases rx
 obtain ⟨u, rfl, ru⟩ := rv.one
 obtain ⟨z, its, n, r, hl, e⟩ := I.lstM hH
 refine call_meets F.slot_list_append ⟨_, e, rfl⟩ F.entry_list_append (F.args_list_append_2 _ _) (PySem.list_append l its.toArray n u (by rw [List.size_toArray]; omega)) ⟨e, ?_⟩
 refine ⟨.non, _, I.lset (its' := its ++ [u]) hH e (by simp) (r.append (.cons ru .nil)) ?_, rfl, q⟩
 rw [List.length_append, List.length_singleton]
 omega
def zMc : R2 := fun x y H Q => ∃ l k xs, x = .ref l /\ y = .int k /\ H l = some (.lst xs) /\ -(2 ^ 63) <= k /\ k < 2 ^ 63 /\ xs.length * k.toNat <= sizeLine /\
 ∀ p, H p = none -> Q (.ref p) (upd H p (.lst (List.replicate k.toNat xs).flatten))
theorem zJB {α : Type} (xs : List α) (k : Nat) : (List.replicate k xs).flatten.length = k * xs.length := by
 induction k with
 | zero => simp
 | succ k ih => rw [List.replicate_succ, List.flatten_cons, List.length_append, ih, Nat.succ_mul, Nat.add_comm]
theorem zLp : OpR X (binaryOp .Mult) zMc := by
 intro pins s σ H x y v u Q I rx ry h
 obtain ⟨l, k, xs, rfl, rfl, hH, h1, h2, hz, q⟩ := h
 cases rx
 obtain ⟨t, rfl⟩ := ry
 obtain ⟨z, its, n, r, hl, e⟩ := I.lstM hH
 have hlen : its.toArray.size * k.toNat <= sizeLine := by rw [List.size_toArray, ← hl]; exact hz
 have hcap : ¬ its.toArray.size * k.toNat > (2 ^ 63 - 1) / 8 := by
  have : (sizeLine : Nat) <= (2 ^ 63 - 1) / 8 := by decide
  omega
 have hfit : ¬ (!Builtin.List.listFitsIndex k) = true := by
  rw [fitsIndex_both h1 h2]
  exact Bool.false_ne_true
 have hlong : ¬ Builtin.List.listTooLong (its.toArray.size * k.toNat) = true := by
  rw [zIQ hlen]
  exact Bool.false_ne_true
 have hnew : List.foldl (fun x1 x2 => x1 ++ x2) #[] (List.replicate (if its.toArray.isEmpty = true then 0 else k.toNat) its.toArray) = (List.replicate k.toNat its).flatten.toArray := by
  have f0 : ∀ m : Nat, List.foldl (fun x1 x2 => x1 ++ x2) #[] (List.replicate m its.toArray) = (List.replicate m its).flatten.toArray := fun m => by
   have := zCD its m []
   rw [List.nil_append] at this
   exact this
  rw [f0]
  cases its with
  | nil => simp
  | cons a r' => rw [if_neg (by simp)]
 refine wpAny_binaryOp_repeat_ref (T := "list") (U := "int") (by decide) ⟨_, e, rfl⟩ (fun s' => typeIs_int s' k t) noFill_list_mul F.fills_int_mul F.slot_int_rmul repeat_list F.slot_int_index.lookup
  (call_meets F.slot_int_rmul (typeIs_int s k t) F.entry_int_rmul (F.args_int_rmul_2 _ _) (int___rmul___int_list k t l its.toArray n)
   ⟨e, rfl, ⟨_, e, rfl⟩, call_meets F.slot_list_mul ⟨_, e, rfl⟩ F.entry_list_mul (F.args_list_mul_2 _ _) (AutoListH.list___mul___list_int_3 l its.toArray n k t hfit hcap hlong) ⟨e, ?_⟩⟩)
 rw [hnew]
 exact ⟨.ref _, _, I.lnew (t' := s.toks) (r.rep k.toNat) (by rw [zJB, Nat.mul_comm]; exact hz), rfl, q _ I.fresh⟩
end
end L2
namespace Att
open PySem PySem.W PySem.Calls PyProof.Rows
theorem zAH {P : Params} {h : Heap} : ∀ (ns : List Int) (vs : List Value), WellAll P h vs (ns.map WData.int) -> IntsAre vs ns := by
 intro ns
 induction ns with
 | nil =>
  intro vs w
  rw [List.map_nil] at w
  cases w
  exact .nil
 | cons n ns ih =>
  intro vs w
  rw [List.map_cons] at w
  cases w with
  | cons a b =>
   cases a
   exact .cons _ _ (ih _ b)
theorem zGn {l : OpenLaw} {n : Nat} (hn : l.most = some n) {P : Params} {h : Heap} {args : List WData} {vals : List Value}
  (hpre : l.row.toRowW.claim.pre args = true) (hwl : WellAll P h vals args) :
  ∃ a vs ns, vals = [Value.ref a] /\ args = [WData.list (ns.map WData.int)] /\ h.get? a = some { cls := .type "list", data := .seq vs.toArray } /\ IntsAre vs ns /\ ns.length <= n := by
 have hsh : WShape.hasAll [] args [.list .int] = true := (pre_splitW hpre).1
 have hc : l.pre.holds [] { args := args } = true := (pre_splitW hpre).2
 obtain ⟨d, r, rfl, h1, h2⟩ := hasAllW_cons hsh
 obtain rfl := hasAllW_nil h2
 obtain ⟨xs, rfl, h3⟩ := hasW_list h1
 obtain ⟨ns, rfl⟩ := items_int h3
 have hlen : ns.length <= n := by
  unfold OpenLaw.pre at hc
  have h4 : (WTm.not (.lt (.lit (.int (n : Int))) (.len (.arg 0)))).holds [] { args := [.list (ns.map .int)] } = true := by
   have h4 := (holds_andW hc).1
   rw [hn] at h4
   exact h4
  have h5 := condW_of h4 (w_not (w_lt w_lit (w_len_list (w_arg rfl))))
  rw [List.length_map] at h5
  refine Nat.le_of_not_lt fun q => ?_
  have q' : (n : Int) < ((ns.length : Nat) : Int) := by omega
  first
   | (rw [decide_eq_true q'] at h5; exact absurd h5 (by decide))
   | (simp at h5; omega)
 cases hwl with
 | cons w1 w2 =>
  cases w2
  cases w1 with
  | list ho hall => exact ⟨_, _, ns, rfl, rfl, ho, zAH ns _ hall, hlen⟩
theorem zGL (l : OpenLaw) (args : List WData) : l.row.toRowW.claim.post args (.bool true) args = true :=
 postW_of (r := l.row.toRowW) (X := (true == true))
  (show WShape.has [] (.bool true) .bool = true by first | rfl | decide | simp [WShape.has, WShape.arms, WShape.armsAll])
  (show (WTm.eq .res (.lit (.bool true))).value [] { args := args, res := some (.bool true), after := args } = some (.bool (true == true)) from w_eq_bool (w_res rfl) w_lit) rfl
end Att
namespace L2
open PySem PySem.Spec PyProof.Rows
theorem zCG : ∀ {vs : List Value} {ns : List Int}, IntsAre vs ns -> Vals (ns.map V.int) vs
 | _, _, .nil => .nil
 | _, _, .cons n t h => .cons ⟨t, rfl⟩ (zCG h)
def zLu (H : Hp) : Prop := ∀ b, H b = none \/ ∃ o xs, H b = some (.frz o (.lst xs))
theorem zI0 {P : Program} {w : World} {K : W.Frag} {mg mb : Str -> Option Value} {CX : CXT} {k : Nat} {fa a : Addr} {fd : FuncData} {x : Str} {sp : Sp} {s₁ : Shared} {vs : List Value} {ns : List Int}
  (KX : K.In s₁.heap) (hns : s₁.heap.Ns mainGlobals mg) (hb : s₁.heap.Ns builtinsNs mb) (hbb : ∀ x : Str, x ≠ "__name__" -> mb x = bootBuiltins x) (hlim : s₁.heap.NoLimit) (hg : s₁.gens = #[])
  (ha : s₁.heap.get? a = some { cls := .type "list", data := .seq vs.toArray }) (hi : IntsAre vs ns) (hl : ns.length <= sizeLine) (hr : Room k callerA)
  (F : ∀ base : Heap, K.In base -> base.Ns mainGlobals mg -> FnOk P w K mg base CX k fa fd [x] sp) (hbind : ∀ (s : Shared) (u : Value), BindsTo s fd ⟨[u], []⟩ [(x, u)])
  (hsp : ∀ H : Hp, zLu H -> SqL K H a (ns.map V.int) -> sp [.ref a] H (fun v _ => v = .bl true) fun _ _ _ => False)
  (hCX : ∀ H e s', CX [] H s₁ (fun _ _ _ => False) e s' -> False) :
  codeAny (model P w) callerA (.call (.ref fa) ⟨[.ref a], []⟩) (fun r s' => r = .ok (.ret (.bool true)) /\ OldK s₁.heap s'.heap /\ s'.os = s₁.os /\ AllBare s'.gens) s₁ := by
 have rv := zCG hi
 have lenV := hi.length
 have core : ∀ H : Hp, zLu H -> SqL K H a (ns.map V.int) -> HOk P w H s₁.heap -> (∀ b, H b ≠ none -> b = a) -> (H a ≠ none -> K.lookup a = none) ->
   codeAny (model P w) callerA (.call (.ref fa) ⟨[.ref a], []⟩) (fun r s' => r = .ok (.ret (.bool true)) /\ OldK s₁.heap s'.heap /\ s'.os = s₁.os /\ AllBare s'.gens) s₁ := by
  intro H hO hS hok hA hK
  have base_of : ∀ {b : Addr} {o : Obj}, s₁.heap.get? b = some o -> H b = none -> (zCg s₁.heap H).get? b = some o := fun e n => zIw e n
  have noA : ∀ {b : Addr} {o : Obj} {es : Array DictEntry} {ep : Nat}, s₁.heap.get? b = some o -> o.data = .dict es ep -> H b = none := fun {b o es ep} e d => by
   cases q : H b with
   | none => rfl
   | some u =>
    have e' : b = a := hA b (by rw [q]; simp)
    subst e'
    rw [ha] at e; cases e
    have d' : Data.seq vs.toArray _ = Data.dict es ep := d
    cases d'
  have nsK : ∀ {b : Addr} {m : Str -> Option Value}, s₁.heap.Ns b m -> (zCg s₁.heap H).Ns b m := fun {b m} ⟨o, es, ep, e, d, r⟩ => ⟨o, es, ep, base_of e (noA e d), d, r⟩
  have hKb : K.In (zCg s₁.heap H) := fun b o e => base_of (KX b o e) (by
   cases q : H b with
   | none => rfl
   | some u =>
    have e' : b = a := hA b (by rw [q]; simp)
    subst e'
    rw [hK (by rw [q]; simp)] at e; cases e)
  have hM : Mod K mg (zCg s₁.heap H) := ⟨hKb, nsK hns, ⟨mb, nsK hb, hbb⟩, let ⟨mc, h1, h2⟩ := hlim; ⟨mc, nsK h1, h2⟩⟩
  have e0 : Env0 P w K mg (zCg s₁.heap H) callerA [] s₁ H := ⟨rfl, hM, fun b o e => zJo e, Nat.le_of_eq (zGs _ _), trivial, fun b hb => absurd (show b ∈ ([] : List Addr) from hb) (by simp), hok, .of_eq hg⟩
  refine codeAny_mono ((F _ hKb (nsK hns)).run callerA [] s₁ H ⟨[.ref a], []⟩ [.ref a] [.ref a] _ _ hr e0 (hbind s₁ (.ref a)) (.cons rfl .nil) (hsp H hO hS)) fun r s' h => ?_
  cases r with
  | error e => exact (hCX H e s' h).elim
  | ok fl =>
   cases fl with
   | next => exact False.elim h
   | brk => exact False.elim h
   | cont => exact False.elim h
   | ret u =>
    obtain ⟨v, H', os, bare, un, hok', r', q⟩ := h
    have q' : v = .bl true := q
    subst q'
    obtain rfl : u = Value.bool true := r'
    refine ⟨rfl, OldK.of_keep fun b o e => ?_, os, bare⟩
    cases q : H b with
    | none => exact un.keep b o e q (by intro z; exact absurd (show b ∈ ([] : List Addr) from z) (by simp)) (by simp)
    | some u =>
     rcases hO b with z | ⟨ob, xs, z⟩
     ·rw [q] at z; cases z
     ·have z2 := un.frzs b ob _ z
      obtain ⟨e1, _⟩ := hok b _ z
      obtain ⟨e2, _⟩ := hok' b _ z2
      rw [e] at e1; cases e1
      exact e2
 cases hk : K.lookup a with
 | some o =>
  have e := KX a o hk
  rw [ha] at e
  cases e
  refine core (fun _ => none) (fun _ => .inl rfl) (.inr ⟨_, vs.toArray, _, hk, rfl, rfl, rfl, by rw [List.size_toArray, lenV]; exact hl, by simpa using rv⟩) (fun b u z => by have z' : (none : Option HO) = some u := z; cases z') (fun b z => absurd rfl z) fun z => absurd rfl z
 | none =>
  refine core (fun b => if b = a then some (.frz { cls := .type "list", data := .seq vs.toArray } (.lst (ns.map V.int))) else none) (fun b => ?_) (.inl (.inr ⟨{ cls := .type "list", data := .seq vs.toArray }, if_pos rfl⟩)) (fun b u z => ?_) (fun b z => ?_) fun _ => hk
  ·by_cases hb : b = a
   ·exact .inr ⟨_, _, if_pos hb⟩
   ·exact .inl (if_neg hb)
  ·by_cases hb : b = a
   ·have z' := (if_pos hb).symm.trans z
    cases z'
    subst hb
    exact ⟨ha, by rw [List.length_map]; exact hl, vs, _, rv, ha⟩
   ·have z' := (if_neg hb).symm.trans z
    cases z'
  ·by_cases hb : b = a
   ·exact hb
   ·exact absurd (if_neg hb) z
end L2
namespace L2
open PySem PySem.Spec PyProof.Rows
end L2
namespace L2
open PySem PySem.Spec PyProof.Rows
def Qf (s : Stmt) (j : Nat) : Stmt := match s with
 | .ClassDef _ _ _ body _ _ _ _ _ _ _ => body.getD j (.Pass ⟨0, 0, 0, 0⟩)
 | _ => .Pass ⟨0, 0, 0, 0⟩
def Q9 (s : Stmt) : Arguments := match s with
 | .FunctionDef _ a _ _ _ _ _ _ _ _ => a
 | _ => { posonlyargs := [], args := [], vararg := none, kwonlyargs := [], kw_defaults := [], kwarg := none, defaults := [] }
def Qy (s : Stmt) : List Stmt := match s with
 | .FunctionDef _ _ b _ _ _ _ _ _ _ => b
 | _ => []
def QJ (s : Stmt) : Scope := match s with
 | .FunctionDef _ _ _ _ _ _ sc _ _ _ => sc
 | _ => { kind := .function, names := [], isGenerator := false, isCoroutine := false }
abbrev CX0 : CXT := fun _ _ _ _ _ _ => False
abbrev E0 : XK := fun _ _ _ => False
theorem QP {X : Cx} : Yo CX0 X E0 := fun _ _ _ _ _ _ _ h => h.elim
structure Fun (K : W.Frag) (x qual : Str) (st : Stmt) (f : Addr) (fd : FuncData) : Prop where
 ex : ∃ (oc : Value) (od : Option Addr) (kV doc pm : Value) (an : Option Addr) (cdv ct : Value) (osl : Array (Option Value)),
  fd = W.fnOf x qual (Q9 st) (Qy st) (QJ st) .none kV doc pm an cdv ct /\ K.lookup f = some ⟨oc, od, .func fd, osl⟩ /\ W.codeIn K cdv qual = true
 kp : W.keepIn K (.ref f) = true
section
variable {P : Program} {w : World} {K : W.Frag} {mg : Str -> Option Value} {base : Heap}
theorem Fun.ok {x qual : Str} {st : Stmt} {f : Addr} {fd : FuncData} {N ps : List Str} {k : Nat} {sp : Sp} (F : Fun K x qual st f fd) (S : FnScope N ps (QJ st)) (len : ∀ vs H Q E, sp vs H Q E -> vs.length = ps.length)
  (hbody : ∀ (cdv : Value) (A : Around) (outer : List Env) (s : Shared) (H : Hp) (vs : List V) (Q : VK) (E : XK), Room k (A.deeper (envOfC qual (QJ st) s.heap.objs.size f cdv)) -> sp vs H Q E ->
   ∃ t, PSs (zBm CX0 P w K mg base N qual (QJ st) f cdv A outer s H E).nox (Qy st) t /\ t { nx := fun _ H' => Q .non H', rt := Q } (Zf N vs) H) : FnOk P w K mg base CX0 (k + 1) f fd ps sp := by
 obtain ⟨oc, od, kV, doc, pm, an, cdv, ct, osl, rfl, lk, hcd⟩ := F.ex
 refine zH0 lk hcd S len fun A outer s H vs Q E hr hsp => ?_
 obtain ⟨t, h, q⟩ := hbody cdv A outer s H vs Q E hr hsp
 exact ⟨t, h.nox, q⟩
theorem Fun.binds {x qual : Str} {st : Stmt} {f : Addr} {fd : FuncData} {ps : List Str} (F : Fun K x qual st f fd)
  (h : ∀ (kV doc pm : Value) (an : Option Addr) (cdv ct : Value) (us : List Value), us.length = ps.length -> bindArgs (W.fnOf x qual (Q9 st) (Qy st) (QJ st) .none kV doc pm an cdv ct) ⟨us, []⟩ = pure (ps.zip us)) : Binds K fd ps [] := by
 obtain ⟨oc, od, kV, doc, pm, an, cdv, ct, osl, rfl, lk, hcd⟩ := F.ex
 exact .all (h kV doc pm an cdv ct)
theorem zLM {x qual : Str} {st : Stmt} {f : Addr} {oc : Value} {od an : Option Addr} {osl : Array (Option Value)} {kV doc pm cdv ct : Value} (l : K.lookup f = some ⟨oc, od, .func (W.fnOf x qual (Q9 st) (Qy st) (QJ st) .none kV doc pm an cdv ct), osl⟩)
  (c : W.codeIn K cdv qual = true) (k : W.keepIn K (.ref f) = true) : Fun K x qual st f (W.fnOf x qual (Q9 st) (Qy st) (QJ st) .none kV doc pm an cdv ct) := ⟨⟨oc, od, kV, doc, pm, an, cdv, ct, osl, rfl, l, c⟩, k⟩
end
theorem zB0 {n : Nat} (h : n <= 1000) : n < sizeLine := Nat.lt_of_le_of_lt h (by decide)
section
variable {X : Cx}
theorem pv (i : Nat) {x : Str} {pos : Pos} (hN : X.N[i]? = some x := by rfl) (hv : Vis X.env.scope x := by first | exact Or.inl rfl | exact Or.inr (Or.inl rfl) | exact Or.inr (Or.inr rfl)) (hd : (x == ("__debug__" : Str)) = false := by decide)
  (hcd : (x == ("__classdict__" : Str)) = false := by decide) : PE X (.Name x pos) (zDn i) := zLF hN hv hd hcd
end
theorem zIy {A B : Prop} (h : B) : if false = true then A else B := by
 rw [if_neg Bool.false_ne_true]
 exact h
theorem zL6 {A B : Prop} (h : A) : if true = true then A else B := by
 rw [if_pos rfl]
 exact h
theorem WI {c A B : Prop} [Decidable c] (h1 : c -> A) (h2 : ¬ c -> B) : if c then A else B := by
 by_cases h : c
 ·rw [if_pos h]
  exact h1 h
 ·rw [if_neg h]
  exact h2 h
def Same (H H' : Hp) : Prop := ∀ b o, H b = some o -> H' b = some o
theorem Same.refl (H : Hp) : Same H H := fun _ _ h => h
theorem Same.trans {H H1 H2 : Hp} (a : Same H H1) (b : Same H1 H2) : Same H H2 := fun c o h => b c o (a c o h)
theorem Same.free {H H' : Hp} (e : Same H H') {l : Addr} (h : H' l = Option.none) : H l = Option.none := by
 cases q : H l with
 | none => rfl
 | some o =>
  rw [e l o q] at h
  cases h
theorem Same.seq {K : W.Frag} {H H' : Hp} {a : Addr} {xs : List V} (e : Same H H') (h : SqL K H a xs) : SqL K H' a xs := by
 rcases h with (h | ⟨o, h⟩) | h
 ·exact .inl (.inl (e _ _ h))
 ·exact .inl (.inr ⟨o, e _ _ h⟩)
 ·exact .inr h
end L2
namespace L2
open PySem PySem.Spec PyProof.Rows
section
variable {X : Cx}
def Q8 (K : W.Frag) : List V -> Hp -> VK -> Prop := fun xs H Q => ∃ x T t b, xs = [x, .ty T] /\ TyOf K H x (.type t) /\ W.kitOne K (.type t) (.type T) = some b /\ Q (.bl b) H
theorem QV : WK X (.builtin "isinstance") (Q8 X.K) := by
 intro pins s σ H xs us Q I r h
 obtain ⟨x, T, t, b, rfl, ty, e, q⟩ := h
 obtain ⟨u, w', rfl, r1, r2⟩ := zMW r
 cases (show w' = Value.type T from r2)
 exact zGu I r1 ty e fun tk => ⟨.bl b, H, I.tok _, rfl, q⟩
end
section
variable {K : W.Frag} {H : Hp} {Q : VK} {T t : String}
theorem Qc {x : V} {b : Bool} (ty : TyOf K H x (.type t)) (one : ∀ t', TyOf K H x (.type t') -> t' = t) (e : W.kitOne K (.type t) (.type T) = some b) : Q8 K [x, .ty T] H Q = Q (.bl b) H := by
 refine propext ⟨fun h => ?_, fun q => ⟨x, T, t, b, rfl, ty, e, q⟩⟩
 obtain ⟨y, T', t', b', e1, ty', e', q⟩ := h
 obtain ⟨rfl, e2⟩ := List.cons.inj e1
 obtain ⟨e3, _⟩ := List.cons.inj e2
 cases e3
 rw [one t' ty', e] at e'
 cases e'
 exact q
theorem JH {i : Int} : ∀ t', TyOf K H (.int i) (.type t') -> t' = "int" := fun _ h => by cases h; rfl
theorem zAn {i : Bool} : ∀ t', TyOf K H (.bl i) (.type t') -> t' = "bool" := fun _ h => by cases h; rfl
theorem JI {i : Str} : ∀ t', TyOf K H (.str i) (.type t') -> t' = "str" := fun _ h => by cases h; rfl
theorem Wz : ∀ t', TyOf K H .non (.type t') -> t' = "NoneType" := fun _ h => by cases h; rfl
theorem zAS {a : Addr} {xs : List V} (e : H a = some (.tup xs)) : ∀ t', TyOf K H (.ref a) (.type t') -> t' = "tuple" := fun _ h => by
 cases h with
 | lst q => rw [e] at q; cases q
 | frz q => rw [e] at q; cases q
 | tup q => rfl
 | dK q => rw [e] at q; cases q
 | dT q => rw [e] at q; cases q
theorem zAW {a : Addr} {xs : List V} (e : H a = some (.lst xs)) : ∀ t', TyOf K H (.ref a) (.type t') -> t' = "list" := fun _ h => by
 cases h with
 | lst q => rfl
 | frz q => rfl
 | tup q => rw [e] at q; cases q
 | dK q => rw [e] at q; cases q
 | dT q => rw [e] at q; cases q
theorem zCy {a : Addr} {xs : List (Key × V)} (e : H a = some (.dK xs)) : ∀ t', TyOf K H (.ref a) (.type t') -> t' = "dict" := fun _ h => by
 cases h with
 | lst q => rw [e] at q; cases q
 | frz q => rw [e] at q; cases q
 | tup q => rw [e] at q; cases q
 | dK q => rfl
 | dT q => rfl
theorem J6 {i : Int} : Q8 K [.int i, .ty "str"] H Q = Q (.bl false) H := Qc (.int i) JH rfl
theorem WL {i : Int} : Q8 K [.int i, .ty "tuple"] H Q = Q (.bl false) H := Qc (.int i) JH rfl
theorem zAC {i : Int} : Q8 K [.int i, .ty "int"] H Q = Q (.bl true) H := Qc (.int i) JH rfl
theorem Wy {i : Int} : Q8 K [.int i, .ty "bool"] H Q = Q (.bl false) H := Qc (.int i) JH rfl
theorem zAr {i : Bool} : Q8 K [.bl i, .ty "str"] H Q = Q (.bl false) H := Qc (.bl i) zAn rfl
theorem Ws {i : Bool} : Q8 K [.bl i, .ty "tuple"] H Q = Q (.bl false) H := Qc (.bl i) zAn rfl
theorem zBP {i : Bool} : Q8 K [.bl i, .ty "int"] H Q = Q (.bl true) H := Qc (.bl i) zAn rfl
theorem Jy {i : Bool} : Q8 K [.bl i, .ty "bool"] H Q = Q (.bl true) H := Qc (.bl i) zAn rfl
theorem Jx {i : Str} : Q8 K [.str i, .ty "str"] H Q = Q (.bl true) H := Qc (.str i) JI rfl
theorem WQ {i : Str} : Q8 K [.str i, .ty "tuple"] H Q = Q (.bl false) H := Qc (.str i) JI rfl
theorem zAA {i : Str} : Q8 K [.str i, .ty "int"] H Q = Q (.bl false) H := Qc (.str i) JI rfl
theorem JR {i : Str} : Q8 K [.str i, .ty "bool"] H Q = Q (.bl false) H := Qc (.str i) JI rfl
theorem J7 : Q8 K [.non, .ty "str"] H Q = Q (.bl false) H := Qc .non Wz rfl
theorem WP : Q8 K [.non, .ty "tuple"] H Q = Q (.bl false) H := Qc .non Wz rfl
theorem zAB : Q8 K [.non, .ty "int"] H Q = Q (.bl false) H := Qc .non Wz rfl
theorem Wx : Q8 K [.non, .ty "bool"] H Q = Q (.bl false) H := Qc .non Wz rfl
theorem Q5 {a : Addr} {xs : List V} (e : H a = some (.tup xs)) : Q8 K [.ref a, .ty "str"] H Q = Q (.bl false) H := Qc (.tup e) (zAS e) rfl
theorem Qg {a : Addr} {xs : List V} (e : H a = some (.tup xs)) : Q8 K [.ref a, .ty "tuple"] H Q = Q (.bl true) H := Qc (.tup e) (zAS e) rfl
theorem Yz {a : Addr} {xs : List V} (e : H a = some (.tup xs)) : Q8 K [.ref a, .ty "int"] H Q = Q (.bl false) H := Qc (.tup e) (zAS e) rfl
theorem Zb {a : Addr} {xs : List V} (e : H a = some (.tup xs)) : Q8 K [.ref a, .ty "bool"] H Q = Q (.bl false) H := Qc (.tup e) (zAS e) rfl
theorem Yy {a : Addr} {xs : List V} (e : H a = some (.lst xs)) : Q8 K [.ref a, .ty "str"] H Q = Q (.bl false) H := Qc (.lst e) (zAW e) rfl
theorem YY {a : Addr} {xs : List V} (e : H a = some (.lst xs)) : Q8 K [.ref a, .ty "tuple"] H Q = Q (.bl false) H := Qc (.lst e) (zAW e) rfl
theorem Yw {a : Addr} {xs : List V} (e : H a = some (.lst xs)) : Q8 K [.ref a, .ty "int"] H Q = Q (.bl false) H := Qc (.lst e) (zAW e) rfl
theorem W8 {a : Addr} {xs : List V} (e : H a = some (.lst xs)) : Q8 K [.ref a, .ty "bool"] H Q = Q (.bl false) H := Qc (.lst e) (zAW e) rfl
theorem ZK {a : Addr} {xs : List (Key × V)} (e : H a = some (.dK xs)) : Q8 K [.ref a, .ty "str"] H Q = Q (.bl false) H := Qc (.dK e) (zCy e) rfl
theorem Yk {a : Addr} {xs : List (Key × V)} (e : H a = some (.dK xs)) : Q8 K [.ref a, .ty "tuple"] H Q = Q (.bl false) H := Qc (.dK e) (zCy e) rfl
theorem ZB {a : Addr} {xs : List (Key × V)} (e : H a = some (.dK xs)) : Q8 K [.ref a, .ty "int"] H Q = Q (.bl false) H := Qc (.dK e) (zCy e) rfl
theorem J1 {a : Addr} {xs : List (Key × V)} (e : H a = some (.dK xs)) : Q8 K [.ref a, .ty "bool"] H Q = Q (.bl false) H := Qc (.dK e) (zCy e) rfl
theorem zAb {i j : Int} : rEq (.int i) (.int j) H Q = Q (.bl (decide (i = j))) H := by
 unfold rEq; rw [show zD0 (.int i) (.int j) = true from rfl]; simp
theorem zE6 {i j : Int} : rNe (.int i) (.int j) H Q = Q (.bl (!decide (i = j))) H := by
 unfold rNe; rw [show zD0 (.int i) (.int j) = true from rfl]; simp
theorem zG2 {i j : Bool} : rEq (.bl i) (.bl j) H Q = Q (.bl (decide (i = j))) H := by
 unfold rEq; rw [show zD0 (.bl i) (.bl j) = true from rfl]; simp
theorem zHn {i j : Bool} : rNe (.bl i) (.bl j) H Q = Q (.bl (!decide (i = j))) H := by
 unfold rNe; rw [show zD0 (.bl i) (.bl j) = true from rfl]; simp
theorem zFX {i j : Str} : rEq (.str i) (.str j) H Q = Q (.bl (decide (i = j))) H := by
 unfold rEq; rw [show zD0 (.str i) (.str j) = true from rfl]; simp
theorem zFv {i j : Str} : rNe (.str i) (.str j) H Q = Q (.bl (!decide (i = j))) H := by
 unfold rNe; rw [show zD0 (.str i) (.str j) = true from rfl]; simp
theorem zE8 {j : Int} : zLW 10 j = (0 <= j /\ j <= 1000000) := propext ⟨fun h => ⟨h.1, h.2.1⟩, fun h => ⟨h.1, h.2, by decide⟩⟩
theorem zG5 {j : Int} : zLW 2 j = (0 <= j /\ j <= 1000000) := propext ⟨fun h => ⟨h.1, h.2.1⟩, fun h => ⟨h.1, h.2, by decide⟩⟩
theorem zHS {CX : CXT} {P : Program} {w : World} {K : W.Frag} {mg : Str -> Option Value} {base : Heap} {N : List Str} {qual : Str} {scope : Scope} {f : Addr} {cd : Value} {A : Around} {outer : List Env} {s : Shared} {H : Hp} {E : XK} : (zBm CX P w K mg base N qual scope f cd A outer s H E).K = K := rfl
def zF2 (J : It) (g : TG) (tb : TS) (D : Ends) (σ : St) (H1 : Hp) : Prop := ∃ W : Nat -> Nat -> St -> Hp -> Prop, (∃ m, W 0 m σ H1) /\ ∀ i m σ H, W i m σ H ->
 (J.stop i H /\ D.nx σ H) \/ (J.go i H /\ ∃ N : St -> Hp -> Prop, (∀ σ' H', N σ' H' -> ∃ m', m' < m /\ W (i + 1) m' σ' H') /\ ∀ x H', J.yld i H x H' -> g x σ H' fun σ2 H2 => tb { D with nx := N, ct := N, bk := D.nx } σ2 H2)
theorem zFw {wi : TI} {g : TG} {tb : TS} {D : Ends} {σ : St} {H : Hp} : zMU wi g tb D σ H = wi σ H fun J H1 => zF2 J g tb D σ H1 := rfl
theorem zB8 {K : W.Frag} {a : Addr} {xs : List V} {g : TG} {tb : TS} {D : Ends} {σ : St} {H : Hp} (Pv : Nat -> St -> Hp -> Prop) (h0 : Pv 0 σ H) (hl : ∀ i σ H, i <= xs.length -> Pv i σ H -> SqL K H a xs)
  (hs : ∀ i x σ H, xs[i]? = some x -> Pv i σ H -> g x σ H fun σ2 H2 => tb { D with nx := Pv (i + 1), ct := Pv (i + 1), bk := D.nx } σ2 H2) (hd : ∀ σ H, Pv xs.length σ H -> D.nx σ H) : zF2 (Itl K a) g tb D σ H := zHG Pv h0 hl hs hd
theorem zI4 {K : W.Frag} {a : Addr} {xs : List V} {g : TG} {tb : TS} {D : Ends} {σ : St} {H : Hp} (Pv : Nat -> St -> Hp -> Prop) (h0 : Pv 0 σ H) (hl : ∀ i σ H, i <= xs.length -> Pv i σ H -> SqT K H a xs)
  (hs : ∀ i x σ H, xs[i]? = some x -> Pv i σ H -> g x σ H fun σ2 H2 => tb { D with nx := Pv (i + 1), ct := Pv (i + 1), bk := D.nx } σ2 H2) (hd : ∀ σ H, Pv xs.length σ H -> D.nx σ H) : zF2 (Itt K a) g tb D σ H := zJP Pv h0 hl hs hd
theorem ZF {lo : Int} {n : Nat} {g : TG} {tb : TS} {D : Ends} {σ : St} {H : Hp} (Pv : Nat -> St -> Hp -> Prop) (h0 : Pv 0 σ H)
  (hs : ∀ i σ H, i < n -> Pv i σ H -> g (.int (lo + i)) σ H fun σ2 H2 => tb { D with nx := Pv (i + 1), ct := Pv (i + 1), bk := D.nx } σ2 H2) (hd : ∀ σ H, Pv n σ H -> D.nx σ H) : zF2 (Itr lo n) g tb D σ H := zGG Pv h0 hs hd
end
end L2
namespace L2
open PySem PySem.Spec PyProof.Rows
def cxC (X : Cx) (scope : Scope) (cl : List (Str × Addr)) (x : Str) (cs : List Str) (C : Addr) (s₀ : Shared) (H₀ : Hp) (fp : List Addr) : Cx where
 prog := X.prog
 w := X.w
 K := X.K
 mg := X.mg
 base := X.base
 A := X.A
 N := x :: cs
 s₀ := s₀
 H₀ := H₀
 env := compEnvC scope cl C X.env
 outer := X.stack
 stack := X.stack
 ex := fp
 fn := fun y => y == x
 calm := X.calm
 pn := []
 xe := fun _ _ => False
def Yj (σ : St) (js : List Nat) : St := js.map fun j => (σ[j]?).getD none
structure CScope (X : Cx) (scope : Scope) (cl : List (Str × Addr)) (x : Str) (cs : List Str) (js : List Nat) : Prop where
 clos : closureFor scope X.env = pure cl
 kind : scope.kind = .function
 nocell : ∀ y ∈ scope.names, y.2 ≠ .cell
 names : ∀ y ∈ scope.names, y.2 = .local -> scope.names.lookup y.1 = some .local
 lx : scope.names.lookup x = some .local
 sub : ∀ y c, cl.lookup y = some c -> X.env.cells.lookup y = some c
 has : ∀ y, ((relabel scope X.env).names.lookup y = some .cell \/ (relabel scope X.env).names.lookup y = some .free) -> ∃ c, cl.lookup y = some c
 nox : cl.lookup x = none
 nd : (x :: cs).Nodup
 cap : Paired (fun y j => X.N[j]? = some y) cs js
 capk : ∀ y ∈ cs, (X.env.kindOf y = some .cell \/ X.env.kindOf y = some .free) /\ ((relabel scope X.env).names.lookup y = some .cell \/ (relabel scope X.env).names.lookup y = some .free)
def zBS (J : It) (tc : TT) (te : TE) (τ : St) (fin : List V -> Hp -> Prop) (H1 : Hp) : Prop := ∃ W : Nat -> Nat -> List V -> Hp -> Prop, (∃ m, W 0 m [] H1) /\ ∀ i m ys H, W i m ys H ->
 (J.stop i H /\ fin ys H) \/ (J.go i H /\ ys.length < sizeLine /\ ∃ N : List V -> Hp -> Prop, (∀ ys' H', N ys' H' -> ∃ m', m' < m /\ W (i + 1) m' ys' H') /\ ∀ v H', J.yld i H v H' -> tc (some v :: τ) H' fun b H2 => if b = true then te (some v :: τ) H2 (fun y H3 => N (ys ++ [y]) H3) else N ys H2)
def J4 (wi : TI) (js : List Nat) (tc : TT) (te : TE) : TE := fun σ H Q => wi σ H fun J H1 => zBS J tc te (Yj σ js) (fun ys H2 => ∀ p, H2 p = none -> Q (.ref p) (upd H2 p (.lst ys))) H1
def zDO : TT := fun _ H Q => Q true H
def zBo (X : Cx) (ifs : List Expr) (t : TT) : Prop :=
 ∀ (pins : List (Addr × Obj)) (s : Shared) (σ : St) (H : Hp) (Q : Bool -> Hp -> Prop), Inv X pins σ H s -> t σ H Q ->
  wpAny (model X.prog X.w) X.A (forIn ifs true fun c r => if r = true then do let ok ← isTrue c X.env (eval c X.env); pure (ForInStep.yield ok) else pure (ForInStep.yield r)) (TP X pins σ Q) X.xe s
theorem zA8 {X : Cx} : zBo X [] zDO := fun _ _ _ H _ I h => wpAny_tests_nil ⟨H, I, h⟩
theorem zAu {X : Cx} {c : Expr} {t : TT} (h : PT X c t) : zBo X [c] t := fun pins s σ H Q I q => wpAny_tests_one (h pins s σ H Q I q)
theorem HOk.track {P : Program} {w : World} {H : Hp} {h : Heap} {a : Addr} {o : HO} (x : HOk P w H h) (hn : H a = none) (new : ObjOk P w (upd H a o) h a o) : HOk P w (upd H a o) h := fun b u e => by
 by_cases hb : b = a
 ·subst hb; rw [QD] at e; cases e; exact new
 ·rw [QG hb] at e
  exact (x b u e).stay (fun c v _ q => q) (fun c q => by rw [QG (QH q hn)]; exact q) fun c xs q => by rw [QG (QH q hn)]; exact q
section
variable {X : Cx} {scope : Scope} {cl : List (Str × Addr)} {x : Str} {cs : List Str} {js : List Nat} {pins : List (Addr × Obj)} {σ : St} {H : Hp} {s : Shared}
theorem zK2 {C : Addr} {fp : List Addr} (S : CScope X scope cl x cs js) (I : Inv X pins σ H s) (hC : s.heap.objs.size <= C) (hf : ∀ b ∈ fp, Zh X pins H b) (hlt : ∀ b ∈ fp, b < s.heap.objs.size) :
  (cxC X scope cl x cs C s H fp).Ok where
 mod := I.ok.mod
 kind := S.kind
 glob := I.ok.glob
 blt := I.ok.blt
 above := hC
 inj := fun y z c h1 h2 => I.ok.inj y z c (S.sub y c h1) (S.sub z c h2)
 has := fun y h => S.has y h
 cab := fun y c h1 h2 => by
  have e : y = x := eq_of_beq h1
  subst e
  have h2' : cl.lookup y = some c := h2
  rw [S.nox] at h2'
  cases h2'
 hd := I.ok.hd
 frames := I.ok.frames
 stk := .inl rfl
 exf := fun b hb => ⟨fun e => absurd (hlt b hb) (Nat.not_lt.mpr (by rw [show b = C from e]; exact hC)), fun y c h => (hf b hb).2.2.2.2.1 y c (S.sub y c h)⟩
 bs := fun b o e => ⟨(I.bs b o e).1, (I.bs b o e).2⟩
 bsz := Nat.le_trans I.ok.bsz I.sz
 noex := fun b o e hb => by
  rcases (hf b hb).2.2.2.1 with z | z
  ·exact I.ok.noex b o e z
  ·exact absurd (Nat.lt_of_lt_of_le (Heap.lt_size e) (Nat.le_trans I.ok.bsz z)) (Nat.lt_irrefl _)
 exfs := fun b hb z => by
  rcases List.mem_cons.mp (I.stkSub b z) with e | e
  ·exact (hf b hb).2.1 e
  ·exact (hf b hb).2.2.1 e
 funs := I.stack
 frf := fun b hb => I.stkFree b hb
theorem Yq {α β : Type} {F : α -> β -> Prop} : ∀ {l : List α} {l' : List β} {k : Nat} {a : α}, Paired F l l' -> l[k]? = some a -> ∃ b, l'[k]? = some b /\ F a b
 | _, _, _, _, .nil, e => by simp at e
 | _, _, 0, _, .cons r _, e => by simp at e; subst e; exact ⟨_, rfl, r⟩
 | _, _, k + 1, a, .cons _ t, e => by
  obtain ⟨b, h1, h2⟩ := Yq (k := k) (a := a) t (by simpa using e)
  exact ⟨b, by simpa using h1, h2⟩
theorem zDl {σ : St} {js : List Nat} : (Yj σ js).length = js.length := by unfold Yj; rw [List.length_map]
theorem Inv.newfs (I : Inv X pins σ H s) {a : Addr} (h : s.heap.objs.size <= a) : a ∉ frs X.stack := fun hb => by
 rcases List.mem_cons.mp (I.stkSub a hb) with e | e
 ·exact absurd I.lt (Nat.not_lt.mpr (by rw [← e]; exact h))
 ·exact I.nofs h e
theorem zEa {C D : Addr} {fp : List Addr} {h₁ : Heap} {tk : Nat} {oD : Obj} (S : CScope X scope cl x cs js) (I : Inv X pins σ H s) (hf : ∀ b ∈ fp, Zh X pins H b) (hlt : ∀ b ∈ fp, b < s.heap.objs.size)
  (hD : s.heap.objs.size <= D) (hC : s.heap.objs.size <= C) (hDC : D ≠ C) (hns : h₁.Ns C (fun _ => none)) (keep : ∀ b o, s.heap.get? b = some o -> h₁.get? b = some o) (eD : h₁.get? D = some oD) (hoD : ∀ v, oD.data ≠ .cell v) :
  Inv (cxC X scope cl x cs C s H fp) [(D, oD)] (none :: Yj σ js) H { s with heap := h₁, toks := tk } := by
 refine ⟨zK2 S I hC hf hlt, rfl, I.bare, Un.kept keep, ⟨_, hns, fun i y v h1 h2 h3 => ?_⟩, fun y c e => ?_, I.hok.fresh hC, fun y c e => I.freeC y c (S.sub y c e), fun p hp => ?_, I.hok.kept keep, ?_⟩
 ·cases i with
  | zero => simp at h2
  | succ k =>
   have h1' : cs[k]? = some y := by
    have z : (x :: cs)[k + 1]? = some y := h1
    simpa using z
   have h2' : (Yj σ js)[k]? = some (some v) := by simpa using h2
   obtain ⟨j, ej, ey⟩ := Yq S.cap h1'
   have e2 : σ[j]? = some (some v) := by
    unfold Yj at h2'
    rw [List.getElem?_map, ej] at h2'
    have h3' : (σ[j]?).getD none = some v := by simpa using h2'
    cases q : σ[j]? with
    | none => rw [q] at h3'; cases h3'
    | some w' => rw [q] at h3'; exact congrArg some h3'
   obtain ⟨k1, k2⟩ := S.capk y (List.mem_of_getElem? h1')
   obtain ⟨m, hn, hl⟩ := I.loc
   obtain ⟨u, r, l⟩ := hl j y v ey e2 (by
    rcases k1 with z | z
    ·exact .inr (.inl z)
    ·exact .inr (.inr z))
   refine ⟨u, r, .inr ⟨k2, ?_⟩⟩
   obtain ⟨c', e'⟩ := S.has y k2
   rcases l with ⟨z, _⟩ | ⟨_, c, ec, z⟩
   ·rcases k1 with k1 | k1 <;> (rw [k1] at z; cases z)
   ·have e3 := S.sub y c' e'
    rw [ec] at e3
    cases e3
    obtain ⟨o, eo, d⟩ := z
    exact ⟨_, e', o, keep _ _ eo, d⟩
 ·obtain ⟨v, o, eo, d⟩ := I.cell y c (S.sub y c e)
  exact ⟨v, o, keep _ _ eo, d⟩
 ·have e : p = (D, oD) := by
   rcases List.mem_append.mp hp with z | z
   ·exact absurd z (by show p ∉ ([] : List (Addr × Obj)); simp)
   ·simpa using z
  subst e
  exact ⟨eD, I.hok.fresh hD, hDC, I.newfs hD, hoD⟩
 ·show (none :: Yj σ js).length = (x :: cs).length
  rw [List.length_cons, List.length_cons, zDl, Paired.length S.cap]
abbrev Q7 (us : List Value) (n : Nat) : Obj := { cls := .type "list", data := .seq us.toArray n }
theorem zF1 {elt iter : Expr} {px pos : Pos} {ifs : List Expr} {tc : TT} {te : TE} {C D it : Addr} {fp : List Addr} {tn : Nat -> Heap -> Prop} {J : It} {s₂ : Shared} {H₂ : Hp} {R : Result -> Shared -> Prop} {fin : List V -> Hp -> Prop} {s₃ : Shared} {o₀ : Option V}
  (hc : X.calm = true) (S : CScope X scope cl x cs js) (hC : s₂.heap.objs.size <= C) (hD : s₂.heap.objs.size <= D) (hDC : D ≠ C) (hlt : ∀ b ∈ fp, b < s₂.heap.objs.size)
  (T : Turn X.prog X.w X.K (.Name x px) J fp it tn)
  (hcells : ∀ y c, cl.lookup y = some c -> c < s₂.heap.objs.size)
  (hfs : ∀ b ∈ fp, b ∉ frs X.stack) (hDfs : D ∉ frs X.stack)
  (hcf : ∀ b ∈ fp, ∀ y c, cl.lookup y = some c -> c ≠ b)
  (ht : zBo (cxC X scope cl x cs C s₂ H₂ fp) ifs tc) (he : PE (cxC X scope cl x cs C s₂ H₂ fp) elt te)
  (I₃ : Inv (cxC X scope cl x cs C s₂ H₂ fp) [] (o₀ :: Yj σ js) H₂ s₃) (st : tn 0 s₃.heap) (hn : ∀ b ∈ fp, H₂ b = none) (eD : s₃.heap.get? D = some (Q7 [] 0)) (hDn : H₂ D = none)
  (hW : zBS J tc te (Yj σ js) fin H₂)
  (hR : ∀ s' σ' H' ys us n, Inv (cxC X scope cl x cs C s₂ H₂ fp) [] σ' H' s' -> Vals ys us -> ys.length <= sizeLine -> s'.heap.get? D = some (Q7 us n) -> H' D = none -> fin ys H' -> R (.ok .next) s') :
  codeAny (model X.prog X.w) X.A (.compLoop (.ListComp elt [⟨.Name x px, iter, ifs, 0⟩] scope pos) 0 (.ref it) (.ref D) (compEnvC scope cl C X.env)) R s₃ := by
 obtain ⟨W, ⟨m0, w0⟩, turn⟩ := hW
 have bC : ∀ b ∈ fp, b ≠ C := fun b hb e => absurd (hlt b hb) (Nat.not_lt.mpr (by rw [e]; exact hC))
 have bD : ∀ b ∈ fp, b ≠ D := fun b hb e => absurd (hlt b hb) (Nat.not_lt.mpr (by rw [e]; exact hD))
 have cD : ∀ y c, cl.lookup y = some c -> c ≠ D := fun y c h e => absurd (hcells y c h) (Nat.not_lt.mpr (by rw [e]; exact hD))
 have pinD : ∀ {τ : St} {H' : Hp} {s' : Shared} {us : List Value} {k : Nat}, Inv (cxC X scope cl x cs C s₂ H₂ fp) [] τ H' s' -> s'.heap.get? D = some (Q7 us k) -> H' D = none -> Inv (cxC X scope cl x cs C s₂ H₂ fp) [(D, Q7 us k)] τ H' s' :=
  fun {τ H' s' us k} I e hn => I.pins_of fun p hp => by
   have ep : p = (D, Q7 us k) := by simpa using hp
   subst ep
   exact ⟨e, hn, hDC, hDfs, fun v z => by
    have z' : Data.seq us.toArray k = Data.cell v := z
    cases z'⟩
 have fpk : ∀ {H' : Hp} {us : List Value} {k : Nat}, (∀ b ∈ fp, H' b = none) -> ∀ b ∈ fp, Zh (cxC X scope cl x cs C s₂ H₂ fp) [(D, Q7 us k)] H' b := fun {H' us k} hn b hb =>
  ⟨hn b hb, bC b hb, hfs b hb, .inl hb, fun y c e => hcf b hb y c e, fun p hp => by
   have ep : p = (D, Q7 us k) := by
    rcases List.mem_append.mp hp with z | z
    ·exact absurd (show p ∈ ([] : List (Addr × Obj)) from z) (by simp)
    ·simpa using z
   subst ep
   exact Ne.symm (bD b hb)⟩
 refine codeAny_compLoop_tests (env := compEnvC scope cl C X.env) (fun n s' => ∃ i o H' ys us k, Inv (cxC X scope cl x cs C s₂ H₂ fp) [] (o :: Yj σ js) H' s' /\ tn i s'.heap /\ (∀ b ∈ fp, H' b = none) /\ Vals ys us /\ ys.length <= sizeLine /\ s'.heap.get? D = some (Q7 us k) /\ H' D = none /\ W i n ys H') ?_ m0
  ⟨0, o₀, H₂, [], [], 0, I₃, st, hn, .nil, Nat.zero_le _, eD, hDn, w0⟩
 rintro n s4 ⟨i, o, H4, ys, us, k, I4, st4, fr4, rv, hz, eD4, hD4, w4⟩
 have I4' := pinD I4 eD4 hD4
 rcases turn i n ys H4 w4 with ⟨stop, f⟩ | ⟨go, hlen, N, hN, step⟩
 ·refine wpAny_mono (T.done (cxC X scope cl x cs C s₂ H₂ fp) rfl rfl rfl hc i [(D, Q7 us k)] s4 _ H4 (fun _ _ => False) I4' (fpk fr4) st4 stop) (fun r s5 ⟨hr, I5⟩ => ?_) (fun _ _ z => z.elim)
  subst hr
  show R (.ok .next) s5
  exact hR s5 _ H4 ys us k (I5.pins_of fun p hp => absurd hp (by simp)) rv hz (I5.pin (D, Q7 us k) (List.mem_append_right _ (by simp))).1 hD4 f
 ·refine wpAny_mono (T.item (cxC X scope cl x cs C s₂ H₂ fp) rfl rfl rfl hc i [(D, Q7 us k)] s4 _ H4 (fun _ _ => False) I4' (fpk fr4) st4 go) (fun r s5 ⟨u, hr, h5⟩ => ?_) (fun _ _ z => z.elim)
  subst hr
  show wpAny _ _ (letOwnedTupleGo (.Name x px) (.ref it) u >>= fun _ => assign (.Name x px) (compEnvC scope cl C X.env) u) _ _ s5
  refine wpAny_bind (wpAny_mono h5 (fun _ s6 ⟨v, H6, I6, r6, y6, st6, fr6⟩ => ?_) (fun _ _ z => z.elim))
  have I6' := I6.pinned (fpk fr6) (T.obj _ _ st6)
  refine wpAny_assign_Name (zBX (X := cxC X scope cl x cs C s₂ H₂ fp) (i := 0) I6' S.nd rfl (.inl (lookup_relabel_local S.lx)) r6 (fun s7 I7 => ?_) (.inl (beq_self_eq_true x)))
  have st7 : ∀ {τ : St} {H' : Hp} {s' : Shared}, Inv (cxC X scope cl x cs C s₂ H₂ fp) ([(D, Q7 us k)] ++ Zi fp s6.heap) τ H' s' -> tn (i + 1) s'.heap /\ ∀ b ∈ fp, H' b = none := fun {τ H' s'} I => by
   refine ⟨T.keep _ _ _ st6 fun b hb o e => (I.pin (b, o) (List.mem_append_right _ (List.mem_append_right _ (YT hb e)))).1, fun b hb => ?_⟩
   obtain ⟨o, e, d⟩ := T.obj _ _ st6 b hb
   exact (I.pin (b, o) (List.mem_append_right _ (List.mem_append_right _ (YT hb e)))).2.1
  have dD : ∀ {τ : St} {H' : Hp} {s' : Shared}, Inv (cxC X scope cl x cs C s₂ H₂ fp) ([(D, Q7 us k)] ++ Zi fp s6.heap) τ H' s' -> s'.heap.get? D = some (Q7 us k) /\ H' D = none := fun {τ H' s'} I => by
   have q := I.pin (D, Q7 us k) (List.mem_append_right _ (List.mem_append_left _ (by simp)))
   exact ⟨q.1, q.2.1⟩
  refine wpAny_mono (ht _ s7 _ H6 _ I7 (step v H6 y6)) (fun ok s8 ⟨H8, I8, q8⟩ => ?_) (fun _ _ z => False.elim z)
  cases ok with
  | false =>
   obtain ⟨m', hm, w8⟩ := hN _ _ q8
   exact ⟨m', hm, i + 1, some v, H8, ys, us, k, I8.pins_of fun p hp => absurd hp (by simp), (st7 I8).1, (st7 I8).2, rv, hz, (dD I8).1, (dD I8).2, w8⟩
  | true =>
   rw [if_pos rfl]
   refine wpAny_mono (he _ s8 _ H8 _ I8 q8) (fun xv s9 ⟨y, H9, I9, r9, n9⟩ => ?_) (fun _ _ z => False.elim z)
   obtain ⟨m', hm, w9⟩ := hN _ _ n9
   obtain ⟨eD9, hD9⟩ := dD I9
   have hl := rv.length
   refine call_meets F.slot_list_append ⟨_, eD9, rfl⟩ F.entry_list_append (F.args_list_append_2 _ _) (PySem.list_append D us.toArray k xv (by rw [List.size_toArray]; omega)) ⟨eD9, ?_⟩
   have I9' : Inv (cxC X scope cl x cs C s₂ H₂ fp) [] (some v :: Yj σ js) H9 s9 := I9.pins_of fun p hp => absurd hp (by simp)
   have q := PySem.IsL.update eD9 (·.push xv)
   have e1 : us.toArray.push xv = (us ++ [xv]).toArray := by simp
   rw [e1] at q
   have I10 := I9'.turned (h' := s9.heap.update D (Obj.mapSeq (·.push xv))) (t' := s9.toks) (it := D) (fun b o hb e => (Heap.get?_update_other s9.heap _ (Ne.symm hb)).trans e) hD9 hDC (.inr hD) (fun y c e => cD y c e) (fun p hp => absurd (show p ∈ ([] : List (Addr × Obj)) from hp) (by simp))
   refine ⟨m', hm, i + 1, some v, H9, ys ++ [y], us ++ [xv], _, I10, ?_, (st7 I9).2, rv.append (.cons r9 .nil), ?_, q, hD9, w9⟩
   ·exact T.keep _ _ _ (st7 I9).1 fun b hb o e => (Heap.get?_update_other s9.heap _ (Ne.symm (bD b hb))).trans e
   ·rw [List.length_append, List.length_singleton]
    omega
structure Off (X : Cx) (pins : List (Addr × Obj)) (H : Hp) (C : Addr) : Prop where
 n : H C = none
 l : C ≠ X.env.locals
 y : X.s₀.heap.objs.size <= C
 c : ∀ x c, X.env.cells.lookup x = some c -> c ≠ C
 p : ∀ p ∈ X.pn ++ pins, p.1 ≠ C
theorem Inv.off {h' : Heap} {t' : Nat} {C : Addr} (I : Inv X pins σ H s) (O : Off X pins H C) (k : Heap.SameBut C s.heap h') : Inv X pins σ H { s with heap := h', toks := t' } :=
 I.turned (fun b o hb e => (k.2 b hb).trans e) O.n O.l (.inr O.y) O.c O.p
theorem zBI {elt iter : Expr} {px pos : Pos} {ifs : List Expr} {tc : TT} {te : TE} {it : Addr} {fp : List Addr} {tn : Nat -> Heap -> Prop} {J : It} {E : Value -> Shared -> Prop} {fin : List V -> Hp -> Prop} {RR : Value -> Addr -> Result -> Shared -> Prop}
  (hc : X.calm = true) (S : CScope X scope cl x cs js) (I : Inv X pins σ H s) (T : Turn X.prog X.w X.K (.Name x px) J fp it tn) (st : tn 0 s.heap) (hf : ∀ b ∈ fp, Zh X pins H b)
  (ht : ∀ C s₁ H₁, zBo (cxC X scope cl x cs C s₁ H₁ fp) ifs tc) (he : ∀ C s₁ H₁, PE (cxC X scope cl x cs C s₁ H₁ fp) elt te) (hW : zBS J tc te (Yj σ js) fin H)
  (hRR : ∀ D C s' ys H' m, Inv X pins σ (upd H' D (.lst ys)) s' -> s'.heap.Ns C m -> Off X pins (upd H' D (.lst ys)) C -> H' D = none -> fin ys H' -> RR (.ref D) C (.ok .next) s') :
  wpAny (model X.prog X.w) X.A (newList []) (fun acc s₃ => wpAny (model X.prog X.w) X.A (newFunctionEnv scope X.env.globals cl [] X.env.qual none .none (some X.env)) (fun cenv s₄ =>
   codeAny (model X.prog X.w) X.A (.compStart (.ListComp elt [⟨.Name x px, iter, ifs, 0⟩] scope pos) 0 (.ref it) acc { cenv with scope := relabel scope X.env }) (RR acc cenv.locals) s₄) E s₃) E s := by
 have hlt : ∀ b ∈ fp, b < s.heap.objs.size := fun b hb => by
  obtain ⟨o, e, _⟩ := T.obj _ _ st b hb
  exact Heap.lt_size e
 refine wpAny_newObj_type (wpAny_newFunctionEnv S.nocell (by intro y hy; simp at hy) (fun h₁ hns₁ hsb₁ => ?_) S.kind)
 dsimp only at hns₁ hsb₁ ⊢
 generalize hH2 : s.heap.push { cls := .type "list", dict := none, data := .seq ([] : List Value).toArray } = H2 at hns₁ hsb₁ ⊢
 have hC : H2.objs.size = s.heap.objs.size + 1 := by rw [← hH2, Heap.size_push]
 have hDC : s.heap.objs.size ≠ H2.objs.size := by rw [hC]; exact Nat.ne_of_lt (Nat.lt_succ_self _)
 have hCle : s.heap.objs.size <= H2.objs.size := by rw [hC]; exact Nat.le_succ _
 have below : ∀ b, b < s.heap.objs.size -> b ≠ H2.objs.size /\ b ≠ s.heap.objs.size := fun b hb => ⟨by rw [hC]; exact Nat.ne_of_lt (Nat.lt_succ_of_lt hb), Nat.ne_of_lt hb⟩
 have old : ∀ b o, s.heap.get? b = some o -> h₁.get? b = some o := fun b o e => hsb₁.extBut b o (below b (Heap.lt_size e)).1 (Heap.get?_push_of_some _ (hH2 ▸ Heap.get?_push_of_some _ e))
 have hacc : h₁.get? s.heap.objs.size = some (Q7 [] 0) := hsb₁.extBut _ _ hDC (Heap.get?_push_of_some _ (hH2 ▸ Heap.get?_push_size _ rfl))
 have hDn : H s.heap.objs.size = none := I.hok.fresh (Nat.le_refl _)
 have I₁ := zEa (C := H2.objs.size) (D := s.heap.objs.size) (tk := s.toks + ([] : List (Str × Value)).length) (oD := Q7 [] 0) S I hf hlt (Nat.le_refl _) hCle hDC hns₁ old hacc (fun v z => by
  have z' : Data.seq ([] : List Value).toArray 0 = Data.cell v := z
  cases z')
 have I₁' := I₁.pins_of (pins' := []) fun p hp => absurd hp (by simp)
 have stk : tn 0 h₁ := T.keep _ _ _ st fun b _ o e => old b o e
 have loop : codeAny (model X.prog X.w) X.A (.compLoop (.ListComp elt [⟨.Name x px, iter, ifs, 0⟩] scope pos) 0 (.ref it) (.ref s.heap.objs.size) (compEnvC scope cl H2.objs.size X.env)) (RR (.ref s.heap.objs.size) H2.objs.size)
   { s with heap := h₁, toks := s.toks + ([] : List (Str × Value)).length } := by
  refine zF1 (s₂ := s) (H₂ := H) (fp := fp) (fin := fin) hc S hCle (Nat.le_refl _) hDC hlt T (fun y c e => ?_) (fun b hb z => ?_) (I.newfs (Nat.le_refl _)) (fun b hb y c e => (hf b hb).2.2.2.2.1 y c (S.sub y c e)) (ht _ _ _) (he _ _ _) I₁' stk (fun b hb => (hf b hb).1) hacc hDn hW ?_
  ·obtain ⟨v, q⟩ := I.cell y c (S.sub y c e)
   exact q.lt
  ·rcases List.mem_cons.mp (I.stkSub b z) with e | e
   ·exact (hf b hb).2.1 e
   ·exact (hf b hb).2.2.1 e
  ·intro s' σ' H' ys us n I' rv hz eD hDn' hfin
   have u' : Un (frs X.stack) fp H H' s.heap s'.heap := I'.base
   have u : Un (frs X.stack) fp H (upd H' s.heap.objs.size (.lst ys)) s.heap s'.heap := ⟨u'.keep, u'.slot, fun b o e n hx => by rw [QG (below b (Heap.lt_size e)).2]; exact u'.free b o e n hx, u'.there,
    fun b xs e => by rw [QG (QH e hDn)]; exact u'.tups b xs e, fun b o w' e => by rw [QG (QH e hDn)]; exact u'.frzs b o w' e, fun b ps e => by
     obtain ⟨more, q⟩ := u'.tbls b ps e
     exact ⟨more, by rw [QG (QH e hDn)]; exact q⟩⟩
   have hok : HOk X.prog X.w (upd H' s.heap.objs.size (.lst ys)) s'.heap := HOk.track I'.hok hDn' ⟨hz, us, n, rv, eD⟩
   have I2 : Inv X pins σ (upd H' s.heap.objs.size (.lst ys)) s' := I.call' (ch := fp) I'.os u hok I'.bare fun b hb => ⟨(hf b hb).2.2.2.1, (hf b hb).2.1, (hf b hb).2.2.2.2.1, (hf b hb).2.2.2.2.2⟩
   obtain ⟨m, hm, _⟩ := I'.loc
   refine hRR _ _ s' ys H' m I2 hm ⟨?_, Ne.symm (below _ I.lt).1, Nat.le_trans I.sz hCle, fun y c e => ?_, fun p hp => ?_⟩ hDn' hfin
   ·rw [QG (Ne.symm hDC)]; exact I'.free
   ·obtain ⟨v, q⟩ := I.cell y c e
    exact (below _ q.lt).1
   ·exact (below _ (Heap.lt_size (I.pin p hp).1)).1
 exact codeAny_compStart_list loop (T.self X.A 0 _ _ _ stk loop)
theorem zDh {elt iter : Expr} {px pos : Pos} {ifs : List Expr} {wi : TI} {tc : TT} {te : TE} (hc : X.calm = true) (S : CScope X scope cl x cs js) (hi : PI X (.Name x px) iter wi)
  (ht : ∀ C s₁ H₁ fp, zBo (cxC X scope cl x cs C s₁ H₁ fp) ifs tc) (he : ∀ C s₁ H₁ fp, PE (cxC X scope cl x cs C s₁ H₁ fp) elt te)
  (hs : ∀ x, foldedSetIterable iter X.env x = pure x := by intro _; rfl) : PE X (.ListComp elt [⟨.Name x px, iter, ifs, 0⟩] scope pos) (J4 wi js tc te) := by
 intro pins s σ H Q I h
 rw [eval_ListComp]
 refine wpAny_comprehension_free (use := none) rfl hs S.clos S.kind S.names (thn (hi pins s σ H _ I h) fun v s1 h1 => thn h1 fun itv s2 h2 => ?_)
 obtain ⟨it, fp, tn, J, H2, e, I2, T, st2, f2, hW⟩ := h2
 subst e
 refine zBI (RR := fun acc C => compPost (model X.prog X.w) X.A X.xe none (EP X pins σ Q) acc C) hc S I2 T st2 f2 (fun C s₁ H₁ => ht C s₁ H₁ fp) (fun C s₁ H₁ => he C s₁ H₁ fp) hW ?_
 intro D C s' ys H' m I' hm O hD hfin
 exact ⟨m, hm, fun h' k => ⟨.ref D, _, I'.off (t' := s'.toks) O k, rfl, hfin D hD⟩⟩
theorem zD6 {i : Nat} {y : Str} {py spos : Pos} {elt iter : Expr} {px pos : Pos} {ifs : List Expr} {wi : TI} {tc : TT} {te : TE} (hN : X.N.Nodup) (hi' : X.N[i]? = some y) (hy : Loc X.env.scope y) (hc : X.calm = true) (S : CScope X scope cl x cs js) (hi : PI X (.Name x px) iter wi)
  (ht : ∀ C s₁ H₁ fp, zBo (cxC X scope cl x cs C s₁ H₁ fp) ifs tc) (he : ∀ C s₁ H₁ fp, PE (cxC X scope cl x cs C s₁ H₁ fp) elt te)
  (hsw : swapsWith (.ListComp elt [⟨.Name x px, iter, ifs, 0⟩] scope pos) (some (.Name y py)) spos.line X.env = pure true := by rfl)
  (hf : X.fn y = true \/ X.env.scope.names.lookup y = some .local := by first | exact .inl rfl | exact .inr rfl | assumption)
  (hs : ∀ x, foldedSetIterable iter X.env x = pure x := by intro _; rfl) : PS X (.Assign [.Name y py] (.ListComp elt [⟨.Name x px, iter, ifs, 0⟩] scope pos) spos) (zBh (J4 wi js tc te) (Zd i)) := by
 intro pins s σ H D I h
 rw [exec_Assign_Name_used _ _ _ _ hsw]
 refine wpAny_bind (wpAny_standAt (wpAny_bind ?_))
 show wpAny _ X.A (do let _ ← comprehension (.ListComp elt [⟨.Name x px, iter, ifs, 0⟩] scope pos) scope X.env _ (newList []) false (eval iter X.env) (some (assign (.Name y py) X.env))) _ _ s
 refine wpAny_bind (wpAny_mono (wpAny_comprehension_free (use := some (assign (.Name y py) X.env)) (Q := fun _ s' => SP X pins D .next s') rfl hs S.clos S.kind S.names
  (thn (hi pins s σ H _ I h) fun v s1 h1 => thn h1 fun itv s2 h2 => ?_)) (fun _ s' hq => wpAny_pure (wpAny_pure hq)) fun _ _ e => e)
 obtain ⟨it, fp, tn, J, H2, e, I2, T, st2, f2, hW⟩ := h2
 subst e
 refine zBI (RR := fun acc C => compPost (model X.prog X.w) X.A X.xe (some (assign (.Name y py) X.env)) (fun _ s' => SP X pins D .next s') acc C) hc S I2 T st2 f2 (fun C s₁ H₁ => ht C s₁ H₁ fp) (fun C s₁ H₁ => he C s₁ H₁ fp) hW ?_
 intro D' C s' ys H' m I' hm O hD hfin
 show wpAny _ X.A (assign (.Name y py) X.env (.ref D')) _ _ s'
 refine wpAny_assign_Name (Jl I' hN hi' hy (v := .ref D') rfl (fun s'' I'' sb => ?_) hf)
 obtain ⟨a, sb, ha⟩ := sb
 have hCa : C ≠ a := by
  rcases ha with e | e
  ·rw [e]; exact O.l
  ·exact fun z => O.c y a e z.symm
 exact ⟨m, hm.sameBut sb hCa, fun h' k => ⟨_, _, I''.off (t' := s''.toks) O k, hfin D' hD⟩⟩
end
def YB (env : Env) : List (Str × NameKind) -> List (Str × Addr) -> List (Str × Addr)
 | [], acc => acc
 | (n, k) :: r, acc => if k = .free then YB env r ((n, (env.cells.lookup n).getD 0) :: acc) else YB env r acc
theorem WO {scope : Scope} {env : Env} (h : ∀ y ∈ scope.names, y.2 = .free -> (env.cells.lookup y.1).isSome = true) : closureFor scope env = pure (YB env scope.names []) := by
 simp only [closureFor]
 generalize scope.names = l at h
 have key : ∀ (l : List (Str × NameKind)) (acc : List (Str × Addr)), (∀ y ∈ l, y.2 = .free -> (env.cells.lookup y.1).isSome = true) -> (do
   let r ← forIn l acc fun x r =>
    if (x.snd == NameKind.free) = true then do
     let c ← cellOf env x.fst
     pure (ForInStep.yield ((x.fst, c) :: r))
    else pure (ForInStep.yield r)
   pure r) = (pure (YB env l acc) : Sem (List (Str × Addr))) := by
  intro l
  induction l with
  | nil => intro acc _; rfl
  | cons p r ih =>
   obtain ⟨n, k⟩ := p
   intro acc h
   rw [List.forIn_cons]
   by_cases hk : k = .free
   ·have e := h (n, k) List.mem_cons_self hk
    obtain ⟨c, ec⟩ := Option.isSome_iff_exists.mp e
    have ec' : env.cells.lookup n = some c := ec
    have e1 : cellOf env n = pure c := by unfold cellOf; rw [ec']
    subst hk
    have e2 : YB env ((n, NameKind.free) :: r) acc = YB env r ((n, c) :: acc) := by
     show (if NameKind.free = NameKind.free then YB env r ((n, (env.cells.lookup n).getD 0) :: acc) else YB env r acc) = _
     rw [if_pos rfl, ec']; rfl
    rw [e2]
    rw [← ih ((n, c) :: acc) fun y hy => h y (List.mem_cons_of_mem _ hy)]
    simp only [beq_self_eq_true, if_true, e1]
    rfl
   ·have e2 : YB env ((n, k) :: r) acc = YB env r acc := by
     show (if k = NameKind.free then YB env r ((n, (env.cells.lookup n).getD 0) :: acc) else YB env r acc) = _
     rw [if_neg hk]
    rw [e2, ← ih acc fun y hy => h y (List.mem_cons_of_mem _ hy)]
    have hk' : (k == NameKind.free) = false := by simpa using hk
    simp only [hk', Bool.false_eq_true, if_false]
    rfl
 show (forIn l [] _ >>= fun s => pure s) = _
 rw [key l [] h]
 rfl
theorem Z6 {env : Env} {y : Str} {c : Addr} : ∀ (names : List (Str × NameKind)) (acc : List (Str × Addr)), (∀ z ∈ names, z.2 = .free -> (env.cells.lookup z.1).isSome = true) -> (∀ z d, acc.lookup z = some d -> env.cells.lookup z = some d) ->
  (YB env names acc).lookup y = some c -> env.cells.lookup y = some c
 | [], acc, _, ha, h => ha y c h
 | (n, k) :: r, acc, hn, ha, h => by
  unfold YB at h
  by_cases hk : k = .free
  ·rw [if_pos hk] at h
   refine Z6 r _ (fun z hz => hn z (List.mem_cons_of_mem _ hz)) (fun z d hd => ?_) h
   obtain ⟨c', ec⟩ := Option.isSome_iff_exists.mp (hn (n, k) List.mem_cons_self hk)
   have ec' : env.cells.lookup n = some c' := ec
   rw [List.lookup_cons] at hd
   cases e : z == n with
   | true =>
    rw [e] at hd
    have e' : z = n := eq_of_beq e
    rw [e', ec']
    rw [ec'] at hd
    simpa using hd
   | false => rw [e] at hd; exact ha z d hd
  ·rw [if_neg hk] at h
   exact Z6 r acc (fun z hz => hn z (List.mem_cons_of_mem _ hz)) ha h
theorem JA {env : Env} {y : Str} : ∀ (names : List (Str × NameKind)) (acc : List (Str × Addr)), ((∃ z ∈ names, z = (y, .free)) \/ (acc.lookup y).isSome = true) -> ((YB env names acc).lookup y).isSome = true
 | [], acc, h => by
  rcases h with ⟨z, hz, _⟩ | h
  ·cases hz
  ·exact h
 | (n, k) :: r, acc, h => by
  unfold YB
  by_cases hk : k = .free
  ·rw [if_pos hk]
   refine JA r _ ?_
   rcases h with ⟨z, hz, e⟩ | h
   ·rcases List.mem_cons.mp hz with q | q
    ·right
     have e1 : n = y := by
      have : (n, k) = (y, NameKind.free) := q.symm.trans e
      exact (Prod.mk.inj this).1
     subst e1
     rw [List.lookup_cons, beq_self_eq_true]; rfl
    ·exact .inl ⟨z, q, e⟩
   ·right
    rw [List.lookup_cons]
    cases e : y == n with
    | true => rfl
    | false => exact h
  ·rw [if_neg hk]
   refine JA r _ ?_
   rcases h with ⟨z, hz, e⟩ | h
   ·rcases List.mem_cons.mp hz with q | q
    ·exact absurd (by
      have : (n, k) = (y, NameKind.free) := q.symm.trans e
      exact (Prod.mk.inj this).2) hk
    ·exact .inl ⟨z, q, e⟩
   ·exact .inr h
theorem WG {env : Env} {y : Str} : ∀ (names : List (Str × NameKind)) (acc : List (Str × Addr)), (∀ z ∈ names, z.2 = .free -> z.1 ≠ y) -> acc.lookup y = none -> (YB env names acc).lookup y = none
 | [], acc, _, h => h
 | (n, k) :: r, acc, hn, h => by
  unfold YB
  by_cases hk : k = .free
  ·rw [if_pos hk]
   refine WG r _ (fun z hz => hn z (List.mem_cons_of_mem _ hz)) ?_
   rw [List.lookup_cons]
   have : n ≠ y := hn (n, k) List.mem_cons_self hk
   have e : (y == n) = false := by simpa using Ne.symm this
   rw [e]; exact h
  ·rw [if_neg hk]
   exact WG r acc (fun z hz => hn z (List.mem_cons_of_mem _ hz)) h
structure CompOk (sc scope : Scope) (N : List Str) (x : Str) (cs : List Str) (js : List Nat) : Prop where
 k1 : scope.kind = .function
 k2 : sc.kind = .function
 nocell : ∀ y ∈ scope.names, y.2 ≠ .cell
 names : ∀ y ∈ scope.names, y.2 = .local -> scope.names.lookup y.1 = some .local
 lx : scope.names.lookup x = some .local
 fr : ∀ y ∈ scope.names, y.2 = .free -> sc.names.lookup y.1 = some .cell /\ y.1 ≠ x
 nd : (x :: cs).Nodup
 cap : js.map (fun j => N[j]?) = cs.map some
 capk : ∀ y ∈ cs, sc.names.lookup y = some .cell /\ scope.names.lookup y = some .free
theorem Jf {N : List Str} : ∀ {js : List Nat} {cs : List Str}, js.map (fun j => N[j]?) = cs.map some -> Paired (fun y j => N[j]? = some y) cs js
 | [], [], _ => .nil
 | [], _ :: _, h => by simp at h
 | _ :: _, [], h => by simp at h
 | j :: js, c :: cs, h => by
  rw [List.map_cons, List.map_cons] at h
  obtain ⟨h1, h2⟩ := List.cons.inj h
  exact .cons h1 (Jf h2)
theorem ZN {env : Env} {y : Str} (hk : env.scope.kind = .function) (he : env.kindOf y = some .cell) : ∀ {l : List (Str × NameKind)}, l.lookup y = some .free ->
  (l.map fun (n, k) => if (k == NameKind.free && env.scope.kind == .function && env.kindOf n == some .cell) then (n, NameKind.cell) else (n, k)).lookup y = some .cell
 | [], h => by cases h
 | (n, k) :: r, h => by
  have ih := @ZN env y hk he r
  rw [List.lookup_cons] at h
  show List.lookup y ((if (k == NameKind.free && env.scope.kind == .function && env.kindOf n == some .cell) = true then (n, NameKind.cell) else (n, k)) :: _) = _
  cases e : y == n with
  | true =>
   rw [e] at h
   have e' : y = n := eq_of_beq e
   have e2 : k = .free := by simpa using h
   subst e2 e'
   rw [hk, he]
   simp [List.lookup_cons]
  | false =>
   rw [e] at h
   by_cases hc : (k == NameKind.free && env.scope.kind == .function && env.kindOf n == some .cell) = true
   ·rw [if_pos hc]; simp only [List.lookup_cons, e]; exact ih h
   ·rw [if_neg hc]; simp only [List.lookup_cons, e]; exact ih h
theorem ZO {env : Env} {y : Str} : ∀ {l : List (Str × NameKind)}, (∀ z ∈ l, z.2 ≠ NameKind.cell) ->
  ((l.map fun (n, k) => if (k == NameKind.free && env.scope.kind == .function && env.kindOf n == some .cell) then (n, NameKind.cell) else (n, k)).lookup y = some .cell \/
   (l.map fun (n, k) => if (k == NameKind.free && env.scope.kind == .function && env.kindOf n == some .cell) then (n, NameKind.cell) else (n, k)).lookup y = some .free) -> ∃ z ∈ l, z = (y, NameKind.free)
 | [], _, h => by rcases h with h | h <;> cases h
 | (n, k) :: r, hn, h => by
  have ih := @ZO env y r fun z hz => hn z (List.mem_cons_of_mem _ hz)
  have h' : List.lookup y ((if (k == NameKind.free && env.scope.kind == .function && env.kindOf n == some .cell) = true then (n, NameKind.cell) else (n, k)) :: r.map fun (n, k) => if (k == NameKind.free && env.scope.kind == .function && env.kindOf n == some .cell) then (n, NameKind.cell) else (n, k)) = some .cell \/
    List.lookup y ((if (k == NameKind.free && env.scope.kind == .function && env.kindOf n == some .cell) = true then (n, NameKind.cell) else (n, k)) :: r.map fun (n, k) => if (k == NameKind.free && env.scope.kind == .function && env.kindOf n == some .cell) then (n, NameKind.cell) else (n, k)) = some .free := h
  by_cases hc : (k == NameKind.free && env.scope.kind == .function && env.kindOf n == some .cell) = true
  ·rw [if_pos hc] at h'
   simp only [List.lookup_cons] at h'
   cases e : y == n with
   | true =>
    have e' : y = n := eq_of_beq e
    have ek : k = .free := by
     rw [Bool.and_eq_true, Bool.and_eq_true] at hc
     simpa using hc.1.1
    exact ⟨(n, k), List.mem_cons_self, by rw [e', ek]⟩
   | false =>
    rw [e] at h'
    obtain ⟨z, hz, ez⟩ := ih h'
    exact ⟨z, List.mem_cons_of_mem _ hz, ez⟩
  ·rw [if_neg hc] at h'
   simp only [List.lookup_cons] at h'
   cases e : y == n with
   | true =>
    rw [e] at h'
    have e' : y = n := eq_of_beq e
    have hkc : k ≠ .cell := hn (n, k) List.mem_cons_self
    have ek : k = .free := by
     rcases h' with q | q
     ·exact absurd (by simpa using q) hkc
     ·simpa using q
    exact ⟨(n, k), List.mem_cons_self, by rw [e', ek]⟩
   | false =>
    rw [e] at h'
    obtain ⟨z, hz, ez⟩ := ih h'
    exact ⟨z, List.mem_cons_of_mem _ hz, ez⟩
theorem ZC {X : Cx} {sc scope : Scope} {x : Str} {cs : List Str} {js : List Nat} {qual : Str} {L f : Addr} {cd : Value} (hE : X.env = envOfC qual sc L f cd) (c : CompOk sc scope X.N x cs js) : CScope X scope (YB X.env scope.names []) x cs js := by
 have hcs : ∀ y, sc.names.lookup y = some .cell -> (X.env.cells.lookup y).isSome = true := fun y h => by
  rw [hE]
  exact PySem.W.cellsFrom_some _ _ _ (.inl h)
 have hn : ∀ y ∈ scope.names, y.2 = .free -> (X.env.cells.lookup y.1).isSome = true := fun y hy h => hcs _ (c.fr y hy h).1
 have hk : X.env.scope.kind = .function := by rw [hE]; exact c.k2
 have kd : ∀ y, X.env.kindOf y = sc.names.lookup y := fun y => by rw [hE]; rfl
 refine ⟨WO hn, c.k1, c.nocell, c.names, c.lx, fun y d h => Z6 _ _ hn (fun z d h => by cases h) h, fun y h => ?_, WG _ _ (fun z hz h => (c.fr z hz h).2) rfl, c.nd, Jf c.cap, fun y hy => ?_⟩
 ·exact Option.isSome_iff_exists.mp (JA _ _ (.inl (ZO c.nocell h)))
 ·have q := c.capk y hy
  have q1 : X.env.kindOf y = some .cell := (kd y).trans q.1
  exact ⟨.inl q1, .inl (ZN hk q1 q.2)⟩
end L2
namespace L2
open PySem PySem.Spec PyProof.Rows
section
variable {X : Cx}
theorem zKT (x : Str) (cs : List Str) (js : List Nat) {sc scope : Scope} {qual : Str} {L f : Addr} {cd : Value} {elt iter : Expr} {px pos : Pos} {wi : TI} {te : TE} (hE : X.env = envOfC qual sc L f cd) (c : CompOk sc scope X.N x cs js) (hc : X.calm = true) (hi : PI X (.Name x px) iter wi)
  (he : ∀ C s₁ H₁ fp, PE (cxC X scope (YB X.env scope.names []) x cs C s₁ H₁ fp) elt te)
  (hs : ∀ x, foldedSetIterable iter X.env x = pure x := by intro _; rfl) : PE X (.ListComp elt [⟨.Name x px, iter, [], 0⟩] scope pos) (J4 wi js zDO te) :=
 zDh hc (ZC hE c) hi (fun _ _ _ _ => zA8) he hs
theorem zID (x : Str) (cs : List Str) (js : List Nat) {sc scope : Scope} {qual : Str} {L f : Addr} {cd : Value} {elt iter t : Expr} {px pos : Pos} {wi : TI} {tc : TT} {te : TE} (hE : X.env = envOfC qual sc L f cd) (c : CompOk sc scope X.N x cs js) (hc : X.calm = true) (hi : PI X (.Name x px) iter wi)
  (ht : ∀ C s₁ H₁ fp, PT (cxC X scope (YB X.env scope.names []) x cs C s₁ H₁ fp) t tc) (he : ∀ C s₁ H₁ fp, PE (cxC X scope (YB X.env scope.names []) x cs C s₁ H₁ fp) elt te)
  (hs : ∀ x, foldedSetIterable iter X.env x = pure x := by intro _; rfl) : PE X (.ListComp elt [⟨.Name x px, iter, [t], 0⟩] scope pos) (J4 wi js tc te) :=
 zDh hc (ZC hE c) hi (fun _ _ _ _ => zAu (ht _ _ _ _)) he hs
theorem zJV {i : Nat} {y : Str} {py spos : Pos} (hN : X.N.Nodup) (hi' : X.N[i]? = some y) (hy : Loc X.env.scope y) (x : Str) (cs : List Str) (js : List Nat) {sc scope : Scope} {qual : Str} {L f : Addr} {cd : Value} {elt iter : Expr} {px pos : Pos} {wi : TI} {te : TE} (hE : X.env = envOfC qual sc L f cd) (c : CompOk sc scope X.N x cs js) (hc : X.calm = true) (hi : PI X (.Name x px) iter wi)
  (he : ∀ C s₁ H₁ fp, PE (cxC X scope (YB X.env scope.names []) x cs C s₁ H₁ fp) elt te)
  (hsw : swapsWith (.ListComp elt [⟨.Name x px, iter, [], 0⟩] scope pos) (some (.Name y py)) spos.line X.env = pure true := by rfl)
  (hf : X.fn y = true \/ X.env.scope.names.lookup y = some .local := by first | exact .inl rfl | exact .inr rfl | assumption)
  (hs : ∀ x, foldedSetIterable iter X.env x = pure x := by intro _; rfl) : PS X (.Assign [.Name y py] (.ListComp elt [⟨.Name x px, iter, [], 0⟩] scope pos) spos) (zBh (J4 wi js zDO te) (Zd i)) :=
 zD6 hN hi' hy hc (ZC hE c) hi (fun _ _ _ _ => zA8) he hsw hf hs
end
def one (c : Nat) : V := .str ⟨#[c]⟩
def Its (x : Str) : It := ⟨fun i _ => i < x.cps.size, fun i H v H' => H' = H /\ ∃ c, x.cps[i]? = some c /\ v = one c, fun i _ => x.cps.size <= i⟩
theorem zIU {P : Program} {w : World} {K : W.Frag} {tg : Expr} (x : Str) (t : Tok) (it : Addr) (ty : String) (hty : ty = "str_ascii_iterator" \/ ty = "str_iterator") :
  Turn P w K tg (Its x) [it] it (fun i h => h.IsStrIter it ty x t i /\ i <= x.cps.size) where
 mem := by simp
 obj := fun i h st b hb => by
  have e : b = it := by simpa using hb
  subst e
  obtain ⟨⟨o, e, c, d⟩, _⟩ := st
  exact ⟨o, e, fun v z => by rw [d] at z; cases z⟩
 keep := fun i h h' st k => by
  obtain ⟨⟨o, e, r⟩, hi⟩ := st
  exact ⟨⟨o, k it (by simp) o e, r⟩, hi⟩
 item := by
  intro X hP hw hK hc i pins s σ H E I hf st hg
  subst hP hw hK
  obtain ⟨f0, f1, f2, f3, f4, f5⟩ := hf it (by simp)
  have W : Walks X.prog X.w X.A it [it] [it] x.cps.size (SignAt x) (fun i h => h.IsStrIter it ty x t i) := by
   rcases hty with e | e
   ·subst e; exact Walks.strAscii (I.ok.hd hc) it x t
   ·subst e; exact Walks.strWide (I.ok.hd hc) it x t
  have hg' : i < x.cps.size := hg
  refine W.item i s _ _ hg' st.1 fun v h' tk hv st' kk => ?_
  obtain ⟨c, u, hcx, rfl⟩ := hv
  have I1 : Inv X pins σ H { s with heap := h', toks := tk } := I.turned (fun b o hb e => kk b o (by simpa using hb) e) f0 f1 f3 f4 f5
  obtain ⟨o, e, oc, od⟩ := id st'
  refine ⟨_, rfl, zFm (s := { s with heap := h', toks := tk }) (n := ty) e oc od (by rcases hty with e | e <;> (subst e; decide)) ⟨one c, H, I1, ⟨u, rfl⟩, ⟨rfl, c, hcx, rfl⟩, ⟨st', by omega⟩, fun b hb => (hf b hb).1⟩⟩
 done := by
  intro X hP hw hK hc i pins s σ H E I hf st hg
  subst hP hw hK
  obtain ⟨f0, f1, f2, f3, f4, f5⟩ := hf it (by simp)
  have W : Walks X.prog X.w X.A it [it] [it] x.cps.size (SignAt x) (fun i h => h.IsStrIter it ty x t i) := by
   rcases hty with e | e
   ·subst e; exact Walks.strAscii (I.ok.hd hc) it x t
   ·subst e; exact Walks.strWide (I.ok.hd hc) it x t
  have hg' : x.cps.size <= i := hg
  have ei : i = x.cps.size := Nat.le_antisymm st.2 hg'
  exact W.done s _ _ (ei ▸ st.1) fun h' tk kk => ⟨rfl, I.turned (fun b o hb e => kk b o (by simpa using hb) e) f0 f1 f3 f4 f5⟩
 self := fun A i s Q E st h => by
  rcases hty with e | e
  ·subst e; exact wpAny_pyIter_striter_ascii st.1 h
  ·subst e; exact wpAny_pyIter_striter_wide st.1 h
section
variable {X : Cx} {tg : Expr}
def zLI (tl : TE) : TI := fun σ H R => tl σ H fun x H1 => ∃ z, x = .str z /\ R (Its z) H1
theorem zK0 {l : Expr} {tl : TE} (hl : PE X l tl) : PI X tg l (zLI tl) := by
 intro pins s σ H R I h
 refine thn (hl pins s σ H _ I h) fun v s1 ⟨x, H1, I1, r1, q1⟩ => ?_
 obtain ⟨z, e, q⟩ := q1
 subst e
 obtain ⟨t, rfl⟩ := r1
 have fin : ∀ (ty : String), (ty = "str_ascii_iterator" \/ ty = "str_iterator") -> PIE X pins σ tg R (.ref s1.heap.objs.size) { s1 with heap := s1.heap.push { cls := .type ty, data := .fields #[.str z t, .int 0 0] } } := fun ty hty => by
  refine ⟨s1.heap.objs.size, [s1.heap.objs.size], _, _, H1, rfl, I1.kept (t' := s1.toks) fun b o e => Heap.get?_push_of_some _ e, zIU z t _ ty hty, ⟨⟨_, Heap.get?_push_size _ rfl, rfl, rfl⟩, Nat.zero_le _⟩, fun b hb => ?_, q⟩
  have e : b = s1.heap.objs.size := by simpa using hb
  subst e
  exact I1.fpOk (Nat.le_refl _) (I1.hok.fresh (Nat.le_refl _))
 cases ha : z.cps.all (· < 128)
 ·exact wpAny_pyIter_wide ha (fin _ (.inr rfl))
 ·exact wpAny_pyIter_ascii ha (fin _ (.inl rfl))
theorem zHY {z : Str} {g : TG} {tb : TS} {D : Ends} {σ : St} {H : Hp} (Pv : Nat -> St -> Hp -> Prop) (h0 : Pv 0 σ H)
  (hs : ∀ (i : Nat) (c : Nat) σ H, z.cps.toList[i]? = some c -> Pv i σ H -> g (one c) σ H fun σ2 H2 => tb { D with nx := Pv (i + 1), ct := Pv (i + 1), bk := D.nx } σ2 H2) (hd : ∀ σ H, Pv z.cps.size σ H -> D.nx σ H) : zF2 (Its z) g tb D σ H := by
 refine ⟨fun i m σ H => m = z.cps.size - i /\ i <= z.cps.size /\ Pv i σ H, ⟨z.cps.size, by simp, Nat.zero_le _, h0⟩, ?_⟩
 rintro i m σ H ⟨rfl, hi, p⟩
 by_cases hlt : i < z.cps.size
 ·refine .inr ⟨hlt, Pv (i + 1), fun σ' H' p' => ⟨z.cps.size - (i + 1), by omega, rfl, hlt, p'⟩, fun x H' y => ?_⟩
  obtain ⟨e, c, hc, rfl⟩ := y
  subst e
  exact hs i c σ _ (by simpa using hc) p
 ·have e : i = z.cps.size := by omega
  subst e
  exact .inl ⟨Nat.le_refl _, hd σ H p⟩
theorem ZU {K : W.Frag} {a : Addr} {xs : List V} {tc : TT} {te : TE} {τ : St} {fin : List V -> Hp -> Prop} {H : Hp} (Pv : Nat -> List V -> Hp -> Prop) (h0 : Pv 0 [] H) (hl : ∀ i ys H, i <= xs.length -> Pv i ys H -> SqL K H a xs) (hz : ∀ i ys H, i < xs.length -> Pv i ys H -> ys.length < sizeLine)
  (hs : ∀ (i : Nat) x ys H, xs[i]? = some x -> Pv i ys H -> tc (some x :: τ) H fun b H2 => if b = true then te (some x :: τ) H2 (fun y H3 => Pv (i + 1) (ys ++ [y]) H3) else Pv (i + 1) ys H2) (hd : ∀ ys H, Pv xs.length ys H -> fin ys H) : zBS (Itl K a) tc te τ fin H := by
 refine ⟨fun i m ys H => m = xs.length - i /\ i <= xs.length /\ Pv i ys H, ⟨xs.length, by simp, Nat.zero_le _, h0⟩, ?_⟩
 rintro i m ys H ⟨rfl, hi, p⟩
 have q := hl i ys H hi p
 by_cases hlt : i < xs.length
 ·refine .inr ⟨⟨xs, xs[i], q, by simp [hlt]⟩, hz i ys H hlt p, Pv (i + 1), fun ys' H' p' => ⟨xs.length - (i + 1), by omega, rfl, hlt, p'⟩, fun x H' y => ?_⟩
  obtain ⟨e, y⟩ := y
  subst e
  exact hs i x ys _ (y xs q) p
 ·have e : i = xs.length := by omega
  subst e
  exact .inl ⟨⟨xs, q, Nat.le_refl _⟩, hd ys H p⟩
theorem zGp {K : W.Frag} {a : Addr} {xs : List V} {tc : TT} {te : TE} {τ : St} {fin : List V -> Hp -> Prop} {H : Hp} (Pv : Nat -> List V -> Hp -> Prop) (h0 : Pv 0 [] H) (hl : ∀ i ys H, i <= xs.length -> Pv i ys H -> SqT K H a xs) (hz : ∀ i ys H, i < xs.length -> Pv i ys H -> ys.length < sizeLine)
  (hs : ∀ (i : Nat) x ys H, xs[i]? = some x -> Pv i ys H -> tc (some x :: τ) H fun b H2 => if b = true then te (some x :: τ) H2 (fun y H3 => Pv (i + 1) (ys ++ [y]) H3) else Pv (i + 1) ys H2) (hd : ∀ ys H, Pv xs.length ys H -> fin ys H) : zBS (Itt K a) tc te τ fin H := by
 refine ⟨fun i m ys H => m = xs.length - i /\ i <= xs.length /\ Pv i ys H, ⟨xs.length, by simp, Nat.zero_le _, h0⟩, ?_⟩
 rintro i m ys H ⟨rfl, hi, p⟩
 have q := hl i ys H hi p
 by_cases hlt : i < xs.length
 ·refine .inr ⟨⟨xs, xs[i], q, by simp [hlt]⟩, hz i ys H hlt p, Pv (i + 1), fun ys' H' p' => ⟨xs.length - (i + 1), by omega, rfl, hlt, p'⟩, fun x H' y => ?_⟩
  obtain ⟨e, y⟩ := y
  subst e
  exact hs i x ys _ (y xs q) p
 ·have e : i = xs.length := by omega
  subst e
  exact .inl ⟨⟨xs, q, Nat.le_refl _⟩, hd ys H p⟩
end
end L2
namespace L2
open PySem PySem.Spec PyProof.Rows
theorem zFe {c d : Nat} : (one c = one d) = (c = d) := by
 unfold one
 refine propext ⟨fun h => ?_, fun h => by rw [h]⟩
 injection h with h1
 injection h1 with h2
 simpa using h2
def zLT : List V -> Hp -> VK -> Prop := fun xs H Q => ∃ c : Nat, xs = [one c] /\ Q (.int c) H
theorem zGa {X : Cx} : WK X (.builtin "ord") zLT := by
 intro pins s σ H xs us Q I r h
 obtain ⟨c, rfl, q⟩ := h
 exact zIl pins s σ H _ us Q I r ⟨⟨#[c]⟩, rfl, rfl, q⟩
def tst (cs : List Nat) : Int := cs.foldl (fun (h : Int) (c : Nat) => (31 * h + (c : Int)) % 2147483647) 7
theorem zEv (cs : List Nat) : ∀ h : Int, 0 <= h -> h < 2147483647 -> 0 <= cs.foldl (fun (h : Int) (c : Nat) => (31 * h + (c : Int)) % 2147483647) h /\ cs.foldl (fun (h : Int) (c : Nat) => (31 * h + (c : Int)) % 2147483647) h < 2147483647 := by
 induction cs with
 | nil => intro h h0 h1; exact ⟨h0, h1⟩
 | cons c r ih =>
  intro h h0 h1
  rw [List.foldl_cons]
  exact ih _ (by omega) (by omega)
theorem zGH (cs : List Nat) : 0 <= tst cs /\ tst cs < 2147483647 := zEv cs 7 (by decide) (by decide)
theorem zHf (cs : List Nat) (c : Nat) : tst (cs ++ [c]) = (31 * tst cs + (c : Int)) % 2147483647 := by unfold tst; rw [List.foldl_append]; rfl
theorem Ym {α : Type} {l : List α} {i : Nat} {c : α} (h : l[i]? = some c) : l.take (i + 1) = l.take i ++ [c] := by
 rw [List.take_add_one, h]; rfl
inductive Kd where
 | num (i : Int)
 | txt (x : Str)
 | tup (ks : List Kd)
mutual
def Kd.st : Kd -> Int
 | .num i => i % 2147483647
 | .txt x => tst x.cps.toList
 | .tup ks => Kd.stL 11 ks
def Kd.stL : Int -> List Kd -> Int
 | h, [] => h
 | h, k :: r => Kd.stL ((Builtin.bitXor (1000003 * h) k.st) % 2147483647) r
end
mutual
def Kd.deep : Kd -> Nat
 | .num _ => 0
 | .txt _ => 0
 | .tup ks => Kd.deepL ks + 1
def Kd.deepL : List Kd -> Nat
 | [] => 0
 | k :: r => max k.deep (Kd.deepL r)
end
mutual
def IsK (H : Hp) : Kd -> V -> Prop
 | .num i, v => v = .int i
 | .txt x, v => v = .str x
 | .tup ks, v => ∃ a vs, v = .ref a /\ H a = some (.tup vs) /\ vs.length <= 1000 /\ IsKs H ks vs
def IsKs (H : Hp) : List Kd -> List V -> Prop
 | [], vs => vs = []
 | k :: r, vs => ∃ v vr, vs = v :: vr /\ IsK H k v /\ IsKs H r vr
end
def TupS (H H' : Hp) : Prop := ∀ b xs, H b = some (.tup xs) -> H' b = some (.tup xs)
theorem Same.tups {H H' : Hp} (s : Same H H') : TupS H H' := fun b xs h => s b _ h
theorem TupS.trans {H H1 H2 : Hp} (a : TupS H H1) (b : TupS H1 H2) : TupS H H2 := fun c xs h => b c xs (a c xs h)
theorem zBb {H : Hp} {a : Addr} {o : HO} {ys : List V} (h : H a = some (.lst ys)) : TupS H (upd H a o) := fun b xs e => by
 rw [QG (zFf e h (by intro z; cases z))]; exact e
theorem QI {H : Hp} {a : Addr} {o : HO} (h : H a = none) : Same H (upd H a o) := fun b u e => by rw [QG (QH e h)]; exact e
theorem Same.upd {H0 H : Hp} {a : Addr} {o : HO} (s : Same H0 H) (h : H0 a = none) : Same H0 (upd H a o) := fun b u e => by rw [QG (QH e h)]; exact s b u e
mutual
theorem IsK.same {H H' : Hp} (s : TupS H H') : ∀ {k : Kd} {v : V}, IsK H k v -> IsK H' k v
 | .num _, _, h => by unfold IsK at h ⊢; exact h
 | .txt _, _, h => by unfold IsK at h ⊢; exact h
 | .tup ks, _, h => by
  unfold IsK at h ⊢
  obtain ⟨a, vs, e, ha, hz, hk⟩ := h
  exact ⟨a, vs, e, s _ _ ha, hz, IsKs.same s hk⟩
theorem IsKs.same {H H' : Hp} (s : TupS H H') : ∀ {ks : List Kd} {vs : List V}, IsKs H ks vs -> IsKs H' ks vs
 | [], _, h => by unfold IsKs at h ⊢; exact h
 | k :: r, _, h => by
  unfold IsKs at h ⊢
  obtain ⟨v, vr, e, h1, h2⟩ := h
  exact ⟨v, vr, e, IsK.same s h1, IsKs.same s h2⟩
end
theorem IsKs.length {H : Hp} : ∀ {ks : List Kd} {vs : List V}, IsKs H ks vs -> vs.length = ks.length
 | [], _, h => by unfold IsKs at h; rw [h]; rfl
 | k :: r, _, h => by
  unfold IsKs at h
  obtain ⟨v, vr, rfl, _, h2⟩ := h
  rw [List.length_cons, List.length_cons, IsKs.length h2]
theorem IsKs.get {H : Hp} : ∀ {ks : List Kd} {vs : List V} {i : Nat} {v : V}, IsKs H ks vs -> vs[i]? = some v -> ∃ k, ks[i]? = some k /\ IsK H k v
 | [], _, i, v, h, e => by unfold IsKs at h; rw [h] at e; simp at e
 | k :: r, _, 0, v, h, e => by
  unfold IsKs at h
  obtain ⟨w, vr, rfl, h1, _⟩ := h
  simp at e; subst e
  exact ⟨k, rfl, h1⟩
 | k :: r, _, i + 1, v, h, e => by
  unfold IsKs at h
  obtain ⟨w, vr, rfl, _, h2⟩ := h
  obtain ⟨k', e1, e2⟩ := IsKs.get (i := i) h2 (by simpa using e)
  exact ⟨k', by simpa using e1, e2⟩
theorem IsKs.nil {H : Hp} : IsKs H [] [] := by unfold IsKs; rfl
theorem Kd.deep_le {k : Kd} : ∀ {ks : List Kd}, k ∈ ks -> k.deep <= Kd.deepL ks
 | [], h => by cases h
 | k' :: r, h => by
  unfold Kd.deepL
  rcases List.mem_cons.mp h with e | e
  ·subst e; exact Nat.le_max_left _ _
  ·exact Nat.le_trans (Kd.deep_le e) (Nat.le_max_right _ _)
theorem Kd.stL_snoc (k : Kd) : ∀ (ks : List Kd) (h : Int), Kd.stL h (ks ++ [k]) = (Builtin.bitXor (1000003 * Kd.stL h ks) k.st) % 2147483647
 | [], h => by rw [List.nil_append]; unfold Kd.stL; unfold Kd.stL; rfl
 | k' :: r, h => by
  rw [List.cons_append]
  show Kd.stL _ (r ++ [k]) = _
  rw [Kd.stL_snoc k r]
  rfl
theorem Kd.stL_range : ∀ (ks : List Kd) (h : Int), 0 <= h -> h < 2147483647 -> 0 <= Kd.stL h ks /\ Kd.stL h ks < 2147483647
 | [], h, h0, h1 => by unfold Kd.stL; exact ⟨h0, h1⟩
 | k :: r, h, h0, h1 => by unfold Kd.stL; exact Kd.stL_range r _ (by omega) (by omega)
theorem Kd.st_range (k : Kd) : 0 <= k.st /\ k.st < 2147483647 := by
 cases k with
 | num i => unfold Kd.st; omega
 | txt x => unfold Kd.st; exact zGH _
 | tup ks => unfold Kd.st; exact Kd.stL_range ks 11 (by decide) (by decide)
end L2
namespace L2
open PySem PySem.Spec PyProof.Rows
def mx : Option Int -> List Int -> Option Int
 | o, [] => o
 | none, x :: r => mx (some x) r
 | some b, x :: r => mx (some (if x > b then x else b)) r
section
variable {X : Cx}
def WS (n : Nat) (lo hi : Option Int) : Prop := HT.sIx n 0 lo = 0 /\ HT.sIx n n hi = n
instance {n : Nat} {lo hi : Option Int} : Decidable (WS n lo hi) := by unfold WS; exact inferInstance
end
theorem zIr {c : TT} {tb : TS} {D : Ends} {σ : St} {H : Hp} (Pv : St -> Hp -> Prop) (μ : St -> Hp -> Nat) (h0 : Pv σ H)
  (hs : ∀ σ H, Pv σ H -> c σ H fun b H1 => if b = true then ∃ N : St -> Hp -> Prop, (∀ σ' H', N σ' H' -> ∃ m', m' < μ σ H /\ m' = μ σ' H' /\ Pv σ' H') /\ tb { D with nx := N, ct := N, bk := D.nx } σ H1 else D.nx σ H1) : zIx c tb D σ H := by
 refine ⟨fun m σ H => m = μ σ H /\ Pv σ H, ⟨_, rfl, h0⟩, ?_⟩
 rintro m σ H ⟨rfl, p⟩
 exact hs σ H p
end L2
namespace L2
open PySem PySem.Spec PyProof.Rows
def RowAt (H : Hp) (r : Addr) (ks : List Kd) : Prop := ∃ vs, H r = some (.lst vs) /\ IsKs H ks vs
structure Stk (H0 H : Hp) (R : Addr) (rs : List Addr) (kss : List (List Kd)) : Prop where
 hR : H R = some (.lst (rs.map V.ref))
 R0 : H0 R = none
 rs0 : ∀ r ∈ rs, H0 r = none
 nR : R ∉ rs
 nd : rs.Nodup
 rows : Paired (RowAt H) rs kss
 same : Same H0 H
theorem YM {α β : Type} {F G : α -> β -> Prop} : ∀ {l : List α} {l' : List β}, Paired F l l' -> (∀ a ∈ l, ∀ b, F a b -> G a b) -> Paired G l l'
 | _, _, .nil, _ => .nil
 | _, _, .cons r t, h => .cons (h _ List.mem_cons_self _ r) (YM t fun a ha b => h a (List.mem_cons_of_mem _ ha) b)
theorem Ya {α β : Type} {F : α -> β -> Prop} {a : α} {b : β} : ∀ {l : List α} {l' : List β}, Paired F l l' -> F a b -> Paired F (l ++ [a]) (l' ++ [b])
 | _, _, .nil, h => .cons h .nil
 | _, _, .cons r t, h => .cons r (Ya t h)
section
variable {H0 H H' : Hp} {R r : Addr} {rs : List Addr} {kss : List (List Kd)} {ks : List Kd} {k : Kd} {v : V} {vs : List V}
theorem RowAt.ts (h : RowAt H r ks) (e : ∀ vs, H r = some (.lst vs) -> H' r = some (.lst vs)) (t : TupS H H') : RowAt H' r ks := by
 obtain ⟨vs, h1, h2⟩ := h
 exact ⟨vs, e vs h1, h2.same t⟩
end
structure Shape (kss : List (List Kd)) : Prop where
 lo : 1 <= kss.length
 hi : kss.length <= 3
 deep : ∀ (j : Nat) ks, kss[j]? = some ks -> ∀ k ∈ ks, k.deep + j <= 2
 len : ∀ (j : Nat) ks, kss[j]? = some ks -> ks.length <= 6
 room : ∀ (j : Nat) ks, kss[j]? = some ks -> j + 1 < kss.length -> ks.length <= 5
end L2
namespace L2
open PySem PySem.Spec PyProof.Rows
theorem zKr {α : Type} {l : List α} {i : Int} (h0 : 0 <= i) (h1 : i < l.length) : ∃ c, atI l i = some c := by
 have hk : i.toNat < l.length := by omega
 refine ⟨l[i.toNat], ?_⟩
 have e : i = ((i.toNat : Nat) : Int) := by omega
 have q : atI l ((i.toNat : Nat) : Int) = some l[i.toNat] := ZR (by simp [hk])
 rw [← e] at q
 exact q
end L2
namespace L2
open PySem PySem.Spec PyProof.Rows
def zHC : List V -> Hp -> VK -> Prop
 | [.ref p], H, Q => match H p with
  | some (.lst xs) => Q (.int xs.length) H
  | some (.tup xs) => Q (.int xs.length) H
  | _ => False
 | [.str z], H, Q => z.length <= sizeLine /\ Q (.int z.length) H
 | _, _, _ => False
def ixC : R2
 | .ref p, .int i, H, Q => match H p with
  | some (.lst xs) => (match atI xs i with | some v => Q v H | none => False)
  | some (.tup xs) => (match atI xs i with | some v => Q v H | none => False)
  | _ => False
 | _, _, _, _ => False
def zMV : V -> List V -> Hp -> VK -> Prop
 | .ref l, [y], H, Q => match H l with
  | some (.lst xs) => xs.length < sizeLine /\ Q .non (upd H l (.lst (xs ++ [y])))
  | _ => False
 | _, _, _, _ => False
section
variable {X : Cx}
theorem Qq : WK X (.builtin "len") zHC := by
 intro pins s σ H xs us Q I r h
 match xs, h with
 | [.ref p], h =>
  have h' : (match H p with | some (.lst xs) => Q (.int xs.length) H | some (.tup xs) => Q (.int xs.length) H | _ => False) := h
  cases e : H p with
  | none => rw [e] at h'; exact h'.elim
  | some o =>
   rw [e] at h'
   cases o with
   | lst ys => exact ZS pins s σ H _ us Q I r ⟨p, ys, rfl, .inl (SqL.of e), h'⟩
   | tup ys => exact ZS pins s σ H _ us Q I r ⟨p, ys, rfl, .inr (SqT.of e), h'⟩
   | _ => exact h'.elim
 | [.str z], h =>
  have h' : z.length <= sizeLine /\ Q (.int z.length) H := h
  exact zCk pins s σ H _ us Q I r ⟨z, rfl, h'.1, h'.2⟩
theorem YS : IxR X ixC := by
 intro value slice pins s σ H x y v u Q I rx ry h hs
 match x, y, h with
 | .ref p, .int i, h =>
  have h' : (match H p with | some (.lst xs) => (match atI xs i with | some v => Q v H | none => False) | some (.tup xs) => (match atI xs i with | some v => Q v H | none => False) | _ => False) := h
  cases e : H p with
  | none => rw [e] at h'; exact h'.elim
  | some o =>
   rw [e] at h'
   cases o with
   | lst ys =>
    have h2 : (match atI ys i with | some v => Q v H | none => False) := h'
    cases e2 : atI ys i with
    | none => rw [e2] at h2; exact h2.elim
    | some z => rw [e2] at h2; exact zFG value slice pins s σ H _ _ v u Q I rx ry ⟨p, ys, i, z, rfl, rfl, SqL.of e, e2, h2⟩ hs
   | tup ys =>
    have h2 : (match atI ys i with | some v => Q v H | none => False) := h'
    cases e2 : atI ys i with
    | none => rw [e2] at h2; exact h2.elim
    | some z => rw [e2] at h2; exact zLP value slice pins s σ H _ _ v u Q I rx ry ⟨p, ys, i, z, rfl, rfl, SqT.of e, e2, h2⟩ hs
   | _ => exact h'.elim
theorem zAT : MtR X "list.append" zMV := by
 intro pins s σ H x xs v us Q I rx rv h
 match x, xs, h with
 | .ref l, [y], h =>
  have h' : (match H l with | some (.lst xs) => xs.length < sizeLine /\ Q .non (upd H l (.lst (xs ++ [y]))) | _ => False) := h
  cases e : H l with
  | none => rw [e] at h'; exact h'.elim
  | some o =>
   rw [e] at h'
   cases o with
   | lst ys => exact zGl pins s σ H _ _ v us Q I rx rv ⟨l, ys, y, rfl, rfl, e, h'.1, h'.2⟩
   | _ => exact h'.elim
end
section
variable {H : Hp} {Q : VK} {p : Addr} {xs : List V} {i : Int} {v y : V} {K : W.Frag}
theorem YD (h : H p = some (.lst xs)) : zHC [.ref p] H Q = Q (.int xs.length) H := by
 show (match H p with | some (.lst xs) => Q (.int xs.length) H | some (.tup xs) => Q (.int xs.length) H | _ => False) = _
 rw [h]
theorem zBd (h : H p = some (.tup xs)) : zHC [.ref p] H Q = Q (.int xs.length) H := by
 show (match H p with | some (.lst xs) => Q (.int xs.length) H | some (.tup xs) => Q (.int xs.length) H | _ => False) = _
 rw [h]
theorem Qz (h : H p = some (.lst xs)) (e : atI xs i = some v) : ixC (.ref p) (.int i) H Q = Q v H := by
 show (match H p with | some (.lst xs) => (match atI xs i with | some v => Q v H | none => False) | some (.tup xs) => (match atI xs i with | some v => Q v H | none => False) | _ => False) = _
 rw [h]; dsimp only; rw [e]
theorem YA (h : H p = some (.tup xs)) (e : atI xs i = some v) : ixC (.ref p) (.int i) H Q = Q v H := by
 show (match H p with | some (.lst xs) => (match atI xs i with | some v => Q v H | none => False) | some (.tup xs) => (match atI xs i with | some v => Q v H | none => False) | _ => False) = _
 rw [h]; dsimp only; rw [e]
theorem Wt (h : H p = some (.lst xs)) : zMV (.ref p) [y] H Q = (xs.length < sizeLine /\ Q .non (upd H p (.lst (xs ++ [y])))) := by
 show (match H p with | some (.lst xs) => xs.length < sizeLine /\ Q .non (upd H p (.lst (xs ++ [y]))) | _ => False) = _
 rw [h]
theorem zCc (h : H p = some (.lst xs)) : tyV K "list" (.ref p) H = True := eq_true (.inl ⟨rfl, xs, SqL.of h⟩)
theorem zFN {z : Str} : tyV K "str" (.str z) H = True := eq_true rfl
end
end L2
namespace L2
open PySem PySem.Spec PyProof.Rows
@[reducible] def itT : Bool -> String | true => "tuple_iterator" | false => "list_iterator"
def SI : Bool -> Heap -> Addr -> Addr -> Nat -> Prop
 | true, h, it, a, i => h.IsTupleIter it a i
 | false, h, it, a, i => h.IsListIter it a i
def SQ : Bool -> Heap -> Addr -> Array Value -> Prop
 | true, h, a, xs => h.IsTuple a xs
 | false, h, a, xs => h.IsList a xs
theorem SI.at {b : Bool} {h h' : Heap} {it a : Addr} {i : Nat} (x : SI b h it a i) (e : ∀ o, h.get? it = some o -> h'.get? it = some o) : SI b h' it a i := by
 cases b with
 | true => obtain ⟨o, ho, r⟩ := x; exact ⟨o, e _ ho, r⟩
 | false => obtain ⟨o, ho, r⟩ := x; exact ⟨o, e _ ho, r⟩
theorem SQ.at {b : Bool} {h h' : Heap} {a : Addr} {xs : Array Value} (x : SQ b h a xs) (e : ∀ o, h.get? a = some o -> h'.get? a = some o) : SQ b h' a xs := by
 cases b with
 | true => obtain ⟨o, ho, r⟩ := x; exact ⟨o, e _ ho, r⟩
 | false => obtain ⟨o, ho, r⟩ := x; exact ⟨o, e _ ho, r⟩
theorem SI.obj {b : Bool} {h : Heap} {it a : Addr} {i : Nat} (x : SI b h it a i) : ∃ o, h.get? it = some o /\ ∀ v, o.data ≠ .cell v := by
 cases b with
 | true => obtain ⟨o, ho, _, d⟩ := x; exact ⟨o, ho, fun v z => by rw [d] at z; cases z⟩
 | false => obtain ⟨o, ho, _, d⟩ := x; exact ⟨o, ho, fun v z => by rw [d] at z; cases z⟩
theorem SQ.lt {b : Bool} {h : Heap} {a : Addr} {xs : Array Value} (x : SQ b h a xs) : a < h.objs.size := by
 cases b with
 | true => obtain ⟨o, ho, _⟩ := x; exact Heap.lt_size ho
 | false => obtain ⟨o, ho, _⟩ := x; exact Heap.lt_size ho
section
variable {prog : Program} {w : World} {A : Around} {E : Value -> Shared -> Prop} {s : Shared}
theorem Zn {M : Model} {a : Addr} {Q : Option Obj -> Shared -> Prop} (h : Q (s.heap.get? a) s) : wpAny M A (loadIfAlive a) Q E s := fun _ _ _ => h
theorem Ys {b : Bool} {a : Addr} {items : Array Value} {Q : Value -> Shared -> Prop} (ha : SQ b s.heap a items)
  (hQ : Q (.ref s.heap.objs.size) { s with heap := s.heap.push { cls := .type (itT b), data := .fields #[.ref a, .int 0 0] } }) : wpAny (model prog w) A (pyIter (.ref a)) Q E s := by
 cases b with
 | true => exact wpAny_pyIter_tuple ha hQ
 | false => exact wpAny_pyIter_list ha hQ
theorem J8 {b : Bool} {it a : Addr} {i : Nat} {items : Array Value} {x : Value} {Q : Value -> Shared -> Prop} (hit : SI b s.heap it a i) (hl : SQ b s.heap a items) (hx : items[i]? = some x)
  (hQ : ∀ h', SI b h' it a (i + 1) -> Heap.SameBut it s.heap h' -> Q x { s with heap := h' }) : wpAny (model prog w) A (Builtin.SmallTypes.nextOf (.ref it)) Q E s := by
 cases b with
 | false => exact wpAny_nextOf_list_item hit hl hx hQ
 | true =>
  replace hit : s.heap.IsTupleIter it a i := hit
  obtain ⟨o, ho, hc, hd⟩ := id hit
  obtain ⟨ol, hol, _, nl, hdl⟩ := hl
  unfold Builtin.SmallTypes.nextOf
  refine wpAny_bind (wpAny_callSpecial?_slot (name := Str.ofString "__next__") hit.typeIs F.slot_tuple_iterator_next
   (wpAny_call_entry F.slot_tuple_iterator_next hit.typeIs F.entry_tuple_iterator_next ?_ (F.args_tuple_iterator_next_1 _)))
  show wpAny _ _ (field (.ref it) 0 >>= _) _ _ s
  refine wpAny_bind (wpAny_field ho hd (x := .ref a) rfl ?_)
  show wpAny _ _ (if (Value.ref a == Value.none) = true then _ else _) _ _ s
  rw [if_neg (show ¬ ((Value.ref a == Value.none) = true) from Bool.false_ne_true)]
  show wpAny _ _ (field (.ref it) 1 >>= _) _ _ s
  refine wpAny_bind (wpAny_field ho hd (x := .int i 0) rfl ?_)
  show wpAny _ _ (seqItems? (.ref a) >>= _) _ _ s
  refine wpAny_bind (wpAny_seqItems hol hdl ?_)
  simp only [Int.toNat_natCast, hx]
  refine wpAny_bind (wpAny_setField ho hd (by simp) (wpAny_pure ⟨x, rfl, wpAny_pure (hQ _ ?_ (Heap.SameBut.update ..))⟩))
  exact ⟨_, Heap.get?_update_self _ ho (Obj.isFreed_of_fields (Obj.data_mapFields hd _)), (Obj.cls_mapFields ..).trans hc, by
   rw [Obj.data_mapFields hd]; simp [rawInt]⟩
theorem zBH {b : Bool} {it a : Addr} {i : Nat} {items : Array Value} {Q : Value -> Shared -> Prop} (hh : A.handled = none) (hit : SI b s.heap it a i) (hl : SQ b s.heap a items) (hx : items[i]? = none)
  (hE : ∀ h' e, Heap.ExtBut it s.heap h' -> (∃ o, h'.get? e = some o /\ o.cls = .type "StopIteration") -> E (.ref e) { s with heap := h' }) : wpAny (model prog w) A (Builtin.SmallTypes.nextOf (.ref it)) Q E s := by
 cases b with
 | false => exact wpAny_nextOf_list_end hh hit hl hx hE
 | true =>
  replace hit : s.heap.IsTupleIter it a i := hit
  obtain ⟨o, ho, hc, hd⟩ := id hit
  obtain ⟨ol, hol, _, nl, hdl⟩ := hl
  unfold Builtin.SmallTypes.nextOf
  refine wpAny_bind (wpAny_callSpecial?_slot (name := Str.ofString "__next__") hit.typeIs F.slot_tuple_iterator_next
   (wpAny_call_entry F.slot_tuple_iterator_next hit.typeIs F.entry_tuple_iterator_next ?_ (F.args_tuple_iterator_next_1 _)))
  show wpAny _ _ (field (.ref it) 0 >>= _) _ _ s
  refine wpAny_bind (wpAny_field ho hd (x := .ref a) rfl ?_)
  show wpAny _ _ (if (Value.ref a == Value.none) = true then _ else _) _ _ s
  rw [if_neg (show ¬ ((Value.ref a == Value.none) = true) from Bool.false_ne_true)]
  show wpAny _ _ (field (.ref it) 1 >>= _) _ _ s
  refine wpAny_bind (wpAny_field ho hd (x := .int i 0) rfl ?_)
  show wpAny _ _ (seqItems? (.ref a) >>= _) _ _ s
  refine wpAny_bind (wpAny_seqItems hol hdl ?_)
  simp only [Int.toNat_natCast, hx]
  refine wpAny_bind (wpAny_rule (wpAny_bind (wpAny_setField ho hd (by simp) ?_)))
  show wpAny _ _ (newExc (.type "StopIteration") [] >>= _) _ _ _
  refine wpAny_bind ?_
  simp only [newExc, newTuple]
  refine wpAny_bind (wpAny_newObj_type ?_ (by size_fits))
  refine wpAny_bind (m := firstArgMember _ _) (wpAny_of_eq (a := Value.none) (by first | rfl | (simp only [firstArgMember]; rfl)) ?_)
  refine wpAny_newObj_type ?_ (by size_fits)
  simp only [raiseNew]
  refine wpAny_bind (wpAny_handled ?_)
  first | rw [show A.in1.handled = none from hh] | rw [hh]
  refine wpAny_bind (wpAny_pure (wpAny_throw ?_))
  exact hE _ _ (((Heap.SameBut.update ..).extBut.push _).push _) ⟨_, Heap.get?_push_size _ rfl, rfl⟩
theorem ZZ {M : Model} {α β : Type} {f : α -> β -> Sem (ForInStep β)} (I : Nat -> β -> Shared -> Prop) : ∀ (l : List α) (k : Nat) (b : β) (s : Shared) (Q : β -> Shared -> Prop), I k b s ->
  (∀ j x b s, l[j]? = some x -> I (k + j) b s -> wpAny M A (f x b) (fun r s' => ∃ b', r = .yield b' /\ I (k + j + 1) b' s') E s) -> (∀ b s, I (k + l.length) b s -> Q b s) -> wpAny M A (forIn l b f) Q E s
 | [], k, b, s, Q, h0, _, hd => by
  rw [List.forIn_nil]
  exact wpAny_pure (hd b s h0)
 | x :: l, k, b, s, Q, h0, hs, hd => by
  rw [List.forIn_cons]
  refine wpAny_bind (wpAny_mono (hs 0 x b s rfl h0) (fun r s' ⟨b', e, h1⟩ => ?_) fun _ _ e => e)
  subst e
  refine ZZ I l (k + 1) b' s' Q h1 (fun j y b s e h => ?_) (fun b s h => hd b s ?_)
  ·have e1 : k + 1 + j = k + (j + 1) := by omega
   rw [e1] at h ⊢
   exact hs (j + 1) y b s (by simpa using e) h
  ·have e1 : k + 1 + l.length = k + (x :: l).length := by rw [List.length_cons]; omega
   rw [e1] at h
   exact h
end
abbrev zBg (f0 f1 : Value) (TI TO : Addr) : Obj := { cls := .type "zip", dict := none, data := .fields #[f0, f1, .bool false, .ref TI, .ref TO], slots := #[] }
abbrev Jr (vs : Array Value) : Obj := { cls := .type "tuple", data := .seq vs }
abbrev Qs (qs : List (Bool × Addr × Addr)) : List Addr := qs.map (·.2.1)
structure Zp (h : Heap) (z TI TO : Addr) (qs : List (Bool × Addr × Addr)) (i : Nat) (f0 f1 : Value) : Prop where
 hz : h.get? z = some (zBg f0 f1 TI TO)
 ti : h.get? TI = some (Jr ((Qs qs).map Value.ref).toArray)
 to : ∃ ws : Array Value, ws.size = qs.length /\ h.get? TO = some (Jr ws)
 it : ∀ q ∈ qs, SI q.1 h q.2.1 q.2.2 i
structure Apart (z TI TO : Addr) (qs : List (Bool × Addr × Addr)) : Prop where
 nd : (z :: TI :: TO :: Qs qs).Nodup
 sep : ∀ q ∈ qs, q.2.2 ∉ (z :: TI :: TO :: Qs qs)
 pos : 0 < qs.length
 few : qs.length <= 8
section
variable {prog : Program} {w : World} {A : Around} {E : Value -> Shared -> Prop} {s : Shared} {z TI TO : Addr} {qs : List (Bool × Addr × Addr)} {i : Nat} {f0 f1 : Value}
theorem Apart.zit (D : Apart z TI TO qs) {q} (hq : q ∈ qs) : z ≠ q.2.1 /\ TI ≠ q.2.1 /\ TO ≠ q.2.1 := by
 have nd := D.nd
 rw [List.nodup_cons, List.nodup_cons, List.nodup_cons] at nd
 have m : q.2.1 ∈ Qs qs := List.mem_map.mpr ⟨q, hq, rfl⟩
 refine ⟨fun e => nd.1 ?_, fun e => nd.2.1 ?_, fun e => nd.2.2.1 ?_⟩
 ·rw [e]; simp [m]
 ·rw [e]; simp [m]
 ·rw [e]; exact m
theorem Apart.zz (D : Apart z TI TO qs) : z ≠ TI /\ z ≠ TO /\ TI ≠ TO := by
 have nd := D.nd
 rw [List.nodup_cons, List.nodup_cons, List.nodup_cons] at nd
 refine ⟨fun e => nd.1 ?_, fun e => nd.1 ?_, fun e => nd.2.1 ?_⟩ <;> (rw [e]; simp)
theorem Apart.its (D : Apart z TI TO qs) {j k : Nat} {q r} (hj : qs[j]? = some q) (hk : qs[k]? = some r) (hn : j ≠ k) : q.2.1 ≠ r.2.1 := by
 have nd := D.nd
 rw [List.nodup_cons, List.nodup_cons, List.nodup_cons] at nd
 intro e
 have e1 : (Qs qs)[j]? = some q.2.1 := by rw [List.getElem?_map, hj]; rfl
 have e2 : (Qs qs)[k]? = some q.2.1 := by rw [List.getElem?_map, hk, e]; rfl
 exact hn (nodup_ixA nd.2.2.2 e1 e2)
where
 nodup_ixA {N : List Addr} (hN : N.Nodup) {i j : Nat} {x : Addr} (a : N[i]? = some x) (b : N[j]? = some x) : i = j := by
  obtain ⟨h1, e1⟩ := List.getElem?_eq_some_iff.mp a
  obtain ⟨h2, e2⟩ := List.getElem?_eq_some_iff.mp b
  exact (List.getElem_inj hN).mp (e1.trans e2.symm)
theorem Apart.seq (D : Apart z TI TO qs) {q} (hq : q ∈ qs) : q.2.2 ≠ z /\ q.2.2 ≠ TO /\ ∀ r ∈ qs, q.2.2 ≠ r.2.1 := by
 have n := D.sep q hq
 refine ⟨fun e => n ?_, fun e => n ?_, fun r hr e => n ?_⟩
 ·rw [e]; simp
 ·rw [e]; simp
 ·rw [e]
  have m : r.2.1 ∈ Qs qs := List.mem_map.mpr ⟨r, hr, rfl⟩
  simp [m]
structure Mid (fr : Bool) (h₀ h : Heap) (z TI TO : Addr) (qs : List (Bool × Addr × Addr)) (i k : Nat) (vals : List Value) : Prop where
 hz : ∃ f0 f1, h.get? z = some (zBg f0 f1 TI TO) /\ (fr = false -> f0 = .none \/ ∃ T : Addr, f0 = rawInt T)
 to : ∃ ws : Array Value, ws.size = qs.length /\ h.get? TO = some (Jr ws) /\ (fr = true -> ∀ j, j < k -> ws[j]? = vals[j]?)
 it : ∀ (j : Nat) (q : Bool × Addr × Addr), qs[j]? = some q -> SI q.1 h q.2.1 q.2.2 (if j < k then i + 1 else i)
 sz : h.objs.size = h₀.objs.size
 keep : ∀ c o, c ≠ z -> c ≠ TO -> c ∉ Qs qs -> h₀.get? c = some o -> h.get? c = some o
def Due (h : Heap) (qs : List (Bool × Addr × Addr)) (i : Nat) (vals : List Value) : Prop := vals.length = qs.length /\ ∀ (j : Nat) (q : Bool × Addr × Addr), qs[j]? = some q -> ∃ items x, SQ q.1 h q.2.2 items /\ items[i]? = some x /\ vals[j]? = some x
theorem Mid.drawn {fr : Bool} {h₀ h h2 : Heap} {k : Nat} {vals : List Value} {q : Bool × Addr × Addr} (D : Apart z TI TO qs) (m : Mid fr h₀ h z TI TO qs i k vals) (hq : qs[k]? = some q) (hs : SI q.1 h2 q.2.1 q.2.2 (i + 1)) (hb : Heap.SameBut q.2.1 h h2)
  (hfr : fr = false) : Mid fr h₀ h2 z TI TO qs i (k + 1) vals := by
 have mq := List.mem_of_getElem? hq
 obtain ⟨d1, d2, d3⟩ := D.zit mq
 obtain ⟨f0, f1, hz, hz2⟩ := m.hz
 obtain ⟨ws, w1, w2, w3⟩ := m.to
 refine ⟨⟨f0, f1, hb.extBut _ _ d1 hz, hz2⟩, ⟨ws, w1, hb.extBut _ _ d3 w2, fun e => by rw [hfr] at e; cases e⟩, fun j r hj => ?_, hb.1.trans m.sz, fun c o c1 c2 c3 e => hb.extBut _ _ (fun x => c3 (by rw [x]; exact List.mem_map.mpr ⟨q, mq, rfl⟩)) (m.keep c o c1 c2 c3 e)⟩
 by_cases hjk : j = k
 ·subst hjk
  rw [hq] at hj
  cases hj
  rw [if_pos (Nat.lt_succ_self _)]
  exact hs
 ·have z := m.it j r hj
  have e : (if j < k then i + 1 else i) = (if j < k + 1 then i + 1 else i) := by
   by_cases h : j < k
   ·rw [if_pos h, if_pos (by omega)]
   ·rw [if_neg h, if_neg (by omega)]
  rw [e] at z
  exact z.at fun o x => hb.extBut _ _ (D.its hj hq hjk) x
theorem Mid.kept {h₀ h h2 h3 : Heap} {k : Nat} {vals : List Value} {q : Bool × Addr × Addr} {ws : Array Value} {x : Value} (D : Apart z TI TO qs) (m : Mid true h₀ h z TI TO qs i k vals) (hq : qs[k]? = some q) (hs : SI q.1 h2 q.2.1 q.2.2 (i + 1)) (hb : Heap.SameBut q.2.1 h h2)
  (w1 : ws.size = qs.length) (w3 : ∀ j, j < k -> ws[j]? = vals[j]?) (hx : vals[k]? = some x) (hto : h3.get? TO = some (Jr (ws.setIfInBounds k x))) (hb3 : Heap.SameBut TO h2 h3) : Mid true h₀ h3 z TI TO qs i (k + 1) vals := by
 have mq := List.mem_of_getElem? hq
 obtain ⟨d1, d2, d3⟩ := D.zit mq
 obtain ⟨zi, zo, io⟩ := D.zz
 obtain ⟨f0, f1, hz, hz2⟩ := m.hz
 have hk : k < qs.length := (List.getElem?_eq_some_iff.mp hq).1
 refine ⟨⟨f0, f1, hb3.extBut _ _ zo (hb.extBut _ _ d1 hz), fun e => by cases e⟩, ⟨_, by simp [w1], hto, fun _ j hj => ?_⟩, fun j r hj => ?_, (hb3.1.trans hb.1).trans m.sz,
  fun c o c1 c2 c3 e => hb3.extBut _ _ c2 (hb.extBut _ _ (fun x => c3 (by rw [x]; exact List.mem_map.mpr ⟨q, mq, rfl⟩)) (m.keep c o c1 c2 c3 e))⟩
 ·by_cases hjk : j = k
  ·subst hjk
   rw [hx]
   simp [w1, hk]
  ·rw [Array.getElem?_setIfInBounds, if_neg (Ne.symm hjk)]
   exact w3 j (by omega)
 ·have mr := List.mem_of_getElem? hj
  obtain ⟨r1, r2, r3⟩ := D.zit mr
  by_cases hjk : j = k
  ·subst hjk
   rw [hq] at hj
   cases hj
   rw [if_pos (Nat.lt_succ_self _)]
   exact hs.at fun o x => hb3.extBut _ _ (Ne.symm r3) x
  ·have z := m.it j r hj
   have e : (if j < k then i + 1 else i) = (if j < k + 1 then i + 1 else i) := by
    by_cases h : j < k
    ·rw [if_pos h, if_pos (by omega)]
    ·rw [if_neg h, if_neg (by omega)]
   rw [e] at z
   exact z.at fun o x => hb3.extBut _ _ (Ne.symm r3) (hb.extBut _ _ (D.its hj hq hjk) x)
theorem zHJ {n : Nat} (h : n <= 8) : n <= sizeLine := Nat.le_trans h (by decide)
theorem zH3 {vals : List Value} {Q : Value -> Shared -> Prop} (D : Apart z TI TO qs) (Z : Zp s.heap z TI TO qs i f0 f1) (hf : f0 = .none \/ ∃ T : Addr, f0 = rawInt T) (hv : Due s.heap qs i vals)
  (hQ : ∀ h' g0 g1, Zp h' z TI TO qs (i + 1) g0 g1 -> (g0 = .none \/ ∃ T : Addr, g0 = rawInt T) -> h'.get? s.heap.objs.size = some (Jr vals.toArray) -> h'.objs.size = s.heap.objs.size + 1 ->
   (∀ c o, c ≠ z -> c ≠ TO -> c ∉ Qs qs -> s.heap.get? c = some o -> h'.get? c = some o) -> Q (.ref s.heap.objs.size) { s with heap := h' }) :
  wpAny (model prog w) A (Builtin.«zip.__next__» ⟨[.ref z], []⟩) (fun fin s' => ∃ v, fin = .done (.ret v) /\ Q v s') E s := by
 obtain ⟨hl, hv⟩ := hv
 obtain ⟨zi, zo, io⟩ := D.zz
 have tin : TI ∉ Qs qs := fun m => by
  obtain ⟨q, hq, e⟩ := List.mem_map.mp m
  exact (D.zit hq).2.1 e.symm
 have sq : ∀ {c : Nat} {q} {h : Heap} {k : Nat} {fr : Bool}, qs[c]? = some q -> Mid fr s.heap h z TI TO qs i k vals -> ∃ items x, SQ q.1 h q.2.2 items /\ items[i]? = some x /\ vals[c]? = some x := fun {c q h k fr} e m => by
  obtain ⟨items, x, a, b, d⟩ := hv c q e
  obtain ⟨e1, e2, e3⟩ := D.seq (List.mem_of_getElem? e)
  refine ⟨items, x, a.at fun o y => m.keep _ o e1 e2 (fun mm => ?_) y, b, d⟩
  obtain ⟨r, hr, er⟩ := List.mem_map.mp mm
  exact e3 r hr er.symm
 have alls : qs.length <= sizeLine := zHJ D.few
 have gets : ∀ {j : Nat} {v : Value}, ((Qs qs).map Value.ref)[j]? = some v -> ∃ q, qs[j]? = some q /\ v = .ref q.2.1 := fun {j v} e => by
  rw [List.getElem?_map, List.getElem?_map] at e
  cases q : qs[j]? with
  | none => rw [q] at e; cases e
  | some r => rw [q] at e; simp at e; exact ⟨r, rfl, e.symm⟩
 show wpAny _ _ (field (.ref z) 2 >>= _) _ _ _
 refine wpAny_bind (wpAny_field Z.hz rfl (x := .bool false) rfl ?_)
 show wpAny _ _ (field (.ref z) 3 >>= _) _ _ _
 refine wpAny_bind (wpAny_field Z.hz rfl (x := .ref TI) rfl ?_)
 refine wpAny_bind (wpAny_seqItems Z.ti rfl ?_)
 show wpAny _ _ (if (((Qs qs).map Value.ref).toArray.isEmpty) = true then _ else _) _ _ _
 rw [if_neg (by
  have := D.pos
  simp
  intro e
  rw [e] at this
  simp at this)]
 show wpAny _ _ (Builtin.SmallTypes.ownedTupleIsFree (.ref z) >>= _) _ _ _
 refine wpAny_bind (wpAny_mono (Q := fun b s1 => (b = true /\ s1 = s) \/ (b = false /\ ∃ h1 g1, s1 = { s with heap := h1 } /\ h1.get? z = some (zBg f0 g1 TI TO) /\ Heap.SameBut z s.heap h1)) ?look (fun b s1 hb => ?_) (fun _ _ e => e))
 case look =>
  unfold Builtin.SmallTypes.ownedTupleIsFree
  refine wpAny_bind (wpAny_field Z.hz rfl (x := f0) rfl ?_)
  rcases hf with rfl | ⟨T, rfl⟩
  ·exact wpAny_pure (.inl ⟨rfl, rfl⟩)
  ·show wpAny _ _ (loadIfAlive (Int.toNat (T : Int)) >>= _) _ _ _
   refine wpAny_bind (Zn ?_)
   cases s.heap.get? (Int.toNat (T : Int)) with
   | none => exact wpAny_pure (.inl ⟨rfl, rfl⟩)
   | some o =>
    show wpAny _ _ (field (.ref z) 1 >>= _) _ _ _
    refine wpAny_bind (wpAny_field Z.hz rfl (x := f1) rfl ?_)
    by_cases hb : (f1 != Value.bool true) = true
    ·rw [if_pos hb]
     refine wpAny_bind (wpAny_setField_rec Z.hz (by simp) fun h1 hz1 hs1 => wpAny_pure (.inr ⟨rfl, h1, .bool true, rfl, hz1, hs1⟩))
    ·rw [if_neg hb]
     exact wpAny_pure (.inr ⟨rfl, s.heap, f1, rfl, Z.hz, rfl, fun _ _ => rfl⟩)
 rcases hb with ⟨rfl, rfl⟩ | ⟨rfl, h1, g1, rfl, hz1, hs1⟩
 ·-- the tuple kept is free
  rw [if_pos rfl]
  refine wpAny_bind (wpAny_rule ?_)
  refine wpAny_bind (wpAny_field Z.hz rfl (x := .ref TO) rfl ?_)
  refine wpAny_bind (wpAny_setField_rec Z.hz (by simp) fun h1 hz1 hs1 => ?_)
  have m0 : Mid true s1.heap h1 z TI TO qs i 0 vals := by
   obtain ⟨ws, w1, w2⟩ := Z.to
   refine ⟨⟨_, _, hz1, fun e => by cases e⟩, ⟨ws, w1, hs1.extBut _ _ (Ne.symm zo) w2, fun _ j hj => absurd hj (Nat.not_lt_zero _)⟩, fun j q hj => ?_, hs1.1, fun c o c1 _ _ e => hs1.extBut _ _ c1 e⟩
   have mq := List.mem_of_getElem? hj
   rw [if_neg (Nat.not_lt_zero _)]
   exact (Z.it q mq).at fun o e => hs1.extBut _ _ (Ne.symm (D.zit mq).1) e
  refine wpAny_bind (ZZ (fun k b s' => b = (none, ()) /\ ∃ h, s' = { s1 with heap := h } /\ Mid true s1.heap h z TI TO qs i k vals) _ 0 _ _ _ ⟨rfl, h1, rfl, m0⟩ (fun j x b s' hx hI => ?_) (fun b s' hI => ?_))
  ·obtain ⟨rfl, h, rfl, m⟩ := hI
   rw [Nat.zero_add] at m ⊢
   have hx2 : ∃ q, qs[j]? = some q /\ x = (Value.ref q.2.1, j) := by
    rw [List.getElem?_zipIdx, List.toList_toArray] at hx
    cases e : ((Qs qs).map Value.ref)[j]? with
    | none => rw [e] at hx; cases hx
    | some v =>
     rw [e] at hx
     obtain ⟨q, hq, rfl⟩ := gets e
     simp at hx
     exact ⟨q, hq, hx.symm⟩
   obtain ⟨q, hq, rfl⟩ := hx2
   obtain ⟨items, y, hs, hy, hvy⟩ := sq hq m
   have hit := m.it j q hq
   rw [if_neg (Nat.lt_irrefl _)] at hit
   refine wpAny_bind (wpAny_onRaise ?_)
   show wpAny _ _ (Builtin.SmallTypes.nextOf (.ref q.2.1) >>= _) _ _ _
   refine wpAny_bind (J8 hit hs hy fun h2 hit2 hb2 => wpAny_pure ?_)
   obtain ⟨ws, w1, w2, w3⟩ := m.to
   have w2' := hb2.extBut _ _ (D.zit (List.mem_of_getElem? hq)).2.2 w2
   refine wpAny_bind (wpAny_seqItems w2' rfl ?_)
   refine wpAny_bind (wpAny_updateSeq w2' rfl ?_ (by rw [w1]; exact alls) (by rw [Array.size_setIfInBounds, w1]; exact Nat.le_succ_of_le alls))
   refine wpAny_bind (wpAny_letGo (wpAny_pure ⟨_, rfl, rfl, _, rfl, m.kept D hq hit2 hb2 w1 (w3 rfl) hvy ?_ (Heap.SameBut.update ..)⟩))
   rw [Heap.get?_update_self _ w2' rfl]
   simp [Obj.mapSeq]
  ·obtain ⟨rfl, h, rfl, m⟩ := hI
   rw [Nat.zero_add, List.length_zipIdx, List.toList_toArray, List.length_map, List.length_map] at m
   obtain ⟨ws, w1, w2, w3⟩ := m.to
   have ew : ws.toList = vals := by
    refine List.ext_getElem? fun j => ?_
    by_cases hj : j < qs.length
    ·rw [Array.getElem?_toList]; exact w3 rfl j hj
    ·rw [List.getElem?_eq_none (by simp; omega), List.getElem?_eq_none (by omega)]
   show wpAny _ _ (seqItems? (.ref TO) >>= _) _ _ _
   refine wpAny_bind (wpAny_seqItems w2 rfl ?_)
   show wpAny _ _ (newTuple ws.toList >>= _) _ _ _
   rw [ew]
   refine wpAny_bind (wpAny_newTuple ?_ (by rw [hl]; exact alls))
   show wpAny _ _ (Builtin.SmallTypes.ownedTupleHandOut (.ref z) (.ref h.objs.size) >>= _) _ _ _
   refine wpAny_bind ?_
   unfold Builtin.SmallTypes.ownedTupleHandOut
   obtain ⟨g0, g1, hz5, _⟩ := m.hz
   have hzlt : z < h.objs.size := Heap.lt_size hz5
   have hz6 : (h.push { cls := .type "tuple", data := .seq vals.toArray }).get? z = some (zBg g0 g1 TI TO) := Heap.get?_push_of_some _ hz5
   refine wpAny_bind (wpAny_setField_rec hz6 (by simp) fun h7 hz7 hs7 => ?_)
   refine wpAny_setField_rec hz7 (by simp) fun h8 hz8 hs8 => ?_
   have up : ∀ c o, c ≠ z -> h.get? c = some o -> h8.get? c = some o := fun c o c1 e => hs8.extBut _ _ c1 (hs7.extBut _ _ c1 (Heap.get?_push_of_some _ e))
   have hT8 : h8.get? h.objs.size = some (Jr vals.toArray) := hs8.extBut _ _ (Nat.ne_of_gt hzlt) (hs7.extBut _ _ (Nat.ne_of_gt hzlt) (Heap.get?_push_size _ rfl))
   have h8s : h8.objs.size = h.objs.size + 1 := by rw [hs8.1, hs7.1, Heap.size_push]
   have hsz := m.sz
   refine wpAny_pure ⟨_, rfl, ?_⟩
   show Q (.ref h.objs.size) _
   rw [hsz] at hT8 h8s ⊢
   refine hQ h8 (rawInt h.objs.size) (.bool false) ⟨hz8, up _ _ (Ne.symm zi) (m.keep _ _ (Ne.symm zi) io tin Z.ti), ⟨ws, w1, up _ _ (Ne.symm zo) w2⟩, fun q hq => ?_⟩ (.inr ⟨_, rfl⟩) hT8 h8s fun c o c1 c2 c3 e => up c o c1 (m.keep c o c1 c2 c3 e)
   obtain ⟨j, hj⟩ := List.mem_iff_getElem?.mp hq
   have z9 := m.it j q hj
   rw [if_pos (List.getElem?_eq_some_iff.mp hj).1] at z9
   exact z9.at fun o e => up _ o (Ne.symm (D.zit hq).1) e
 ·-- it is held
  rw [if_neg (by decide)]
  have m0 : Mid false s.heap h1 z TI TO qs i 0 vals := by
   obtain ⟨ws, w1, w2⟩ := Z.to
   refine ⟨⟨_, _, hz1, fun _ => hf⟩, ⟨ws, w1, hs1.extBut _ _ (Ne.symm zo) w2, fun e => by cases e⟩, fun j q hj => ?_, hs1.1, fun c o c1 _ _ e => hs1.extBut _ _ c1 e⟩
   have mq := List.mem_of_getElem? hj
   rw [if_neg (Nat.not_lt_zero _)]
   exact (Z.it q mq).at fun o e => hs1.extBut _ _ (Ne.symm (D.zit mq).1) e
  show wpAny _ _ (forIn ((Qs qs).map Value.ref).toArray (none, #[]) _ >>= _) _ _ _
  rw [← Array.forIn_toList]
  refine wpAny_bind (ZZ (fun k b s' => b = (none, (vals.take k).toArray) /\ ∃ h, s' = { s with heap := h } /\ Mid false s.heap h z TI TO qs i k vals) _ 0 _ _ _ ⟨rfl, h1, rfl, m0⟩ (fun j x b s' hx hI => ?_) (fun b s' hI => ?_))
  ·obtain ⟨rfl, h, rfl, m⟩ := hI
   rw [Nat.zero_add] at m ⊢
   rw [List.toList_toArray] at hx
   obtain ⟨q, hq, rfl⟩ := gets hx
   obtain ⟨items, y, hs, hy, hvy⟩ := sq hq m
   have hit := m.it j q hq
   rw [if_neg (Nat.lt_irrefl _)] at hit
   refine wpAny_bind (wpAny_holding ?_)
   show wpAny _ _ (Builtin.SmallTypes.nextOf (.ref q.2.1) >>= _) _ _ _
   refine wpAny_bind (J8 hit hs hy fun h2 hit2 hb2 => wpAny_pure ?_)
   refine wpAny_pure ⟨_, rfl, ?_, _, rfl, m.drawn D hq hit2 hb2 rfl⟩
   rw [List.take_add_one, hvy]
   simp
  ·obtain ⟨rfl, h, rfl, m⟩ := hI
   rw [Nat.zero_add, List.toList_toArray, List.length_map, List.length_map] at m ⊢
   rw [List.take_of_length_le (by omega)]
   show wpAny _ _ (newTuple (vals.toArray.toList) >>= _) _ _ _
   rw [List.toList_toArray]
   refine wpAny_bind (wpAny_newTuple ?_ (by rw [hl]; exact alls))
   refine wpAny_pure ⟨_, rfl, ?_⟩
   obtain ⟨g0, g2, hz5, hg⟩ := m.hz
   obtain ⟨ws, w1, w2, w3⟩ := m.to
   have up : ∀ c o, h.get? c = some o -> (h.push { cls := .type "tuple", data := .seq vals.toArray }).get? c = some o := fun c o e => Heap.get?_push_of_some _ e
   have hT8 : (h.push { cls := .type "tuple", data := .seq vals.toArray }).get? h.objs.size = some (Jr vals.toArray) := Heap.get?_push_size _ rfl
   have h8s : (h.push { cls := .type "tuple", data := .seq vals.toArray }).objs.size = h.objs.size + 1 := Heap.size_push ..
   have hsz := m.sz
   show Q (.ref h.objs.size) _
   rw [hsz] at hT8 h8s ⊢
   refine hQ _ g0 g2 ⟨up _ _ hz5, up _ _ (m.keep _ _ (Ne.symm zi) io tin Z.ti), ⟨ws, w1, up _ _ w2⟩, fun q hq => ?_⟩ (hg rfl) hT8 h8s fun c o c1 c2 c3 e => up c o (m.keep c o c1 c2 c3 e)
   obtain ⟨j, hj⟩ := List.mem_iff_getElem?.mp hq
   have z9 := m.it j q hj
   rw [if_pos (List.getElem?_eq_some_iff.mp hj).1] at z9
   exact z9.at fun o e => up _ o e
theorem zJi {q : Bool × Addr × Addr} {qr : List (Bool × Addr × Addr)} {items : Array Value} {Q : Fin -> Shared -> Prop} (hh : A.handled = none) (D : Apart z TI TO (q :: qr)) (Z : Zp s.heap z TI TO (q :: qr) i f0 f1) (hf : f0 = .none \/ ∃ T : Addr, f0 = rawInt T)
  (hs : SQ q.1 s.heap q.2.2 items) (hx : items[i]? = none)
  (hE : ∀ h' e, (∀ c o, c ≠ z -> c ∉ Qs (q :: qr) -> s.heap.get? c = some o -> h'.get? c = some o) -> (∃ o, h'.get? e = some o /\ o.cls = .type "StopIteration") -> E (.ref e) { s with heap := h' }) :
  wpAny (model prog w) A (Builtin.«zip.__next__» ⟨[.ref z], []⟩) Q E s := by
 have mq : q ∈ q :: qr := List.mem_cons_self
 have qz := (D.zit mq).1
 have lz := (D.seq mq).1
 have notin : ∀ {c : Addr}, c ∉ Qs (q :: qr) -> c ≠ q.2.1 := fun {c} h e => h (by rw [e]; exact List.mem_map.mpr ⟨q, mq, rfl⟩)
 show wpAny _ _ (field (.ref z) 2 >>= _) _ _ _
 refine wpAny_bind (wpAny_field Z.hz rfl (x := .bool false) rfl ?_)
 show wpAny _ _ (field (.ref z) 3 >>= _) _ _ _
 refine wpAny_bind (wpAny_field Z.hz rfl (x := .ref TI) rfl ?_)
 refine wpAny_bind (wpAny_seqItems Z.ti rfl ?_)
 show wpAny _ _ (if (((Qs (q :: qr)).map Value.ref).toArray.isEmpty) = true then _ else _) _ _ _
 rw [if_neg (by simp)]
 show wpAny _ _ (Builtin.SmallTypes.ownedTupleIsFree (.ref z) >>= _) _ _ _
 refine wpAny_bind (wpAny_mono (Q := fun b s1 => (b = true /\ s1 = s) \/ (b = false /\ ∃ h1 g1, s1 = { s with heap := h1 } /\ h1.get? z = some (zBg f0 g1 TI TO) /\ Heap.SameBut z s.heap h1)) ?look (fun b s1 hb => ?_) (fun _ _ e => e))
 case look =>
  unfold Builtin.SmallTypes.ownedTupleIsFree
  refine wpAny_bind (wpAny_field Z.hz rfl (x := f0) rfl ?_)
  rcases hf with rfl | ⟨T, rfl⟩
  ·exact wpAny_pure (.inl ⟨rfl, rfl⟩)
  ·show wpAny _ _ (loadIfAlive (Int.toNat (T : Int)) >>= _) _ _ _
   refine wpAny_bind (Zn ?_)
   cases s.heap.get? (Int.toNat (T : Int)) with
   | none => exact wpAny_pure (.inl ⟨rfl, rfl⟩)
   | some o =>
    show wpAny _ _ (field (.ref z) 1 >>= _) _ _ _
    refine wpAny_bind (wpAny_field Z.hz rfl (x := f1) rfl ?_)
    by_cases hb : (f1 != Value.bool true) = true
    ·rw [if_pos hb]
     refine wpAny_bind (wpAny_setField_rec Z.hz (by simp) fun h1 hz1 hs1 => wpAny_pure (.inr ⟨rfl, h1, .bool true, rfl, hz1, hs1⟩))
    ·rw [if_neg hb]
     exact wpAny_pure (.inr ⟨rfl, s.heap, f1, rfl, Z.hz, rfl, fun _ _ => rfl⟩)
 rcases hb with ⟨rfl, rfl⟩ | ⟨rfl, h1, g1, rfl, hz1, hs1⟩
 ·rw [if_pos rfl]
  refine wpAny_bind (wpAny_rule ?_)
  refine wpAny_bind (wpAny_field Z.hz rfl (x := .ref TO) rfl ?_)
  refine wpAny_bind (wpAny_setField_rec Z.hz (by simp) fun h1 hz1 hs1 => ?_)
  refine wpAny_bind ?_
  rw [List.toList_toArray]
  simp only [Qs, List.map_cons, List.zipIdx_cons, List.forIn_cons]
  refine wpAny_bind (wpAny_bind (wpAny_onRaise ?_))
  show wpAny _ _ (Builtin.SmallTypes.nextOf (.ref q.2.1) >>= _) _ _ _
  refine wpAny_bind (zBH hh ((Z.it q mq).at fun o e => hs1.extBut _ _ (Ne.symm qz) e) (hs.at fun o e => hs1.extBut _ _ lz e) hx fun h2 e hs2 he => ?_)
  obtain ⟨oe, hoe, hce⟩ := he
  have hz2 := hs2 _ _ qz hz1
  have hez : e ≠ z := fun x => by subst x; rw [hz2] at hoe; cases hoe; simp at hce
  exact wpAny_setField_rec hz2 (by simp) fun h3 _ hs3 => hE h3 e (fun c o c1 c2 x => hs3.extBut _ _ c1 (hs2 _ _ (notin c2) (hs1.extBut _ _ c1 x))) ⟨oe, hs3.extBut _ _ hez hoe, hce⟩
 ·rw [if_neg (by decide)]
  show wpAny _ _ (forIn ((Qs (q :: qr)).map Value.ref).toArray (none, #[]) _ >>= _) _ _ _
  rw [← Array.forIn_toList, List.toList_toArray]
  refine wpAny_bind ?_
  simp only [Qs, List.map_cons, List.forIn_cons]
  refine wpAny_bind (wpAny_bind (wpAny_holding ?_))
  show wpAny _ _ (Builtin.SmallTypes.nextOf (.ref q.2.1) >>= _) _ _ _
  exact wpAny_bind (zBH hh ((Z.it q mq).at fun o e => hs1.extBut _ _ (Ne.symm qz) e) (hs.at fun o e => hs1.extBut _ _ lz e) hx fun h2 e hs2 he => hE h2 e (fun c o c1 c2 x => hs2 _ _ (notin c2) (hs1.extBut _ _ c1 x)) he)
theorem zAP {vals : List Value} {Q : Option Value -> Shared -> Prop} (D : Apart z TI TO qs) (Z : Zp s.heap z TI TO qs i f0 f1) (hf : f0 = .none \/ ∃ T : Addr, f0 = rawInt T) (hv : Due s.heap qs i vals)
  (hQ : ∀ h' g0 g1, Zp h' z TI TO qs (i + 1) g0 g1 -> (g0 = .none \/ ∃ T : Addr, g0 = rawInt T) -> h'.get? s.heap.objs.size = some (Jr vals.toArray) -> h'.objs.size = s.heap.objs.size + 1 ->
   (∀ c o, c ≠ z -> c ≠ TO -> c ∉ Qs qs -> s.heap.get? c = some o -> h'.get? c = some o) -> Q (some (.ref s.heap.objs.size)) { s with heap := h' }) :
  wpAny (model prog w) A (pyNext (.ref z)) Q E s := by
 have hT : s.TypeIs (.ref z) "zip" := ⟨_, Z.hz, rfl⟩
 unfold pyNext
 exact wpAny_bind (wpAny_attempt (wpAny_callSpecial?_slot (name := Str.ofString "__next__") hT F.slot_zip_next
  (wpAny_call_entry F.slot_zip_next hT F.entry_zip_next
   (zH3 D Z hf hv fun h' g0 g1 a1 a2 a3 a4 a5 => wpAny_pure (hQ h' g0 g1 a1 a2 a3 a4 a5)) (F.args_zip_next_1 _))))
theorem zA4 {q : Bool × Addr × Addr} {qr : List (Bool × Addr × Addr)} {items : Array Value} {Q : Option Value -> Shared -> Prop} (hh : A.handled = none) (D : Apart z TI TO (q :: qr)) (Z : Zp s.heap z TI TO (q :: qr) i f0 f1) (hf : f0 = .none \/ ∃ T : Addr, f0 = rawInt T)
  (hs : SQ q.1 s.heap q.2.2 items) (hx : items[i]? = none)
  (hQ : ∀ h', (∀ c o, c ≠ z -> c ∉ Qs (q :: qr) -> s.heap.get? c = some o -> h'.get? c = some o) -> Q none { s with heap := h' }) : wpAny (model prog w) A (pyNext (.ref z)) Q E s := by
 have hT : s.TypeIs (.ref z) "zip" := ⟨_, Z.hz, rfl⟩
 unfold pyNext
 refine wpAny_bind (wpAny_attempt (wpAny_callSpecial?_slot (name := Str.ofString "__next__") hT F.slot_zip_next
  (wpAny_call_entry F.slot_zip_next hT F.entry_zip_next (zJi hh D Z hf hs hx fun h' e hk he => ?_) (F.args_zip_next_1 _))))
 obtain ⟨o, ho, hc⟩ := he
 refine wpAny_bind (wpAny_isInstance (T := "StopIteration") (b := true) ⟨o, ho, hc⟩ isSubtype_stop ?_)
 exact wpAny_pure (hQ _ hk)
theorem Wg {Q : Value -> Shared -> Prop} (hz : s.heap.get? z = some (zBg f0 f1 TI TO)) (h : Q (.ref z) s) : wpAny (model prog w) A (pyIter (.ref z)) Q E s := by
 have hT : s.TypeIs (.ref z) "zip" := ⟨_, hz, rfl⟩
 refine wpAny_pyIter_slot hT F.slot_zip_iter (wpAny_call_entry F.slot_zip_iter hT F.entry_zip_iter ?_ (F.args_zip_iter_1 _))
 show wpAny _ _ (ret (.ref z)) _ _ s
 exact wpAny_pure ⟨_, rfl, "zip", _, hT, F.slot_zip_next.lookup, h⟩
theorem zLg {tg : Expr} {u : Value} {Q : Unit -> Shared -> Prop} (hz : s.heap.get? z = some (zBg f0 f1 TI TO)) (hQ : ∀ h' g0, (g0 = f0 \/ g0 = .none) -> h'.get? z = some (zBg g0 f1 TI TO) -> Heap.SameBut z s.heap h' -> Q () { s with heap := h' }) :
  wpAny (model prog w) A (letOwnedTupleGo tg (.ref z) u) Q E s := by
 have same : Q () s := hQ s.heap f0 (.inl rfl) hz ⟨rfl, fun _ _ => rfl⟩
 unfold letOwnedTupleGo
 cases tg <;> first
  | exact wpAny_pure same
  | (cases u <;> first
    | exact wpAny_pure same
    | (refine wpAny_bind (wpAny_load hz ?_)
       show wpAny _ _ (if (["enumerate", "zip", "dict_itemiterator", "dict_reverseitemiterator", "odict_iterator", "itertools.zip_longest", "itertools.pairwise"].contains "zip" && (#[f0, f1, Value.bool false, .ref TI, .ref TO] : Array Value)[0]? == some (rawInt _)) = true then _ else _) Q E s
       split
       . refine wpAny_bind (wpAny_rule ?_)
         show wpAny _ _ (setField (.ref z) 0 .none) Q E s
         exact wpAny_setField_rec hz (by simp) fun h' hz' hs' => hQ h' .none (.inr rfl) hz' hs'
       . exact wpAny_pure same))
end
end L2
namespace L2
open PySem PySem.Spec PyProof.Rows
theorem zBq (a b c : Value) : checkTypeCall "zip" ⟨[a, b, c], []⟩ = pure () := by kernel_rfl
theorem zCa (a b c : Value) : checkBuiltinCall "zip.__new__" ⟨[.type "zip", a, b, c], []⟩ = pure () := by kernel_rfl
theorem zBp (a b c d : Value) : argsOk "object.__init__" ⟨[a, b, c, d], []⟩ := by
 unfold argsOk; rw [signature?_of (id := "object.__init__") (n := ['_', '_', 't', 'i', 'n', 'i', '_', '_']) (o := ['t', 'c', 'e', 'j', 'b', 'o']) (by kernel_rfl) F.owner_object]; kernel_rfl
abbrev itO (b : Bool) (a : Addr) : Obj := { cls := .type (itT b), data := .fields #[.ref a, .int 0 0] }
theorem SI.new {b : Bool} {h : Heap} {it a : Addr} (e : h.get? it = some (itO b a)) : SI b h it a 0 := by
 cases b with
 | true => exact ⟨_, e, rfl, rfl⟩
 | false => exact ⟨_, e, rfl, rfl⟩
abbrev zh1 (h : Heap) (b1 : Bool) (l1 : Addr) : Heap := h.push (itO b1 l1)
abbrev zh2 (h : Heap) (b1 b2 : Bool) (l1 l2 : Addr) : Heap := (zh1 h b1 l1).push (itO b2 l2)
abbrev zh3 (h : Heap) (b1 b2 b3 : Bool) (l1 l2 l3 : Addr) : Heap := (zh2 h b1 b2 l1 l2).push (itO b3 l3)
abbrev zt2 (h : Heap) (b1 b2 : Bool) (l1 l2 : Addr) : Heap := (zh2 h b1 b2 l1 l2).push (Jr #[.ref h.objs.size, .ref (zh1 h b1 l1).objs.size])
abbrev zo2 (h : Heap) (b1 b2 : Bool) (l1 l2 : Addr) : Heap := (zt2 h b1 b2 l1 l2).push (Jr #[.none, .none])
abbrev zz2 (h : Heap) (b1 b2 : Bool) (l1 l2 : Addr) : Heap := (zo2 h b1 b2 l1 l2).push (zBg .none (.bool false) (zh2 h b1 b2 l1 l2).objs.size (zt2 h b1 b2 l1 l2).objs.size)
abbrev zt3 (h : Heap) (b1 b2 b3 : Bool) (l1 l2 l3 : Addr) : Heap := (zh3 h b1 b2 b3 l1 l2 l3).push (Jr #[.ref h.objs.size, .ref (zh1 h b1 l1).objs.size, .ref (zh2 h b1 b2 l1 l2).objs.size])
abbrev zo3 (h : Heap) (b1 b2 b3 : Bool) (l1 l2 l3 : Addr) : Heap := (zt3 h b1 b2 b3 l1 l2 l3).push (Jr #[.none, .none, .none])
abbrev zz3 (h : Heap) (b1 b2 b3 : Bool) (l1 l2 l3 : Addr) : Heap := (zo3 h b1 b2 b3 l1 l2 l3).push (zBg .none (.bool false) (zh3 h b1 b2 b3 l1 l2 l3).objs.size (zt3 h b1 b2 b3 l1 l2 l3).objs.size)
theorem zEk (b1 b2 : Bool) (l1 l2 : Addr) (xs ys : Array Value) :
  Meets (Builtin.«zip.__new__» ⟨[.type "zip", .ref l1, .ref l2], []⟩) (fun _ R s => SQ b1 s.heap l1 xs /\ SQ b2 s.heap l2 ys /\ R (.ok (.ret (.ref (zo2 s.heap b1 b2 l1 l2).objs.size))) { s with heap := zz2 s.heap b1 b2 l1 l2 }) :=
 .of_wp fun prog w A R s h => by
  obtain ⟨hp, g, d, tk, os⟩ := s; obtain ⟨hl1, hl2, h⟩ := h
  have hsub := sub_zip
  have hL1 : SQ b1 (Shared.heap ⟨hp, g, d, tk, os⟩) l1 xs := hl1
  have hL2 : SQ b2 (Shared.heap ⟨hp.push (itO b1 l1), g, d, tk, os⟩) l2 ys := hl2.at fun o e => Heap.get?_push_of_some _ e
  wp_walk using Ys hL1, Ys hL2
  exact ⟨_, rfl, h⟩
theorem zEX (b1 b2 b3 : Bool) (l1 l2 l3 : Addr) (xs ys zs : Array Value) :
  Meets (Builtin.«zip.__new__» ⟨[.type "zip", .ref l1, .ref l2, .ref l3], []⟩) (fun _ R s => SQ b1 s.heap l1 xs /\ SQ b2 s.heap l2 ys /\ SQ b3 s.heap l3 zs /\ R (.ok (.ret (.ref (zo3 s.heap b1 b2 b3 l1 l2 l3).objs.size))) { s with heap := zz3 s.heap b1 b2 b3 l1 l2 l3 }) :=
 .of_wp fun prog w A R s h => by
  obtain ⟨hp, g, d, tk, os⟩ := s; obtain ⟨hl1, hl2, hl3, h⟩ := h
  have hsub := sub_zip
  have hL1 : SQ b1 (Shared.heap ⟨hp, g, d, tk, os⟩) l1 xs := hl1
  have hL2 : SQ b2 (Shared.heap ⟨hp.push (itO b1 l1), g, d, tk, os⟩) l2 ys := hl2.at fun o e => Heap.get?_push_of_some _ e
  have hL3 : SQ b3 (Shared.heap ⟨(hp.push (itO b1 l1)).push (itO b2 l2), g, d, tk, os⟩) l3 zs := hl3.at fun o e => Heap.get?_push_of_some _ (Heap.get?_push_of_some _ e)
  wp_walk using Ys hL1, Ys hL2, Ys hL3
  exact ⟨_, rfl, h⟩
section
variable {prog : Program} {w : World} {A : Around} {E : Value -> Shared -> Prop} {s : Shared}
theorem zGA {b1 b2 : Bool} {l1 l2 : Addr} {xs ys : Array Value} {Q : Value -> Shared -> Prop} (hl1 : SQ b1 s.heap l1 xs) (hl2 : SQ b2 s.heap l2 ys)
  (h : ∀ h', Zp h' (s.heap.objs.size + 4) (s.heap.objs.size + 2) (s.heap.objs.size + 3) [(b1, s.heap.objs.size, l1), (b2, s.heap.objs.size + 1, l2)] 0 .none (.bool false) ->
   (∀ c o, s.heap.get? c = some o -> h'.get? c = some o) -> Q (.ref (s.heap.objs.size + 4)) { s with heap := h' }) :
  wpAny (model prog w) A (call (.type "zip") [.ref l1, .ref l2]) Q E s := by
 refine callType_new F.called_zip (by decide) (F.typeCall_zip_2 _ _) (F.newCall_zip_2 _ _) (fun obj => F.args_object_init_3 obj _ _) F.entry_zip_new
  (zEk b1 b2 l1 l2 xs ys) ⟨hl1, hl2, ?_⟩
 have z1 : (zh1 s.heap b1 l1).objs.size = s.heap.objs.size + 1 := Heap.size_push ..
 have z2 : (zh2 s.heap b1 b2 l1 l2).objs.size = s.heap.objs.size + 2 := by rw [Heap.size_push, z1]
 have z3 : (zt2 s.heap b1 b2 l1 l2).objs.size = s.heap.objs.size + 3 := by rw [Heap.size_push, z2]
 have z4 : (zo2 s.heap b1 b2 l1 l2).objs.size = s.heap.objs.size + 4 := by rw [Heap.size_push, z3]
 have g5 : (zz2 s.heap b1 b2 l1 l2).get? (zo2 s.heap b1 b2 l1 l2).objs.size = some _ := Heap.get?_push_size _ rfl
 have g4 : (zz2 s.heap b1 b2 l1 l2).get? (zt2 s.heap b1 b2 l1 l2).objs.size = some _ := Heap.get?_push_of_some _ (Heap.get?_push_size _ rfl)
 have g3 : (zz2 s.heap b1 b2 l1 l2).get? (zh2 s.heap b1 b2 l1 l2).objs.size = some _ := Heap.get?_push_of_some _ (Heap.get?_push_of_some _ (Heap.get?_push_size _ rfl))
 have g2 : (zz2 s.heap b1 b2 l1 l2).get? (zh1 s.heap b1 l1).objs.size = some (itO b2 l2) := Heap.get?_push_of_some _ (Heap.get?_push_of_some _ (Heap.get?_push_of_some _ (Heap.get?_push_size _ rfl)))
 have g1 : (zz2 s.heap b1 b2 l1 l2).get? s.heap.objs.size = some (itO b1 l1) := Heap.get?_push_of_some _ (Heap.get?_push_of_some _ (Heap.get?_push_of_some _ (Heap.get?_push_of_some _ (Heap.get?_push_size _ rfl))))
 show _ /\ _
 rw [z2, z3, z4] at g5
 rw [z1, z2] at g3
 rw [z3] at g4
 rw [z1] at g2
 rw [z4]
 refine ⟨⟨_, g5, rfl⟩, h _ ⟨g5, g3, ⟨_, rfl, g4⟩, fun q hq => ?_⟩ fun c o x => ?_⟩
 ·rcases List.mem_cons.mp hq with rfl | hq
  ·exact .new g1
  ·rw [List.mem_singleton.mp hq]; exact .new g2
 ·exact Heap.get?_push_of_some _ (Heap.get?_push_of_some _ (Heap.get?_push_of_some _ (Heap.get?_push_of_some _ (Heap.get?_push_of_some _ x))))
theorem zGK {b1 b2 b3 : Bool} {l1 l2 l3 : Addr} {xs ys zs : Array Value} {Q : Value -> Shared -> Prop} (hl1 : SQ b1 s.heap l1 xs) (hl2 : SQ b2 s.heap l2 ys) (hl3 : SQ b3 s.heap l3 zs)
  (h : ∀ h', Zp h' (s.heap.objs.size + 5) (s.heap.objs.size + 3) (s.heap.objs.size + 4) [(b1, s.heap.objs.size, l1), (b2, s.heap.objs.size + 1, l2), (b3, s.heap.objs.size + 2, l3)] 0 .none (.bool false) ->
   (∀ c o, s.heap.get? c = some o -> h'.get? c = some o) -> Q (.ref (s.heap.objs.size + 5)) { s with heap := h' }) :
  wpAny (model prog w) A (call (.type "zip") [.ref l1, .ref l2, .ref l3]) Q E s := by
 refine callType_new F.called_zip (by decide) (zBq _ _ _) (zCa _ _ _) (fun obj => zBp obj _ _ _) F.entry_zip_new
  (zEX b1 b2 b3 l1 l2 l3 xs ys zs) ⟨hl1, hl2, hl3, ?_⟩
 have z1 : (zh1 s.heap b1 l1).objs.size = s.heap.objs.size + 1 := Heap.size_push ..
 have z2 : (zh2 s.heap b1 b2 l1 l2).objs.size = s.heap.objs.size + 2 := by rw [Heap.size_push, z1]
 have z3 : (zh3 s.heap b1 b2 b3 l1 l2 l3).objs.size = s.heap.objs.size + 3 := by rw [Heap.size_push, z2]
 have z4 : (zt3 s.heap b1 b2 b3 l1 l2 l3).objs.size = s.heap.objs.size + 4 := by rw [Heap.size_push, z3]
 have z5 : (zo3 s.heap b1 b2 b3 l1 l2 l3).objs.size = s.heap.objs.size + 5 := by rw [Heap.size_push, z4]
 have g6 : (zz3 s.heap b1 b2 b3 l1 l2 l3).get? (zo3 s.heap b1 b2 b3 l1 l2 l3).objs.size = some _ := Heap.get?_push_size _ rfl
 have g5 : (zz3 s.heap b1 b2 b3 l1 l2 l3).get? (zt3 s.heap b1 b2 b3 l1 l2 l3).objs.size = some _ := Heap.get?_push_of_some _ (Heap.get?_push_size _ rfl)
 have g4 : (zz3 s.heap b1 b2 b3 l1 l2 l3).get? (zh3 s.heap b1 b2 b3 l1 l2 l3).objs.size = some _ := Heap.get?_push_of_some _ (Heap.get?_push_of_some _ (Heap.get?_push_size _ rfl))
 have g3 : (zz3 s.heap b1 b2 b3 l1 l2 l3).get? (zh2 s.heap b1 b2 l1 l2).objs.size = some (itO b3 l3) := Heap.get?_push_of_some _ (Heap.get?_push_of_some _ (Heap.get?_push_of_some _ (Heap.get?_push_size _ rfl)))
 have g2 : (zz3 s.heap b1 b2 b3 l1 l2 l3).get? (zh1 s.heap b1 l1).objs.size = some (itO b2 l2) := Heap.get?_push_of_some _ (Heap.get?_push_of_some _ (Heap.get?_push_of_some _ (Heap.get?_push_of_some _ (Heap.get?_push_size _ rfl))))
 have g1 : (zz3 s.heap b1 b2 b3 l1 l2 l3).get? s.heap.objs.size = some (itO b1 l1) := Heap.get?_push_of_some _ (Heap.get?_push_of_some _ (Heap.get?_push_of_some _ (Heap.get?_push_of_some _ (Heap.get?_push_of_some _ (Heap.get?_push_size _ rfl)))))
 show _ /\ _
 rw [z3, z4, z5] at g6
 rw [z1, z2, z3] at g4
 rw [z4] at g5
 rw [z2] at g3
 rw [z1] at g2
 rw [z5]
 refine ⟨⟨_, g6, rfl⟩, h _ ⟨g6, g4, ⟨_, rfl, g5⟩, fun q hq => ?_⟩ fun c o x => ?_⟩
 ·rcases List.mem_cons.mp hq with rfl | hq
  ·exact .new g1
  ·rcases List.mem_cons.mp hq with rfl | hq
   ·exact .new g2
   ·rw [List.mem_singleton.mp hq]; exact .new g3
 ·exact Heap.get?_push_of_some _ (Heap.get?_push_of_some _ (Heap.get?_push_of_some _ (Heap.get?_push_of_some _ (Heap.get?_push_of_some _ (Heap.get?_push_of_some _ x)))))
end
def SqB (K : W.Frag) : Bool -> Hp -> Addr -> List V -> Prop
 | true, H, a, xs => SqT K H a xs
 | false, H, a, xs => SqL K H a xs
def Itz (K : W.Frag) (ps : List (Bool × Addr)) : It :=
 ⟨fun i H => ∀ p ∈ ps, ∃ xs x, SqB K p.1 H p.2 xs /\ xs[i]? = some x, fun i H v H' => ∃ a ys, v = .ref a /\ H a = none /\ H' = upd H a (.tup ys) /\ Paired (fun y p => ∀ xs, SqB K p.1 H p.2 xs -> xs[i]? = some y) ys ps,
  fun i H => ∃ p xs, ps.head? = some p /\ SqB K p.1 H p.2 xs /\ xs.length <= i⟩
section
variable {X : Cx} {pins : List (Addr × Obj)} {σ : St} {H : Hp} {s : Shared} {h' : Heap}
theorem Inv.seqB {b : Bool} {a : Addr} {xs : List V} (I : Inv X pins σ H s) (h : SqB X.K b H a xs) : ∃ its : List Value, Vals xs its /\ SQ b s.heap a its.toArray := by
 cases b with
 | true => obtain ⟨its, rv, p, _⟩ := I.tuple h; exact ⟨its, rv, p⟩
 | false => obtain ⟨its, rv, p, _⟩ := I.list h; exact ⟨its, rv, p.isList⟩
theorem Inv.seqB_inj {b : Bool} {a : Addr} {xs ys : List V} (I : Inv X pins σ H s) (h : SqB X.K b H a xs) (h2 : SqB X.K b H a ys) : xs = ys := by
 cases b with
 | true => exact I.tuple_inj h h2
 | false => exact I.list_inj h h2
theorem Inv.turnedN {t' : Nat} {fp : List Addr} (I : Inv X pins σ H s) (k : ∀ b o, b ∉ fp -> s.heap.get? b = some o -> h'.get? b = some o) (hf : ∀ b ∈ fp, Zh X pins H b) : Inv X pins σ H { s with heap := h', toks := t' } := by
 have ne : ∀ b u, H b = some u -> b ∉ fp := fun b u e z => by rw [(hf b z).1] at e; cases e
 have nl : X.env.locals ∉ fp := fun z => (hf _ z).2.1 rfl
 refine I.step (g' := s.gens) (d' := s.drawn) (ch := fp) (fun b hb => ?_) (fun b o _ _ hc q _ => k b o hc q) (fun b o _ _ hc q _ => ⟨o.slots, k b o hc q⟩) (fun _ _ _ _ n => n)
  (fun b o hc q => ⟨o, k b o hc q⟩) (fun _ _ e => e) (fun _ _ _ e => e) (fun b ps e => ⟨#[], by rw [e]; simp⟩) (fun m hm => ?_) (fun b u q => ?_) I.bare
 ·obtain ⟨f0, f1, f2, f3, f4, f5⟩ := hf b hb
  exact ⟨f3, f1, f4, f5⟩
 ·obtain ⟨o, es, ep, ho, r⟩ := hm
  exact ⟨o, es, ep, k _ o nl ho, r⟩
 ·refine (I.hok b u q).stay (fun c v hc q2 => k c v ?_ q2) (fun _ q => q) fun _ _ q => q
  rcases hc with z | z
  ·rw [z]; exact ne b u q
  ·exact ne c _ z
theorem Inv.turnedNT {t' : Nat} {fp : List Addr} {ys : List V} {its : List Value} (I : Inv X pins σ H s) (k : ∀ b o, b ∉ fp -> s.heap.get? b = some o -> h'.get? b = some o) (hf : ∀ b ∈ fp, Zh X pins H b)
  (ht : IsTup h' s.heap.objs.size its.toArray) (hv : Vals ys its) (hz : ys.length <= sizeLine) : Inv X pins σ (upd H s.heap.objs.size (.tup ys)) { s with heap := h', toks := t' } := by
 have hn : H s.heap.objs.size = none := I.hok.fresh (Nat.le_refl _)
 have ne : ∀ b u, H b = some u -> b ∉ fp := fun b u e z => by rw [(hf b z).1] at e; cases e
 have nl : X.env.locals ∉ fp := fun z => (hf _ z).2.1 rfl
 refine I.step (g' := s.gens) (d' := s.drawn) (ch := fp) (fun b hb => ?_) (fun b o _ _ hc q _ => k b o hc q) (fun b o _ _ hc q _ => ⟨o.slots, k b o hc q⟩) (fun b o _ q n => ?_)
  (fun b o hc q => ⟨o, k b o hc q⟩) (fun b xs q => ?_) (fun b _ _ q => ?_) (fun b ps q => ⟨#[], ?_⟩) (fun m hm => ?_) (fun b u q => ?_) I.bare
 ·obtain ⟨f0, f1, f2, f3, f4, f5⟩ := hf b hb
  exact ⟨f3, f1, f4, f5⟩
 ·rw [QG (Nat.ne_of_lt (Heap.lt_size q))]; exact n
 ·rw [QG (QH q hn)]; exact q
 ·rw [QG (QH q hn)]; exact q
 ·rw [QG (QH q hn), q]; simp
 ·obtain ⟨o, es, ep, ho, r⟩ := hm
  exact ⟨o, es, ep, k _ o nl ho, r⟩
 ·by_cases hb : b = s.heap.objs.size
  ·subst hb
   rw [QD] at q
   cases q
   exact ⟨hz, its, hv, ht⟩
  ·rw [QG hb] at q
   refine (I.hok b u q).stay (fun c v hc q2 => k c v ?_ q2) (fun c q => by rw [QG (QH q hn)]; exact q) fun c xs q => by rw [QG (QH q hn)]; exact q
   rcases hc with z | z
   ·rw [z]; exact ne b u q
   ·exact ne c _ z
abbrev zK9 (qs : List (Bool × Addr × Addr)) : List (Bool × Addr) := qs.map fun q => (q.1, q.2.2)
theorem zIB {i : Nat} (I : Inv X pins σ H s) : ∀ {qs : List (Bool × Addr × Addr)}, (∀ p ∈ zK9 qs, ∃ xs x, SqB X.K p.1 H p.2 xs /\ xs[i]? = some x) ->
  ∃ us ys, Vals ys us /\ Due s.heap qs i us /\ Paired (fun y p => ∀ xs, SqB X.K p.1 H p.2 xs -> xs[i]? = some y) ys (zK9 qs)
 | [], _ => ⟨[], [], .nil, ⟨rfl, fun j q h => by simp at h⟩, .nil⟩
 | q :: qr, h => by
  obtain ⟨us, ys, v, ⟨d1, d2⟩, p⟩ := zIB I (qs := qr) fun p hp => h p (List.mem_cons_of_mem _ hp)
  obtain ⟨xs, x, hq, hx⟩ := h (q.1, q.2.2) List.mem_cons_self
  obtain ⟨its, rv, sq⟩ := I.seqB hq
  obtain ⟨u, hu, ru⟩ := rv.get hx
  refine ⟨u :: us, x :: ys, .cons ru v, ⟨by simp [d1], fun j r hj => ?_⟩, .cons (fun zs hz => by rw [I.seqB_inj hz hq]; exact hx) p⟩
  cases j with
  | zero => simp at hj; subst hj; exact ⟨_, u, sq, by simpa using hu, rfl⟩
  | succ j => exact d2 j r (by simpa using hj)
end
theorem zED {P : Program} {w : World} {K : W.Frag} {tg : Expr} {z TI TO : Addr} {qs : List (Bool × Addr × Addr)} (D : Apart z TI TO qs) : Turn P w K tg (Itz K (zK9 qs)) (z :: TI :: TO :: Qs qs) z
  (fun i h => ∃ f0 f1, Zp h z TI TO qs i f0 f1 /\ (f0 = .none \/ ∃ T : Addr, f0 = rawInt T)) where
 mem := List.mem_cons_self
 obj := fun i h st b hb => by
  obtain ⟨f0, f1, Z, _⟩ := st
  rcases List.mem_cons.mp hb with e | hb
  ·subst e; exact ⟨_, Z.hz, fun v z => by cases z⟩
  rcases List.mem_cons.mp hb with e | hb
  ·subst e; exact ⟨_, Z.ti, fun v z => by cases z⟩
  rcases List.mem_cons.mp hb with e | hb
  ·subst e
   obtain ⟨ws, _, h2⟩ := Z.to
   exact ⟨_, h2, fun v z => by cases z⟩
  ·obtain ⟨q, hq, rfl⟩ := List.mem_map.mp hb
   exact (Z.it q hq).obj
 keep := fun i h h' st k => by
  obtain ⟨f0, f1, Z, f⟩ := st
  obtain ⟨ws, h1, h2⟩ := Z.to
  exact ⟨f0, f1, ⟨k _ (by simp) _ Z.hz, k _ (by simp) _ Z.ti, ⟨ws, h1, k _ (by simp) _ h2⟩, fun q hq => (Z.it q hq).at fun o e => k _ (by
   have m : q.2.1 ∈ Qs qs := List.mem_map.mpr ⟨q, hq, rfl⟩
   simp [m]) o e⟩, f⟩
 item := by
  intro X hP hw hK hc i pins s σ H E I hf st hg
  subst hP hw hK
  obtain ⟨f0, f1, Z, f⟩ := st
  obtain ⟨us, ys, rv, du, pa⟩ := zIB I hg
  refine zAP D Z f du fun h1 g0 g1 Z1 hg1 ht hsz hk => ?_
  refine ⟨_, rfl, zLg Z1.hz fun h2 k0 hk0 hz2 hs2 => ?_⟩
  have zlt : z < s.heap.objs.size := Heap.lt_size Z.hz
  have hlt : ∀ b ∈ (z :: TI :: TO :: Qs qs), b < s.heap.objs.size := fun b hb => by
   rcases List.mem_cons.mp hb with e | hb
   ·subst e; exact zlt
   rcases List.mem_cons.mp hb with e | hb
   ·subst e; exact Heap.lt_size Z.ti
   rcases List.mem_cons.mp hb with e | hb
   ·subst e
    obtain ⟨ws, _, h2⟩ := Z.to
    exact Heap.lt_size h2
   ·obtain ⟨q, hq, rfl⟩ := List.mem_map.mp hb
    obtain ⟨o, e, _⟩ := (Z.it q hq).obj
    exact Heap.lt_size e
  have hk2 : ∀ b o, b ∉ (z :: TI :: TO :: Qs qs) -> s.heap.get? b = some o -> h2.get? b = some o := fun b o nb e => hs2.extBut _ _ (fun x => nb (by rw [x]; simp)) (hk b o (fun x => nb (by rw [x]; simp)) (fun x => nb (by rw [x]; simp)) (fun x => nb (by simp [x])) e)
  have ht2 : h2.get? s.heap.objs.size = some (Jr us.toArray) := hs2.extBut _ _ (Nat.ne_of_gt zlt) ht
  obtain ⟨zi, zo, io⟩ := D.zz
  obtain ⟨ws, w1, w2⟩ := Z1.to
  refine ⟨.ref s.heap.objs.size, _, Inv.turnedNT (s := s) (t' := s.toks) I hk2 hf ⟨_, ht2, rfl, _, rfl⟩ rv ?_, rfl, ⟨_, ys, rfl, I.hok.fresh (Nat.le_refl _), rfl, pa⟩, ?_, fun b hb => ?_⟩
  ·have e1 := rv.length
   have e2 := du.1
   have e3 := D.few
   exact zHJ (by omega)
  ·refine ⟨k0, g1, ⟨hz2, hs2.extBut _ _ (Ne.symm zi) Z1.ti, ⟨ws, w1, hs2.extBut _ _ (Ne.symm zo) w2⟩, fun q hq => (Z1.it q hq).at fun o e => hs2.extBut _ _ (Ne.symm (D.zit hq).1) e⟩, ?_⟩
   rcases hk0 with e | e
   ·rw [e]; exact hg1
   ·exact .inl e
  ·rw [QG (Nat.ne_of_lt (hlt b hb))]
   exact (hf b hb).1
 done := by
  intro X hP hw hK hc i pins s σ H E I hf st hg
  subst hP hw hK
  obtain ⟨f0, f1, Z, f⟩ := st
  obtain ⟨p, xs, hp, hq, hx⟩ := hg
  cases qs with
  | nil => cases hp
  | cons q qr =>
   have e : (q.1, q.2.2) = p := by simpa using hp
   subst e
   obtain ⟨its, rv, sq⟩ := I.seqB hq
   have hl := rv.length
   refine zA4 (I.ok.hd hc) D Z f sq (by simp; omega) fun h' hk => ⟨rfl, I.turnedN (t' := s.toks) (fun b o nb e => hk b o (fun x => nb (by rw [x]; simp)) (fun x => nb (by
    have z := List.mem_cons_of_mem z (List.mem_cons_of_mem TI (List.mem_cons_of_mem TO x))
    exact z)) e) hf⟩
 self := fun _ _ _ _ _ st h => by
  obtain ⟨f0, f1, Z, _⟩ := st
  exact Wg Z.hz h
section
variable {X : Cx} {tg : Expr}
def zIO (K : W.Frag) (b1 b2 : Bool) (ta : TA) : TI := fun σ H R => ta σ H fun vs H1 => ∃ a b, vs = [.ref a, .ref b] /\ (∃ xs, SqB K b1 H1 a xs) /\ (∃ ys, SqB K b2 H1 b ys) /\ R (Itz K [(b1, a), (b2, b)]) H1
def zIf (K : W.Frag) (b1 b2 b3 : Bool) (ta : TA) : TI := fun σ H R => ta σ H fun vs H1 => ∃ a b c, vs = [.ref a, .ref b, .ref c] /\ (∃ xs, SqB K b1 H1 a xs) /\ (∃ ys, SqB K b2 H1 b ys) /\ (∃ zs, SqB K b3 H1 c zs) /\ R (Itz K [(b1, a), (b2, b), (b3, c)]) H1
theorem Vals.three : ∀ {x y z : V} {us : List Value}, Vals [x, y, z] us -> ∃ u v w, us = [u, v, w] /\ RelV x u /\ RelV y v /\ RelV z w
 | _, _, _, _, .cons r (.cons q (.cons t .nil)) => ⟨_, _, _, rfl, r, q, t⟩
theorem zFs (b1 b2 : Bool) {e1 e2 : Expr} {ta : TA} {p pos : Pos} (hg : Gl X "zip") (hm : X.mg "zip" = none) (ha : PA X [e1, e2] ta)
  (he : starEach [e1, e2] X.env = (false, eval e1 X.env) :: starEach [e2] X.env := by rfl) (hpl : (backTo pos (starEach [e2] X.env)).any (·.1) = false := by rfl) : PI X tg (.Call (.Name "zip" p) [e1, e2] [] pos) (zIO X.K b1 b2 ta) := by
 intro pins s σ H R I h
 refine wpAny_Call_Name_kw (Zc I hg hm boot_zip ?_ (by decide) (by decide))
 refine PyProof.Rows.callWith_type1 (thn (ha pos pins s σ H _ I h) fun us s1 ⟨vs, H1, I1, r1, q1⟩ => ?_) he hpl
 obtain ⟨a, b, rfl, ⟨xs, hx⟩, ⟨ys, hy⟩, q⟩ := q1
 obtain ⟨u, v, rfl, ru, rv⟩ := r1.two
 cases ru
 cases rv
 obtain ⟨ix, rx, sx⟩ := I1.seqB hx
 obtain ⟨iy, ry, sy⟩ := I1.seqB hy
 have lx := sx.lt
 have ly := sy.lt
 refine zGA sx sy fun h' Z hk => ?_
 have I2 : Inv X pins σ H1 { s1 with heap := h' } := I1.kept (t' := s1.toks) hk
 refine Wg Z.hz ?_
 refine ⟨s1.heap.objs.size + 4, _, _, _, H1, rfl, I2, zED (z := s1.heap.objs.size + 4) (TI := s1.heap.objs.size + 2) (TO := s1.heap.objs.size + 3) (qs := [(b1, s1.heap.objs.size, a), (b2, s1.heap.objs.size + 1, b)]) ⟨?_, ?_, Nat.succ_pos _, by show (_ : List _).length <= 8; simp⟩, ⟨_, _, Z, .inl rfl⟩, fun b hb => ?_, q⟩
 ·generalize s1.heap.objs.size = n
  have h : ∀ i j : Nat, i ≠ j -> (n + i : Nat) ≠ n + j := fun i j h => by omega
  refine List.nodup_cons.mpr ⟨?_, List.nodup_cons.mpr ⟨?_, List.nodup_cons.mpr ⟨?_, List.nodup_cons.mpr ⟨?_, List.nodup_cons.mpr ⟨List.not_mem_nil, List.nodup_nil⟩⟩⟩⟩⟩ <;>
   (intro m; simp only [Qs, List.map_cons, List.map_nil, List.mem_cons, List.not_mem_nil, or_false] at m; revert m; show ¬ _; unfold Addr; omega)
 ·intro q hq m
  have hb : q.2.2 < s1.heap.objs.size := by
   rcases List.mem_cons.mp hq with rfl | hq
   ·exact lx
   ·rw [List.mem_singleton.mp hq]; exact ly
  have hm : s1.heap.objs.size <= q.2.2 := by
   simp only [Qs, List.map_cons, List.map_nil, List.mem_cons, List.not_mem_nil, or_false] at m
   rcases m with m | m | m | m | m <;> rw [m] <;> first | exact Nat.le_add_right _ _ | exact Nat.le_refl _
  exact absurd hb (Nat.not_lt.mpr hm)
 ·have hm : s1.heap.objs.size <= b := by
   simp only [Qs, List.map_cons, List.map_nil, List.mem_cons, List.not_mem_nil, or_false] at hb
   rcases hb with m | m | m | m | m <;> rw [m] <;> first | exact Nat.le_add_right _ _ | exact Nat.le_refl _
  exact I1.fpOk hm (I1.hok.fresh hm)
theorem zJG (b1 b2 b3 : Bool) {e1 e2 e3 : Expr} {ta : TA} {p pos : Pos} (hg : Gl X "zip") (hm : X.mg "zip" = none) (ha : PA X [e1, e2, e3] ta)
  (he : starEach [e1, e2, e3] X.env = (false, eval e1 X.env) :: starEach [e2, e3] X.env := by rfl) (hpl : (backTo pos (starEach [e2, e3] X.env)).any (·.1) = false := by rfl) : PI X tg (.Call (.Name "zip" p) [e1, e2, e3] [] pos) (zIf X.K b1 b2 b3 ta) := by
 intro pins s σ H R I h
 refine wpAny_Call_Name_kw (Zc I hg hm boot_zip ?_ (by decide) (by decide))
 refine PyProof.Rows.callWith_type1 (thn (ha pos pins s σ H _ I h) fun us s1 ⟨vs, H1, I1, r1, q1⟩ => ?_) he hpl
 obtain ⟨a, b, c, rfl, ⟨xs, hx⟩, ⟨ys, hy⟩, ⟨zs, hz⟩, q⟩ := q1
 obtain ⟨u, v, w', rfl, ru, rv, rw'⟩ := r1.three
 cases ru
 cases rv
 cases rw'
 obtain ⟨ix, rx, sx⟩ := I1.seqB hx
 obtain ⟨iy, ry, sy⟩ := I1.seqB hy
 obtain ⟨iz, rz, sz⟩ := I1.seqB hz
 have lx := sx.lt
 have ly := sy.lt
 have lz := sz.lt
 refine zGK sx sy sz fun h' Z hk => ?_
 have I2 : Inv X pins σ H1 { s1 with heap := h' } := I1.kept (t' := s1.toks) hk
 refine Wg Z.hz ?_
 refine ⟨s1.heap.objs.size + 5, _, _, _, H1, rfl, I2, zED (z := s1.heap.objs.size + 5) (TI := s1.heap.objs.size + 3) (TO := s1.heap.objs.size + 4) (qs := [(b1, s1.heap.objs.size, a), (b2, s1.heap.objs.size + 1, b), (b3, s1.heap.objs.size + 2, c)]) ⟨?_, ?_, Nat.succ_pos _, by show (_ : List _).length <= 8; simp⟩, ⟨_, _, Z, .inl rfl⟩, fun b hb => ?_, q⟩
 ·generalize s1.heap.objs.size = n
  refine List.nodup_cons.mpr ⟨?_, List.nodup_cons.mpr ⟨?_, List.nodup_cons.mpr ⟨?_, List.nodup_cons.mpr ⟨?_, List.nodup_cons.mpr ⟨?_, List.nodup_cons.mpr ⟨List.not_mem_nil, List.nodup_nil⟩⟩⟩⟩⟩⟩ <;>
   (intro m; simp only [Qs, List.map_cons, List.map_nil, List.mem_cons, List.not_mem_nil, or_false] at m; revert m; show ¬ _; unfold Addr; omega)
 ·intro q hq m
  have hb : q.2.2 < s1.heap.objs.size := by
   rcases List.mem_cons.mp hq with rfl | hq
   ·exact lx
   rcases List.mem_cons.mp hq with rfl | hq
   ·exact ly
   ·rw [List.mem_singleton.mp hq]; exact lz
  have hm : s1.heap.objs.size <= q.2.2 := by
   simp only [Qs, List.map_cons, List.map_nil, List.mem_cons, List.not_mem_nil, or_false] at m
   rcases m with m | m | m | m | m | m <;> rw [m] <;> first | exact Nat.le_add_right _ _ | exact Nat.le_refl _
  exact absurd hb (Nat.not_lt.mpr hm)
 ·have hm : s1.heap.objs.size <= b := by
   simp only [Qs, List.map_cons, List.map_nil, List.mem_cons, List.not_mem_nil, or_false] at hb
   rcases hb with m | m | m | m | m | m <;> rw [m] <;> first | exact Nat.le_add_right _ _ | exact Nat.le_refl _
  exact I1.fpOk hm (I1.hok.fresh hm)
end
end L2
namespace L2
open PySem PySem.Spec PyProof.Rows
theorem zC4 {prog : Program} {w : World} {A : Around} {R : Result -> Shared -> Prop} {s : Shared} {elt target iter : Expr} {ifs : List Expr} {scope : Scope} {pos : Pos} {it acc : Value} {env : Env} (I : Nat -> Shared -> Prop)
  (turn : ∀ n s, I n s -> wpAny (model prog w) A (pyNext it) (fun r s₁ => match r with
   | none => R (.ok .next) s₁
   | some v => wpAny (model prog w) A (letOwnedTupleGo target it v) (fun _ s₁ => wpAny (model prog w) A (assign target env v) (fun _ s₂ =>
     wpAny (model prog w) A (forIn ifs true fun c r => if r = true then do let ok ← isTrue c env (eval c env); pure (ForInStep.yield ok) else pure (ForInStep.yield r)) (fun ok s₃ =>
      if ok = true then wpAny (model prog w) A (eval elt env) (fun x s₄ =>
       wpAny (model prog w) A (call (.builtin "list.append") [acc, x]) (fun _ s₅ => ∃ m, m < n /\ I m s₅) (notedBy (model prog w) A env fun e s' => R (.error e) s') s₄) (notedBy (model prog w) A env fun e s' => R (.error e) s') s₃
      else ∃ m, m < n /\ I m s₃) (notedBy (model prog w) A env fun e s' => R (.error e) s') s₂) (notedBy (model prog w) A env fun e s' => R (.error e) s') s₁) (notedBy (model prog w) A env fun e s' => R (.error e) s') s₁) (notedBy (model prog w) A env fun e s' => R (.error e) s') s)
  (n : Nat) (h : I n s) : codeAny (model prog w) A (.compLoop (.ListComp elt [⟨target, iter, ifs, 0⟩] scope pos) 0 it acc env) R s := by
 refine codeAny_loop rfl I (fun n s hI => ?_) n h
 show wpAny _ A ((compTurn (.ListComp elt [⟨target, iter, ifs, 0⟩] scope pos) 0 it acc env).onRaise (fun x => do noteFrame x env; theTreesLotGoes x)) _ _ s
 refine wpAny_noted ?_
 rw [compTurn_list]
 refine wpAny_bind (wpAny_standAt (wpAny_bind (wpAny_mono (turn n s hI) (fun r s₁ h₁ => ?_) fun _ _ h' => h')))
 cases r with
 | none => exact wpAny_pure h₁
 | some v =>
  refine wpAny_bind (wpAny_mono h₁ (fun _ s₁' h₁ => ?_) fun _ _ h' => h')
  refine wpAny_bind (wpAny_mono h₁ (fun _ s₂ h₂ => wpAny_bind (wpAny_mono h₂ (fun ok s₃ h₃ => ?_) fun _ _ h' => h')) fun _ _ h' => h')
  cases ok with
  | false => exact wpAny_pure ⟨rfl, h₃⟩
  | true =>
   exact wpAny_bind (wpAny_bind (wpAny_mono h₃ (fun x s₄ h₄ => wpAny_bind (wpAny_mono h₄ (fun _ s₅ h₅ => wpAny_pure (wpAny_pure ⟨rfl, h₅⟩)) fun _ _ h' => h')) fun _ _ h' => h'))
def cxN (X : Cx) (scope : Scope) (cl : List (Str × Addr)) (xs : List Str) (cs : List Str) (C : Addr) (s₀ : Shared) (H₀ : Hp) (fp : List Addr) : Cx where
 prog := X.prog
 w := X.w
 K := X.K
 mg := X.mg
 base := X.base
 A := X.A
 N := xs ++ cs
 s₀ := s₀
 H₀ := H₀
 env := compEnvC scope cl C X.env
 outer := X.stack
 stack := X.stack
 ex := fp
 fn := fun y => xs.contains y
 calm := X.calm
 pn := []
 xe := fun _ _ => False
structure CScopeN (X : Cx) (scope : Scope) (cl : List (Str × Addr)) (xs : List Str) (cs : List Str) (js : List Nat) : Prop where
 clos : closureFor scope X.env = pure cl
 kind : scope.kind = .function
 nocell : ∀ y ∈ scope.names, y.2 ≠ .cell
 names : ∀ y ∈ scope.names, y.2 = .local -> scope.names.lookup y.1 = some .local
 sub : ∀ y c, cl.lookup y = some c -> X.env.cells.lookup y = some c
 has : ∀ y, ((relabel scope X.env).names.lookup y = some .cell \/ (relabel scope X.env).names.lookup y = some .free) -> ∃ c, cl.lookup y = some c
 nox : ∀ x ∈ xs, cl.lookup x = none
 nd : (xs ++ cs).Nodup
 cap : Paired (fun y j => X.N[j]? = some y) cs js
 capk : ∀ y ∈ cs, (X.env.kindOf y = some .cell \/ X.env.kindOf y = some .free) /\ ((relabel scope X.env).names.lookup y = some .cell \/ (relabel scope X.env).names.lookup y = some .free)
def zC3 (J : It) (g : TG) (tc : TT) (te : TE) (n : Nat) (τ : St) (fin : List V -> Hp -> Prop) (H1 : Hp) : Prop := ∃ W : Nat -> Nat -> List V -> Hp -> Prop, (∃ m, W 0 m [] H1) /\ ∀ i m ys H, W i m ys H ->
 (J.stop i H /\ fin ys H) \/ (J.go i H /\ ys.length < sizeLine /\ ∃ N : List V -> Hp -> Prop, (∀ ys' H', N ys' H' -> ∃ m', m' < m /\ W (i + 1) m' ys' H') /\ ∀ v H', J.yld i H v H' -> ∀ ρ : St, ρ.length = n ->
  g v (ρ ++ τ) H' fun σ2 H2 => (∃ ρ2 : St, ρ2.length = n /\ σ2 = ρ2 ++ τ) /\ tc σ2 H2 fun b H3 => if b = true then te σ2 H3 (fun y H4 => N (ys ++ [y]) H4) else N ys H3)
def Zo (n : Nat) (wi : TI) (g : TG) (js : List Nat) (tc : TT) (te : TE) : TE := fun σ H Q => wi σ H fun J H1 => zC3 J g tc te n (Yj σ js) (fun ys H2 => ∀ p, H2 p = none -> Q (.ref p) (upd H2 p (.lst ys))) H1
section
variable {X : Cx} {scope : Scope} {cl : List (Str × Addr)} {xs : List Str} {cs : List Str} {js : List Nat} {pins : List (Addr × Obj)} {σ : St} {H : Hp} {s : Shared}
theorem zLh {C : Addr} {fp : List Addr} (S : CScopeN X scope cl xs cs js) (I : Inv X pins σ H s) (hC : s.heap.objs.size <= C) (hf : ∀ b ∈ fp, Zh X pins H b) (hlt : ∀ b ∈ fp, b < s.heap.objs.size) :
  (cxN X scope cl xs cs C s H fp).Ok where
 mod := I.ok.mod
 kind := S.kind
 glob := I.ok.glob
 blt := I.ok.blt
 above := hC
 inj := fun y z c h1 h2 => I.ok.inj y z c (S.sub y c h1) (S.sub z c h2)
 has := fun y h => S.has y h
 cab := fun y c h1 h2 => by
  have e : y ∈ xs := List.contains_iff_mem.mp h1
  have h2' : cl.lookup y = some c := h2
  rw [S.nox y e] at h2'
  cases h2'
 hd := I.ok.hd
 frames := I.ok.frames
 stk := .inl rfl
 exf := fun b hb => ⟨fun e => absurd (hlt b hb) (Nat.not_lt.mpr (by rw [show b = C from e]; exact hC)), fun y c h => (hf b hb).2.2.2.2.1 y c (S.sub y c h)⟩
 bs := fun b o e => ⟨(I.bs b o e).1, (I.bs b o e).2⟩
 bsz := Nat.le_trans I.ok.bsz I.sz
 noex := fun b o e hb => by
  rcases (hf b hb).2.2.2.1 with z | z
  ·exact I.ok.noex b o e z
  ·exact absurd (Nat.lt_of_lt_of_le (Heap.lt_size e) (Nat.le_trans I.ok.bsz z)) (Nat.lt_irrefl _)
 exfs := fun b hb z => by
  rcases List.mem_cons.mp (I.stkSub b z) with e | e
  ·exact (hf b hb).2.1 e
  ·exact (hf b hb).2.2.1 e
 funs := I.stack
 frf := fun b hb => I.stkFree b hb
theorem zEQ {C D : Addr} {fp : List Addr} {h₁ : Heap} {tk : Nat} {oD : Obj} (S : CScopeN X scope cl xs cs js) (I : Inv X pins σ H s) (hf : ∀ b ∈ fp, Zh X pins H b) (hlt : ∀ b ∈ fp, b < s.heap.objs.size)
  (hD : s.heap.objs.size <= D) (hC : s.heap.objs.size <= C) (hDC : D ≠ C) (hns : h₁.Ns C (fun _ => none)) (keep : ∀ b o, s.heap.get? b = some o -> h₁.get? b = some o) (eD : h₁.get? D = some oD) (hoD : ∀ v, oD.data ≠ .cell v) :
  Inv (cxN X scope cl xs cs C s H fp) [(D, oD)] (List.replicate xs.length none ++ Yj σ js) H { s with heap := h₁, toks := tk } := by
 refine ⟨zLh S I hC hf hlt, rfl, I.bare, Un.kept keep, ⟨_, hns, fun i y v h1 h2 h3 => ?_⟩, fun y c e => ?_, I.hok.fresh hC, fun y c e => I.freeC y c (S.sub y c e), fun p hp => ?_, I.hok.kept keep, ?_⟩
 ·by_cases hi : i < xs.length
  ·rw [List.getElem?_append_left (by simp; exact hi), List.getElem?_replicate, if_pos hi] at h2
   simp at h2
  ·have h1' : cs[i - xs.length]? = some y := by
    have z : (xs ++ cs)[i]? = some y := h1
    rw [List.getElem?_append_right (by omega)] at z
    exact z
   have h2' : (Yj σ js)[i - xs.length]? = some (some v) := by
    rw [List.getElem?_append_right (by simp; omega)] at h2
    simpa using h2
   generalize i - xs.length = k at h1' h2'
   obtain ⟨j, ej, ey⟩ := Yq S.cap h1'
   have e2 : σ[j]? = some (some v) := by
    unfold Yj at h2'
    rw [List.getElem?_map, ej] at h2'
    have h3' : (σ[j]?).getD none = some v := by simpa using h2'
    cases q : σ[j]? with
    | none => rw [q] at h3'; cases h3'
    | some w' => rw [q] at h3'; exact congrArg some h3'
   obtain ⟨k1, k2⟩ := S.capk y (List.mem_of_getElem? h1')
   obtain ⟨m, hn, hl⟩ := I.loc
   obtain ⟨u, r, l⟩ := hl j y v ey e2 (by
    rcases k1 with z | z
    ·exact .inr (.inl z)
    ·exact .inr (.inr z))
   refine ⟨u, r, .inr ⟨k2, ?_⟩⟩
   obtain ⟨c', e'⟩ := S.has y k2
   rcases l with ⟨z, _⟩ | ⟨_, c, ec, z⟩
   ·rcases k1 with k1 | k1 <;> (rw [k1] at z; cases z)
   ·have e3 := S.sub y c' e'
    rw [ec] at e3
    cases e3
    obtain ⟨o, eo, d⟩ := z
    exact ⟨_, e', o, keep _ _ eo, d⟩
 ·obtain ⟨v, o, eo, d⟩ := I.cell y c (S.sub y c e)
  exact ⟨v, o, keep _ _ eo, d⟩
 ·have e : p = (D, oD) := by
   rcases List.mem_append.mp hp with z | z
   ·exact absurd z (by show p ∉ ([] : List (Addr × Obj)); simp)
   ·simpa using z
  subst e
  exact ⟨eD, I.hok.fresh hD, hDC, I.newfs hD, hoD⟩
 ·show (List.replicate xs.length none ++ Yj σ js).length = (xs ++ cs).length
  rw [List.length_append, List.length_append, zDl, Paired.length S.cap, List.length_replicate]
theorem zEg {elt iter tg : Expr} {pos : Pos} {ifs : List Expr} {g : TG} {tc : TT} {te : TE} {C D it : Addr} {fp : List Addr} {tn : Nat -> Heap -> Prop} {J : It} {s₂ : Shared} {H₂ : Hp} {R : Result -> Shared -> Prop} {fin : List V -> Hp -> Prop} {s₃ : Shared} {ρ₀ : St}
  (hc : X.calm = true) (S : CScopeN X scope cl xs cs js) (hC : s₂.heap.objs.size <= C) (hD : s₂.heap.objs.size <= D) (hDC : D ≠ C) (hlt : ∀ b ∈ fp, b < s₂.heap.objs.size)
  (T : Turn X.prog X.w X.K tg J fp it tn)
  (hcells : ∀ y c, cl.lookup y = some c -> c < s₂.heap.objs.size)
  (hfs : ∀ b ∈ fp, b ∉ frs X.stack) (hDfs : D ∉ frs X.stack)
  (hcf : ∀ b ∈ fp, ∀ y c, cl.lookup y = some c -> c ≠ b)
  (hg : PG (cxN X scope cl xs cs C s₂ H₂ fp) tg g) (ht : zBo (cxN X scope cl xs cs C s₂ H₂ fp) ifs tc) (he : PE (cxN X scope cl xs cs C s₂ H₂ fp) elt te)
  (I₃ : Inv (cxN X scope cl xs cs C s₂ H₂ fp) [] (ρ₀ ++ Yj σ js) H₂ s₃) (hρ : ρ₀.length = xs.length) (st : tn 0 s₃.heap) (hn : ∀ b ∈ fp, H₂ b = none) (eD : s₃.heap.get? D = some (Q7 [] 0)) (hDn : H₂ D = none)
  (hW : zC3 J g tc te xs.length (Yj σ js) fin H₂)
  (hR : ∀ s' σ' H' ys us n, Inv (cxN X scope cl xs cs C s₂ H₂ fp) [] σ' H' s' -> Vals ys us -> ys.length <= sizeLine -> s'.heap.get? D = some (Q7 us n) -> H' D = none -> fin ys H' -> R (.ok .next) s') :
  codeAny (model X.prog X.w) X.A (.compLoop (.ListComp elt [⟨tg, iter, ifs, 0⟩] scope pos) 0 (.ref it) (.ref D) (compEnvC scope cl C X.env)) R s₃ := by
 obtain ⟨W, ⟨m0, w0⟩, turn⟩ := hW
 have bC : ∀ b ∈ fp, b ≠ C := fun b hb e => absurd (hlt b hb) (Nat.not_lt.mpr (by rw [e]; exact hC))
 have bD : ∀ b ∈ fp, b ≠ D := fun b hb e => absurd (hlt b hb) (Nat.not_lt.mpr (by rw [e]; exact hD))
 have cD : ∀ y c, cl.lookup y = some c -> c ≠ D := fun y c h e => absurd (hcells y c h) (Nat.not_lt.mpr (by rw [e]; exact hD))
 have pinD : ∀ {τ : St} {H' : Hp} {s' : Shared} {us : List Value} {k : Nat}, Inv (cxN X scope cl xs cs C s₂ H₂ fp) [] τ H' s' -> s'.heap.get? D = some (Q7 us k) -> H' D = none -> Inv (cxN X scope cl xs cs C s₂ H₂ fp) [(D, Q7 us k)] τ H' s' :=
  fun {τ H' s' us k} I e hn => I.pins_of fun p hp => by
   have ep : p = (D, Q7 us k) := by simpa using hp
   subst ep
   exact ⟨e, hn, hDC, hDfs, fun v z => by
    have z' : Data.seq us.toArray k = Data.cell v := z
    cases z'⟩
 have fpk : ∀ {H' : Hp} {us : List Value} {k : Nat}, (∀ b ∈ fp, H' b = none) -> ∀ b ∈ fp, Zh (cxN X scope cl xs cs C s₂ H₂ fp) [(D, Q7 us k)] H' b := fun {H' us k} hn b hb =>
  ⟨hn b hb, bC b hb, hfs b hb, .inl hb, fun y c e => hcf b hb y c e, fun p hp => by
   have ep : p = (D, Q7 us k) := by
    rcases List.mem_append.mp hp with z | z
    ·exact absurd (show p ∈ ([] : List (Addr × Obj)) from z) (by simp)
    ·simpa using z
   subst ep
   exact Ne.symm (bD b hb)⟩
 refine zC4 (env := compEnvC scope cl C X.env) (fun n s' => ∃ i ρ H' ys us k, Inv (cxN X scope cl xs cs C s₂ H₂ fp) [] (ρ ++ Yj σ js) H' s' /\ ρ.length = xs.length /\ tn i s'.heap /\ (∀ b ∈ fp, H' b = none) /\ Vals ys us /\ ys.length <= sizeLine /\ s'.heap.get? D = some (Q7 us k) /\ H' D = none /\ W i n ys H') ?_ m0
  ⟨0, ρ₀, H₂, [], [], 0, I₃, hρ, st, hn, .nil, Nat.zero_le _, eD, hDn, w0⟩
 rintro n s4 ⟨i, ρ, H4, ys, us, k, I4, hρ4, st4, fr4, rv, hz, eD4, hD4, w4⟩
 have I4' := pinD I4 eD4 hD4
 rcases turn i n ys H4 w4 with ⟨stop, f⟩ | ⟨go, hlen, N, hN, step⟩
 ·refine wpAny_mono (T.done (cxN X scope cl xs cs C s₂ H₂ fp) rfl rfl rfl hc i [(D, Q7 us k)] s4 _ H4 (fun _ _ => False) I4' (fpk fr4) st4 stop) (fun r s5 ⟨hr, I5⟩ => ?_) (fun _ _ z => z.elim)
  subst hr
  show R (.ok .next) s5
  exact hR s5 _ H4 ys us k (I5.pins_of fun p hp => absurd hp (by simp)) rv hz (I5.pin (D, Q7 us k) (List.mem_append_right _ (by simp))).1 hD4 f
 ·refine wpAny_mono (T.item (cxN X scope cl xs cs C s₂ H₂ fp) rfl rfl rfl hc i [(D, Q7 us k)] s4 _ H4 (fun _ _ => False) I4' (fpk fr4) st4 go) (fun r s5 ⟨u, hr, h5⟩ => ?_) (fun _ _ z => z.elim)
  subst hr
  show wpAny _ _ (letOwnedTupleGo tg (.ref it) u) _ _ s5
  refine wpAny_mono h5 (fun _ s6 ⟨v, H6, I6, r6, y6, st6, fr6⟩ => ?_) (fun _ _ z => z.elim)
  have I6' := I6.pinned (fpk fr6) (T.obj _ _ st6)
  refine wpAny_mono (hg _ s6 _ H6 v u _ I6' r6 (step v H6 y6 ρ hρ4)) (fun _ s7 ⟨σ7, H7, I7, ⟨ρ7, hρ7, e7⟩, q7⟩ => ?_) (fun _ _ z => False.elim z)
  subst e7
  have st7 : ∀ {τ : St} {H' : Hp} {s' : Shared}, Inv (cxN X scope cl xs cs C s₂ H₂ fp) ([(D, Q7 us k)] ++ Zi fp s6.heap) τ H' s' -> tn (i + 1) s'.heap /\ ∀ b ∈ fp, H' b = none := fun {τ H' s'} I => by
   refine ⟨T.keep _ _ _ st6 fun b hb o e => (I.pin (b, o) (List.mem_append_right _ (List.mem_append_right _ (YT hb e)))).1, fun b hb => ?_⟩
   obtain ⟨o, e, d⟩ := T.obj _ _ st6 b hb
   exact (I.pin (b, o) (List.mem_append_right _ (List.mem_append_right _ (YT hb e)))).2.1
  have dD : ∀ {τ : St} {H' : Hp} {s' : Shared}, Inv (cxN X scope cl xs cs C s₂ H₂ fp) ([(D, Q7 us k)] ++ Zi fp s6.heap) τ H' s' -> s'.heap.get? D = some (Q7 us k) /\ H' D = none := fun {τ H' s'} I => by
   have q := I.pin (D, Q7 us k) (List.mem_append_right _ (List.mem_append_left _ (by simp)))
   exact ⟨q.1, q.2.1⟩
  refine wpAny_mono (ht _ s7 _ H7 _ I7 q7) (fun ok s8 ⟨H8, I8, q8⟩ => ?_) (fun _ _ z => False.elim z)
  cases ok with
  | false =>
   obtain ⟨m', hm, w8⟩ := hN _ _ q8
   exact ⟨m', hm, i + 1, ρ7, H8, ys, us, k, I8.pins_of fun p hp => absurd hp (by simp), hρ7, (st7 I8).1, (st7 I8).2, rv, hz, (dD I8).1, (dD I8).2, w8⟩
  | true =>
   rw [if_pos rfl]
   refine wpAny_mono (he _ s8 _ H8 _ I8 q8) (fun xv s9 ⟨y, H9, I9, r9, n9⟩ => ?_) (fun _ _ z => False.elim z)
   obtain ⟨m', hm, w9⟩ := hN _ _ n9
   obtain ⟨eD9, hD9⟩ := dD I9
   have hl := rv.length
   refine call_meets F.slot_list_append ⟨_, eD9, rfl⟩ F.entry_list_append (F.args_list_append_2 _ _) (PySem.list_append D us.toArray k xv (by rw [List.size_toArray]; omega)) ⟨eD9, ?_⟩
   have I9' : Inv (cxN X scope cl xs cs C s₂ H₂ fp) [] (ρ7 ++ Yj σ js) H9 s9 := I9.pins_of fun p hp => absurd hp (by simp)
   have q := PySem.IsL.update eD9 (·.push xv)
   have e1 : us.toArray.push xv = (us ++ [xv]).toArray := by simp
   rw [e1] at q
   have I10 := I9'.turned (h' := s9.heap.update D (Obj.mapSeq (·.push xv))) (t' := s9.toks) (it := D) (fun b o hb e => (Heap.get?_update_other s9.heap _ (Ne.symm hb)).trans e) hD9 hDC (.inr hD) (fun y c e => cD y c e) (fun p hp => absurd (show p ∈ ([] : List (Addr × Obj)) from hp) (by simp))
   refine ⟨m', hm, i + 1, ρ7, H9, ys ++ [y], us ++ [xv], _, I10, hρ7, ?_, (st7 I9).2, rv.append (.cons r9 .nil), ?_, q, hD9, w9⟩
   ·exact T.keep _ _ _ (st7 I9).1 fun b hb o e => (Heap.get?_update_other s9.heap _ (Ne.symm (bD b hb))).trans e
   ·rw [List.length_append, List.length_singleton]
    omega
theorem zAF {elt iter tg : Expr} {pos : Pos} {ifs : List Expr} {g : TG} {tc : TT} {te : TE} {it : Addr} {fp : List Addr} {tn : Nat -> Heap -> Prop} {J : It} {E : Value -> Shared -> Prop} {fin : List V -> Hp -> Prop} {RR : Value -> Addr -> Result -> Shared -> Prop}
  (hc : X.calm = true) (S : CScopeN X scope cl xs cs js) (I : Inv X pins σ H s) (T : Turn X.prog X.w X.K tg J fp it tn) (st : tn 0 s.heap) (hf : ∀ b ∈ fp, Zh X pins H b)
  (hg : ∀ C s₁ H₁, PG (cxN X scope cl xs cs C s₁ H₁ fp) tg g) (ht : ∀ C s₁ H₁, zBo (cxN X scope cl xs cs C s₁ H₁ fp) ifs tc) (he : ∀ C s₁ H₁, PE (cxN X scope cl xs cs C s₁ H₁ fp) elt te) (hW : zC3 J g tc te xs.length (Yj σ js) fin H)
  (hRR : ∀ D C s' ys H' m, Inv X pins σ (upd H' D (.lst ys)) s' -> s'.heap.Ns C m -> Off X pins (upd H' D (.lst ys)) C -> H' D = none -> fin ys H' -> RR (.ref D) C (.ok .next) s') :
  wpAny (model X.prog X.w) X.A (newList []) (fun acc s₃ => wpAny (model X.prog X.w) X.A (newFunctionEnv scope X.env.globals cl [] X.env.qual none .none (some X.env)) (fun cenv s₄ =>
   codeAny (model X.prog X.w) X.A (.compStart (.ListComp elt [⟨tg, iter, ifs, 0⟩] scope pos) 0 (.ref it) acc { cenv with scope := relabel scope X.env }) (RR acc cenv.locals) s₄) E s₃) E s := by
 have hlt : ∀ b ∈ fp, b < s.heap.objs.size := fun b hb => by
  obtain ⟨o, e, _⟩ := T.obj _ _ st b hb
  exact Heap.lt_size e
 refine wpAny_newObj_type (wpAny_newFunctionEnv S.nocell (by intro y hy; simp at hy) (fun h₁ hns₁ hsb₁ => ?_) S.kind)
 dsimp only at hns₁ hsb₁ ⊢
 generalize hH2 : s.heap.push { cls := .type "list", dict := none, data := .seq ([] : List Value).toArray } = H2 at hns₁ hsb₁ ⊢
 have hC : H2.objs.size = s.heap.objs.size + 1 := by rw [← hH2, Heap.size_push]
 have hDC : s.heap.objs.size ≠ H2.objs.size := by rw [hC]; exact Nat.ne_of_lt (Nat.lt_succ_self _)
 have hCle : s.heap.objs.size <= H2.objs.size := by rw [hC]; exact Nat.le_succ _
 have below : ∀ b, b < s.heap.objs.size -> b ≠ H2.objs.size /\ b ≠ s.heap.objs.size := fun b hb => ⟨by rw [hC]; exact Nat.ne_of_lt (Nat.lt_succ_of_lt hb), Nat.ne_of_lt hb⟩
 have old : ∀ b o, s.heap.get? b = some o -> h₁.get? b = some o := fun b o e => hsb₁.extBut b o (below b (Heap.lt_size e)).1 (Heap.get?_push_of_some _ (hH2 ▸ Heap.get?_push_of_some _ e))
 have hacc : h₁.get? s.heap.objs.size = some (Q7 [] 0) := hsb₁.extBut _ _ hDC (Heap.get?_push_of_some _ (hH2 ▸ Heap.get?_push_size _ rfl))
 have hDn : H s.heap.objs.size = none := I.hok.fresh (Nat.le_refl _)
 have I₁ := zEQ (C := H2.objs.size) (D := s.heap.objs.size) (tk := s.toks + ([] : List (Str × Value)).length) (oD := Q7 [] 0) S I hf hlt (Nat.le_refl _) hCle hDC hns₁ old hacc (fun v z => by
  have z' : Data.seq ([] : List Value).toArray 0 = Data.cell v := z
  cases z')
 have I₁' := I₁.pins_of (pins' := []) fun p hp => absurd hp (by simp)
 have stk : tn 0 h₁ := T.keep _ _ _ st fun b _ o e => old b o e
 have loop : codeAny (model X.prog X.w) X.A (.compLoop (.ListComp elt [⟨tg, iter, ifs, 0⟩] scope pos) 0 (.ref it) (.ref s.heap.objs.size) (compEnvC scope cl H2.objs.size X.env)) (RR (.ref s.heap.objs.size) H2.objs.size)
   { s with heap := h₁, toks := s.toks + ([] : List (Str × Value)).length } := by
  refine zEg (s₂ := s) (H₂ := H) (fp := fp) (fin := fin) hc S hCle (Nat.le_refl _) hDC hlt T (fun y c e => ?_) (fun b hb z => ?_) (I.newfs (Nat.le_refl _)) (fun b hb y c e => (hf b hb).2.2.2.2.1 y c (S.sub y c e)) (hg _ _ _) (ht _ _ _) (he _ _ _) I₁' (by rw [List.length_replicate]) stk (fun b hb => (hf b hb).1) hacc hDn hW ?_
  ·obtain ⟨v, q⟩ := I.cell y c (S.sub y c e)
   exact q.lt
  ·rcases List.mem_cons.mp (I.stkSub b z) with e | e
   ·exact (hf b hb).2.1 e
   ·exact (hf b hb).2.2.1 e
  ·intro s' σ' H' ys us n I' rv hz eD hDn' hfin
   have u' : Un (frs X.stack) fp H H' s.heap s'.heap := I'.base
   have u : Un (frs X.stack) fp H (upd H' s.heap.objs.size (.lst ys)) s.heap s'.heap := ⟨u'.keep, u'.slot, fun b o e n hx => by rw [QG (below b (Heap.lt_size e)).2]; exact u'.free b o e n hx, u'.there,
    fun b xs e => by rw [QG (QH e hDn)]; exact u'.tups b xs e, fun b o w' e => by rw [QG (QH e hDn)]; exact u'.frzs b o w' e, fun b ps e => by
     obtain ⟨more, q⟩ := u'.tbls b ps e
     exact ⟨more, by rw [QG (QH e hDn)]; exact q⟩⟩
   have hok : HOk X.prog X.w (upd H' s.heap.objs.size (.lst ys)) s'.heap := HOk.track I'.hok hDn' ⟨hz, us, n, rv, eD⟩
   have I2 : Inv X pins σ (upd H' s.heap.objs.size (.lst ys)) s' := I.call' (ch := fp) I'.os u hok I'.bare fun b hb => ⟨(hf b hb).2.2.2.1, (hf b hb).2.1, (hf b hb).2.2.2.2.1, (hf b hb).2.2.2.2.2⟩
   obtain ⟨m, hm, _⟩ := I'.loc
   refine hRR _ _ s' ys H' m I2 hm ⟨?_, Ne.symm (below _ I.lt).1, Nat.le_trans I.sz hCle, fun y c e => ?_, fun p hp => ?_⟩ hDn' hfin
   ·rw [QG (Ne.symm hDC)]; exact I'.free
   ·obtain ⟨v, q⟩ := I.cell y c e
    exact (below _ q.lt).1
   ·exact (below _ (Heap.lt_size (I.pin p hp).1)).1
 exact codeAny_compStart_list loop (T.self X.A 0 _ _ _ stk loop)
theorem zGR {elt iter tg : Expr} {pos : Pos} {ifs : List Expr} {wi : TI} {g : TG} {tc : TT} {te : TE} (hc : X.calm = true) (S : CScopeN X scope cl xs cs js) (hi : PI X tg iter wi)
  (hg : ∀ C s₁ H₁ fp, PG (cxN X scope cl xs cs C s₁ H₁ fp) tg g) (ht : ∀ C s₁ H₁ fp, zBo (cxN X scope cl xs cs C s₁ H₁ fp) ifs tc) (he : ∀ C s₁ H₁ fp, PE (cxN X scope cl xs cs C s₁ H₁ fp) elt te)
  (hs : ∀ x, foldedSetIterable iter X.env x = pure x := by intro _; rfl) : PE X (.ListComp elt [⟨tg, iter, ifs, 0⟩] scope pos) (Zo xs.length wi g js tc te) := by
 intro pins s σ H Q I h
 rw [eval_ListComp]
 refine wpAny_comprehension_free (use := none) rfl hs S.clos S.kind S.names (thn (hi pins s σ H _ I h) fun v s1 h1 => thn h1 fun itv s2 h2 => ?_)
 obtain ⟨it, fp, tn, J, H2, e, I2, T, st2, f2, hW⟩ := h2
 subst e
 refine zAF (RR := fun acc C => compPost (model X.prog X.w) X.A X.xe none (EP X pins σ Q) acc C) hc S I2 T st2 f2 (fun C s₁ H₁ => hg C s₁ H₁ fp) (fun C s₁ H₁ => ht C s₁ H₁ fp) (fun C s₁ H₁ => he C s₁ H₁ fp) hW ?_
 intro D C s' ys H' m I' hm O hD hfin
 exact ⟨m, hm, fun h' k => ⟨.ref D, _, I'.off (t' := s'.toks) O k, rfl, hfin D hD⟩⟩
theorem zF3 {i : Nat} {y : Str} {py spos : Pos} {elt iter tg : Expr} {pos : Pos} {ifs : List Expr} {wi : TI} {g : TG} {tc : TT} {te : TE} (hN : X.N.Nodup) (hi' : X.N[i]? = some y) (hy : Loc X.env.scope y) (hc : X.calm = true) (S : CScopeN X scope cl xs cs js) (hi : PI X tg iter wi)
  (hg : ∀ C s₁ H₁ fp, PG (cxN X scope cl xs cs C s₁ H₁ fp) tg g) (ht : ∀ C s₁ H₁ fp, zBo (cxN X scope cl xs cs C s₁ H₁ fp) ifs tc) (he : ∀ C s₁ H₁ fp, PE (cxN X scope cl xs cs C s₁ H₁ fp) elt te)
  (hsw : swapsWith (.ListComp elt [⟨tg, iter, ifs, 0⟩] scope pos) (some (.Name y py)) spos.line X.env = pure true := by rfl)
  (hf : X.fn y = true \/ X.env.scope.names.lookup y = some .local := by first | exact .inl rfl | exact .inr rfl | assumption)
  (hs : ∀ x, foldedSetIterable iter X.env x = pure x := by intro _; rfl) : PS X (.Assign [.Name y py] (.ListComp elt [⟨tg, iter, ifs, 0⟩] scope pos) spos) (zBh (Zo xs.length wi g js tc te) (Zd i)) := by
 intro pins s σ H D I h
 rw [exec_Assign_Name_used _ _ _ _ hsw]
 refine wpAny_bind (wpAny_standAt (wpAny_bind ?_))
 show wpAny _ X.A (do let _ ← comprehension (.ListComp elt [⟨tg, iter, ifs, 0⟩] scope pos) scope X.env _ (newList []) false (eval iter X.env) (some (assign (.Name y py) X.env))) _ _ s
 refine wpAny_bind (wpAny_mono (wpAny_comprehension_free (use := some (assign (.Name y py) X.env)) (Q := fun _ s' => SP X pins D .next s') rfl hs S.clos S.kind S.names
  (thn (hi pins s σ H _ I h) fun v s1 h1 => thn h1 fun itv s2 h2 => ?_)) (fun _ s' hq => wpAny_pure (wpAny_pure hq)) fun _ _ e => e)
 obtain ⟨it, fp, tn, J, H2, e, I2, T, st2, f2, hW⟩ := h2
 subst e
 refine zAF (RR := fun acc C => compPost (model X.prog X.w) X.A X.xe (some (assign (.Name y py) X.env)) (fun _ s' => SP X pins D .next s') acc C) hc S I2 T st2 f2 (fun C s₁ H₁ => hg C s₁ H₁ fp) (fun C s₁ H₁ => ht C s₁ H₁ fp) (fun C s₁ H₁ => he C s₁ H₁ fp) hW ?_
 intro D' C s' ys H' m I' hm O hD hfin
 show wpAny _ X.A (assign (.Name y py) X.env (.ref D')) _ _ s'
 refine wpAny_assign_Name (Jl I' hN hi' hy (v := .ref D') rfl (fun s'' I'' sb => ?_) hf)
 obtain ⟨a, sb, ha⟩ := sb
 have hCa : C ≠ a := by
  rcases ha with e | e
  ·rw [e]; exact O.l
  ·exact fun z => O.c y a e z.symm
 exact ⟨m, hm.sameBut sb hCa, fun h' k => ⟨_, _, I''.off (t' := s''.toks) O k, hfin D' hD⟩⟩
end
structure CompOkN (sc scope : Scope) (N : List Str) (xs : List Str) (cs : List Str) (js : List Nat) : Prop where
 k1 : scope.kind = .function
 k2 : sc.kind = .function
 nocell : ∀ y ∈ scope.names, y.2 ≠ .cell
 names : ∀ y ∈ scope.names, y.2 = .local -> scope.names.lookup y.1 = some .local
 fr : ∀ y ∈ scope.names, y.2 = .free -> sc.names.lookup y.1 = some .cell /\ y.1 ∉ xs
 nd : (xs ++ cs).Nodup
 cap : js.map (fun j => N[j]?) = cs.map some
 capk : ∀ y ∈ cs, sc.names.lookup y = some .cell /\ scope.names.lookup y = some .free
theorem J5 {X : Cx} {sc scope : Scope} {xs : List Str} {cs : List Str} {js : List Nat} {qual : Str} {L f : Addr} {cd : Value} (hE : X.env = envOfC qual sc L f cd) (c : CompOkN sc scope X.N xs cs js) : CScopeN X scope (YB X.env scope.names []) xs cs js := by
 have hcs : ∀ y, sc.names.lookup y = some .cell -> (X.env.cells.lookup y).isSome = true := fun y h => by
  rw [hE]
  exact PySem.W.cellsFrom_some _ _ _ (.inl h)
 have hn : ∀ y ∈ scope.names, y.2 = .free -> (X.env.cells.lookup y.1).isSome = true := fun y hy h => hcs _ (c.fr y hy h).1
 have hk : X.env.scope.kind = .function := by rw [hE]; exact c.k2
 have kd : ∀ y, X.env.kindOf y = sc.names.lookup y := fun y => by rw [hE]; rfl
 refine ⟨WO hn, c.k1, c.nocell, c.names, fun y d h => Z6 _ _ hn (fun z d h => by cases h) h, fun y h => ?_, fun x hx => WG _ _ (fun z hz h e => (c.fr z hz h).2 (by rw [e]; exact hx)) rfl, c.nd, Jf c.cap, fun y hy => ?_⟩
 ·exact Option.isSome_iff_exists.mp (JA _ _ (.inl (ZO c.nocell h)))
 ·have q := c.capk y hy
  have q1 : X.env.kindOf y = some .cell := (kd y).trans q.1
  exact ⟨.inl q1, .inl (ZN hk q1 q.2)⟩
section
variable {X : Cx}
theorem zH8 (xs : List Str) (cs : List Str) (js : List Nat) {sc scope : Scope} {qual : Str} {L f : Addr} {cd : Value} {elt iter tg : Expr} {pos : Pos} {wi : TI} {g : TG} {te : TE} (hE : X.env = envOfC qual sc L f cd) (c : CompOkN sc scope X.N xs cs js) (hc : X.calm = true) (hi : PI X tg iter wi)
  (hg : ∀ C s₁ H₁ fp, PG (cxN X scope (YB X.env scope.names []) xs cs C s₁ H₁ fp) tg g) (he : ∀ C s₁ H₁ fp, PE (cxN X scope (YB X.env scope.names []) xs cs C s₁ H₁ fp) elt te)
  (hs : ∀ x, foldedSetIterable iter X.env x = pure x := by intro _; rfl) : PE X (.ListComp elt [⟨tg, iter, [], 0⟩] scope pos) (Zo xs.length wi g js zDO te) :=
 zGR hc (J5 hE c) hi hg (fun _ _ _ _ => zA8) he hs
theorem zF4 {i : Nat} {y : Str} {py spos : Pos} (hN : X.N.Nodup) (hi' : X.N[i]? = some y) (hy : Loc X.env.scope y) (xs : List Str) (cs : List Str) (js : List Nat) {sc scope : Scope} {qual : Str} {L f : Addr} {cd : Value} {elt iter t tg : Expr} {pos : Pos} {wi : TI} {g : TG} {tc : TT} {te : TE} (hE : X.env = envOfC qual sc L f cd) (c : CompOkN sc scope X.N xs cs js) (hc : X.calm = true) (hi : PI X tg iter wi)
  (hg : ∀ C s₁ H₁ fp, PG (cxN X scope (YB X.env scope.names []) xs cs C s₁ H₁ fp) tg g) (ht : ∀ C s₁ H₁ fp, PT (cxN X scope (YB X.env scope.names []) xs cs C s₁ H₁ fp) t tc) (he : ∀ C s₁ H₁ fp, PE (cxN X scope (YB X.env scope.names []) xs cs C s₁ H₁ fp) elt te)
  (hsw : swapsWith (.ListComp elt [⟨tg, iter, [t], 0⟩] scope pos) (some (.Name y py)) spos.line X.env = pure true := by rfl)
  (hf : X.fn y = true \/ X.env.scope.names.lookup y = some .local := by first | exact .inl rfl | exact .inr rfl | assumption)
  (hs : ∀ x, foldedSetIterable iter X.env x = pure x := by intro _; rfl) : PS X (.Assign [.Name y py] (.ListComp elt [⟨tg, iter, [t], 0⟩] scope pos) spos) (zBh (Zo xs.length wi g js tc te) (Zd i)) :=
 zF3 hN hi' hy hc (J5 hE c) hi hg (fun _ _ _ _ => zAu (ht _ _ _ _)) he hsw hf hs
abbrev zFC (K : W.Frag) : TG := zJy K 2 (zDm (Zd 0) (zDm (Zd 1) zJY))
theorem zE7 {scope : Scope} {cl : List (Str × Addr)} {x y : Str} {cs : List Str} {C : Addr} {s₁ : Shared} {H₁ : Hp} {fp : List Addr} {px py tp : Pos} {k : Nat} (hc : X.calm = true) (nd : ([x, y] ++ cs).Nodup) (lx : scope.names.lookup x = some .local) (ly : scope.names.lookup y = some .local) :
  PG (cxN X scope cl [x, y] cs C s₁ H₁ fp) (.Tuple [.Name x px, .Name y py] k tp) (zFC X.K) :=
 zHB (X := cxN X scope cl [x, y] cs C s₁ H₁ fp) hc (Wn (YF (i := 0) nd rfl (.inl (lookup_relabel_local lx)) (.inl (by show List.contains [x, y] x = true; simp))) (Wn (YF (i := 1) nd rfl (.inl (lookup_relabel_local ly)) (.inl (by show List.contains [x, y] y = true; simp))) zFZ))
theorem zIz (x y : Str) (cs : List Str) (js : List Nat) {sc scope : Scope} {qual : Str} {L f : Addr} {cd : Value} {elt iter : Expr} {px py tp pos : Pos} {k : Nat} {wi : TI} {te : TE} (hE : X.env = envOfC qual sc L f cd) (c : CompOkN sc scope X.N [x, y] cs js) (lx : scope.names.lookup x = some .local) (ly : scope.names.lookup y = some .local) (hc : X.calm = true) (hi : PI X (.Tuple [.Name x px, .Name y py] k tp) iter wi)
  (he : ∀ C s₁ H₁ fp, PE (cxN X scope (YB X.env scope.names []) [x, y] cs C s₁ H₁ fp) elt te)
  (hs : ∀ x, foldedSetIterable iter X.env x = pure x := by intro _; rfl) : PE X (.ListComp elt [⟨.Tuple [.Name x px, .Name y py] k tp, iter, [], 0⟩] scope pos) (Zo 2 wi (zFC X.K) js zDO te) :=
 zH8 [x, y] cs js hE c hc hi (fun _ _ _ _ => zE7 hc c.nd lx ly) he hs
theorem zGS {i : Nat} {z : Str} {pz spos : Pos} (hN : X.N.Nodup) (hi' : X.N[i]? = some z) (hy : Loc X.env.scope z) (x y : Str) (cs : List Str) (js : List Nat) {sc scope : Scope} {qual : Str} {L f : Addr} {cd : Value} {elt iter t : Expr} {px py tp pos : Pos} {k : Nat} {wi : TI} {tc : TT} {te : TE} (hE : X.env = envOfC qual sc L f cd) (c : CompOkN sc scope X.N [x, y] cs js) (lx : scope.names.lookup x = some .local) (ly : scope.names.lookup y = some .local) (hc : X.calm = true) (hi : PI X (.Tuple [.Name x px, .Name y py] k tp) iter wi)
  (ht : ∀ C s₁ H₁ fp, PT (cxN X scope (YB X.env scope.names []) [x, y] cs C s₁ H₁ fp) t tc) (he : ∀ C s₁ H₁ fp, PE (cxN X scope (YB X.env scope.names []) [x, y] cs C s₁ H₁ fp) elt te)
  (hsw : swapsWith (.ListComp elt [⟨.Tuple [.Name x px, .Name y py] k tp, iter, [t], 0⟩] scope pos) (some (.Name z pz)) spos.line X.env = pure true := by rfl)
  (hf : X.fn z = true \/ X.env.scope.names.lookup z = some .local := by first | exact .inl rfl | exact .inr rfl | assumption)
  (hs : ∀ x, foldedSetIterable iter X.env x = pure x := by intro _; rfl) : PS X (.Assign [.Name z pz] (.ListComp elt [⟨.Tuple [.Name x px, .Name y py] k tp, iter, [t], 0⟩] scope pos) spos) (zBh (Zo 2 wi (zFC X.K) js tc te) (Zd i)) :=
 zF4 hN hi' hy [x, y] cs js hE c hc hi (fun _ _ _ _ => zE7 hc c.nd lx ly) ht he hsw hf hs
theorem zBM {K : W.Frag} {b1 b2 : Bool} {a b : Addr} {xs ys : List V} {tc : TT} {te : TE} {τ : St} {fin : List V -> Hp -> Prop} {H : Hp} (hl : xs.length = ys.length) (hz : xs.length <= sizeLine) (Pv : Nat -> List V -> Hp -> Prop) (h0 : Pv 0 [] H)
  (hk : ∀ i zs H, i <= xs.length -> Pv i zs H -> SqB K b1 H a xs /\ SqB K b2 H b ys /\ zs.length <= i)
  (hs : ∀ (i : Nat) x y p zs H, xs[i]? = some x -> ys[i]? = some y -> Pv i zs H -> H p = none -> tc (some x :: some y :: τ) (upd H p (.tup [x, y])) fun b H3 => if b = true then te (some x :: some y :: τ) H3 (fun y H4 => Pv (i + 1) (zs ++ [y]) H4) else Pv (i + 1) zs H3)
  (hd : ∀ zs H, Pv xs.length zs H -> fin zs H) : zC3 (Itz K [(b1, a), (b2, b)]) (zFC K) tc te 2 τ fin H := by
 refine ⟨fun i m zs H => m = xs.length - i /\ i <= xs.length /\ Pv i zs H, ⟨xs.length, by simp, Nat.zero_le _, h0⟩, ?_⟩
 rintro i m zs H ⟨rfl, hi, p⟩
 obtain ⟨q1, q2, q3⟩ := hk i zs H hi p
 by_cases hlt : i < xs.length
 ·refine .inr ⟨fun r hr => ?_, by omega, Pv (i + 1), fun ys' H' p' => ⟨xs.length - (i + 1), by omega, rfl, hlt, p'⟩, fun x H' y ρ hρ => ?_⟩
  ·rcases List.mem_cons.mp hr with rfl | hr
   ·exact ⟨xs, xs[i], q1, by simp [hlt]⟩
   ·rw [List.mem_singleton.mp hr]
    exact ⟨ys, ys[i], q2, by simp [hl ▸ hlt]⟩
  ·obtain ⟨c, us, rfl, hc, rfl, pa⟩ := y
   match us, pa, ρ, hρ with
   | [u, v], .cons p1 (.cons p2 .nil), [r1, r2], _ =>
    refine ⟨c, [u, v], rfl, SqT.of QD, rfl, u, [v], rfl, v, [], rfl, rfl, ⟨[some u, some v], rfl, rfl⟩, ?_⟩
    exact hs i u v c zs H (p1 xs q1) (p2 ys q2) p hc
 ·have e : i = xs.length := by omega
  subst e
  exact .inl ⟨⟨_, xs, rfl, q1, Nat.le_refl _⟩, hd zs H p⟩
theorem zEM {K : W.Frag} {b1 b2 b3 : Bool} {a b c : Addr} {xs ys zs : List V} {tc : TT} {te : TE} {τ : St} {fin : List V -> Hp -> Prop} {H : Hp} (hl : xs.length = ys.length) (hl2 : xs.length = zs.length) (hz : xs.length <= sizeLine) (Pv : Nat -> List V -> Hp -> Prop) (h0 : Pv 0 [] H)
  (hk : ∀ i vs H, i <= xs.length -> Pv i vs H -> SqB K b1 H a xs /\ SqB K b2 H b ys /\ SqB K b3 H c zs /\ vs.length <= i)
  (hs : ∀ (i : Nat) x y z p vs H, xs[i]? = some x -> ys[i]? = some y -> zs[i]? = some z -> Pv i vs H -> H p = none -> tc (some (.ref p) :: τ) (upd H p (.tup [x, y, z])) fun b H3 => if b = true then te (some (.ref p) :: τ) H3 (fun y H4 => Pv (i + 1) (vs ++ [y]) H4) else Pv (i + 1) vs H3)
  (hd : ∀ vs H, Pv xs.length vs H -> fin vs H) : zBS (Itz K [(b1, a), (b2, b), (b3, c)]) tc te τ fin H := by
 refine ⟨fun i m vs H => m = xs.length - i /\ i <= xs.length /\ Pv i vs H, ⟨xs.length, by simp, Nat.zero_le _, h0⟩, ?_⟩
 rintro i m vs H ⟨rfl, hi, p⟩
 obtain ⟨q1, q2, q3, q4⟩ := hk i vs H hi p
 by_cases hlt : i < xs.length
 ·refine .inr ⟨fun r hr => ?_, by omega, Pv (i + 1), fun ys' H' p' => ⟨xs.length - (i + 1), by omega, rfl, hlt, p'⟩, fun x H' y => ?_⟩
  ·rcases List.mem_cons.mp hr with rfl | hr
   ·exact ⟨xs, xs[i], q1, by simp [hlt]⟩
   rcases List.mem_cons.mp hr with rfl | hr
   ·exact ⟨ys, ys[i], q2, by simp [hl ▸ hlt]⟩
   ·rw [List.mem_singleton.mp hr]
    exact ⟨zs, zs[i], q3, by simp [hl2 ▸ hlt]⟩
  ·obtain ⟨d, us, rfl, hc, rfl, pa⟩ := y
   match us, pa with
   | [u, v, t], .cons p1 (.cons p2 (.cons p3 .nil)) => exact hs i u v t d vs H (p1 xs q1) (p2 ys q2) (p3 zs q3) p hc
 ·have e : i = xs.length := by omega
  subst e
  exact .inl ⟨⟨_, xs, rfl, q1, Nat.le_refl _⟩, hd vs H p⟩
end
end L2
namespace L2
open PySem PySem.Spec PyProof.Rows
theorem zGN (bs : List Bool) : (List.range bs.length).all (fun i => bs.getD i true) = bs.all id := by
 rw [Bool.eq_iff_iff, List.all_eq_true, List.all_eq_true]
 constructor
 ·intro h b hb
  obtain ⟨i, hi, e⟩ := List.mem_iff_getElem.mp hb
  have := h i (List.mem_range.mpr hi)
  rw [List.getD_eq_getElem?_getD, List.getElem?_eq_getElem hi] at this
  rw [← e]; exact this
 ·intro h i hi
  have hi' := List.mem_range.mp hi
  rw [List.getD_eq_getElem?_getD, List.getElem?_eq_getElem hi']
  exact h _ (List.getElem_mem hi')
section
variable {X : Cx}
def zMa (K : W.Frag) : List V -> Hp -> VK -> Prop := fun xs H Q => ∃ (l : Addr) (bs : List Bool), xs = [.ref l] /\ SqL K H l (bs.map V.bl) /\ Q (.bl (bs.all id)) H
theorem zDj (hc : X.calm = true) : WK X (.builtin "all") (zMa X.K) := by
 intro pins s σ H xs us Q I r h
 obtain ⟨l, bs, rfl, hq, q⟩ := h
 obtain ⟨u, rfl, rx⟩ := zFk r
 cases rx
 obtain ⟨its, r', pl, hz⟩ := I.list hq
 have hl : s.heap.IsList l its.toArray := pl.isList
 have hlt : l < s.heap.objs.size := by obtain ⟨_, e, _⟩ := hl; exact Heap.lt_size e
 have hlen := r'.length
 rw [List.length_map] at hlen
 refine call_all_walk (wpAny_pyIter_list hl ?_)
 refine ⟨s.heap.objs.size, _, _, _, _, _, fun i => bs.getD i true, rfl, Walks.list (A := X.A.in1) (I.ok.hd hc) s.heap.objs.size l (Nat.ne_of_lt hlt) its.toArray, ⟨⟨_, Heap.get?_push_size _ rfl, rfl, rfl⟩, ?_⟩, ?_, ?_⟩
 ·obtain ⟨o, e, r⟩ := hl
  exact ⟨o, Heap.get?_push_of_some _ e, r⟩
 ·intro i v s' Q' E' hv hQ
  have hv' : its[i]? = some v := by simpa using hv
  have hi : i < its.length := (List.getElem?_eq_some_iff.mp hv').1
  obtain ⟨u, e1, e2⟩ := r'.get (i := i) (x := V.bl (bs.getD i true)) (by
   rw [List.getElem?_map, List.getElem?_eq_getElem (by omega), List.getD_eq_getElem?_getD, List.getElem?_eq_getElem (by omega)]; rfl)
  rw [e1] at hv'
  cases hv'
  cases e2
  exact wpAny_truthy_bool hQ
 ·intro h' tk hk
  have e : its.toArray.size = bs.length := by simp [hlen]
  rw [e, zGN]
  refine ⟨.bl (bs.all id), H, I.kept (t' := tk) fun b o e => hk b o ?_ (Heap.get?_push_of_some _ e), rfl, q⟩
  intro hb
  rw [List.mem_singleton.mp hb] at e
  exact Nat.lt_irrefl _ (Heap.lt_size e)
end
mutual
def Kd.eqb : Kd -> Kd -> Bool
 | .num i, .num j => i == j
 | .txt x, .txt y => x == y
 | .tup ks, .tup ls => Kd.eqbL ks ls
 | .num _, .txt _ => false
 | .num _, .tup _ => false
 | .txt _, .num _ => false
 | .txt _, .tup _ => false
 | .tup _, .num _ => false
 | .tup _, .txt _ => false
def Kd.eqbL : List Kd -> List Kd -> Bool
 | [], [] => true
 | k :: r, l :: q => k.eqb l && Kd.eqbL r q
 | [], _ :: _ => false
 | _ :: _, [] => false
end
mutual
theorem Kd.eqb_eq : ∀ {k l : Kd}, k.eqb l = true -> k = l
 | .num i, .num j, h => by unfold Kd.eqb at h; rw [eq_of_beq h]
 | .txt i, .txt j, h => by unfold Kd.eqb at h; rw [eq_of_beq h]
 | .tup ks, .tup ls, h => by unfold Kd.eqb at h; rw [Kd.eqbL_eq h]
 | .num _, .txt _, h => by unfold Kd.eqb at h; cases h
 | .num _, .tup _, h => by unfold Kd.eqb at h; cases h
 | .txt _, .num _, h => by unfold Kd.eqb at h; cases h
 | .txt _, .tup _, h => by unfold Kd.eqb at h; cases h
 | .tup _, .num _, h => by unfold Kd.eqb at h; cases h
 | .tup _, .txt _, h => by unfold Kd.eqb at h; cases h
theorem Kd.eqbL_eq : ∀ {k l : List Kd}, Kd.eqbL k l = true -> k = l
 | [], [], _ => rfl
 | k :: r, l :: q, h => by
  unfold Kd.eqbL at h
  rw [Bool.and_eq_true] at h
  rw [Kd.eqb_eq h.1, Kd.eqbL_eq h.2]
 | [], _ :: _, h => by unfold Kd.eqbL at h; cases h
 | _ :: _, [], h => by unfold Kd.eqbL at h; cases h
end
mutual
theorem IsK.inj {H : Hp} : ∀ {k l : Kd} {v : V}, IsK H k v -> IsK H l v -> k.eqb l = true
 | .num i, .num j, v, h, h' => by unfold IsK at h h'; subst h; cases h'; unfold Kd.eqb; exact beq_self_eq_true _
 | .txt i, .txt j, v, h, h' => by unfold IsK at h h'; subst h; cases h'; unfold Kd.eqb; exact beq_self_eq_true _
 | .tup ks, .tup ls, v, h, h' => by
  unfold IsK at h h'
  obtain ⟨a, vs, rfl, e, _, q⟩ := h
  obtain ⟨a', vs', e1, e', _, q'⟩ := h'
  cases e1
  rw [e] at e'
  cases e'
  unfold Kd.eqb
  exact IsKs.inj q q'
 | .num _, .txt _, v, h, h' => by unfold IsK at h h'; subst h; cases h'
 | .num _, .tup _, v, h, h' => by unfold IsK at h h'; subst h; obtain ⟨_, _, e, _⟩ := h'; cases e
 | .txt _, .num _, v, h, h' => by unfold IsK at h h'; subst h; cases h'
 | .txt _, .tup _, v, h, h' => by unfold IsK at h h'; subst h; obtain ⟨_, _, e, _⟩ := h'; cases e
 | .tup _, .num _, v, h, h' => by unfold IsK at h h'; subst h'; obtain ⟨_, _, e, _⟩ := h; cases e
 | .tup _, .txt _, v, h, h' => by unfold IsK at h h'; subst h'; obtain ⟨_, _, e, _⟩ := h; cases e
theorem IsKs.inj {H : Hp} : ∀ {k l : List Kd} {v : List V}, IsKs H k v -> IsKs H l v -> Kd.eqbL k l = true
 | [], [], _, _, _ => by unfold Kd.eqbL; rfl
 | k :: r, l :: q, v, h, h' => by
  unfold IsKs at h h'
  obtain ⟨a, vr, rfl, h1, h2⟩ := h
  obtain ⟨a', vr', e, h1', h2'⟩ := h'
  obtain ⟨rfl, rfl⟩ := List.cons.inj e
  unfold Kd.eqbL
  rw [IsK.inj h1 h1', IsKs.inj h2 h2']; rfl
 | [], _ :: _, v, h, h' => by unfold IsKs at h h'; subst h; obtain ⟨_, _, e, _⟩ := h'; cases e
 | _ :: _, [], v, h, h' => by unfold IsKs at h h'; subst h'; obtain ⟨_, _, e, _⟩ := h; cases e
end
def zA0 (ks ls : List Kd) (j : Nat) : Bool := match ks[j]?, ls[j]? with
 | some k, some l => k.eqb l
 | _, _ => true
theorem zB2 : ∀ (ks ls : List Kd), ((List.range (min ks.length ls.length)).all (zA0 ks ls) && ks.length == ls.length) = Kd.eqbL ks ls
 | [], [] => by unfold Kd.eqbL; rfl
 | [], l :: q => by unfold Kd.eqbL; simp
 | k :: r, [] => by unfold Kd.eqbL; simp
 | k :: r, l :: q => by
  unfold Kd.eqbL
  rw [← zB2 r q]
  have e : min (k :: r).length (l :: q).length = min r.length q.length + 1 := by simp only [List.length_cons]; omega
  rw [e, List.range_succ_eq_map, List.all_cons, List.all_map]
  have e1 : zA0 (k :: r) (l :: q) 0 = k.eqb l := rfl
  have e2 : (zA0 (k :: r) (l :: q) ∘ Nat.succ) = zA0 r q := by funext j; rfl
  have e3 : ((k :: r).length == (l :: q).length) = (r.length == q.length) := by
   rw [Bool.eq_iff_iff, beq_iff_eq, beq_iff_eq]; simp
  rw [e1, e2, e3, Bool.and_assoc]
section
variable {X : Cx} {pins : List (Addr × Obj)} {σ : St} {H : Hp} {s : Shared}
theorem zCF (I : Inv X pins σ H s) {A : Around} {a b : Addr} {ks ls : List Kd} {vs ws : List V} (ha : H a = some (.tup vs)) (hb : H b = some (.tup ws)) (hk : IsKs H ks vs) (hl : IsKs H ls ws) (hu : A.units < cLine)
  (ih : ∀ {k k' : Kd} {x y : V} {u v : Value}, k ∈ ks -> IsK H k x -> IsK H k' y -> RelV x u -> RelV y v -> SeqAt.EqAt A.in1 s u v (k.eqb k')) : SeqAt.RcAt A s (.ref a) (.ref b) (Kd.eqbL ks ls) := by
 obtain ⟨its, r1, p1, _⟩ := I.tuple (SqT.of ha)
 obtain ⟨its', r2, p2, _⟩ := I.tuple (SqT.of hb)
 have n1 := r1.length
 have n2 := r2.length
 have m1 := hk.length
 have m2 := hl.length
 have z := SeqAt.RcAt.tuples (A := A) (s := s) (l := a) (b := b) (e := zA0 ks ls) p1 p2 hu (fun j h1 h2 => ?_)
 ·have e1 : its.toArray.size = ks.length := by rw [List.size_toArray]; omega
  have e2 : its'.toArray.size = ls.length := by rw [List.size_toArray]; omega
  rw [e1, e2, zB2] at z
  exact z
 ·rw [List.size_toArray] at h1 h2
  have g1 : vs[j]? = some vs[j] := List.getElem?_eq_getElem (by omega)
  have g2 : ws[j]? = some ws[j] := List.getElem?_eq_getElem (by omega)
  obtain ⟨u, eu, ru⟩ := r1.get g1
  obtain ⟨v, ev, rv⟩ := r2.get g2
  obtain ⟨k, ek, ik⟩ := hk.get g1
  obtain ⟨l, el, il⟩ := hl.get g2
  have q := ih (List.mem_of_getElem? ek) ik il ru rv
  have f1 : its.toArray[j] = u := by
   have := (List.getElem?_eq_some_iff.mp eu).2
   simpa using this
  have f2 : its'.toArray[j] = v := by
   have := (List.getElem?_eq_some_iff.mp ev).2
   simpa using this
  have f3 : zA0 ks ls j = k.eqb l := by unfold zA0; rw [ek, el]
  rw [f1, f2, f3]
  exact q
theorem zG4 (I : Inv X pins σ H s) : ∀ (n : Nat) {k k' : Kd} {x y : V} {u v : Value} {A : Around}, k.deep <= n -> IsK H k x -> IsK H k' y -> RelV x u -> RelV y v -> A.units + n < cLine -> SeqAt.EqAt A s u v (k.eqb k') := by
 intro n
 induction n with
 | zero =>
  intro k k' x y u v A hd hk hk' rx ry hu
  cases k with
  | num i =>
   unfold IsK at hk; subst hk; obtain ⟨t, rfl⟩ := rx
   cases k' with
   | num j => unfold IsK at hk'; subst hk'; obtain ⟨t', rfl⟩ := ry; unfold Kd.eqb; exact SeqAt.EqAt.int_int _ _ _ _
   | txt j => unfold IsK at hk'; subst hk'; obtain ⟨t', rfl⟩ := ry; unfold Kd.eqb; exact SeqAt.EqAt.int_str _ _ _ _
   | tup ls =>
    unfold IsK at hk'; obtain ⟨b, ws, rfl, hb, _, _⟩ := hk'; cases ry
    obtain ⟨its', r2, p2, _⟩ := I.tuple (SqT.of hb)
    unfold Kd.eqb; exact SeqAt.EqAt.int_tuple _ _ p2 (by omega)
  | txt i =>
   unfold IsK at hk; subst hk; obtain ⟨t, rfl⟩ := rx
   cases k' with
   | num j => unfold IsK at hk'; subst hk'; obtain ⟨t', rfl⟩ := ry; unfold Kd.eqb; exact SeqAt.EqAt.str_int _ _ _ _
   | txt j => unfold IsK at hk'; subst hk'; obtain ⟨t', rfl⟩ := ry; unfold Kd.eqb; exact SeqAt.EqAt.str_str _ _ _ _
   | tup ls =>
    unfold IsK at hk'; obtain ⟨b, ws, rfl, hb, _, _⟩ := hk'; cases ry
    obtain ⟨its', r2, p2, _⟩ := I.tuple (SqT.of hb)
    unfold Kd.eqb; exact SeqAt.EqAt.str_tuple _ _ p2 (by omega)
  | tup ks => unfold Kd.deep at hd; omega
 | succ n ih =>
  intro k k' x y u v A hd hk hk' rx ry hu
  cases k with
  | num i => exact ih (by unfold Kd.deep; omega) hk hk' rx ry (by omega)
  | txt i => exact ih (by unfold Kd.deep; omega) hk hk' rx ry (by omega)
  | tup ks =>
   have hk0 := hk
   unfold IsK at hk; obtain ⟨a, vs, rfl, ha, _, hks⟩ := hk; cases rx
   obtain ⟨its, r1, p1, _⟩ := I.tuple (SqT.of ha)
   cases k' with
   | num j => unfold IsK at hk'; subst hk'; obtain ⟨t', rfl⟩ := ry; unfold Kd.eqb; exact SeqAt.EqAt.tuple_int _ _ p1 (by omega)
   | txt j => unfold IsK at hk'; subst hk'; obtain ⟨t', rfl⟩ := ry; unfold Kd.eqb; exact SeqAt.EqAt.tuple_str _ _ p1 (by omega)
   | tup ls =>
    have hk1 := hk'
    unfold IsK at hk'; obtain ⟨b, ws, rfl, hb, _, hls⟩ := hk'; cases ry
    by_cases e : a = b
    ·subst e
     rw [hk0.inj hk1]
     exact SeqAt.EqAt.same _
    ·unfold Kd.eqb
     unfold Kd.deep at hd
     exact SeqAt.EqAt.of_refs e (zCF I ha hb hks hls (by omega) fun hm i1 i2 q1 q2 => ih (Nat.le_trans (Kd.deep_le hm) (by omega)) i1 i2 q1 q2 (by show A.units + 1 + n < cLine; omega))
theorem zKt (I : Inv X pins σ H s) {n : Nat} {k k' : Kd} {x y : V} {u v : Value} {A : Around} (hd : k.deep <= n) (hk : IsK H k x) (hk' : IsK H k' y) (rx : RelV x u) (ry : RelV y v) (hu : A.units + n < cLine) : SeqAt.RcAt A s u v (k.eqb k') := by
 cases k with
 | num i =>
  unfold IsK at hk; subst hk; obtain ⟨t, rfl⟩ := rx
  cases k' with
  | num j => unfold IsK at hk'; subst hk'; obtain ⟨t', rfl⟩ := ry; unfold Kd.eqb; exact SeqAt.RcAt.int_int _ _ _ _
  | txt j => unfold IsK at hk'; subst hk'; obtain ⟨t', rfl⟩ := ry; unfold Kd.eqb; exact SeqAt.RcAt.int_str _ _ _ _
  | tup ls =>
   unfold IsK at hk'; obtain ⟨b, ws, rfl, hb, _, _⟩ := hk'; cases ry
   obtain ⟨its', r2, p2, _⟩ := I.tuple (SqT.of hb)
   unfold Kd.eqb; exact SeqAt.RcAt.int_tuple _ _ p2 (by omega)
 | txt i =>
  unfold IsK at hk; subst hk; obtain ⟨t, rfl⟩ := rx
  cases k' with
  | num j => unfold IsK at hk'; subst hk'; obtain ⟨t', rfl⟩ := ry; unfold Kd.eqb; exact SeqAt.RcAt.str_int _ _ _ _
  | txt j => unfold IsK at hk'; subst hk'; obtain ⟨t', rfl⟩ := ry; unfold Kd.eqb; exact SeqAt.RcAt.str_str _ _ _ _
  | tup ls =>
   unfold IsK at hk'; obtain ⟨b, ws, rfl, hb, _, _⟩ := hk'; cases ry
   obtain ⟨its', r2, p2, _⟩ := I.tuple (SqT.of hb)
   unfold Kd.eqb; exact SeqAt.RcAt.str_tuple _ _ p2 (by omega)
 | tup ks =>
  unfold IsK at hk; obtain ⟨a, vs, rfl, ha, _, hks⟩ := hk; cases rx
  obtain ⟨its, r1, p1, _⟩ := I.tuple (SqT.of ha)
  cases k' with
  | num j => unfold IsK at hk'; subst hk'; obtain ⟨t', rfl⟩ := ry; unfold Kd.eqb; exact SeqAt.RcAt.tuple_int _ _ p1 (by omega)
  | txt j => unfold IsK at hk'; subst hk'; obtain ⟨t', rfl⟩ := ry; unfold Kd.eqb; exact SeqAt.RcAt.tuple_str _ _ p1 (by omega)
  | tup ls =>
   unfold IsK at hk'; obtain ⟨b, ws, rfl, hb, _, hls⟩ := hk'; cases ry
   unfold Kd.eqb
   unfold Kd.deep at hd
   exact zCF I ha hb hks hls (by omega) fun hm i1 i2 q1 q2 => zG4 I (n - 1) (Nat.le_trans (Kd.deep_le hm) (by omega)) i1 i2 q1 q2 (by show A.units + 1 + (n - 1) < cLine; omega)
end
def zMf : R2 := fun x y H Q => ∃ k k', IsK H k x /\ IsK H k' y /\ k.deep <= 20 /\ Q (.bl (k.eqb k')) H
theorem zLH {X : Cx} (hu : X.A.units + 64 < cLine) : OpR X (compareOp .Eq) zMf := by
 intro pins s σ H x y v u Q I rx ry h
 obtain ⟨k, k', hk, hk', hd, q⟩ := h
 exact zKt I hd hk hk' rx ry (by omega) X.prog X.w _ _ ⟨.bl (k.eqb k'), H, I, rfl, q⟩
def tNo : TE := fun _ _ _ => False
theorem zHO {X : Cx} {e : Expr} : PE X e tNo := fun _ _ _ _ _ _ h => h.elim
end L2
namespace L2
open PySem PySem.Spec PyProof.Rows
inductive Od where
 | bl (b : Bool) | non | lst | dct
inductive Th where
 | num (i : Int)
 | txt (x : Str)
 | tup (ts : List Th)
 | odd (o : Od)
mutual
def Th.ok : Th -> Nat -> Bool
 | .num i, _ => decide (-10 ^ 60 < i) && decide (i < 10 ^ 60)
 | .txt x, _ => decide (x.length <= 60)
 | .tup ts, n => decide (0 < n) && (decide (ts.length <= 6) && Th.okL ts (n - 1))
 | .odd _, _ => false
def Th.okL : List Th -> Nat -> Bool
 | [], _ => true
 | t :: r, n => t.ok n && Th.okL r n
end
def Th.isNum : Th -> Bool
 | .num _ => true
 | .txt _ => false
 | .tup _ => false
 | .odd _ => false
def IsO (B : Hp) : Od -> V -> Prop
 | .bl b, v => v = .bl b
 | .non, v => v = .non
 | .lst, v => ∃ a xs, v = .ref a /\ B a = some (.lst xs)
 | .dct, v => ∃ a xs, v = .ref a /\ B a = some (.dK xs)
mutual
def IsT (B H : Hp) : Th -> V -> Prop
 | .num i, v => v = .int i
 | .txt x, v => v = .str x /\ x.length <= 1000
 | .tup ts, v => ∃ a vs, v = .ref a /\ H a = some (.tup vs) /\ vs.length <= 1000 /\ IsTs B H ts vs
 | .odd o, v => IsO B o v
def IsTs (B H : Hp) : List Th -> List V -> Prop
 | [], vs => vs = []
 | k :: r, vs => ∃ v vr, vs = v :: vr /\ IsT B H k v /\ IsTs B H r vr
end
mutual
theorem IsT.same {B H H' : Hp} (s : TupS H H') : ∀ {k : Th} {v : V}, IsT B H k v -> IsT B H' k v
 | .num _, _, h => by unfold IsT at h ⊢; exact h
 | .txt _, _, h => by unfold IsT at h ⊢; exact h
 | .odd _, _, h => by unfold IsT at h ⊢; exact h
 | .tup ts, _, h => by
  unfold IsT at h ⊢
  obtain ⟨a, vs, e, h1, h2, h3⟩ := h
  exact ⟨a, vs, e, s _ _ h1, h2, IsTs.same s h3⟩
theorem IsTs.same {B H H' : Hp} (s : TupS H H') : ∀ {ks : List Th} {vs : List V}, IsTs B H ks vs -> IsTs B H' ks vs
 | [], _, h => by unfold IsTs at h ⊢; exact h
 | k :: r, _, h => by
  unfold IsTs at h ⊢
  obtain ⟨v, vr, e, h1, h2⟩ := h
  exact ⟨v, vr, e, IsT.same s h1, IsTs.same s h2⟩
end
theorem IsTs.length {B H : Hp} : ∀ {ks : List Th} {vs : List V}, IsTs B H ks vs -> vs.length = ks.length
 | [], _, h => by unfold IsTs at h; subst h; rfl
 | k :: r, _, h => by
  unfold IsTs at h
  obtain ⟨v, vr, rfl, _, h2⟩ := h
  rw [List.length_cons, List.length_cons, h2.length]
theorem IsTs.get {B H : Hp} : ∀ {ks : List Th} {vs : List V} {i : Nat} {v : V}, IsTs B H ks vs -> vs[i]? = some v -> ∃ k, ks[i]? = some k /\ IsT B H k v
 | [], _, i, v, h, e => by unfold IsTs at h; subst h; simp at e
 | k :: r, _, 0, v, h, e => by
  unfold IsTs at h
  obtain ⟨v', vr, rfl, h1, _⟩ := h
  rw [List.getElem?_cons_zero] at e
  cases e
  exact ⟨k, rfl, h1⟩
 | k :: r, _, i + 1, v, h, e => by
  unfold IsTs at h
  obtain ⟨v', vr, rfl, _, h2⟩ := h
  rw [List.getElem?_cons_succ] at e
  obtain ⟨k', e1, e2⟩ := h2.get e
  exact ⟨k', by rw [List.getElem?_cons_succ]; exact e1, e2⟩
theorem zFu (n : Nat) : ∀ ts : List Th, Th.okL ts n = (ts.map fun t => t.ok n).all id
 | [] => by unfold Th.okL; rfl
 | t :: r => by unfold Th.okL; rw [List.map_cons, List.all_cons, zFu n r]; rfl
mutual
def Kd.th : Kd -> Th
 | .num i => .num i
 | .txt x => .txt x
 | .tup ks => .tup (Kd.thL ks)
def Kd.thL : List Kd -> List Th
 | [] => []
 | k :: r => k.th :: Kd.thL r
end
theorem Kd.thL_length : ∀ ks : List Kd, (Kd.thL ks).length = ks.length
 | [] => by unfold Kd.thL; rfl
 | k :: r => by unfold Kd.thL; rw [List.length_cons, List.length_cons, Kd.thL_length r]
mutual
theorem IsK.th {B H : Hp} : ∀ {k : Kd} {v : V} {n : Nat}, IsK H k v -> k.th.ok n = true -> IsT B H k.th v
 | .num _, _, _, h, _ => by unfold IsK at h; unfold Kd.th IsT; exact h
 | .txt x, _, _, h, q => by
  unfold IsK at h; unfold Kd.th at q ⊢; unfold Th.ok at q; unfold IsT
  have := of_decide_eq_true q
  exact ⟨h, by omega⟩
 | .tup ks, _, _, h, q => by
  unfold IsK at h; unfold Kd.th at q ⊢; unfold Th.ok at q; unfold IsT
  obtain ⟨a, vs, e, h1, h2, h3⟩ := h
  rw [Bool.and_eq_true, Bool.and_eq_true] at q
  exact ⟨a, vs, e, h1, h2, IsKs.th h3 q.2.2⟩
theorem IsKs.th {B H : Hp} : ∀ {ks : List Kd} {vs : List V} {n : Nat}, IsKs H ks vs -> Th.okL (Kd.thL ks) n = true -> IsTs B H (Kd.thL ks) vs
 | [], _, _, h, _ => by unfold IsKs at h; unfold Kd.thL IsTs; exact h
 | k :: r, _, _, h, q => by
  unfold IsKs at h; unfold Kd.thL at q ⊢; unfold Th.okL at q; unfold IsTs
  obtain ⟨v, vr, e, h1, h2⟩ := h
  rw [Bool.and_eq_true] at q
  exact ⟨v, vr, e, IsK.th h1 q.1, IsKs.th h2 q.2⟩
end
def Emp : Hp := fun _ => none
theorem zHE {H : Hp} : Same Emp H := fun b o h => by cases h
end L2
namespace L2
open PySem PySem.Spec PyProof.Rows
structure Pair (d : Nat) (k k' : Kd) : Prop where
 st : k.st = k'.st
 ne : k ≠ k'
 ok : k.th.ok d = true
 ok' : k'.th.ok d = true
def zAk (ns : List Int) (k : Int) : Int := (ns[k.toNat]?).getD 0
end L2
namespace L2
open PySem PySem.Spec PyProof.Rows
end L2
namespace L2
open PySem PySem.Spec PyProof.Rows
structure Fly (B h : Heap) (l : List Env) (e : Addr) (cls fl : Value) : Prop where
 stays : B.StaysIn h
 new : B.get? e = none
 frames : h.FunFrames B l
 trc : ∃ oe vs T oT ts, h.get? e = some oe /\ oe.cls = cls /\ oe.data = .fields vs /\ vs[2]? = some .none /\ vs[1]? = some (.ref T) /\ B.get? T = none /\ T ≠ e /\ h.get? T = some oT /\ oT.data = .fields ts /\ ts[3]? = some fl
section
variable {M : Model} {A : Around} {E : Value -> Shared -> Prop} {s : Shared} {B : Heap} {env : Env} {outer l : List Env} {L e T : Addr} {oe oT : Obj} {vs ts : Array Value} {head cls fl : Value} {Q : Unit -> Shared -> Prop}
theorem zCH {hadNext : Bool} (hfr : A.frames = some (env :: outer)) (hl : s.heap.FunFrames B (env :: outer)) (hf : env.frame = some L) (he : s.heap.get? e = some oe) (hkb : B.StaysIn s.heap) (hen : B.get? e = none)
  (hd : oe.data = .fields vs) (hsz : 1 < vs.size) (h2 : vs[2]? = some .none)
  (h : ∀ h', Fly B h' (env :: outer) e oe.cls (rawInt L) -> s.heap.UpToSlots h' -> Q () { s with heap := h' }) :
  wpAny M A (do let a ← frameOf env; let pl ← entryPlaceOf L hadNext; let b ← EntryCells.newEntry head a .none (rawInt L) .none pl; setField (.ref e) 1 b) Q E s := by
 have hne : e ∉ (env :: outer).filterMap (·.frame) := fun hm => by
  obtain ⟨_, o, ho, hnf⟩ := hl.mem hm
  rw [he] at ho
  cases ho
  exact hnf vs hd
 refine wpAny_bind (wpAny_frameOf_fun hfr hl hf fun h₁ hs => ?_)
 refine wpAny_bind (wpAny_entryPlaceOf fun pl hpl => ?_)
 unfold EntryCells.newEntry newFields
 refine wpAny_bind (wpAny_newObj_type ?_ (hpl.sizeOk5 _ _ _ _ _))
 have e1 : h₁.get? e = some oe := (hs.2.1 e hne).trans he
 generalize hob : ({ cls := .type "traceback", dict := none, data := .fields _ } : Obj) = ob
 have hts : ∃ ts, ob.data = .fields ts /\ ts[3]? = some (rawInt L) := by
  subst hob
  exact ⟨_, rfl, by simp⟩
 have hfr' : ob.isFreed = false := by
  obtain ⟨ts, q, _⟩ := hts
  exact Obj.isFreed_of_fields q
 have e2 : (h₁.push ob).get? e = some oe := Heap.get?_push_of_some _ e1
 refine wpAny_setField e2 hd hsz (h _ ?_ ?_)
 ·have hTe : h₁.objs.size ≠ e := Nat.ne_of_gt (Heap.lt_size e1)
  have old : ∀ b o, b ≠ e -> h₁.get? b = some o -> ((h₁.push ob).update e (Obj.mapFields (·.setIfInBounds 1 (Value.ref h₁.objs.size)))).get? b = some o := fun b o hb q =>
   (Heap.get?_update_other _ _ (Ne.symm hb)).trans (Heap.get?_push_of_some _ q)
  have kb : B.StaysIn h₁ := fun b o q => (hs.2.1 b fun hm => by rw [(hl.mem hm).1] at q; cases q).trans (hkb b o q)
  refine ⟨fun b o q => old b o (fun z => by rw [z, hen] at q; cases q) (kb b o q), hen, hl.of_keeps fun b o q hnf => ?_, ?_⟩
  ·obtain ⟨sl, q2⟩ := hs.2.2 b o q
   refine ⟨_, old b _ (fun z => ?_) q2, rfl⟩
   rw [z, he] at q
   cases q
   exact hnf vs hd
  ·obtain ⟨ts, q1, q2⟩ := hts
   have hd3 := Obj.data_mapFields hd (·.setIfInBounds 1 (Value.ref h₁.objs.size))
   exact ⟨_, _, h₁.objs.size, ob, ts, Heap.get?_update_self _ e2 (Obj.isFreed_of_fields hd3), Obj.cls_mapFields _ _, hd3, by rw [Array.getElem?_setIfInBounds_ne (by decide)]; exact h2, by simp [hsz], kb.fresh, hTe,
    (Heap.get?_update_other _ _ (Ne.symm hTe)).trans (Heap.get?_push_size h₁ hfr'), q1, q2⟩
 ·intro b o q hnf
  obtain ⟨sl, q2⟩ := hs.2.2 b o q
  refine ⟨sl, (Heap.get?_update_other _ _ fun z => ?_).trans (Heap.get?_push_of_some _ q2)⟩
  rw [← z, he] at q
  cases q
  exact hnf vs hd
theorem zGd (hfr : A.frames = some (env :: outer)) (hl : s.heap.FunFrames B (env :: outer)) (hf : env.frame = some L) (he : s.heap.get? e = some oe) (hkb : B.StaysIn s.heap) (hen : B.get? e = none)
  (hd : oe.data = .fields vs) (h1 : vs[1]? = some .none) (h2 : vs[2]? = some .none)
  (h : ∀ h', Fly B h' (env :: outer) e oe.cls (rawInt L) -> s.heap.UpToSlots h' -> Q () { s with heap := h' }) : wpAny M A (noteFrame (.ref e) env) Q E s := by
 unfold noteFrame
 simp only [hf]
 refine wpAny_bind (wpAny_field he hd h1 ?_)
 rw [if_neg (by decide)]
 exact zCH hfr hl hf he hkb hen hd (Array.getElem?_eq_some_iff.mp h1).1 h2 h
theorem zIE (hfr : A.frames = some (env :: outer)) (hf : env.frame = some L) (x : Fly B s.heap (env :: outer) e cls .none)
  (h : ∀ h', Fly B h' (env :: outer) e cls (rawInt L) -> s.heap.UpToSlots h' -> Q () { s with heap := h' }) : wpAny M A (noteFrame (.ref e) env) Q E s := by
 obtain ⟨oe, vs, T, oT, ts, he, rfl, hd, h2, h1, hnT, hTe, hT, hdT, h3⟩ := x.trc
 unfold noteFrame
 simp only [hf]
 refine wpAny_bind (wpAny_field he hd h1 ?_)
 rw [if_pos (show (Value.ref T != Value.none) = true from by simp)]
 refine wpAny_bind (wpAny_field hT hdT h3 ?_)
 rw [if_neg (show ¬ ((Value.none == rawInt L) = true) from by simp [rawInt])]
 refine wpAny_bind (wpAny_setField hT hdT (Array.getElem?_eq_some_iff.mp h3).1 ?_)
 have oth : ∀ b, b ≠ T -> (s.heap.update T (Obj.mapFields (·.setIfInBounds 3 Value.none))).get? b = s.heap.get? b := fun b hb => Heap.get?_update_other _ _ (Ne.symm hb)
 have nr : ∀ b o, s.heap.get? b = some o -> (∀ vs, o.data ≠ .fields vs) -> b ≠ T := fun b o q hnf z => by
  rw [z, hT] at q
  cases q
  exact hnf ts hdT
 refine zCH (s := { s with heap := s.heap.update T (Obj.mapFields (·.setIfInBounds 3 Value.none)) }) hfr (x.frames.of_keeps fun b o q hnf => ⟨o, (oth b (nr b o q hnf)).trans q, rfl⟩) hf ((oth e (Ne.symm hTe)).trans he)
  (fun b o q => (oth b fun z => by rw [z, hnT] at q; cases q).trans (x.stays b o q)) x.new hd (Array.getElem?_eq_some_iff.mp h1).1 h2 fun h' y u => h h' y fun b o q hnf => u b o ((oth b (nr b o q hnf)).trans q) hnf
theorem zDW (x : Fly B s.heap l e cls fl) (h : ∀ h', Fly B h' l e cls .none -> s.heap.UpToSlots h' -> Q () { s with heap := h' }) : wpAny M A (setFlight (.ref e) none) Q E s := by
 obtain ⟨oe, vs, T, oT, ts, he, rfl, hd, h2, h1, hnT, hTe, hT, hdT, h3⟩ := x.trc
 unfold setFlight
 refine wpAny_bind (wpAny_field he hd h1 ?_)
 rw [if_pos (show (Value.ref T != Value.none) = true from by simp)]
 have hsz := (Array.getElem?_eq_some_iff.mp h3).1
 have oth : ∀ b, b ≠ T -> (s.heap.update T (Obj.mapFields (·.setIfInBounds 3 ((none : Option Addr).elim Value.none fun f => rawInt f)))).get? b = s.heap.get? b := fun b hb => Heap.get?_update_other _ _ (Ne.symm hb)
 have nr : ∀ b o, s.heap.get? b = some o -> (∀ vs, o.data ≠ .fields vs) -> b ≠ T := fun b o q hnf z => by
  rw [z, hT] at q
  cases q
  exact hnf ts hdT
 refine wpAny_setField hT hdT hsz (h _ ⟨fun b o q => (oth b fun z => by rw [z, hnT] at q; cases q).trans (x.stays b o q), x.new, x.frames.of_keeps fun b o q hnf => ⟨o, (oth b (nr b o q hnf)).trans q, rfl⟩, ?_⟩ fun b o q hnf => ⟨o.slots, (oth b (nr b o q hnf)).trans q⟩)
 have hd3 := Obj.data_mapFields hdT (·.setIfInBounds 3 ((none : Option Addr).elim Value.none fun f => rawInt f))
 exact ⟨oe, vs, T, _, _, (oth e (Ne.symm hTe)).trans he, rfl, hd, h2, h1, hnT, hTe, Heap.get?_update_self _ hT (Obj.isFreed_of_fields hd3), hd3, by simp [hsz]⟩
theorem Fly.tail {h : Heap} (x : Fly B h (env :: outer) e cls fl) : Fly B h outer e cls fl := ⟨x.stays, x.new, x.frames.2.2, x.trc⟩
theorem zGt (hfr : A.frames = some (env :: outer)) (hf : env.frame = some L) (x : Fly B s.heap (env :: outer) e cls .none)
  (h : ∀ h', Fly B h' outer e cls .none -> s.heap.UpToSlots h' -> Q () { s with heap := h' }) : wpAny M A (leaving env (.ref e)) Q E s := by
 unfold leaving
 refine wpAny_bind (zIE hfr hf x fun h1 y u => ?_)
 exact zDW (s := { s with heap := h1 }) y fun h2 z v => h h2 z.tail (u.trans v)
theorem zEj {h₀ : Heap} {args : List Value} (hfr : A.frames = some (env :: outer)) (hf : env.frame = some L) (hkb : B.StaysIn h₀) (hl : h₀.FunFrames B (env :: outer)) (hx : Heap.MadeExcOf h₀ s.heap e cls args)
  (h : ∀ h', Fly B h' outer e cls .none -> s.heap.UpToSlots h' -> Q () { s with heap := h' }) : wpAny M A (leaving env (.ref e)) Q E s := by
 obtain ⟨t, he, htn, ht⟩ := hx.there
 have hen : B.get? e = none := by
  cases q : B.get? e with
  | none => rfl
  | some o => have := hkb e o q; rw [hx.new] at this; cases this
 unfold leaving
 refine wpAny_bind (zGd hfr (hl.of_keeps fun b o q _ => ⟨o, hx.keeps b o q, rfl⟩) hf he (fun b o q => hx.keeps b o (hkb b o q)) hen rfl rfl rfl fun h1 y u => ?_)
 exact zDW (s := { s with heap := h1 }) y fun h2 z v => h h2 z.tail (u.trans v)
end
end L2
namespace L2
open PySem PySem.Spec PyProof.Rows
structure ToB (fs : List Addr) (H H' : Hp) (h B : Heap) : Prop where
 keep : ∀ b o, h.get? b = some o -> H b = none -> b ∉ fs -> B.get? b = some o
 free : ∀ b o, h.get? b = some o -> H b = none -> H' b = none
 there : ∀ b o, h.get? b = some o -> b ∉ fs -> ∃ o', B.get? b = some o'
 tups : ∀ b xs, H b = some (.tup xs) -> H' b = some (.tup xs)
 frzs : ∀ b o u, H b = some (.frz o u) -> H' b = some (.frz o u)
 tbls : ∀ b ps, H b = some (.tbl ps) -> ∃ more, H' b = some (.tbl (ps ++ more))
def CXe (P : Program) (w : World) : CXT := fun outer H s E e s' =>
 ∃ (ea : Addr) (cls : Value) (B : Heap) (H' : Hp), e = .ref ea /\ s'.os = s.os /\ AllBare s'.gens /\ Fly B s'.heap outer ea cls .none /\ HOk P w H' B /\ ToB (frs outer) H H' s.heap B /\
  (∀ b o, s.heap.get? b = some o -> b ∈ frs outer -> ∃ sl, s'.heap.get? b = some { o with slots := sl }) /\ E cls (some ea) H'
section
variable {X : Cx} {pins : List (Addr × Obj)} {σ : St} {H H' : Hp} {s s' : Shared} {e : Value} {E E' : XK}
structure Own (X : Cx) : Prop where
 stk : X.stack = X.env :: X.outer
 fr : X.env.frame = some X.env.locals
 ex : X.ex = []
theorem ToB.out {B : Heap} (I : Inv X pins σ H s) (O : Own X) (x : ToB (frs X.stack) H H' s.heap B) : ToB X.fs X.H₀ H' X.s₀.heap B where
 keep := fun b o q n hb => by
  have q2 := I.base.keep b o q n hb (by rw [O.ex]; simp)
  refine x.keep b o q2 (I.base.free b o q n (by rw [O.ex]; simp)) fun hm => ?_
  rw [O.stk] at hm
  unfold frs at hm
  rw [List.filterMap_cons, O.fr] at hm
  rcases List.mem_cons.mp hm with z | z
  ·exact Nat.ne_of_lt (Nat.lt_of_lt_of_le (Heap.lt_size q) I.ok.above) z
  ·exact hb z
 free := fun b o q n => by
  obtain ⟨o', q2⟩ := I.base.there b o q (by rw [O.ex]; simp)
  exact x.free b o' q2 (I.base.free b o q n (by rw [O.ex]; simp))
 there := fun b o q hb => by
  obtain ⟨o', q2⟩ := I.base.there b o q (by rw [O.ex]; simp)
  refine x.there b o' q2 fun hm => ?_
  rw [O.stk] at hm
  unfold frs at hm
  rw [List.filterMap_cons, O.fr] at hm
  rcases List.mem_cons.mp hm with z | z
  ·exact Nat.ne_of_lt (Nat.lt_of_lt_of_le (Heap.lt_size q) I.ok.above) z
  ·exact hb z
 tups := fun b xs q => x.tups b xs (I.base.tups b xs q)
 frzs := fun b o u q => x.frzs b o u (I.base.frzs b o u q)
 tbls := fun b ps q => by
  obtain ⟨m1, e1⟩ := I.base.tbls b ps q
  obtain ⟨m2, e2⟩ := x.tbls b _ e1
  exact ⟨m1 ++ m2, by rw [e2, Array.append_assoc]⟩
theorem zB7 {h' : Heap} (I : Inv X pins σ H s) (O : Own X) (sl : ∀ b o, s.heap.get? b = some o -> b ∈ X.fs -> ∃ sl, h'.get? b = some { o with slots := sl }) : ∀ b o, X.s₀.heap.get? b = some o -> b ∈ X.fs -> ∃ sl, h'.get? b = some { o with slots := sl } := fun b o q hb => by
 obtain ⟨s1, q1⟩ := I.base.slot b o q (I.ok.frf b hb) hb (by rw [O.ex]; simp)
 obtain ⟨s2, q2⟩ := sl b _ q1 hb
 exact ⟨s2, q2⟩
theorem zFd {h B : Heap} : ∀ {l : List Env} {b : Addr} {o : Obj}, h.FunFrames B l -> b ∈ frs l -> h.get? b = some o -> ∀ vs, o.data ≠ .fields vs := fun hl hb q vs z => by
 obtain ⟨_, o', ho, hn⟩ := hl.mem hb
 rw [q] at ho
 cases ho
 exact hn vs z
end
abbrev cxE (P : Program) (w : World) (K : W.Frag) (mg : Str -> Option Value) (base : Heap) (N : List Str) (qual : Str) (scope : Scope) (f : Addr) (cd : Value) (A : Around) (outer : List Env) (s : Shared) (H : Hp) (E : XK) : Cx := zBm (CXe P w) P w K mg base N qual scope f cd A outer s H E
section
variable {P : Program} {w : World} {K : W.Frag} {mg : Str -> Option Value} {base : Heap} {N : List Str} {qual : Str} {scope : Scope} {f : Addr} {cd : Value} {A : Around} {outer : List Env} {s₀ : Shared} {H₀ : Hp} {E E' : XK}
theorem zAQ {CX : CXT} : Own (zBm CX P w K mg base N qual scope f cd A outer s₀ H₀ E) := ⟨rfl, rfl, rfl⟩
theorem zKo (h : ∀ c a H, E' c a H -> E c a H) : Yo (CXe P w) (cxE P w K mg base N qual scope f cd A outer s₀ H₀ E) E' := by
 intro pins σ H s e s' I x
 obtain ⟨ea, cls, B, H', rfl, h1, h2, h3, h6, h7, h8, h9⟩ := x
 refine zGt (s := s') I.ok.frames rfl h3 fun h' y u => ?_
 refine ⟨ea, cls, B, H', rfl, h1.trans I.os, h2, y, h6, h7.out I zAQ, zB7 I zAQ fun b o q hb => ?_, h _ _ _ h9⟩
 have hb' : b ∈ frs (cxE P w K mg base N qual scope f cd A outer s₀ H₀ E).stack := by
  show b ∈ frs (_ :: outer)
  unfold frs
  exact List.mem_filterMap.mpr (by
   obtain ⟨env, h1, h2⟩ := List.mem_filterMap.mp hb
   exact ⟨env, List.mem_cons_of_mem _ h1, h2⟩)
 obtain ⟨s1, q1⟩ := h8 b o q hb'
 obtain ⟨s2, q2⟩ := u b _ q1 (zFd h3.frames hb' q1)
 exact ⟨s2, q2⟩
end
end L2
namespace L2
open PySem PySem.Spec PyProof.Rows
abbrev VE : List Value := [.type "ValueError", .type "Exception", .type "BaseException", .type "object"]
structure XC (K : W.Frag) (C : Addr) (bm : List Value) : Prop where
 ex : PySem.W.excIn K C VE "ValueError.__new__" = true
 ob : ∃ nm q N bs hdct sn sub ab col dd k0 k1 k2 k3 k5 newId, K.lookup C = some (excClassObj nm q C N bs bm hdct sn sub ab col dd k0 k1 k2 k3 k5 newId)
theorem XC.at {K : W.Frag} {C : Addr} {bm : List Value} {h : Heap} (c : XC K C bm) (X : K.In h) : ∃ N nm q bs hdct sn sub ab col dd k0 k1 k2 k3 k5 mN,
  h.get? C = some (excClassObj nm q C N bs bm hdct sn sub ab col dd k0 k1 k2 k3 k5 "ValueError.__new__") /\ h.Ns N mN /\ mN "__init__" = none /\ OwnTail h VE bm := by
 obtain ⟨nm, q, N, bs, hdct, sn, sub, ab, col, dd, k0, k1, k2, k3, k5, newId, lk⟩ := c.ob
 have ex := c.ex
 unfold PySem.W.excIn at ex
 rw [lk] at ex
 simp only [Bool.and_eq_true, beq_iff_eq, Bool.not_eq_true'] at ex
 obtain ⟨⟨⟨⟨⟨_, rfl⟩, _⟩, ht⟩, hok⟩, hni⟩ := ex
 exact ⟨N, nm, q, bs, hdct, sn, sub, ab, col, dd, k0, k1, k2, k3, k5, _, X _ _ lk, .of_isNs (PySem.W.isNs_of_in X hok), PySem.W.nsMap_none_of_in X hok hni, PySem.W.tail_of_in X ht⟩
end L2
namespace L2
open PySem PySem.Spec PyProof.Rows
def ExO (ea : Addr) (cls : Value) : HO := .ext fun h => ∃ oe vs, h.get? ea = some oe /\ oe.cls = cls /\ oe.data = .fields vs /\ vs[2]? = some .none
theorem ObjOk.got {P : Program} {w : World} {H : Hp} {h : Heap} {a : Addr} {o : HO} (x : ObjOk P w H h a o) : ∃ ob, h.get? a = some ob := by
 cases o with
 | lst xs => obtain ⟨_, _, _, _, e⟩ := x; exact ⟨_, e⟩
 | tup xs => obtain ⟨_, _, _, o, e, _⟩ := x; exact ⟨o, e⟩
 | dK kvs => obtain ⟨_, _, _, _, o, _, _, e, _⟩ := x; exact ⟨o, e⟩
 | dT kvs => obtain ⟨_, _, _, _, o, _, _, e, _⟩ := x; exact ⟨o, e⟩
 | set S n => obtain ⟨o, _, _, _, e, _⟩ := x; exact ⟨o, e⟩
 | ins C dx fs => obtain ⟨_, _, _, e, _⟩ := x; exact ⟨_, e⟩
 | own y => exact x
 | xd fs => obtain ⟨_, ⟨o, _, _, e, _⟩, _⟩ := x; exact ⟨o, e⟩
 | rng lo hi => obtain ⟨_, _, _, e⟩ := x; exact ⟨_, e⟩
 | frz ob u => obtain ⟨e, _⟩ := x; exact ⟨ob, e⟩
 | tbl ps => exact ⟨_, (show h.get? a = some _ from x)⟩
 | met f y => exact ⟨_, (show h.get? a = some _ from x)⟩
 | ext φ => obtain ⟨_, e, _⟩ := x; exact e
end L2
namespace L2
open PySem PySem.Spec PyProof.Rows
end L2
namespace L2
open PySem PySem.Spec PyProof.Rows
end L2
namespace L2
open PySem PySem.Spec PySem.W PySem.Calls PyProof.Rows Builtin Builtin.ObjectAttr Builtin.Getset_descriptor
structure XI (K : Frag) (D : Addr) : Prop where
 ga : findIn K (.ref D) "__getattribute__" = some (some (.builtin "BaseException.__getattribute__"))
 gh : findIn K (.ref D) "__getattr__" = some none
 fc : findIn K (.ref D) "__class__" = some (some (.builtin "object.__class__"))
 sg : specialIn K (.builtin "object.__class__") "__get__" = some (some (.builtin "getset_descriptor.__get__"))
 tk : takesIn K (.builtin "object.__class__") = some true
 mo : mroIn K D (.type "object") = some true
 mb : mroIn K D (.type "BaseException") = some true
end L2
namespace L2
open PySem PySem.Spec PyProof.Rows
section
variable {X : Cx}
inductive ClsV : V -> Value -> Prop where
 | ty (T : String) : ClsV (.ty T) (.type T)
 | own (C : Addr) : ClsV (.ref C) (.ref C)
end
structure RoomH (ea : Addr) (k : Nat) (A : Around) : Prop where
 hd : A.handled = some (.ref ea)
 dp : A.depth + 3 * k + 5 < recursionLimit
 un : A.units + 16 * k + 200 < cLine
abbrev noX : XK := fun _ _ _ => False
structure FnH (P : Program) (w : World) (K : W.Frag) (mg : Str -> Option Value) (base : Heap) (ea : Addr) (k : Nat) (f : Addr) (fd : FuncData) (ps : List Str) (sp : Sp) : Prop where
 len : ∀ vs H Q E, sp vs H Q E -> vs.length = ps.length
 run : ∀ (A : Around) (outer : List Env) (s : Shared) (H : Hp) (args : Args) (us : List Value) (vs : List V) (Q : VK), RoomH ea k A -> Env0 P w K mg base A outer s H -> BindsTo s fd args (ps.zip us) -> Vals vs us -> sp vs H Q noX ->
  codeAny (model P w) A (.call (.ref f) args) (fun r s' => match r with | .ok (.ret u) => CE outer P w H s Q u s' | _ => False) s
section
variable {P : Program} {w : World} {K : W.Frag} {mg : Str -> Option Value} {base : Heap} {N ps : List Str} {qual : Str} {scope : Scope} {f : Addr} {cd : Value} {A : Around} {outer : List Env} {s s₀ : Shared} {H H₀ : Hp} {ea : Addr} {pins : List (Addr × Obj)} {σ : St}
theorem Fun.okE {x qual : Str} {st : Stmt} {f : Addr} {fd : FuncData} {N ps : List Str} {k : Nat} {sp : Sp} (F : Fun K x qual st f fd) (S : FnScope N ps (QJ st)) (len : ∀ vs H Q E, sp vs H Q E -> vs.length = ps.length)
  (hbody : ∀ (cdv : Value) (A : Around) (outer : List Env) (s : Shared) (H : Hp) (vs : List V) (Q : VK) (E : XK), Room k (A.deeper (envOfC qual (QJ st) s.heap.objs.size f cdv)) -> sp vs H Q E ->
   ∃ t, PSs (cxE P w K mg base N qual (QJ st) f cdv A outer s H E) (Qy st) t /\ t { nx := fun _ H' => Q .non H', rt := Q } (Zf N vs) H) : FnOk P w K mg base (CXe P w) (k + 1) f fd ps sp := by
 obtain ⟨oc, od, kV, doc, pm, an, cdv, ct, osl, rfl, lk, hcd⟩ := F.ex
 exact zH0 lk hcd S len fun A outer s H vs Q E hr hsp => hbody cdv A outer s H vs Q E hr hsp
end
end L2
namespace L2
open PySem PySem.Spec PyProof.Rows
section
variable {X : Cx}
theorem zCA (x : Array Nat) : ∀ (n : Nat) (a : Array Nat), ((List.replicate n x).foldl (· ++ ·) a).size = a.size + n * x.size := by
 intro n
 induction n with
 | zero => intro a; simp
 | succ n ih => intro a; rw [List.replicate_succ, List.foldl_cons, ih, Array.size_append, Nat.succ_mul]; omega
end
end L2
namespace L2
open PySem PySem.Spec PyProof.Rows
mutual
theorem Kd.eqb_refl : ∀ k : Kd, k.eqb k = true
 | .num i => by unfold Kd.eqb; exact beq_self_eq_true _
 | .txt x => by unfold Kd.eqb; exact beq_self_eq_true _
 | .tup ks => by unfold Kd.eqb; exact Kd.eqbL_refl ks
theorem Kd.eqbL_refl : ∀ ks : List Kd, Kd.eqbL ks ks = true
 | [] => by unfold Kd.eqbL; rfl
 | k :: r => by unfold Kd.eqbL; rw [Kd.eqb_refl k, Kd.eqbL_refl r]; rfl
end
instance instDecKd : DecidableEq Kd := fun k l => if h : k.eqb l = true then .isTrue (Kd.eqb_eq h) else .isFalse fun e => h (e ▸ Kd.eqb_refl k)
theorem Kd.eqb_dec (k l : Kd) : k.eqb l = decide (k = l) := by
 by_cases h : k = l
 ·subst h; rw [Kd.eqb_refl, decide_eq_true rfl]
 ·rw [decide_eq_false h]
  cases e : k.eqb l with
  | false => rfl
  | true => exact absurd (Kd.eqb_eq e) h
def IsKo (H : Hp) : Option Kd -> V -> Prop
 | none, v => v = .non
 | some k, v => IsK H k v
def zLy (n : Nat) : Option Kd -> Prop
 | none => True
 | some k => k.deep <= n
theorem IsKo.same {H H' : Hp} (s : TupS H H') {o : Option Kd} {v : V} (h : IsKo H o v) : IsKo H' o v := by
 cases o with
 | none => exact h
 | some k => exact IsK.same s h
theorem IsK.num_eq {H : Hp} {i : Int} {v : V} (h : IsK H (.num i) v) : v = .int i := by unfold IsK at h; exact h
theorem IsKo.inj {H : Hp} {o o' : Option Kd} {v : V} (h : IsKo H o v) (h' : IsKo H o' v) : o = o' := by
 cases o with
 | none =>
  cases o' with
  | none => rfl
  | some k =>
   cases (show v = .non from h)
   cases k with
   | num i => have z : IsK H (.num i) .non := h'; unfold IsK at z; cases z
   | txt i => have z : IsK H (.txt i) .non := h'; unfold IsK at z; cases z
   | tup i => have z : IsK H (.tup i) .non := h'; unfold IsK at z; obtain ⟨_, _, e, _⟩ := z; cases e
 | some k =>
  cases o' with
  | none =>
   cases (show v = .non from h')
   cases k with
   | num i => have z : IsK H (.num i) .non := h; unfold IsK at z; cases z
   | txt i => have z : IsK H (.txt i) .non := h; unfold IsK at z; cases z
   | tup i => have z : IsK H (.tup i) .non := h; unfold IsK at z; obtain ⟨_, _, e, _⟩ := z; cases e
  | some l => rw [Kd.eqb_eq (IsK.inj (show IsK H k v from h) (show IsK H l v from h'))]
def IsKos (H : Hp) (os : List (Option Kd)) (xs : List V) : Prop := xs.length = os.length /\ ∀ (i : Nat) o x, os[i]? = some o -> xs[i]? = some x -> IsKo H o x
theorem IsKos.nil {H : Hp} : IsKos H [] [] := ⟨rfl, fun i o x h => by simp at h⟩
theorem IsKos.len {H : Hp} {os : List (Option Kd)} {xs : List V} (h : IsKos H os xs) : xs.length = os.length := h.1
theorem IsKos.get {H : Hp} {os : List (Option Kd)} {xs : List V} (h : IsKos H os xs) {i : Nat} {x : V} (e : xs[i]? = some x) : ∃ o, os[i]? = some o /\ IsKo H o x := by
 have hi : i < os.length := by rw [← h.1]; exact (List.getElem?_eq_some_iff.mp e).1
 exact ⟨os[i], List.getElem?_eq_getElem hi, h.2 i _ _ (List.getElem?_eq_getElem hi) e⟩
theorem IsKos.get' {H : Hp} {os : List (Option Kd)} {xs : List V} (h : IsKos H os xs) {i : Nat} {o : Option Kd} (e : os[i]? = some o) : ∃ x, xs[i]? = some x /\ IsKo H o x := by
 have hi : i < xs.length := by rw [h.1]; exact (List.getElem?_eq_some_iff.mp e).1
 exact ⟨xs[i], List.getElem?_eq_getElem hi, h.2 i _ _ e (List.getElem?_eq_getElem hi)⟩
theorem IsKos.same {H H' : Hp} (s : TupS H H') {os : List (Option Kd)} {xs : List V} (h : IsKos H os xs) : IsKos H' os xs := ⟨h.1, fun i o x e1 e2 => (h.2 i o x e1 e2).same s⟩
theorem IsKos.app {H : Hp} {os os' : List (Option Kd)} {xs xs' : List V} (h : IsKos H os xs) (h' : IsKos H os' xs') : IsKos H (os ++ os') (xs ++ xs') := by
 refine ⟨by rw [List.length_append, List.length_append, h.1, h'.1], fun i o x e1 e2 => ?_⟩
 by_cases c : i < os.length
 ·rw [List.getElem?_append_left c] at e1
  rw [List.getElem?_append_left (by rw [h.1]; exact c)] at e2
  exact h.2 i o x e1 e2
 ·rw [List.getElem?_append_right (by omega)] at e1
  rw [List.getElem?_append_right (by rw [h.1]; omega), h.1] at e2
  exact h'.2 _ o x e1 e2
theorem IsKos.one {H : Hp} {o : Option Kd} {x : V} (h : IsKo H o x) : IsKos H [o] [x] := ⟨rfl, fun i o' x' e1 e2 => by
 cases i with
 | zero => cases e1; cases e2; exact h
 | succ i => simp at e1⟩
theorem IsKos.snoc {H : Hp} {os : List (Option Kd)} {xs : List V} {o : Option Kd} {x : V} (h : IsKos H os xs) (h' : IsKo H o x) : IsKos H (os ++ [o]) (xs ++ [x]) := h.app (.one h')
theorem IsKos.set {H : Hp} {os : List (Option Kd)} {xs : List V} {o : Option Kd} {x : V} (h : IsKos H os xs) (h' : IsKo H o x) (i : Nat) : IsKos H (os.set i o) (xs.set i x) := by
 refine ⟨by rw [List.length_set, List.length_set]; exact h.1, fun j o' x' e1 e2 => ?_⟩
 by_cases c : i = j
 ·subst c
  rw [List.getElem?_set_self'] at e1 e2
  cases e : os[i]? with
  | none => rw [e] at e1; cases e1
  | some z =>
   cases e' : xs[i]? with
   | none => rw [e'] at e2; cases e2
   | some z' => rw [e] at e1; rw [e'] at e2; cases e1; cases e2; exact h'
 ·rw [List.getElem?_set_ne c] at e1 e2
  exact h.2 j o' x' e1 e2
end L2
namespace L2
open PySem PySem.Spec PyProof.Rows
end L2
namespace L2
open PySem PySem.Spec PyProof.Rows
theorem IsKs.two {H : Hp} {k l : Kd} {v w : V} (h : IsK H k v) (h' : IsK H l w) : IsKs H [k, l] [v, w] := by
 unfold IsKs
 refine ⟨v, [w], rfl, h, ?_⟩
 unfold IsKs
 exact ⟨w, [], rfl, h', IsKs.nil⟩
end L2
namespace L2
open PySem PySem.Spec PyProof.Rows
def zMj : R2 := fun x y H Q => ∃ (a b : Addr) (i j i' j' : Int), x = .ref a /\ y = .ref b /\ H a = some (.tup [.int i, .int j]) /\ H b = some (.tup [.int i', .int j']) /\ Q (.bl (!decide (i = i' /\ j = j'))) H
theorem zLk {X : Cx} (hu : X.A.units + 64 < cLine) : OpR X (compareOp .NotEq) zMj := by
 intro pins s σ H x y v u Q I rx ry h
 obtain ⟨a, b, i, j, i', j', rfl, rfl, ha, hb, q⟩ := h
 cases rx
 cases ry
 obtain ⟨its, r1, p1, _⟩ := I.tuple (SqT.of ha)
 obtain ⟨its', r2, p2, _⟩ := I.tuple (SqT.of hb)
 obtain ⟨u1, u2, rfl, q1, q2⟩ := r1.two
 obtain ⟨v1, v2, rfl, q3, q4⟩ := r2.two
 obtain ⟨t1, rfl⟩ := q1
 obtain ⟨t2, rfl⟩ := q2
 obtain ⟨t3, rfl⟩ := q3
 obtain ⟨t4, rfl⟩ := q4
 have w := SeqAt.RcNeAt.tuples (A := X.A) (s := s) (l := a) (b := b) (e := fun n => if n = 0 then i == i' else j == j') p1 p2 (by omega) (fun n h1 h2 => by
  match n, h1 with
  | 0, _ => exact SeqAt.EqAt.int_int _ _ _ _
  | 1, _ => exact SeqAt.EqAt.int_int _ _ _ _)
 refine w X.prog X.w _ _ ⟨.bl _, H, I, rfl, ?_⟩
 have e : (!((List.range (min ([Value.int i t1, Value.int j t2] : List Value).toArray.size ([Value.int i' t3, Value.int j' t4] : List Value).toArray.size)).all (fun n => if n = 0 then i == i' else j == j') && ([Value.int i t1, Value.int j t2] : List Value).toArray.size == ([Value.int i' t3, Value.int j' t4] : List Value).toArray.size)) = !decide (i = i' /\ j = j') := by
  have e0 : (List.range (min ([Value.int i t1, Value.int j t2] : List Value).toArray.size ([Value.int i' t3, Value.int j' t4] : List Value).toArray.size)) = [0, 1] := rfl
  rw [e0]
  congr 1
  rw [Bool.eq_iff_iff]
  simp
 rw [e]
 exact q
theorem zAU {α : Type} {ys : List α} {c : Nat} (h : ys.length = c + 1) : atI ys (-1) = ys[c]? := by
 have e : ys ≠ [] := fun e => by rw [e] at h; cases h
 have z := zIK ys.dropLast (ys.getLast e)
 rw [List.dropLast_concat_getLast] at z
 rw [z, List.getLast_eq_getElem, List.getElem?_eq_getElem (by omega)]
 congr 1
 congr 1
 omega
end L2
namespace L2
open PySem PySem.Spec PyProof.Rows
theorem IsKo.non {H : Hp} {o : Option Kd} {y : V} (h : IsKo H o y) : decide (y = V.non) = o.isNone := by
 cases o with
 | none => rw [decide_eq_true (show y = V.non from h)]; rfl
 | some k =>
  refine decide_eq_false fun e => ?_
  have h' : IsKo H none y := e
  have := h.inj h'
  cases this
end L2
namespace L2
open PySem PySem.Spec PyProof.Rows
section
variable {X : Cx} {pins : List (Addr × Obj)} {σ : St} {H : Hp} {s : Shared} {a : Addr} {y v : V} {u r : Value} {o : Option V} {A : Around} {E : Value -> Shared -> Prop}
theorem Inv.big (I : Inv X pins σ H s) : sysModules < s.heap.objs.size := by
 have h : mainGlobals < s.heap.objs.size := (I.mod.glob.keeps I.bk).lt
 exact Nat.lt_trans (by decide) h
theorem zAZ {h' : Heap} {t' : Nat} {ob : HO} (I : Inv X pins σ H s) (mu : Mut (H a)) (hs : Heap.SameBut a s.heap h') (he : ∃ q, h'.get? a = some q) (new : ObjOk X.prog X.w (upd H a ob) h' a ob) :
  Inv X pins σ (upd H a ob) { s with heap := h', toks := t' } :=
 I.write (x := a) (e := a) mu (.inl rfl) (fun b q hb z => (hs.2 b hb).trans z) he new
end
def zKw (i : Expr) : Prop := ∀ ov iv, subscripted i false ov iv = operate [ov, iv] (getItem ov iv)
theorem zI7 {prog : Program} {w : World} {A : Around} {E : Value -> Shared -> Prop} {s : Shared} {env : Env} {value slice : Expr} {pos : Pos} {T id : String} {Q : Value -> Shared -> Prop}
  (hl : typeLookup (.type T) "__getitem__" = pure (some (.builtin id))) (hs : zKw slice)
  (h : wpAny (model prog w) A (eval value env) (fun o s₁ => wpAny (model prog w) A (eval slice env) (fun i s₂ => s₂.TypeIs o T /\ wpAny (model prog w) A (getItem o i) Q E s₂) E s₁) E s) :
  wpAny (model prog w) A (eval (.Subscript value slice pos) env) Q E s := by
 refine Subscript_ (wpAny_mono h (fun o s₁ h₁ => wpAny_mono h₁ (fun i s₂ h₂ => ?_) fun _ _ x => x) fun _ _ x => x)
 obtain ⟨hT, h₂⟩ := h₂
 unfold subscriptTail
 refine wpAny_bind ?_
 rw [getitemInPython_of_ne hT.not_modules]
 refine wpAny_bind (wpAny_specialOf hT hl ?_)
 have fin : wpAny (model prog w) A (subscripted slice false o i) (fun r s₃ => wpAny (model prog w) A (letTemporaryGo value o r >>= fun _ => pure r) Q E s₃) E s₂ := by
  rw [hs o i]
  exact wpAny_operating (wpAny_mono h₂ (fun r s₃ h₃ => wpAny_bind (wpAny_letTemporaryGo (wpAny_pure h₃))) fun _ _ x => x)
 first
  | exact wpAny_pure (wpAny_bind fin)
  | exact wpAny_bind (wpAny_pure (wpAny_bind fin))
  | exact wpAny_bind fin
section
variable {κ : Type} [DecidableEq κ]
theorem zFj : ∀ {l : List κ} {k : κ}, l.Nodup -> ¬ k ∈ l -> (l ++ [k]).Nodup
 | [], k, _, _ => by simp
 | a :: r, k, h, hk => by
  obtain ⟨h1, h2⟩ := List.nodup_cons.mp h
  show (a :: (r ++ [k])).Nodup
  refine List.nodup_cons.mpr ⟨fun m => ?_, zFj h2 fun m => hk (List.mem_cons.mpr (Or.inr m))⟩
  rcases List.mem_append.mp m with q | q
  ·exact h1 q
  ·exact hk (List.mem_cons.mpr (Or.inl (List.mem_singleton.mp q).symm))
end
end L2
namespace L2
open PySem PySem.Spec PyProof.Rows
section
variable {X : Cx}
def zLR : zIm
 | .ref p, .int k, v, H, Q => match H p with
  | some (.lst xs) => match ixN xs.length k with
   | some j => Q (upd H p (.lst (xs.set j v)))
   | none => False
  | _ => False
 | _, _, _, _, _ => False
theorem zDS : zJ7 X zLR := by
 intro pins s σ H o i v ov iv u Q I ro ri rv h
 match o, i, h with
 | .ref p, .int k, h =>
  have h' : (match H p with | some (.lst xs) => (match ixN xs.length k with | some j => Q (upd H p (.lst (xs.set j v))) | none => False) | _ => False) := h
  cases e : H p with
  | none => rw [e] at h'; exact h'.elim
  | some ob =>
   rw [e] at h'
   cases ob with
   | lst xs =>
    have h2 : (match ixN xs.length k with | some j => Q (upd H p (.lst (xs.set j v))) | none => False) := h'
    cases e2 : ixN xs.length k with
    | none => rw [e2] at h2; exact h2.elim
    | some j => rw [e2] at h2; exact zHA pins s σ H _ _ v ov iv u Q I ro ri rv ⟨p, xs, k, j, rfl, rfl, e, e2, h2⟩
   | _ => exact h'.elim
theorem zJb {n k : Nat} (h : k < n) : ixN n (k : Int) = some k := by
 unfold ixN
 first
  | (rw [if_pos (by omega)]; simp; omega)
  | (simp; omega)
  | (split <;> simp <;> omega)
theorem Wm {H : Hp} {p : Addr} {xs : List V} {k : Int} {j : Nat} {v : V} {Q : Hp -> Prop} (h : H p = some (.lst xs)) (e : k = (j : Int)) (hj : j < xs.length) : zLR (.ref p) (.int k) v H Q = Q (upd H p (.lst (xs.set j v))) := by
 subst e
 show (match H p with | some (.lst xs) => (match ixN xs.length (j : Int) with | some j => Q (upd H p (.lst (xs.set j v))) | none => False) | _ => False) = _
 rw [h]
 show (match ixN xs.length (j : Int) with | some j => Q (upd H p (.lst (xs.set j v))) | none => False) = _
 rw [zJb hj]
end
def Ite (K : W.Frag) (a : Addr) : It :=
 ⟨fun i H => ∃ xs x, SqL K H a xs /\ xs[i]? = some x, fun i H v H' => ∃ p x, v = .ref p /\ H p = none /\ H' = upd H p (.tup [.int (i : Nat), x]) /\ ∀ xs, SqL K H a xs -> xs[i]? = some x, fun i H => ∃ xs, SqL K H a xs /\ xs.length <= i⟩
section
variable {X : Cx} {pins : List (Addr × Obj)} {σ : St} {H : Hp} {s : Shared} {h' : Heap}
theorem Inv.turnedT {t' : Nat} {e it : Addr} {ys : List V} {its : List Value} (I : Inv X pins σ H s) (k : ∀ b o, b ≠ e -> b ≠ it -> s.heap.get? b = some o -> h'.get? b = some o) (fe : Zh X pins H e) (fi : Zh X pins H it)
  (ht : IsTup h' s.heap.objs.size its.toArray) (hv : Vals ys its) (hz : ys.length <= sizeLine) : Inv X pins σ (upd H s.heap.objs.size (.tup ys)) { s with heap := h', toks := t' } := by
 have hn : H s.heap.objs.size = none := I.hok.fresh (Nat.le_refl _)
 obtain ⟨f0, f1, f2, f3, f4, f5⟩ := fe
 obtain ⟨g0, g1, g2, g3, g4, g5⟩ := fi
 have ne : ∀ b u, H b = some u -> b ≠ e := fun b u e z => by rw [z, f0] at e; cases e
 have nit : ∀ b u, H b = some u -> b ≠ it := fun b u e z => by rw [z, g0] at e; cases e
 refine I.step (g' := s.gens) (d' := s.drawn) (ch := [e, it]) (fun b hb => ?_) (fun b o _ _ hc q _ => k b o (fun z => hc (by simp [z])) (fun z => hc (by simp [z])) q) (fun b o _ _ hc q _ => ⟨o.slots, k b o (fun z => hc (by simp [z])) (fun z => hc (by simp [z])) q⟩) (fun b o _ q n => ?_)
  (fun b o hc q => ⟨o, k b o (fun z => hc (by simp [z])) (fun z => hc (by simp [z])) q⟩) (fun b xs q => ?_) (fun b _ _ q => ?_) (fun b ps q => ⟨#[], ?_⟩) (fun m hm => ?_) (fun b u q => ?_) I.bare
 ·rcases List.mem_cons.mp hb with z | z
  ·subst z; exact ⟨f3, f1, f4, f5⟩
  ·have z := List.mem_singleton.mp z
   subst z; exact ⟨g3, g1, g4, g5⟩
 ·rw [QG (Nat.ne_of_lt (Heap.lt_size q))]; exact n
 ·rw [QG (QH q hn)]; exact q
 ·rw [QG (QH q hn)]; exact q
 ·rw [QG (QH q hn), q]; simp
 ·obtain ⟨o, es, ep, ho, r⟩ := hm
  exact ⟨o, es, ep, k _ o (Ne.symm f1) (Ne.symm g1) ho, r⟩
 ·by_cases hb : b = s.heap.objs.size
  ·subst hb
   rw [QD] at q
   cases q
   exact ⟨hz, its, hv, ht⟩
  ·rw [QG hb] at q
   refine (I.hok b u q).stay (fun c v hc q2 => k c v ?_ ?_ q2) (fun c q => by rw [QG (QH q hn)]; exact q) fun c xs q => by rw [QG (QH q hn)]; exact q
   ·rcases hc with z | z
    ·rw [z]; exact ne b u q
    ·exact ne c _ z
   ·rcases hc with z | z
    ·rw [z]; exact nit b u q
    ·exact nit c _ z
end
theorem zGM {P : Program} {w : World} {K : W.Frag} {elts : List Expr} {x1 : Nat} {tp : Pos} (a e it : Addr) (hne : e ≠ it) : Turn P w K (.Tuple elts x1 tp) (Ite K a) [e, it] e (fun i h => (∃ old, IsEnum h e it (i : Nat) old) /\ h.IsListIter it a i) where
 mem := by simp
 obj := fun i h st b hb => by
  obtain ⟨⟨old, he⟩, hi⟩ := st
  rcases List.mem_cons.mp hb with z | z
  ·subst z
   exact ⟨_, he, fun v z => by cases z⟩
  ·have z := List.mem_singleton.mp z
   subst z
   obtain ⟨o, e, c, d⟩ := hi
   exact ⟨o, e, fun v z => by rw [d] at z; cases z⟩
 keep := fun i h h' st k => ⟨st.1.imp fun old he => k e (by simp) _ he, st.2.at fun o q => k it (by simp) o q⟩
 item := by
  intro X hP hw hK hc i pins s σ H E I hf st hg
  subst hP hw hK
  obtain ⟨xs, x, hq, hx⟩ := hg
  obtain ⟨its, rv, p, hz⟩ := I.list hq
  obtain ⟨u, hu, ru⟩ := rv.get hx
  have fe := hf e (by simp)
  have fi := hf it (by simp)
  obtain ⟨⟨old, he⟩, hi⟩ := st
  have hel : e < s.heap.objs.size := Heap.lt_size he
  have hil : it < s.heap.objs.size := by obtain ⟨o, q, _⟩ := hi; exact Heap.lt_size q
  refine wpAny_pyNext_enum_item he hi p.isList (x := u) (by simpa using hu) hne fun h1 ho hi1 ht hsz hk => ?_
  refine ⟨_, rfl, wpAny_letOwnedTupleGo_enum ho fun h2 he2 hs2 => ?_⟩
  have hk2 : ∀ b o, b ≠ e -> b ≠ it -> s.heap.get? b = some o -> h2.get? b = some o := fun b o b1 b2 q => (hs2.2 b b1).trans (hk b o b1 b2 q)
  have ht2 : h2.get? s.heap.objs.size = some { cls := .type "tuple", data := .seq #[.int i s.toks, u] } := (hs2.2 _ (Nat.ne_of_gt hel)).trans ht
  have hf2 : ∀ b ∈ [e, it], upd H s.heap.objs.size (HO.tup [V.int i, x]) b = none := fun b hb => by
   have hb2 : b < s.heap.objs.size := by
    rcases List.mem_cons.mp hb with z | z
    ·rw [z]; exact hel
    ·rw [List.mem_singleton.mp z]; exact hil
   rw [QG (Nat.ne_of_lt hb2)]
   exact (hf b hb).1
  have z1 : IsEnum h2 e it ((i + 1 : Nat) : Int) u := by
   have z : ((i + 1 : Nat) : Int) = (i : Int) + 1 := by omega
   rw [z]; exact he2
  refine ⟨.ref s.heap.objs.size, _, Inv.turnedT (s := s) (t' := s.toks + 1) I (its := [.int i s.toks, u]) (ys := [.int i, x]) hk2 fe fi ⟨_, ht2, rfl, _, rfl⟩ (.cons ⟨_, rfl⟩ (.cons ru .nil)) (by show 2 <= sizeLine; decide), rfl,
   ⟨_, x, rfl, I.hok.fresh (Nat.le_refl _), rfl, fun ys hy => by rw [I.list_inj hy hq]; exact hx⟩, ⟨⟨u, z1⟩, hi1.at fun o q => (hs2.2 it (Ne.symm hne)).trans q⟩, hf2⟩
 done := by
  intro X hP hw hK hc i pins s σ H E I hf st hg
  subst hP hw hK
  obtain ⟨xs, hq, hx⟩ := hg
  obtain ⟨its, rv, p, hz⟩ := I.list hq
  obtain ⟨⟨old, he⟩, hi⟩ := st
  obtain ⟨f0, f1, f2, f3, f4, f5⟩ := hf it (by simp)
  have hl := rv.length
  exact wpAny_pyNext_enum_end (I.ok.hd hc) he hi p.isList (by simp; omega) fun h' eb => ⟨rfl, I.turned (t' := s.toks) (fun b o hb e => eb b o hb e) f0 f1 f3 f4 f5⟩
 self := fun _ _ _ _ _ st h => by
  obtain ⟨⟨old, he⟩, _⟩ := st
  exact wpAny_pyIter_enum he h
section
variable {X : Cx} {elts : List Expr} {x1 : Nat} {tp : Pos}
def zHh (K : W.Frag) (tl : TE) : TI := fun σ H R => tl σ H fun x H1 => ∃ a, x = .ref a /\ (∃ xs, SqL K H1 a xs) /\ R (Ite K a) H1
theorem zI9 {l : Expr} {tl : TE} {p pos : Pos} (hc : X.calm = true) (hg : Gl X "enumerate") (hm : X.mg "enumerate" = none) (hl : PE X l tl) (hs : starEach [l] X.env = [(false, eval l X.env)] := by rfl) : PI X (.Tuple elts x1 tp) (.Call (.Name "enumerate" p) [l] [] pos) (zHh X.K tl) := by
 intro pins s σ H R I h
 refine Call_ (Zc I hg hm boot_enumerate (PyProof.Rows.callWith_type1 (thn ((QA hl QC hs) pos pins s σ H (fun vs H1 => match vs with | [x] => ∃ a, x = .ref a /\ (∃ xs, SqL X.K H1 a xs) /\ R (Ite X.K a) H1 | _ => False) I h) fun us s1 ⟨vs, H1, I1, r1, q1⟩ => ?_) hs rfl))
 match vs, r1, q1 with
 | [x], r1, q1 =>
 obtain ⟨a, rfl, ⟨xs, hq⟩, q⟩ := q1
 obtain ⟨u, rfl, ru⟩ := r1.one
 cases ru
 obtain ⟨its, rv, p, hz⟩ := I1.list hq
 refine call_enumerate_list p.isList fun h' he hi hsz hk => ?_
 have I2 : Inv X pins σ H1 { s1 with heap := h' } := I1.kept (t' := s1.toks) hk
 refine wpAny_pyIter_enum he ?_
 refine ⟨s1.heap.objs.size + 1, [s1.heap.objs.size + 1, s1.heap.objs.size], _, _, H1, rfl, I2, zGM a _ _ (Nat.succ_ne_self _), ⟨⟨_, he⟩, hi⟩, fun b hb => ?_, q⟩
 have hb2 : s1.heap.objs.size <= b := by
  rcases List.mem_cons.mp hb with z | z
  ·rw [z]; exact Nat.le_succ _
  ·rw [List.mem_singleton.mp z]; exact Nat.le_refl _
 exact I1.fpOk hb2 (I1.hok.fresh hb2)
theorem zGW {K : W.Frag} {a : Addr} {xs : List V} {g : TG} {tb : TS} {D : Ends} {σ : St} {H : Hp} (Pv : Nat -> St -> Hp -> Prop) (h0 : Pv 0 σ H) (hl : ∀ i σ H, i <= xs.length -> Pv i σ H -> SqL K H a xs)
  (hs : ∀ (i : Nat) x p σ H, xs[i]? = some x -> Pv i σ H -> H p = none -> g (.ref p) σ (upd H p (.tup [.int (i : Nat), x])) fun σ2 H2 => tb { D with nx := Pv (i + 1), ct := Pv (i + 1), bk := D.nx } σ2 H2) (hd : ∀ σ H, Pv xs.length σ H -> D.nx σ H) : zF2 (Ite K a) g tb D σ H := by
 refine ⟨fun i m σ H => m = xs.length - i /\ i <= xs.length /\ Pv i σ H, ⟨xs.length, by simp, Nat.zero_le _, h0⟩, ?_⟩
 rintro i m σ H ⟨rfl, hi, p⟩
 have q := hl i σ H hi p
 by_cases hlt : i < xs.length
 ·refine .inr ⟨⟨xs, xs[i], q, by simp [hlt]⟩, Pv (i + 1), fun σ' H' p' => ⟨xs.length - (i + 1), by omega, rfl, hlt, p'⟩, fun x H' y => ?_⟩
  obtain ⟨b, z, rfl, hb, rfl, y⟩ := y
  exact hs i z b σ H (y xs q) p hb
 ·have e : i = xs.length := by omega
  subst e
  exact .inl ⟨⟨xs, q, Nat.le_refl _⟩, hd σ H p⟩
end
end L2
namespace L2
open PySem PySem.Spec PyProof.Rows
section
variable {X : Cx}
theorem zBG {i : Nat} {y : Str} {py spos : Pos} (hN : X.N.Nodup) (hi' : X.N[i]? = some y) (hy : Loc X.env.scope y) (x : Str) (cs : List Str) (js : List Nat) {sc scope : Scope} {qual : Str} {L f : Addr} {cd : Value} {elt iter t : Expr} {px pos : Pos} {wi : TI} {tc : TT} {te : TE} (hE : X.env = envOfC qual sc L f cd) (c : CompOk sc scope X.N x cs js) (hc : X.calm = true) (hi : PI X (.Name x px) iter wi)
  (ht : ∀ C s₁ H₁ fp, PT (cxC X scope (YB X.env scope.names []) x cs C s₁ H₁ fp) t tc) (he : ∀ C s₁ H₁ fp, PE (cxC X scope (YB X.env scope.names []) x cs C s₁ H₁ fp) elt te)
  (hsw : swapsWith (.ListComp elt [⟨.Name x px, iter, [t], 0⟩] scope pos) (some (.Name y py)) spos.line X.env = pure true := by rfl)
  (hf : X.fn y = true \/ X.env.scope.names.lookup y = some .local := by first | exact .inl rfl | exact .inr rfl | assumption)
  (hs : ∀ x, foldedSetIterable iter X.env x = pure x := by intro _; rfl) : PS X (.Assign [.Name y py] (.ListComp elt [⟨.Name x px, iter, [t], 0⟩] scope pos) spos) (zBh (J4 wi js tc te) (Zd i)) :=
 zD6 hN hi' hy hc (ZC hE c) hi (fun _ _ _ _ => zAu (ht _ _ _ _)) he hsw hf hs
end
end L2
namespace L2
open PySem PySem.Spec PyProof.Rows
section
variable {X : Cx}
def dd (ns : List Int) : Nat := (firstMet (fun i => ns.getD i 0) ns.length).length
end
end L2
namespace L2
open PySem PySem.Spec PyProof.Rows
end L2
namespace L2
open PySem PySem.Spec PyProof.Rows
theorem zHw {H : Hp} {a b : Int} {x : V} (h : IsKo H (some (.tup [.num a, .num b])) x) : ∃ t, x = .ref t /\ H t = some (.tup [.int a, .int b]) := by
 have h : IsK H (.tup [.num a, .num b]) x := h
 unfold IsK at h
 obtain ⟨t, vs, rfl, ht, _, hk⟩ := h
 unfold IsKs at hk
 obtain ⟨v, vr, rfl, h1, h2⟩ := hk
 unfold IsKs at h2
 obtain ⟨w, wr, rfl, h3, h4⟩ := h2
 unfold IsKs at h4
 subst h4
 rw [IsK.num_eq h1, IsK.num_eq h3] at ht
 exact ⟨t, rfl, ht⟩
end L2
namespace L2
open PySem PySem.Spec PyProof.Rows
def NN (x : V) : Bool := !decide (x = V.non)
def Kp (xs : List V) : List V := xs.filter NN
def Kb (xs ys : List V) : List V := ((xs.zip ys).filter fun p => NN p.1).map (·.2)
theorem zJX {xs : List V} {x : V} : Kp (xs ++ [x]) = if NN x = true then Kp xs ++ [x] else Kp xs := by
 unfold Kp
 rw [List.filter_append]
 split <;> simp [List.filter, *]
theorem zJE {xs ys : List V} {x y : V} (h : xs.length = ys.length) : Kb (xs ++ [x]) (ys ++ [y]) = if NN x = true then Kb xs ys ++ [y] else Kb xs ys := by
 unfold Kb
 rw [List.zip_append h, List.filter_append, List.map_append]
 split <;> simp [List.filter, *]
theorem zLE {xs : List V} : (Kp xs).length <= xs.length := List.length_filter_le _ _
theorem ZJ {α : Type} {l : List α} {i : Nat} {x : α} (h : l[i]? = some x) : l.take (i + 1) = l.take i ++ [x] := by
 rw [List.take_add_one, h]; rfl
theorem zFD {H : Hp} {Q : VK} : rEq .non .non H Q = Q (.bl true) H := propext ⟨fun h => h.2, fun h => ⟨rfl, h⟩⟩
theorem zJt {n : Nat} : (List.replicate n true).all id = true := by rw [List.all_replicate]; simp
end L2
namespace L2
theorem zFQ {s : Int} (hs : s % 2 = 1) : ∀ (k : Nat) (d : Int), (2 : Int) ^ k ∣ d * s -> (2 : Int) ^ k ∣ d
 | 0, d, _ => by rw [Int.pow_zero]; exact Int.one_dvd d
 | k + 1, d, h => by
  have h1 : (2 : Int) ^ k ∣ d * s := Int.dvd_trans ⟨2, by rw [Int.pow_succ]⟩ h
  obtain ⟨t, rfl⟩ := zFQ hs k d h1
  have hp : (2 : Int) ^ k ≠ 0 := Int.ne_of_gt (Int.pow_pos (by decide))
  rw [Int.pow_succ, Int.mul_assoc] at h
  have h2 : (2 : Int) ∣ t * s := Int.dvd_of_mul_dvd_mul_left hp h
  obtain ⟨u, hu⟩ : ∃ u, s = 2 * u + 1 := ⟨s / 2, by omega⟩
  have h3 : (2 : Int) ∣ t := by
   rw [hu, Int.mul_add, Int.mul_one] at h2
   have e : t * (2 * u) = 2 * (t * u) := by rw [← Int.mul_assoc, Int.mul_comm t 2, Int.mul_assoc]
   rw [e] at h2
   generalize t * u = z at h2
   omega
  obtain ⟨w, rfl⟩ := h3
  exact ⟨w, by rw [Int.pow_succ, Int.mul_assoc]⟩
theorem zKE {s : Int} (hs : s % 2 = 1) {k : Nat} {m i j : Int} (h0 : 0 <= i) (h1 : i < 2 ^ k) (h2 : 0 <= j) (h3 : j < 2 ^ k) (h : (m + i * s) % 2 ^ k = (m + j * s) % 2 ^ k) : i = j := by
 have e : ((m + i * s) - (m + j * s)) % 2 ^ k = 0 := Int.emod_eq_emod_iff_emod_sub_eq_zero.mp h
 have e2 : (m + i * s) - (m + j * s) = (i - j) * s := by rw [Int.sub_mul]; omega
 rw [e2] at e
 obtain ⟨t, ht⟩ := zFQ hs k _ (Int.dvd_of_emod_eq_zero e)
 have hp : (0 : Int) < 2 ^ k := Int.pow_pos (by decide)
 generalize (2 : Int) ^ k = M at *
 have ht0 : t = 0 := by
  by_cases c : 0 < t
  ·have : M * 1 <= M * t := Int.mul_le_mul_of_nonneg_left (by omega) (by omega)
   omega
  ·by_cases c2 : t < 0
   ·have : M * t <= M * (-1) := Int.mul_le_mul_of_nonneg_left (by omega) (by omega)
    omega
   ·omega
 rw [ht0, Int.mul_zero] at ht
 omega
theorem zD9 {s : Int} (hs : s % 2 = 1) (m r : Int) : ∀ k : Nat, ∃ c : Int, 0 <= c /\ c < 2 ^ k /\ (2 : Int) ^ k ∣ m + c * s - r
 | 0 => ⟨0, by omega, by decide, by rw [Int.pow_zero]; exact Int.one_dvd _⟩
 | k + 1 => by
  obtain ⟨c, h0, h1, t, ht⟩ := zD9 hs m r k
  have hp : (0 : Int) < 2 ^ k := Int.pow_pos (by decide)
  by_cases e : t % 2 = 0
  ·refine ⟨c, h0, by rw [Int.pow_succ]; omega, t / 2, ?_⟩
   rw [ht, Int.pow_succ, Int.mul_assoc]
   congr 1
   omega
  ·refine ⟨c + 2 ^ k, by omega, by rw [Int.pow_succ]; omega, (t + s) / 2, ?_⟩
   have e1 : m + (c + 2 ^ k) * s - r = 2 ^ k * (t + s) := by
    rw [Int.add_mul, Int.mul_add, ← ht]
    omega
   rw [e1, Int.pow_succ, Int.mul_assoc]
   congr 1
   omega
end L2
namespace L2
open PySem
theorem zEz (n : Nat) : n ||| 1 = n + 1 - n % 2 := by
 have e1 : n = 2 ^ 1 * (n / 2) + n % 2 := by omega
 have e2 : 2 ^ 1 * (n / 2) + n % 2 = 2 ^ 1 * (n / 2) ||| n % 2 := Nat.two_pow_add_eq_or_of_lt (by omega) _
 have e3 : 2 ^ 1 * (n / 2) + 1 = 2 ^ 1 * (n / 2) ||| 1 := Nat.two_pow_add_eq_or_of_lt (by omega) _
 have e4 : n % 2 ||| 1 = 1 := by
  have : n % 2 = 0 \/ n % 2 = 1 := by omega
  rcases this with h | h <;> rw [h] <;> rfl
 have e5 : n ||| 1 = 2 ^ 1 * (n / 2) + 1 := by
  calc n ||| 1 = (2 ^ 1 * (n / 2) + n % 2) ||| 1 := by rw [← e1]
   _ = (2 ^ 1 * (n / 2) ||| n % 2) ||| 1 := by rw [e2]
   _ = 2 ^ 1 * (n / 2) ||| (n % 2 ||| 1) := Nat.or_assoc ..
   _ = 2 ^ 1 * (n / 2) ||| 1 := by rw [e4]
   _ = 2 ^ 1 * (n / 2) + 1 := e3.symm
 omega
theorem zGC {z : Int} (h : 0 <= z) : Builtin.bitOr z 1 = z + 1 - z % 2 := by
 unfold Builtin.bitOr Builtin.bitAnd Builtin.bitNot
 rw [decide_eq_false (by omega)]
 have e : (-(-z - 1) - 1 : Int).toNat = z.toNat := by omega
 have e2 : (-(-1 - 1) - 1 : Int).toNat = 1 := by decide
 show -(-((((-(-z - 1) - 1 : Int).toNat ||| (-(-1 - 1) - 1 : Int).toNat : Nat)) : Int) - 1) - 1 = _
 rw [e, e2, zEz]
 omega
def std (m : Int) : Int := m / 32 + 1 - m / 32 % 2
theorem zFO (m : Int) : std m % 2 = 1 := by unfold std; omega
def pr (m s : Int) (c : Nat) : Int := (m + (c : Int) * std m) % s
theorem zDi {m s : Int} {c : Nat} (hs : 0 < s) : 0 <= pr m s c /\ pr m s c < s := ⟨Int.emod_nonneg _ (by omega), Int.emod_lt_of_pos _ hs⟩
def IsP2 (s : Int) : Prop := ∃ k : Nat, s = 2 ^ k
theorem IsP2.pos {s : Int} (h : IsP2 s) : 0 < s := by obtain ⟨k, rfl⟩ := h; exact Int.pow_pos (by decide)
theorem zLY {m s : Int} (h : IsP2 s) {i j : Nat} (hi : (i : Int) < s) (hj : (j : Int) < s) (e : pr m s i = pr m s j) : i = j := by
 obtain ⟨k, rfl⟩ := h
 have := zKE (zFO m) (m := m) (k := k) (i := i) (j := j) (by omega) hi (by omega) hj e
 omega
theorem zJA {m s : Int} (h : IsP2 s) (r : Int) : ∃ c : Nat, (c : Int) < s /\ pr m s c = r % s := by
 obtain ⟨k, rfl⟩ := h
 obtain ⟨c, h0, h1, h2⟩ := zD9 (zFO m) m r k
 refine ⟨c.toNat, by omega, ?_⟩
 unfold pr
 rw [Int.toNat_of_nonneg h0]
 exact Int.emod_eq_emod_iff_emod_sub_eq_zero.mpr (Int.emod_eq_zero_of_dvd h2)
theorem Qm {n : Nat} (h : n <= 5000) : n < sizeLine := by
 have : 5000 < sizeLine := by decide
 omega
def S8 (i : Int) : Prop := i = 8 \/ i = 16 \/ i = 32 \/ i = 64 \/ i = 128 \/ i = 256 \/ i = 512 \/ i = 1024 \/ i = 2048 \/ i = 4096
instance (i : Int) : Decidable (S8 i) := by unfold S8; infer_instance
theorem S8.p2 {i : Int} (h : S8 i) : IsP2 i := by
 unfold S8 at h
 rcases h with rfl | rfl | rfl | rfl | rfl | rfl | rfl | rfl | rfl | rfl
 ·exact ⟨3, rfl⟩
 ·exact ⟨4, rfl⟩
 ·exact ⟨5, rfl⟩
 ·exact ⟨6, rfl⟩
 ·exact ⟨7, rfl⟩
 ·exact ⟨8, rfl⟩
 ·exact ⟨9, rfl⟩
 ·exact ⟨10, rfl⟩
 ·exact ⟨11, rfl⟩
 ·exact ⟨12, rfl⟩
theorem S8.range {i : Int} (h : S8 i) : 8 <= i /\ i <= 4096 /\ i % 2 = 0 := by unfold S8 at h; omega
theorem zMk : ∀ n : Nat, n < 4097 -> 8 <= n -> (decide (Builtin.bitAnd (n : Int) ((n : Int) - 1) = 0) = decide (S8 (n : Int))) := by decide +kernel
theorem zMS {i : Int} (h1 : 8 <= i) (h2 : i <= 4096) : decide (Builtin.bitAnd i (i - 1) = 0) = decide (S8 i) := by
 have e : i = ((i.toNat : Nat) : Int) := by omega
 have h := zMk i.toNat (by omega) (by omega)
 rwa [← e] at h
theorem S8.double {k : Int} (h : S8 k) (h1 : k < 4096) : S8 (2 * k) := by
 unfold S8 at h ⊢
 rcases h with h | h | h | h | h | h | h | h | h | h <;> subst h <;> simp at h1 ⊢
end L2
namespace L2
open PySem
def sl (m : Int) (n c : Nat) : Nat := (pr m (n : Int) c).toNat
theorem zBL {m : Int} {n c : Nat} (hn : 0 < n) : ((sl m n c : Nat) : Int) = pr m n c := by
 unfold sl
 exact Int.toNat_of_nonneg (zDi (by omega)).1
theorem zAg {m : Int} {n c : Nat} (hn : 0 < n) : sl m n c < n := by
 have h := (zDi (m := m) (s := (n : Int)) (c := c) (by omega)).2
 have h0 := zBL (m := m) (c := c) hn
 omega
theorem zK7 {m : Int} {n i j : Nat} (h : IsP2 (n : Int)) (hi : i < n) (hj : j < n) (e : sl m n i = sl m n j) : i = j := by
 have hn : 0 < n := by omega
 refine zLY h (by omega) (by omega) ?_ (m := m)
 rw [← zBL hn, ← zBL hn, e]
theorem zKI {m : Int} {n r : Nat} (h : IsP2 (n : Int)) (hr : r < n) : ∃ c, c < n /\ sl m n c = r := by
 obtain ⟨c, h1, h2⟩ := zJA (m := m) h (r : Int)
 refine ⟨c, by omega, ?_⟩
 unfold sl
 rw [h2, Int.emod_eq_of_lt (by omega) (by omega)]
 omega
def cAt (cs : List Int) (m : Int) (c : Nat) : Int := (cs[sl m cs.length c]?).getD 0
theorem ZX {cs : List Int} {m : Int} {c : Nat} (h : 0 < cs.length) : cs[sl m cs.length c]? = some (cAt cs m c) := by
 unfold cAt
 rw [List.getElem?_eq_getElem (zAg h)]; rfl
theorem zJw {cs : List Int} {m : Int} {c : Nat} (h : 0 < cs.length) : cAt cs m c ∈ cs := List.mem_of_getElem? (ZX h)
def IsFirst (P : Nat -> Prop) (n c : Nat) : Prop := c < n /\ P c /\ ∀ i, i < c -> ¬ P i
theorem zAp {P : Nat -> Prop} {n : Nat} (h : ∃ c, c < n /\ P c) : ∃ c, IsFirst P n c := by
 classical
 obtain ⟨c, hc, hp⟩ := h
 induction c using Nat.strongRecOn with
 | ind c ih =>
  by_cases q : ∃ i, i < c /\ P i
  ·obtain ⟨i, hi, hpi⟩ := q
   exact ih i hi (by omega) hpi
  ·exact ⟨c, hc, hp, fun i hi hpi => q ⟨i, hi, hpi⟩⟩
theorem IsFirst.uniq {P : Nat -> Prop} {n c d : Nat} (h : IsFirst P n c) (h' : IsFirst P n d) : c = d := by
 obtain ⟨h1, h2, h3⟩ := h
 obtain ⟨g1, g2, g3⟩ := h'
 rcases Nat.lt_trichotomy c d with z | z | z
 ·exact absurd h2 (g3 c z)
 ·exact z
 ·exact absurd g2 (h3 d z)
theorem zDe {cs : List Int} {m v : Int} (h : IsP2 (cs.length : Int)) (hv : v ∈ cs) : ∃ c, c < cs.length /\ cAt cs m c = v := by
 obtain ⟨i, hi, e⟩ := List.mem_iff_getElem.mp hv
 obtain ⟨c, hc, hs⟩ := zKI (m := m) h hi
 refine ⟨c, hc, ?_⟩
 unfold cAt
 rw [hs, List.getElem?_eq_getElem hi, e]; rfl
structure Laid (st : Nat -> Option Int) (n i : Nat) (cs : List Int) : Prop where
 len : cs.length = n
 old : ∀ (j : Nat) (v : Int), cs[j]? = some v -> v = -1 \/ ∃ p, p < i /\ v = (p : Int) /\ ∃ m, st p = some m
 has : ∀ p m, p < i -> st p = some m -> ∃ c, c < n /\ cAt cs m c = (p : Int) /\ ∀ c', c' < c -> 0 <= cAt cs m c' /\ cAt cs m c' < (p : Int)
 one : ∀ (j k : Nat) (v : Int), cs[j]? = some v -> cs[k]? = some v -> v ≠ -1 -> j = k
 few : cs.countP (fun v => v != -1) <= i
theorem zGP {st : Nat -> Option Int} {n : Nat} : Laid st n 0 (List.replicate n (-1)) where
 len := List.length_replicate
 old := fun j v h => .inl (List.eq_of_mem_replicate (List.mem_of_getElem? h))
 has := fun p m h => absurd h (Nat.not_lt_zero _)
 one := fun j k v h1 h2 h3 => absurd (List.eq_of_mem_replicate (List.mem_of_getElem? h1)) h3
 few := by rw [List.countP_replicate]; simp
theorem Laid.skip {st : Nat -> Option Int} {n i : Nat} {cs : List Int} (h : Laid st n i cs) (e : st i = none) : Laid st n (i + 1) cs where
 len := h.len
 old := fun j v hv => (h.old j v hv).imp id fun ⟨p, h1, h2⟩ => ⟨p, by omega, h2⟩
 has := fun p m hp hm => by
  by_cases z : p = i
  ·subst z; rw [e] at hm; cases hm
  ·exact h.has p m (by omega) hm
 one := h.one
 few := Nat.le_succ_of_le h.few
theorem W4 {cs : List Int} (h : cs.countP (fun v => v != -1) < cs.length) : (-1 : Int) ∈ cs := by
 by_cases c : (-1 : Int) ∈ cs
 ·exact c
 ·exfalso
  have : cs.countP (fun v => v != -1) = cs.length := List.countP_eq_length.mpr fun v hv => by
   have : v ≠ -1 := fun e => c (e ▸ hv)
   simpa using this
  omega
theorem Laid.put {st : Nat -> Option Int} {n i c : Nat} {m : Int} {cs : List Int} (h : Laid st n i cs) (e : st i = some m) (hn : 0 < n) (hc : IsFirst (fun c => cAt cs m c = -1) n c) : Laid st n (i + 1) (cs.set (sl m n c) (i : Int)) := by
 have hlen := h.len
 have hsl : sl m n c < cs.length := by rw [hlen]; exact zAg hn
 obtain ⟨c1, c2, c3⟩ := hc
 have hat : cs[sl m n c]? = some (-1) := by
  have := ZX (cs := cs) (m := m) (c := c) (by omega)
  rw [hlen, c2] at this
  exact this
 have get : ∀ j v, (cs.set (sl m n c) (i : Int))[j]? = some v -> (j = sl m n c /\ v = (i : Int)) \/ (j ≠ sl m n c /\ cs[j]? = some v) := by
  intro j v hv
  by_cases z : sl m n c = j
  ·subst z
   rw [List.getElem?_set_self hsl] at hv
   exact .inl ⟨rfl, (Option.some.inj hv).symm⟩
  ·rw [List.getElem?_set_ne z] at hv
   exact .inr ⟨fun y => z y.symm, hv⟩
 have keepAt : ∀ m' c', cAt cs m' c' ≠ -1 -> cAt (cs.set (sl m n c) (i : Int)) m' c' = cAt cs m' c' := by
  intro m' c' hne
  unfold cAt
  rw [List.length_set]
  have z : sl m n c ≠ sl m' cs.length c' := by
   intro z
   apply hne
   unfold cAt
   rw [← z, hat]; rfl
  rw [List.getElem?_set_ne z]
 refine ⟨by rw [List.length_set]; exact hlen, fun j v hv => ?_, fun p m' hp hm' => ?_, fun j k v hj hk hv => ?_, ?_⟩
 ·rcases get j v hv with ⟨_, rfl⟩ | ⟨_, hv⟩
  ·exact .inr ⟨i, by omega, rfl, m, e⟩
  ·exact (h.old j v hv).imp id fun ⟨p, h1, h2⟩ => ⟨p, by omega, h2⟩
 ·by_cases z : p = i
  ·subst z
   rw [e] at hm'
   cases hm'
   refine ⟨c, c1, ?_, fun c' hc' => ?_⟩
   ·unfold cAt
    rw [List.length_set, hlen, List.getElem?_set_self hsl]; rfl
   ·have hne := c3 c' hc'
    rw [keepAt m c' hne]
    have hg := ZX (cs := cs) (m := m) (c := c') (by omega)
    rcases h.old _ _ hg with y | ⟨q, q1, q2, _⟩
    ·exact absurd y hne
    ·omega
  ·obtain ⟨d, d1, d2, d3⟩ := h.has p m' (by omega) hm'
   refine ⟨d, d1, ?_, fun c' hc' => ?_⟩
   ·rw [keepAt m' d (by rw [d2]; omega)]; exact d2
   ·have := d3 c' hc'
    rw [keepAt m' c' (by omega)]; exact this
 ·rcases get j v hj with ⟨rfl, rfl⟩ | ⟨j1, hj⟩
  ·rcases get k _ hk with ⟨rfl, _⟩ | ⟨k1, hk⟩
   ·rfl
   ·rcases h.old k _ hk with y | ⟨q, q1, q2, _⟩
    ·exact absurd y hv
    ·omega
  ·rcases get k v hk with ⟨rfl, rfl⟩ | ⟨k1, hk⟩
   ·rcases h.old j _ hj with y | ⟨q, q1, q2, _⟩
    ·exact absurd y hv
    ·omega
   ·exact h.one j k v hj hk hv
 ·have h1 := h.few
  have e1 : (cs.set (sl m n c) (i : Int)).countP (fun v => v != -1) <= cs.countP (fun v => v != -1) + 1 := by
   rw [List.countP_set hsl]
   split <;> split <;> omega
  omega
inductive LB (st : Nat -> Option Int) (n : Nat) : Nat -> List Int -> Prop
 | zero : LB st n 0 (List.replicate n (-1))
 | skip {i : Nat} {cs : List Int} : LB st n i cs -> st i = none -> LB st n (i + 1) cs
 | put {i c : Nat} {m : Int} {cs : List Int} : LB st n i cs -> st i = some m -> IsFirst (fun c => cAt cs m c = -1) n c -> LB st n (i + 1) (cs.set (sl m n c) (i : Int))
theorem LB.laid {st : Nat -> Option Int} {n i : Nat} {cs : List Int} (hn : 0 < n) (h : LB st n i cs) : Laid st n i cs := by
 induction h with
 | zero => exact zGP
 | skip _ e ih => exact ih.skip e
 | put _ e hc ih => exact ih.put e hn hc
theorem LB.room {st : Nat -> Option Int} {n i : Nat} {cs : List Int} (h : LB st n i cs) (hi : i < n) (h2 : IsP2 (n : Int)) (m : Int) : ∃ c, IsFirst (fun c => cAt cs m c = -1) n c := by
 have L := h.laid (by omega)
 have hl := L.len
 refine zAp ?_
 rw [← hl] at h2
 obtain ⟨c, c1, c2⟩ := zDe (m := m) h2 (W4 (cs := cs) (by have := L.few; omega))
 exact ⟨c, by omega, c2⟩
end L2
namespace L2
open PySem PySem.Spec PyProof.Rows
def stO (os : List (Option Kd)) (p : Nat) : Option Int := match os[p]? with
 | some (some k) => some k.st
 | _ => none
def YE (os : List (Option Kd)) (k : Kd) (v : Int) : Prop := v = -1 \/ (0 <= v /\ os[v.toNat]? = some (some k))
instance (os : List (Option Kd)) (k : Kd) (v : Int) : Decidable (YE os k v) := by unfold YE; infer_instance
def pap (cs : List Int) (m : Int) (c : Nat) : List (Option Kd) := (List.range (c + 1)).map fun i => some (.tup [.num (sl m cs.length i : Nat), .num (cAt cs m i)])
structure Fm (n : Nat) (cs : List Int) (os : List (Option Kd)) : Prop where
 len : cs.length = n
 p2 : IsP2 (n : Int)
 few : cs.countP (fun v => v != -1) = os.length
 room : os.length < n
 good : ∀ (j : Nat) (v : Int), cs[j]? = some v -> v = -1 \/ v = -2 \/ ∃ (p : Nat) (k : Kd), v = (p : Int) /\ os[p]? = some (some k)
 has : ∀ (p : Nat) (k : Kd), os[p]? = some (some k) -> ∃ c, c < n /\ cAt cs k.st c = (p : Int) /\ ∀ c', c' < c -> cAt cs k.st c' ≠ -1
 one : ∀ (i j : Nat) (v : Int), cs[i]? = some v -> cs[j]? = some v -> 0 <= v -> i = j
 keys : ∀ (p q : Nat) (k : Kd), os[p]? = some (some k) -> os[q]? = some (some k) -> p = q
section
variable {n : Nat} {cs : List Int} {os : List (Option Kd)} {k : Kd} {c p : Nat}
theorem Fm.zero (h2 : IsP2 (n : Int)) : Fm n (List.replicate n (-1)) [] where
 len := List.length_replicate
 p2 := h2
 few := by rw [List.countP_replicate]; simp
 room := by have := h2.pos; show 0 < n; omega
 good := fun j v h => .inl (List.eq_of_mem_replicate (List.mem_of_getElem? h))
 has := fun p k h => by simp at h
 one := fun i j v h1 h2 h3 => by
  have := List.eq_of_mem_replicate (List.mem_of_getElem? h1)
  omega
 keys := fun p q k h => by simp at h
theorem Fm.pos (F : Fm n cs os) : 0 < n := Nat.lt_of_le_of_lt (Nat.zero_le _) F.room
theorem Fm.at (F : Fm n cs os) (m : Int) (c : Nat) : cs[sl m n c]? = some (cAt cs m c) := by
 have := ZX (cs := cs) (m := m) (c := c) (by rw [F.len]; exact F.pos)
 rw [F.len] at this
 exact this
theorem Fm.there (F : Fm n cs os) (h : os[p]? = some (some k)) : ∃ c, IsFirst (fun c => YE os k (cAt cs k.st c)) n c /\ cAt cs k.st c = (p : Int) := by
 obtain ⟨c, h1, h2, h3⟩ := F.has p k h
 refine ⟨c, ⟨h1, .inr ⟨by omega, by rw [h2]; simpa using h⟩, fun i hi hs => ?_⟩, h2⟩
 rcases hs with e | ⟨e1, e2⟩
 ·exact h3 i hi e
 ·have e3 := F.keys _ _ _ e2 h
  have e4 : cAt cs k.st i = (p : Int) := by omega
  have a1 := F.at k.st i
  have a2 := F.at k.st c
  rw [e4] at a1
  rw [h2] at a2
  have e5 := F.one _ _ _ a1 a2 (by omega)
  have e6 := zK7 F.p2 (by omega) h1 e5
  omega
theorem Fm.stops (F : Fm n cs os) (m : Int) : ∃ c, c < n /\ cAt cs m c = -1 := by
 have h := zDe (cs := cs) (m := m) (v := -1) (by rw [F.len]; exact F.p2) (W4 (by rw [F.few, F.len]; exact F.room))
 rw [F.len] at h
 exact h
theorem Fm.lacks (F : Fm n cs os) (h : ∀ p : Nat, os[p]? ≠ some (some k)) : ∃ c, IsFirst (fun c => YE os k (cAt cs k.st c)) n c /\ cAt cs k.st c = -1 := by
 obtain ⟨c0, h0, e0⟩ := F.stops k.st
 obtain ⟨c, hc⟩ := zAp (P := fun c => YE os k (cAt cs k.st c)) ⟨c0, h0, .inl e0⟩
 refine ⟨c, hc, ?_⟩
 rcases hc.2.1 with e | ⟨_, e⟩
 ·exact e
 ·exact absurd e (h _)
theorem ZV {cs : List Int} {j : Nat} {x : Int} (hj : j < cs.length) {i : Nat} {v : Int} (h : (cs.set j x)[i]? = some v) : (i = j /\ v = x) \/ (i ≠ j /\ cs[i]? = some v) := by
 by_cases z : j = i
 ·subst z
  rw [List.getElem?_set_self hj] at h
  exact .inl ⟨rfl, (Option.some.inj h).symm⟩
 ·rw [List.getElem?_set_ne z] at h
  exact .inr ⟨fun y => z y.symm, h⟩
theorem zAc {cs : List Int} {j : Nat} {x : Int} {m : Int} {c : Nat} : cAt (cs.set j x) m c = if sl m cs.length c = j /\ j < cs.length then x else cAt cs m c := by
 unfold cAt
 rw [List.length_set]
 by_cases z : sl m cs.length c = j
 ·by_cases hj : j < cs.length
  ·rw [if_pos ⟨z, hj⟩, z, List.getElem?_set_self hj]; rfl
  ·rw [if_neg (fun y => hj y.2), z, List.getElem?_eq_none (by rw [List.length_set]; omega), List.getElem?_eq_none (by omega)]
 ·rw [if_neg (fun y => z y.1), List.getElem?_set_ne (fun y => z y.symm)]
theorem WF {α : Type} {l : List α} {x y : α} {i : Nat} (h : (l ++ [x])[i]? = some y) : l[i]? = some y \/ (i = l.length /\ y = x) := by
 rcases Nat.lt_trichotomy i l.length with z | z | z
 ·rw [List.getElem?_append_left z] at h; exact .inl h
 ·subst z
  rw [List.getElem?_append_right (Nat.le_refl _), Nat.sub_self] at h
  simp at h
  exact .inr ⟨rfl, h.symm⟩
 ·rw [List.getElem?_eq_none (by rw [List.length_append]; simp; omega)] at h; cases h
theorem zGc {α : Type} {l : List α} {x y : α} {i : Nat} (h : l[i]? = some y) : (l ++ [x])[i]? = some y := by
 rw [List.getElem?_append_left (List.getElem?_eq_some_iff.mp h).1]; exact h
theorem Fm.put (F : Fm n cs os) (h : ∀ p : Nat, os[p]? ≠ some (some k)) (hc : IsFirst (fun c => YE os k (cAt cs k.st c)) n c) (hr : os.length + 1 < n) : Fm n (cs.set (sl k.st n c) (os.length : Int)) (os ++ [some k]) := by
 have hl := F.len
 have hsl : sl k.st n c < cs.length := by rw [hl]; exact zAg F.pos
 have e1 : cAt cs k.st c = -1 := by
  rcases hc.2.1 with e | ⟨_, e⟩
  ·exact e
  ·exact absurd e (h _)
 have hat : cs[sl k.st n c]? = some (-1) := by have := F.at k.st c; rw [e1] at this; exact this
 have keep : ∀ m' c', cAt cs m' c' ≠ -1 -> cAt (cs.set (sl k.st n c) (os.length : Int)) m' c' = cAt cs m' c' := fun m' c' hne => by
  rw [zAc, if_neg]
  rintro ⟨z, _⟩
  apply hne
  rw [hl] at z
  have := F.at m' c'
  rw [z, hat] at this
  exact (Option.some.inj this).symm
 refine ⟨by rw [List.length_set]; exact hl, F.p2, ?_, by rw [List.length_append]; exact hr, fun j v hv => ?_, fun p k' hp => ?_, fun i j v hi hj h0 => ?_, fun p q k' hp hq => ?_⟩
 ·rw [List.countP_set hsl, List.length_append]
  have e2 : cs[sl k.st n c] = -1 := by
   rw [List.getElem?_eq_getElem hsl] at hat
   exact Option.some.inj hat
  rw [e2]
  have := F.few
  have b1 : ((os.length : Int) != -1) = true := by simp
  simp only [b1, if_true, bne_self_eq_false, Bool.false_eq_true, if_false, List.length_singleton]
  omega
 ·rcases ZV hsl hv with ⟨_, rfl⟩ | ⟨_, hv⟩
  ·exact .inr (.inr ⟨os.length, k, rfl, by simp⟩)
  ·rcases F.good j v hv with e | e | ⟨p, k', e, hp⟩
   ·exact .inl e
   ·exact .inr (.inl e)
   ·exact .inr (.inr ⟨p, k', e, zGc hp⟩)
 ·rcases WF hp with hp | ⟨e, ek⟩
  ·obtain ⟨d, d1, d2, d3⟩ := F.has p k' hp
   refine ⟨d, d1, ?_, fun c' hc' => ?_⟩
   ·rw [keep _ _ (by rw [d2]; omega)]; exact d2
   ·rw [keep _ _ (d3 c' hc')]; exact d3 c' hc'
  ·subst e
   cases ek
   refine ⟨c, hc.1, ?_, fun c' hc' => ?_⟩
   ·rw [zAc, if_pos ⟨by rw [hl], hsl⟩]
   ·have hne : cAt cs k.st c' ≠ -1 := fun e => hc.2.2 c' hc' (.inl e)
    rw [keep _ _ hne]; exact hne
 ·have lt : ∀ (j : Nat) (v : Int), cs[j]? = some v -> 0 <= v -> v < os.length := fun j v hv hv0 => by
   rcases F.good j v hv with e | e | ⟨p, k', e, hp⟩
   ·omega
   ·omega
   ·have := (List.getElem?_eq_some_iff.mp hp).1; omega
  rcases ZV hsl hi with ⟨i1, i2⟩ | ⟨i1, hi⟩
  ·rcases ZV hsl hj with ⟨j1, j2⟩ | ⟨j1, hj⟩
   ·omega
   ·have := lt j v hj h0; omega
  ·rcases ZV hsl hj with ⟨j1, j2⟩ | ⟨j1, hj⟩
   ·have := lt i v hi h0; omega
   ·exact F.one i j v hi hj h0
 ·rcases WF hp with hp | ⟨ep, ek⟩
  ·rcases WF hq with hq | ⟨eq, ek⟩
   ·exact F.keys p q k' hp hq
   ·cases ek; exact absurd hp (h p)
  ·rcases WF hq with hq | ⟨eq, ek'⟩
   ·cases ek; exact absurd hq (h q)
   ·omega
theorem Fm.take (F : Fm n cs os) (h : os[p]? = some (some k)) (hc : IsFirst (fun c => YE os k (cAt cs k.st c)) n c) : Fm n (cs.set (sl k.st n c) (-2)) (os.set p none) := by
 have hl := F.len
 have hsl : sl k.st n c < cs.length := by rw [hl]; exact zAg F.pos
 obtain ⟨c', hc', e'⟩ := F.there h
 have ec := hc.uniq hc'
 subst ec
 have hp : p < os.length := (List.getElem?_eq_some_iff.mp h).1
 have hat : cs[sl k.st n c]? = some (p : Int) := by have := F.at k.st c; rw [e'] at this; exact this
 have row : ∀ (q : Nat) (k' : Kd), (os.set p none)[q]? = some (some k') -> q ≠ p /\ os[q]? = some (some k') := fun q k' hq => by
  by_cases z : p = q
  ·subst z; rw [List.getElem?_set_self hp] at hq; cases hq
  ·rw [List.getElem?_set_ne z] at hq; exact ⟨fun y => z y.symm, hq⟩
 refine ⟨by rw [List.length_set]; exact hl, F.p2, ?_, by rw [List.length_set]; exact F.room, fun j v hv => ?_, fun q k' hq => ?_, fun i j v hi hj h0 => ?_, fun q r k' hq hr => ?_⟩
 ·rw [List.countP_set hsl, List.length_set]
  have e2 : cs[sl k.st n c] = (p : Int) := by
   rw [List.getElem?_eq_getElem hsl] at hat
   exact Option.some.inj hat
  rw [e2]
  have := F.few
  have b1 : ((p : Int) != -1) = true := by simp
  have b2 : ((-2 : Int) != -1) = true := by decide
  have pos : 0 < cs.countP (fun v => v != -1) := List.countP_pos_iff.mpr ⟨(p : Int), List.mem_of_getElem? hat, b1⟩
  simp only [b1, b2, if_true]
  omega
 ·rcases ZV hsl hv with ⟨_, rfl⟩ | ⟨hj, hv⟩
  ·exact .inr (.inl rfl)
  ·rcases F.good j v hv with e | e | ⟨q, k', e, hq⟩
   ·exact .inl e
   ·exact .inr (.inl e)
   ·refine .inr (.inr ⟨q, k', e, ?_⟩)
    rw [List.getElem?_set_ne]
    ·exact hq
    ·intro z
     subst z
     exact hj (F.one _ _ _ hv (by rw [hat, e]) (by omega))
 ·obtain ⟨hqp, hq⟩ := row q k' hq
  obtain ⟨d, d1, d2, d3⟩ := F.has q k' hq
  refine ⟨d, d1, ?_, fun c' hc' => ?_⟩
  ·rw [zAc, if_neg]
   ·exact d2
   ·rintro ⟨z, _⟩
    rw [hl] at z
    have := F.at k'.st d
    rw [z, hat, d2] at this
    have := Option.some.inj this
    omega
  ·rw [zAc]
   split
   ·decide
   ·exact d3 c' hc'
 ·rcases ZV hsl hi with ⟨_, i2⟩ | ⟨_, hi⟩
  ·omega
  ·rcases ZV hsl hj with ⟨_, j2⟩ | ⟨_, hj⟩
   ·omega
   ·exact F.one i j v hi hj h0
 ·exact F.keys q r k' (row q k' hq).2 (row r k' hr).2
end
end L2
namespace L2
open PySem PySem.Spec PyProof.Rows
structure FunD (K : W.Frag) (x qual : Str) (st : Stmt) (f : Addr) (fd : FuncData) (ds : List Value) : Prop where
 ex : ∃ (oc : Value) (od : Option Addr) (kV doc pm : Value) (an : Option Addr) (cdv ct : Value) (osl : Array (Option Value)) (T : Addr) (o : Obj) (n : Nat),
  fd = W.fnOf x qual (Q9 st) (Qy st) (QJ st) (.ref T) kV doc pm an cdv ct /\ K.lookup f = some ⟨oc, od, .func fd, osl⟩ /\ W.codeIn K cdv qual = true /\ K.lookup T = some o /\ o.data = .seq ds.toArray n
 kp : W.keepIn K (.ref f) = true
section
variable {P : Program} {w : World} {K : W.Frag} {mg : Str -> Option Value} {base : Heap}
theorem FunD.ok {x qual : Str} {st : Stmt} {f : Addr} {fd : FuncData} {ds : List Value} {N ps : List Str} {k : Nat} {sp : Sp} (F : FunD K x qual st f fd ds) (S : FnScope N ps (QJ st)) (len : ∀ vs H Q E, sp vs H Q E -> vs.length = ps.length)
  (hbody : ∀ (cdv : Value) (A : Around) (outer : List Env) (s : Shared) (H : Hp) (vs : List V) (Q : VK) (E : XK), Room k (A.deeper (envOfC qual (QJ st) s.heap.objs.size f cdv)) -> sp vs H Q E ->
   ∃ t, PSs (zBm CX0 P w K mg base N qual (QJ st) f cdv A outer s H E).nox (Qy st) t /\ t { nx := fun _ H' => Q .non H', rt := Q } (Zf N vs) H) : FnOk P w K mg base CX0 (k + 1) f fd ps sp := by
 obtain ⟨oc, od, kV, doc, pm, an, cdv, ct, osl, T, o, n, rfl, lk, hcd, _, _⟩ := F.ex
 refine zH0 lk hcd S len fun A outer s H vs Q E hr hsp => ?_
 obtain ⟨t, h, q⟩ := hbody cdv A outer s H vs Q E hr hsp
 exact ⟨t, h.nox, q⟩
theorem FunD.binds {x qual : Str} {st : Stmt} {f : Addr} {fd : FuncData} {ds : List Value} {ps : List Str} (es : List Value) (F : FunD K x qual st f fd ds)
  (h : ∀ (T : Addr) (kV doc pm : Value) (an : Option Addr) (cdv ct : Value) (us : List Value), (us ++ es).length = ps.length -> ∃ k : Option (Array Value) -> Sem (List (Str × Value)),
   bindArgs (W.fnOf x qual (Q9 st) (Qy st) (QJ st) (.ref T) kV doc pm an cdv ct) ⟨us, []⟩ = seqItems? (.ref T) >>= k /\ k (some ds.toArray) = pure (ps.zip (us ++ es))) : Binds K fd ps es := by
 obtain ⟨oc, od, kV, doc, pm, an, cdv, ct, osl, T, o, n, rfl, lk, hcd, lT, hT⟩ := F.ex
 intro s us KX hl
 obtain ⟨k, h1, h2⟩ := h T kV doc pm an cdv ct us hl
 exact BindsTo.of_defaults rfl (KX _ _ lT) hT h1 h2
theorem zJv {x qual : Str} {st : Stmt} {f T : Addr} {oc : Value} {od an : Option Addr} {osl : Array (Option Value)} {kV doc pm cdv ct : Value} {o : Obj} {ds : List Value} {n : Nat} (l : K.lookup f = some ⟨oc, od, .func (W.fnOf x qual (Q9 st) (Qy st) (QJ st) (.ref T) kV doc pm an cdv ct), osl⟩)
  (c : W.codeIn K cdv qual = true) (k : W.keepIn K (.ref f) = true) (lT : K.lookup T = some o) (hT : o.data = .seq ds.toArray n) : FunD K x qual st f (W.fnOf x qual (Q9 st) (Qy st) (QJ st) (.ref T) kV doc pm an cdv ct) ds := ⟨⟨oc, od, kV, doc, pm, an, cdv, ct, osl, T, o, n, rfl, l, c, lT, hT⟩, k⟩
end
end L2
namespace L2
open PySem PySem.Spec PyProof.Rows
def Y2 (K : W.Frag) (f : Str) : V -> Hp -> VK -> Prop
 | .ref a, H, Q => match H a with
  | some (.ins C _ fs) => Cls K C /\ NoAttr K C f /\ (match fs.lookup f with | some v => Q v H | none => False)
  | _ => False
 | _, _, _ => False
def zIn (K : W.Frag) (f : Str) (y : V) : V -> Hp -> (Hp -> Prop) -> Prop
 | .ref a, H, N => match H a with
  | some (.ins C dx fs) => Cls K C /\ NoAttr K C f /\ fs.length < 1000 /\ N (upd H a (.ins C dx (Qk f y fs)))
  | _ => False
 | _, _, _ => False
def Wp (C : Addr) (m : Str) : V -> Hp -> (Hp -> Prop) -> Prop
 | .ref a, H, N => match H a with
  | some (.ins D _ fs) => D = C /\ fs.lookup m = none /\ N H
  | _ => False
 | _, _, _ => False
def zHg (K : W.Frag) (ta : TE) (f : Str) : TE := fun σ H Q => ta σ H fun x H1 => Y2 K f x H1 Q
def zII (K : W.Frag) (ta tv : TE) (f : Str) : TS := fun D σ H => tv σ H fun y H1 => ta σ H1 fun x H2 => zIn K f y x H2 (D.nx σ)
def zHF (K : W.Frag) (ta tv : TE) (rd : V -> V -> Hp -> VK -> Prop) (f : Str) : TS := fun D σ H => ta σ H fun x H1 => Y2 K f x H1 fun v H1' => tv σ H1' fun y H2 => rd v y H2 fun z H3 => zIn K f z x H3 (D.nx σ)
def zCJ (C : Addr) (m : Str) (sp : Sp) (dvs : List V) (E : XK) (ta : TE) (t : TA) : TE := fun σ H Q => ta σ H fun x H1 => Wp C m x H1 fun H1 => t σ H1 fun vs H2 => sp (x :: (vs ++ dvs)) H2 Q E
section
variable {K : W.Frag} {H : Hp} {Q : VK} {N : Hp -> Prop} {p C dx : Addr} {fs : List (Str × V)} {f m : Str} {v y : V}
theorem zFK {x : V} (h : Y2 K f x H Q) : ∃ a C dx fs v, x = .ref a /\ H a = some (.ins C dx fs) /\ Cls K C /\ NoAttr K C f /\ fs.lookup f = some v /\ Q v H := by
 match x, h with
 | .ref a, h =>
  have h' : (match H a with | some (.ins C _ fs) => Cls K C /\ NoAttr K C f /\ (match fs.lookup f with | some v => Q v H | none => False) | _ => False) := h
  cases e : H a with
  | none => rw [e] at h'; exact h'.elim
  | some o =>
   rw [e] at h'
   cases o with
   | ins C dx fs =>
    obtain ⟨h1, h2, h3⟩ := (show Cls K C /\ NoAttr K C f /\ (match fs.lookup f with | some v => Q v H | none => False) from h')
    cases e2 : fs.lookup f with
    | none => rw [e2] at h3; exact h3.elim
    | some v => rw [e2] at h3; exact ⟨a, C, dx, fs, v, rfl, e, h1, h2, e2, h3⟩
   | _ => exact h'.elim
theorem zFr {x : V} (h : zIn K f y x H N) : ∃ a C dx fs, x = .ref a /\ H a = some (.ins C dx fs) /\ Cls K C /\ NoAttr K C f /\ fs.length < 1000 /\ N (upd H a (.ins C dx (Qk f y fs))) := by
 match x, h with
 | .ref a, h =>
  have h' : (match H a with | some (.ins C dx fs) => Cls K C /\ NoAttr K C f /\ fs.length < 1000 /\ N (upd H a (.ins C dx (Qk f y fs))) | _ => False) := h
  cases e : H a with
  | none => rw [e] at h'; exact h'.elim
  | some o =>
   rw [e] at h'
   cases o with
   | ins C dx fs => exact ⟨a, C, dx, fs, rfl, e, h'⟩
   | _ => exact h'.elim
theorem zD2 {x : V} (h : Wp C m x H N) : ∃ a dx fs, x = .ref a /\ H a = some (.ins C dx fs) /\ fs.lookup m = none /\ N H := by
 match x, h with
 | .ref a, h =>
  have h' : (match H a with | some (.ins D _ fs) => D = C /\ fs.lookup m = none /\ N H | _ => False) := h
  cases e : H a with
  | none => rw [e] at h'; exact h'.elim
  | some o =>
   rw [e] at h'
   cases o with
   | ins D dx fs =>
    obtain ⟨rfl, h2, h3⟩ := (show D = C /\ fs.lookup m = none /\ N H from h')
    exact ⟨a, dx, fs, rfl, e, h2, h3⟩
   | _ => exact h'.elim
theorem QX (h : H p = some (.ins C dx fs)) (c : Cls K C) (n : NoAttr K C f) (l : fs.lookup f = some v) : Y2 K f (.ref p) H Q = Q v H := by
 show (match H p with | some (.ins C _ fs) => Cls K C /\ NoAttr K C f /\ (match fs.lookup f with | some v => Q v H | none => False) | _ => False) = _
 rw [h]
 show (Cls K C /\ NoAttr K C f /\ (match fs.lookup f with | some v => Q v H | none => False)) = _
 rw [l]
 exact propext ⟨fun z => z.2.2, fun z => ⟨c, n, z⟩⟩
theorem Qj (h : H p = some (.ins C dx fs)) (c : Cls K C) (n : NoAttr K C f) (l : fs.length < 1000) : zIn K f y (.ref p) H N = N (upd H p (.ins C dx (Qk f y fs))) := by
 show (match H p with | some (.ins C dx fs) => Cls K C /\ NoAttr K C f /\ fs.length < 1000 /\ N (upd H p (.ins C dx (Qk f y fs))) | _ => False) = _
 rw [h]
 exact propext ⟨fun z => z.2.2.2, fun z => ⟨c, n, l, z⟩⟩
theorem Y9 (h : H p = some (.ins C dx fs)) (l : fs.lookup m = none) : Wp C m (.ref p) H N = N H := by
 show (match H p with | some (.ins D _ fs) => D = C /\ fs.lookup m = none /\ N H | _ => False) = _
 rw [h]
 exact propext ⟨fun z => z.2.2, fun z => ⟨rfl, l, z⟩⟩
end
section
variable {X : Cx} {o e value : Expr} {f : Str} {pos pos' tpos : Pos} {ta tv : TE}
theorem QS (he : PE X e ta) (hb : attributeBase e f X.env (eval e X.env) = eval e X.env) : PE X (.Attribute e f pos) (zHg X.K ta f) := by
 intro pins s σ H Q I h
 refine zJN hb (thn (he pins s σ H _ I h) fun u s1 ⟨x, H1, I1, rx, q0⟩ => ?_)
 obtain ⟨a, C, dx, fs, v, ex, ea, c, n, l, q⟩ := zFK q0
 subst ex
 obtain rfl : u = Value.ref a := rx
 exact zBN I1 ea c n l fun u' s2 I2 ru => ⟨v, H1, I2, ru, q⟩
theorem Qv (ha : PE X o ta) (hv : PE X value tv) (hs : swapsWith value (some (.Attribute o f pos')) pos.line X.env = pure false) : PS X (.Assign [.Attribute o f pos'] value pos) (zII X.K ta tv f) := by
 intro pins s σ H D I h
 refine plainObj_wpAny_Assign_Attribute (thn (hv pins s σ H _ I h) fun u s1 ⟨y, H1, I1, ry, q⟩ => thn (ha pins s1 σ H1 _ I1 q) fun ov s2 ⟨x, H2, I2, rx, q0⟩ => ?_) hs
 obtain ⟨a, C, dx, fs, ex, ea, c, n, l, q2⟩ := zFr q0
 subst ex
 obtain rfl : ov = Value.ref a := rx
 exact zBa I2 ea c n l ry fun s3 I3 => ⟨σ, _, I3, q2⟩
theorem Wq {op : Operator} {rd : V -> V -> Hp -> VK -> Prop} (ha : PE X o ta) (hv : PE X value tv) (hop : zMT X op rd) : PS X (.AugAssign (.Attribute o f tpos) op value pos) (zHF X.K ta tv rd f) := by
 intro pins s σ H D I h
 refine wpAny_AugAssign_AttributeAny (thn (ha pins s σ H _ I h) fun ov s1 ⟨x, H1, I1, rx, q0⟩ => ?_)
 obtain ⟨a, C, dx, fs, v, ex, ea, c, n, l, q⟩ := zFK q0
 subst ex
 obtain rfl : ov = Value.ref a := rx
 refine zBN I1 ea c n l fun u s2 I2 ru => thn (hv pins s2 σ H1 _ I2 q) fun w3 s3 ⟨y, H2, I3, ry, q3⟩ => thn (hop pins s3 σ H2 v y u w3 _ I3 ru ry q3) fun w4 s4 ⟨z, H3, I4, rz, q4⟩ => ?_
 obtain ⟨a', C', dx', fs', ex', ea', c', n', l', q5⟩ := zFr q4
 cases ex'
 exact zBa I4 ea' c' n' l' rz fun s5 I5 => ⟨σ, _, I5, q5⟩
end
section
variable {X : Cx} {CX : CXT} {k : Nat} {f C : Addr} {fd : FuncData} {ps : List Str} {sp : Sp} {dvs : List V} {ds : List Value} {E : XK} {x m : Str} {p pos apos : Pos} {e o : Expr} {es : List Expr} {ta : TE} {t : TA}
theorem Qr {pl : Sem Bool} (he : PE X o ta) (c : Cls X.K C) (hm : Meth X.K C m f) (F : FnOk X.prog X.w X.K X.mg X.base CX k f fd ps sp) (hr : Room k X.A) (hb : Binds X.K fd ps ds) (hd : Vals dvs ds) (hx : Yo CX X E) (ha : PA X (e :: es) t)
  (hst : starEach (e :: es) X.env = (false, eval e X.env) :: starEach es X.env := by rfl) (hpl : (backTo pos (starEach es X.env)).any (·.1) = false := by rfl)
  (ht : eval (.Call (.Attribute o m apos) (e :: es) [] pos) X.env = (do
   let ov ← eval o X.env
   standAt apos.atName
   let (f, first) ← holding [ov] (getMethod ov m pl)
   callWith pos f first (backTo pos (starEach (e :: es) X.env)) (backToKw pos (keywordEach [] X.env))) := by rfl) :
  PE X (.Call (.Attribute o m apos) (e :: es) [] pos) (zCJ C m sp dvs E ta t) := by
 intro pins s σ H Q I h
 refine PySem.W.methodCall_KW (pl := pl) (thn (he pins s σ H _ I h) fun u s1 ⟨x, H1, I1, rx, q0⟩ => ?_) ht
 obtain ⟨a, dx, fs, ex, ea, l, q⟩ := zD2 q0
 subst ex
 obtain rfl : u = Value.ref a := rx
 refine zA5 I1 ea c hm l ?_
 refine PySem.W.callWith_K (first := [.ref a]) (h₀ := X.base) I.ok.mod.kin hm.kp (thn (ha pos pins s1 σ H1 _ I1 q) fun us s2 ⟨vs, H2, I2, r, q2⟩ => ⟨I2.kIn, ?_⟩) hst hpl
 exact zCt (us := .ref a :: us) (vs := .ref a :: vs) F hr hb hd hx I2 (.cons rfl r) q2
theorem Ql {pl : Sem Bool} (he : PE X o ta) (c : Cls X.K C) (hm : Meth X.K C m f) (F : FnOk X.prog X.w X.K X.mg X.base CX k f fd ps sp) (hr : Room k X.A) (hb : Binds X.K fd ps ds) (hd : Vals dvs ds) (hx : Yo CX X E)
  (ht : eval (.Call (.Attribute o m apos) [] [] pos) X.env = (do
   let ov ← eval o X.env
   standAt apos.atName
   let (f, first) ← holding [ov] (getMethod ov m pl)
   callWith pos f first (backTo pos (starEach [] X.env)) (backToKw pos (keywordEach [] X.env))) := by rfl) :
  PE X (.Call (.Attribute o m apos) [] [] pos) (zCJ C m sp dvs E ta zF6) := by
 intro pins s σ H Q I h
 refine PySem.W.methodCall_KW (pl := pl) (thn (he pins s σ H _ I h) fun u s1 ⟨x, H1, I1, rx, q0⟩ => ?_) ht
 obtain ⟨a, dx, fs, ex, ea, l, q⟩ := zD2 q0
 subst ex
 obtain rfl : u = Value.ref a := rx
 refine zA5 I1 ea c hm l ?_
 exact PySem.W.callWith_K0 (first := [.ref a]) I1.kIn hm.kp (zCt (us := [.ref a]) (vs := [.ref a]) F hr hb hd hx I1 (.cons rfl .nil) q)
end
end L2
namespace L2
open PySem PySem.Spec PyProof.Rows
theorem Jn {α : Type} {m : Str} : ∀ {fs : List (Str × α)}, (fs.map (·.1)).contains m = false -> fs.lookup m = none
 | [], _ => rfl
 | (g, x) :: r, h => by
  rw [List.map_cons, List.contains_cons, Bool.or_eq_false_iff] at h
  rw [List.lookup_cons, h.1]
  exact Jn h.2
abbrev shK : List Str := ["cells", "size", "row", "held", "comings", "came", "went", "tidyings", "moved"]
def shF (pc : Addr) (n : Int) (pr ph pm : Addr) (ca we ti mo : Int) : List (Str × V) := [("cells", .ref pc), ("size", .int n), ("row", .ref pr), ("held", .ref ph), ("comings", .ref pm), ("came", .int ca), ("went", .int we), ("tidyings", .int ti), ("moved", .int mo)]
section
variable {pc pr ph pm : Addr} {n ca we ti mo : Int}
theorem zGO : (shF pc n pr ph pm ca we ti mo).lookup ("cells" : Str) = some (.ref pc) := by kernel_rfl
theorem zBr {q : Addr} : Qk "cells" (.ref q) (shF pc n pr ph pm ca we ti mo) = shF q n pr ph pm ca we ti mo := by kernel_rfl
theorem zEB : (shF pc n pr ph pm ca we ti mo).lookup ("size" : Str) = some (.int n) := by kernel_rfl
theorem zCT {q : Int} : Qk "size" (.int q) (shF pc n pr ph pm ca we ti mo) = shF pc q pr ph pm ca we ti mo := by kernel_rfl
theorem zCr : (shF pc n pr ph pm ca we ti mo).lookup ("row" : Str) = some (.ref pr) := by kernel_rfl
theorem zDb {q : Addr} : Qk "row" (.ref q) (shF pc n pr ph pm ca we ti mo) = shF pc n q ph pm ca we ti mo := by kernel_rfl
theorem zA7 : (shF pc n pr ph pm ca we ti mo).lookup ("held" : Str) = some (.ref ph) := by kernel_rfl
theorem zCM {q : Addr} : Qk "held" (.ref q) (shF pc n pr ph pm ca we ti mo) = shF pc n pr q pm ca we ti mo := by kernel_rfl
theorem zAE : (shF pc n pr ph pm ca we ti mo).lookup ("comings" : Str) = some (.ref pm) := by kernel_rfl
theorem zAL {q : Addr} : Qk "comings" (.ref q) (shF pc n pr ph pm ca we ti mo) = shF pc n pr ph q ca we ti mo := by kernel_rfl
theorem zBR : (shF pc n pr ph pm ca we ti mo).lookup ("came" : Str) = some (.int ca) := by kernel_rfl
theorem zCj {q : Int} : Qk "came" (.int q) (shF pc n pr ph pm ca we ti mo) = shF pc n pr ph pm q we ti mo := by kernel_rfl
theorem zDY : (shF pc n pr ph pm ca we ti mo).lookup ("went" : Str) = some (.int we) := by kernel_rfl
theorem JJ {q : Int} : Qk "went" (.int q) (shF pc n pr ph pm ca we ti mo) = shF pc n pr ph pm ca q ti mo := by kernel_rfl
theorem JO : (shF pc n pr ph pm ca we ti mo).lookup ("tidyings" : Str) = some (.int ti) := by kernel_rfl
theorem JZ {q : Int} : Qk "tidyings" (.int q) (shF pc n pr ph pm ca we ti mo) = shF pc n pr ph pm ca we q mo := by kernel_rfl
theorem zB5 : (shF pc n pr ph pm ca we ti mo).lookup ("moved" : Str) = some (.int mo) := by kernel_rfl
theorem zBn {q : Int} : Qk "moved" (.int q) (shF pc n pr ph pm ca we ti mo) = shF pc n pr ph pm ca we ti q := by kernel_rfl
theorem JS : (shF pc n pr ph pm ca we ti mo).length < 1000 := by show 9 < 1000; decide
theorem zEY {m : Str} (h : shK.contains m = false) : (shF pc n pr ph pm ca we ti mo).lookup m = none := Jn h
end
def sh5 (pc : Addr) (n : Int) (pr ph pm : Addr) : List (Str × V) := [("cells", .ref pc), ("size", .int n), ("row", .ref pr), ("held", .ref ph), ("comings", .ref pm)]
def sh6 (pc : Addr) (n : Int) (pr ph pm : Addr) (ca : Int) : List (Str × V) := [("cells", .ref pc), ("size", .int n), ("row", .ref pr), ("held", .ref ph), ("comings", .ref pm), ("came", .int ca)]
def sh7 (pc : Addr) (n : Int) (pr ph pm : Addr) (ca we : Int) : List (Str × V) := [("cells", .ref pc), ("size", .int n), ("row", .ref pr), ("held", .ref ph), ("comings", .ref pm), ("came", .int ca), ("went", .int we)]
def sh8 (pc : Addr) (n : Int) (pr ph pm : Addr) (ca we ti : Int) : List (Str × V) := [("cells", .ref pc), ("size", .int n), ("row", .ref pr), ("held", .ref ph), ("comings", .ref pm), ("came", .int ca), ("went", .int we), ("tidyings", .int ti)]
section
variable {pc pr ph pm : Addr} {n ca we ti mo : Int}
theorem zJc : Qk "came" (.int ca) (sh5 pc n pr ph pm ) = sh6 pc n pr ph pm ca := by kernel_rfl
theorem zJU : (sh5 pc n pr ph pm ).length < 1000 := by show 5 < 1000; decide
theorem zJS : Qk "went" (.int we) (sh6 pc n pr ph pm ca) = sh7 pc n pr ph pm ca we := by kernel_rfl
theorem zJf : (sh6 pc n pr ph pm ca).length < 1000 := by show 6 < 1000; decide
theorem zKS : Qk "tidyings" (.int ti) (sh7 pc n pr ph pm ca we) = sh8 pc n pr ph pm ca we ti := by kernel_rfl
theorem zI6 : (sh7 pc n pr ph pm ca we).length < 1000 := by show 7 < 1000; decide
theorem zJl : Qk "moved" (.int mo) (sh8 pc n pr ph pm ca we ti) = shF pc n pr ph pm ca we ti mo := by kernel_rfl
theorem zJR : (sh8 pc n pr ph pm ca we ti).length < 1000 := by show 8 < 1000; decide
end
structure Sh where
 dx : Addr
 pc : Addr
 pr : Addr
 ph : Addr
 pm : Addr
 n : Nat
 cs : List Int
 os : List (Option Kd)
 hs : List V
 ms : List Int
 ca : Int
 we : Int
 ti : Int
 mo : Int
structure ShAt (C : Addr) (H : Hp) (p : Addr) (S : Sh) : Prop where
 ob : H p = some (.ins C S.dx (shF S.pc S.n S.pr S.ph S.pm S.ca S.we S.ti S.mo))
 hc : H S.pc = some (.lst (S.cs.map V.int))
 hr : ∃ xs, H S.pr = some (.lst xs) /\ IsKos H S.os xs
 hh : H S.ph = some (.lst S.hs)
 hm : H S.pm = some (.lst (S.ms.map V.int))
 ne : S.pc ≠ S.pr /\ S.pc ≠ S.ph /\ S.pc ≠ S.pm /\ S.pr ≠ S.ph /\ S.pr ≠ S.pm /\ S.ph ≠ S.pm
 fm : Fm S.n S.cs S.os
 s8 : S8 (S.n : Int)
 rm : 3 * S.os.length <= 2 * S.n
 l1 : S.hs.length = S.os.length
 l2 : S.ms.length = S.os.length
 dp : ∀ o ∈ S.os, zLy 3 o
 cm : ∀ m ∈ S.ms, m <= S.ca
def But (p : Addr) (S : Sh) (H H' : Hp) : Prop := ∀ b o, H b = some o -> b ≠ p -> b ≠ S.pc -> b ≠ S.pr -> b ≠ S.ph -> b ≠ S.pm -> H' b = some o
section
variable {C p : Addr} {H H' H2 : Hp} {S : Sh}
theorem ShAt.same (A : ShAt C H p S) (g : Same H H') : ShAt C H' p S := by
 obtain ⟨xs, h1, h2⟩ := A.hr
 exact ⟨g _ _ A.ob, g _ _ A.hc, ⟨xs, g _ _ h1, h2.same g.tups⟩, g _ _ A.hh, g _ _ A.hm, A.ne, A.fm, A.s8, A.rm, A.l1, A.l2, A.dp, A.cm⟩
theorem ShAt.tups (A : ShAt C H p S) (b : But p S H H') : TupS H H' := fun c xs e => by
 obtain ⟨ys, h1, _⟩ := A.hr
 refine b c _ e (fun z => ?_) (fun z => ?_) (fun z => ?_) (fun z => ?_) (fun z => ?_)
 ·rw [z, A.ob] at e; cases e
 ·rw [z, A.hc] at e; cases e
 ·rw [z, h1] at e; cases e
 ·rw [z, A.hh] at e; cases e
 ·rw [z, A.hm] at e; cases e
theorem ShAt.lists (A : ShAt C H p S) : p ≠ S.pc /\ p ≠ S.pr /\ p ≠ S.ph /\ p ≠ S.pm := by
 obtain ⟨ys, h1, _⟩ := A.hr
 refine ⟨fun z => ?_, fun z => ?_, fun z => ?_, fun z => ?_⟩
 ·have := A.ob; rw [z, A.hc] at this; cases this
 ·have := A.ob; rw [z, h1] at this; cases this
 ·have := A.ob; rw [z, A.hh] at this; cases this
 ·have := A.ob; rw [z, A.hm] at this; cases this
theorem ShAt.small (A : ShAt C H p S) : S.os.length <= 4096 /\ 8 <= S.n /\ S.n <= 4096 := by
 have := A.s8.range
 have := A.rm
 omega
end
end L2
namespace L2
open PySem PySem.Spec PyProof.Rows
section
variable {K : W.Frag} {H : Hp} {Q : VK}
theorem JF {i : Int} : Q8 K [.int i, .ty "list"] H Q = Q (.bl false) H := Qc (.int i) JH rfl
theorem J2 {i : Bool} : Q8 K [.bl i, .ty "list"] H Q = Q (.bl false) H := Qc (.bl i) zAn rfl
theorem W9 {i : Str} : Q8 K [.str i, .ty "list"] H Q = Q (.bl false) H := Qc (.str i) JI rfl
theorem JM : Q8 K [.non, .ty "list"] H Q = Q (.bl false) H := Qc .non Wz rfl
end
def Plc (os : List (Option Kd)) (k : Kd) (F : Option Nat -> Prop) : Prop := (∀ i : Nat, os[i]? = some (some k) -> F (some i)) /\ ((∀ i : Nat, os[i]? ≠ some (some k)) -> F none)
theorem zK4 (os : List (Option Kd)) (k : Kd) : (∃ i : Nat, os[i]? = some (some k)) \/ ∀ i : Nat, os[i]? ≠ some (some k) := by
 by_cases h : ∃ i : Nat, os[i]? = some (some k)
 ·exact .inl h
 ·exact .inr fun i e => h ⟨i, e⟩
end L2
namespace L2
open PySem PySem.Spec PyProof.Rows
theorem FunD.bindsN {K : W.Frag} {x qual : Str} {st : Stmt} {f : Addr} {fd : FuncData} {ds : List Value} {ps : List Str} (es : List Value) (n : Nat) (hn : n + es.length = ps.length) (F : FunD K x qual st f fd ds)
  (h : ∀ (T : Addr) (kV doc pm : Value) (an : Option Addr) (cdv ct : Value) (us : List Value), us.length = n -> ∃ k : Option (Array Value) -> Sem (List (Str × Value)),
   bindArgs (W.fnOf x qual (Q9 st) (Qy st) (QJ st) (.ref T) kV doc pm an cdv ct) ⟨us, []⟩ = seqItems? (.ref T) >>= k /\ k (some ds.toArray) = pure (ps.zip (us ++ es))) : Binds K fd ps es :=
 F.binds es fun T kV doc pm an cdv ct us hl => h T kV doc pm an cdv ct us (by rw [List.length_append] at hl; omega)
end L2
namespace L2
open PySem PySem.Spec PyProof.Rows
end L2
namespace L2
open PySem PySem.Spec PyProof.Rows
def RowT (B H : Hp) (r : Addr) (ks : List Th) : Prop := ∃ vs, H r = some (.lst vs) /\ IsTs B H ks vs
structure StT (B H0 H : Hp) (R : Addr) (rs : List Addr) (kss : List (List Th)) : Prop where
 hR : H R = some (.lst (rs.map V.ref))
 R0 : H0 R = none
 rs0 : ∀ r ∈ rs, H0 r = none
 nR : R ∉ rs
 nd : rs.Nodup
 rows : Paired (RowT B H) rs kss
 same : Same H0 H
section
variable {B H0 H H' : Hp} {R r : Addr} {rs : List Addr} {kss : List (List Th)} {ks : List Th} {k : Th} {v : V} {vs : List V}
theorem RowT.ts (h : RowT B H r ks) (e : ∀ vs, H r = some (.lst vs) -> H' r = some (.lst vs)) (t : TupS H H') : RowT B H' r ks := by
 obtain ⟨vs, h1, h2⟩ := h
 exact ⟨vs, e vs h1, h2.same t⟩
end
structure ShT (tss : List (List Th)) : Prop where
 lo : 1 <= tss.length
 hi : tss.length <= 3
 len : ∀ (j : Nat) ks, tss[j]? = some ks -> ks.length <= 6
 room : ∀ (j : Nat) ks, tss[j]? = some ks -> j + 1 < tss.length -> ks.length <= 5
end L2
namespace L2
open PySem PySem.Spec PyProof.Rows
theorem zJM {K : W.Frag} {D C : Addr} {b : Bool} (ty : PySem.W.typeIn K (.ref C) = some (.type "type")) (mo : W.mroIn K C (.type "object") = some true) (su : W.mroIn K D (.ref C) = some b) (sd : W.mroIn K D (.ref D) = some true) :
  W.kitOne K (.ref D) (.ref C) = some b := by
 unfold W.kitOne
 by_cases e : D = C
 ·subst e
  rw [su] at sd
  rw [if_pos (beq_self_eq_true _), sd]
 ·rw [if_neg (fun z => e (Value.ref.inj (beq_iff_eq.mp z)))]
  unfold PySem.W.kitCls
  obtain ⟨cd, hc, _⟩ := Option.bind_eq_some_iff.mp mo
  dsimp only
  rw [hc, ty, if_pos (by rw [Option.isSome_some, Bool.true_and]; exact beq_self_eq_true _)]
  exact su
theorem zLn {K : W.Frag} {D : Addr} {T : String} {b : Bool} (hm : PySem.W.kitMeta T = true) (su : W.mroIn K D (.type T) = some b) : W.kitOne K (.ref D) (.type T) = some b := by
 unfold W.kitOne PySem.W.kitCls
 rw [if_neg (show ¬ (Value.ref D == Value.type T) = true from fun z => by cases (beq_iff_eq.mp z))]
 dsimp only
 rw [if_pos hm]
 exact su
end L2
namespace L2
open PySem PySem.Spec PyProof.Rows
section
variable {P : Program} {w : World} {K : W.Frag} {mg : Str -> Option Value} {base : Heap} {N : List Str} {qual : Str} {scope : Scope} {f : Addr} {cd : Value} {A : Around} {outer : List Env} {s₀ : Shared} {H₀ : Hp} {E E' : XK}
def zCp (C : Addr) (E : XK) (t : TA) : TS := fun _ σ H => t σ H fun vs H1 => vs.length <= sizeLine /\ ∀ ea, H1 ea = none -> E (.ref C) (some ea) H1
theorem zB4 {x : Str} {C : Addr} {bm : List Value} {e : Expr} {es : List Expr} {t : TA} {np cpos pos : Pos} (hh : A.handled = none) (hg : Gl (cxE P w K mg base N qual scope f cd A outer s₀ H₀ E) x) (hm : mg x = some (.ref C)) (c : XC K C bm)
  (ha : PA (cxE P w K mg base N qual scope f cd A outer s₀ H₀ E) (e :: es) t) (hdb : (x == ("__debug__" : Str)) = false := by decide)
  (he : starEach (e :: es) (cxE P w K mg base N qual scope f cd A outer s₀ H₀ E).env = (false, eval e (cxE P w K mg base N qual scope f cd A outer s₀ H₀ E).env) :: starEach es (cxE P w K mg base N qual scope f cd A outer s₀ H₀ E).env := by rfl)
  (hpl : (backTo cpos (starEach es (cxE P w K mg base N qual scope f cd A outer s₀ H₀ E).env)).any (·.1) = false := by rfl) :
  PS (cxE P w K mg base N qual scope f cd A outer s₀ H₀ E) (.Raise (some (.Call (.Name x np) (e :: es) [] cpos)) none pos) (zCp C E t) := by
 intro pins s σ H D I h
 obtain ⟨N', nm, q, bs, hdct, sn, sub, ab, col, dd, k0, k1, k2, k3, k5, mN, hC, hN, hni, TL⟩ := c.at I.mod.kin
 refine wpAny_Raise_call_subT (C := C) (nm := nm) (q := q) (N := N') (bs := bs) (bm := bm) (hdct := hdct) (sn := sn) (sub := sub) (ab := ab) (col := col) (dd := dd) (k0 := k0) (k1 := k1) (k2 := k2) (k3 := k3) (k5 := k5)
  F.excBase_ValueError (mN := mN) (TL.hasType rfl) hh (by rw [he]; exact (Bool.false_or _).trans hpl) hni (WE I hg hm ⟨rfl, ?_⟩ hdb)
 have z := ha cpos pins s σ H _ I h
 rw [he] at z ⊢
 refine Calls.evalArgs_plain (thn z fun us s2 ⟨vs, H1, I2, r, hz, q⟩ => ⟨rfl, by rw [← r.length]; exact hz, I2.bk _ _ hC, hN.keeps I2.bk, TL.keeps I2.bk, fun h' ea mx => ?_⟩)
 show wpAny _ _ (leaving _ (.ref ea)) _ _ _
 have hl := I2.stack
 refine zEj (s := { s2 with heap := h' }) (h₀ := s2.heap) (B := W.hideAll s2.heap (frs (cxE P w K mg base N qual scope f cd A outer s₀ H₀ E).stack)) I2.ok.frames rfl (fun b o e => PySem.W.of_hideAll _ e)
  (PySem.W.funFrames_hide hl fun env he b hb => List.mem_filterMap.mpr ⟨env, he, hb⟩) mx fun h2 y u => ?_
 have tb : ToB (frs (cxE P w K mg base N qual scope f cd A outer s₀ H₀ E).stack) H1 H1 s2.heap (W.hideAll s2.heap (frs (cxE P w K mg base N qual scope f cd A outer s₀ H₀ E).stack)) :=
  ⟨fun b o e _ hb => PySem.W.hideAll_get _ e hb, fun _ _ _ n => n, fun b o e hb => ⟨o, PySem.W.hideAll_get _ e hb⟩, fun _ _ e => e, fun _ _ _ e => e, fun _ _ e => ⟨#[], by rw [e]; simp⟩⟩
 have hok : HOk P w H1 (W.hideAll s2.heap (frs (cxE P w K mg base N qual scope f cd A outer s₀ H₀ E).stack)) := by
  intro b u e
  refine (I2.hok b u e).stay (fun b' u' hb' e' => PySem.W.hideAll_get _ e' fun hm => ?_) (fun _ z => z) fun _ _ z => z
  have hn := I2.stkFree b' hm
  rcases hb' with rfl | hb'
  ·rw [hn] at e; cases e
  ·rw [hn] at hb'; cases hb'
 have hn : H1 ea = none := by
  cases z : H1 ea with
  | none => rfl
  | some o =>
   obtain ⟨ob, e⟩ := (hok ea o z).got
   rw [y.new] at e
   cases e
 refine ⟨ea, .ref C, _, H1, rfl, I2.os, I2.bare, y, hok, tb.out I2 zAQ, zB7 I2 zAQ fun b o e hb => ?_, q ea hn⟩
 have hb' : b ∈ frs (cxE P w K mg base N qual scope f cd A outer s₀ H₀ E).stack := by
  obtain ⟨env, h1, h2⟩ := List.mem_filterMap.mp hb
  exact List.mem_filterMap.mpr ⟨env, List.mem_cons_of_mem _ h1, h2⟩
 exact u b o (mx.keeps b o e) (zFd hl hb' e)
end
def zMK (K : W.Frag) (C : Addr) (tb : (St -> Hp -> XK) -> TS) (ts : Addr -> TS) : TS := fun D σ H => tb (fun σ' _ cls a H' => ∃ ea Dc bm, a = some ea /\ cls = .ref Dc /\ XC K Dc bm /\ (Value.ref Dc :: bm).contains (.ref C) = true /\
 ts ea D σ' (upd H' ea (ExO ea (.ref Dc)))) D σ H
end L2
namespace L2
open PySem PySem.Spec PyProof.Rows
def zIV (C : Addr) (m : Str) (sp : Sp) (dvs : List V) (RX : St -> Hp -> XK) (ta : TE) (t : TA) : TE := fun σ H Q => ta σ H fun x H1 => Wp C m x H1 fun H1 => t σ H1 fun vs H2 => sp (x :: (vs ++ dvs)) H2 Q (RX σ H2)
end L2
namespace L2
open PySem PySem.Spec PyProof.Rows
end L2
namespace L2
open PySem PySem.Spec PyProof.Rows
def zKh (K : W.Frag) (C C' : Addr) (tb : (St -> Hp -> XK) -> TS) (ts ts' : Addr -> TS) : TS := fun D σ H => tb (fun σ' _ cls a H' => ∃ ea Dc bm, a = some ea /\ cls = .ref Dc /\ XC K Dc bm /\
 (((Value.ref Dc :: bm).contains (.ref C) = true /\ ts ea D σ' (upd H' ea (ExO ea (.ref Dc)))) \/ ((Value.ref Dc :: bm).contains (.ref C) = false /\ (Value.ref Dc :: bm).contains (.ref C') = true /\ ts' ea D σ' (upd H' ea (ExO ea (.ref Dc)))))) D σ H
section
variable {X : Cx}
def zMY : R2 := fun x y H Q => ∃ b c, x = .bl b /\ y = .bl c /\ Q (.bl (b == c)) H
theorem zFi {b c : Bool} {H : Hp} {Q : VK} : zMY (.bl b) (.bl c) H Q = Q (.bl (b == c)) H := propext ⟨fun ⟨b', c', e1, e2, h⟩ => by cases e1; cases e2; exact h, fun h => ⟨b, c, rfl, rfl, h⟩⟩
theorem zIL : (true == true) = true := rfl
theorem zHa : (false == true) = false := rfl
theorem zIp : (true == false) = false := rfl
theorem zIi : (false == false) = true := rfl
end
end L2
namespace L2
open PySem PySem.Spec PyProof.Rows
inductive Dv where
 | val (v : V)
 | pair (k : Kd) (v : V)
 | cnt (l : List Int)
end L2
namespace L2
open PySem PySem.Spec PyProof.Rows
section
variable {α : Type}
def Q1 : List (Option Kd) -> List α -> List (Kd × α)
 | some k :: os, v :: hs => (k, v) :: Q1 os hs
 | none :: os, _ :: hs => Q1 os hs
 | _, _ => []
theorem Jj {k : Kd} {y : α} : ∀ {os : List (Option Kd)} {hs : List α}, hs.length = os.length -> Q1 (os ++ [some k]) (hs ++ [y]) = Q1 os hs ++ [(k, y)]
 | [], [], _ => rfl
 | some k' :: os, v :: hs, h => by
  show (k', v) :: Q1 (os ++ [some k]) (hs ++ [y]) = _
  rw [Jj (by simpa using h)]; rfl
 | none :: os, v :: hs, h => by
  show Q1 (os ++ [some k]) (hs ++ [y]) = _
  rw [Jj (by simpa using h)]; rfl
theorem zAX {k : Kd} {v : α} : ∀ {os : List (Option Kd)} {hs : List α} {j : Nat}, (Q1 os hs)[j]? = some (k, v) -> ∃ i : Nat, os[i]? = some (some k) /\ hs[i]? = some v
 | some k' :: os, w :: hs, 0, h => by
  have h' : some (k', w) = some (k, v) := h
  cases h'
  exact ⟨0, rfl, rfl⟩
 | some k' :: os, w :: hs, j + 1, h => by
  have h' : (Q1 os hs)[j]? = some (k, v) := h
  obtain ⟨i, h1, h2⟩ := zAX h'
  exact ⟨i + 1, by simpa using h1, by simpa using h2⟩
 | none :: os, w :: hs, j, h => by
  have h' : (Q1 os hs)[j]? = some (k, v) := h
  obtain ⟨i, h1, h2⟩ := zAX h'
  exact ⟨i + 1, by simpa using h1, by simpa using h2⟩
 | [], hs, j, h => by cases hs <;> simp [Q1] at h
 | some _ :: _, [], j, h => by simp [Q1] at h
 | none :: _, [], j, h => by simp [Q1] at h
theorem zCb {k : Kd} {z0 : α} : ∀ {os : List (Option Kd)} {hs : List α} {i : Nat}, os[i]? = some (some k) -> hs.length = os.length ->
  ∃ (j : Nat) (v : α), hs[i]? = some v /\ (Q1 os hs)[j]? = some (k, v) /\ (∀ y, Q1 os (hs.set i y) = (Q1 os hs).set j (k, y)) /\ Q1 (os.set i none) (hs.set i z0) = (Q1 os hs).eraseIdx j /\
   ((∀ a : Nat, i < a -> ∀ k', os[a]? ≠ some (some k')) -> j + 1 = (Q1 os hs).length)
 | some k' :: os, w :: hs, 0, h, hl => by
  have h' : some (some k') = some (some k) := h
  cases h'
  refine ⟨0, w, rfl, rfl, fun y => rfl, rfl, fun hn => ?_⟩
  have : Q1 os hs = [] := by
   cases e : Q1 os hs with
   | nil => rfl
   | cons p r =>
    obtain ⟨a, ha, _⟩ := zAX (os := os) (hs := hs) (j := 0) (k := p.1) (v := p.2) (by rw [e]; rfl)
    exact absurd (by simpa using ha) (hn (a + 1) (by omega) p.1)
  show 0 + 1 = (Q1 os hs).length + 1
  rw [this]; rfl
 | some k' :: os, w :: hs, i + 1, h, hl => by
  obtain ⟨j, v, h1, h2, h3, h4, h5⟩ := zCb (os := os) (hs := hs) (i := i) (by simpa using h) (by simpa using hl)
  refine ⟨j + 1, v, by simpa using h1, h2, fun y => ?_, ?_, fun hn => ?_⟩
  ·show (k', w) :: Q1 os (hs.set i y) = (k', w) :: (Q1 os hs).set j (k, y)
   rw [h3]
  ·show (k', w) :: Q1 (os.set i none) (hs.set i z0) = (k', w) :: (Q1 os hs).eraseIdx j
   rw [h4]
  ·show j + 1 + 1 = (Q1 os hs).length + 1
   rw [h5 fun a ha k2 e => hn (a + 1) (by omega) k2 (by simpa using e)]
 | none :: os, w :: hs, 0, h, hl => by
  have h' : some (none : Option Kd) = some (some k) := h
  cases h'
 | none :: os, w :: hs, i + 1, h, hl => by
  obtain ⟨j, v, h1, h2, h3, h4, h5⟩ := zCb (os := os) (hs := hs) (i := i) (by simpa using h) (by simpa using hl)
  refine ⟨j, v, by simpa using h1, h2, fun y => ?_, ?_, fun hn => ?_⟩
  ·show Q1 os (hs.set i y) = (Q1 os hs).set j (k, y)
   rw [h3]
  ·show Q1 (os.set i none) (hs.set i z0) = (Q1 os hs).eraseIdx j
   rw [h4]
  ·show j + 1 = (Q1 os hs).length
   rw [h5 fun a ha k2 e => hn (a + 1) (by omega) k2 (by simpa using e)]
 | [], hs, i, h, hl => by simp at h
 | some _ :: _, [], i, h, hl => by simp at hl
 | none :: _, [], i, h, hl => by simp at hl
theorem zCQ : ∀ {os : List (Option Kd)} {hs : List α}, (Q1 os hs).length <= os.length
 | some k :: os, v :: hs => by
  show (Q1 os hs).length + 1 <= os.length + 1
  have := zCQ (os := os) (hs := hs)
  omega
 | none :: os, v :: hs => by
  show (Q1 os hs).length <= os.length + 1
  have := zCQ (os := os) (hs := hs)
  omega
 | [], hs => by cases hs <;> exact Nat.zero_le _
 | some _ :: _, [] => Nat.zero_le _
 | none :: _, [] => Nat.zero_le _
end
abbrev Tr := Kd × Int × V
def Yt (os : List (Option Kd)) (ms : List Int) (hs : List V) : List Tr := Q1 os (ms.zip hs)
theorem zCz {y : V} : ∀ {i : Nat} {ms : List Int} {hs : List V} {m : Int}, ms[i]? = some m -> ms.zip (hs.set i y) = (ms.zip hs).set i (m, y)
 | 0, m' :: ms, v :: hs, m, h => by cases h; rfl
 | i + 1, m' :: ms, v :: hs, m, h => by
  show (m', v) :: ms.zip (hs.set i y) = (m', v) :: (ms.zip hs).set i (m, y)
  rw [zCz (i := i) (by simpa using h)]
 | _, [], hs, _, h => by simp at h
 | 0, m' :: ms, [], _, _ => rfl
 | _ + 1, m' :: ms, [], _, _ => rfl
theorem zB1 {os : List (Option Kd)} {ms : List Int} {hs : List V} {k : Kd} {m : Int} {y : V} (h1 : hs.length = os.length) (h2 : ms.length = os.length) : Yt (os ++ [some k]) (ms ++ [m]) (hs ++ [y]) = Yt os ms hs ++ [(k, m, y)] := by
 unfold Yt
 rw [List.zip_append (by omega)]
 exact Jj (by rw [List.length_zip]; omega)
theorem zFo {os : List (Option Kd)} {ms : List Int} {hs : List V} {j : Nat} {k : Kd} {m : Int} {v : V} (h : (Yt os ms hs)[j]? = some (k, m, v)) : ∃ i : Nat, os[i]? = some (some k) /\ ms[i]? = some m /\ hs[i]? = some v := by
 obtain ⟨i, h1, h2⟩ := zAX h
 rw [List.getElem?_zip_eq_some] at h2
 exact ⟨i, h1, h2.1, h2.2⟩
theorem zKU {os : List (Option Kd)} {ms : List Int} {hs : List V} {i : Nat} {k : Kd} (h : os[i]? = some (some k)) (h1 : hs.length = os.length) (h2 : ms.length = os.length) :
  ∃ (j : Nat) (m : Int) (v : V), ms[i]? = some m /\ hs[i]? = some v /\ (Yt os ms hs)[j]? = some (k, m, v) /\ (∀ y, Yt os ms (hs.set i y) = (Yt os ms hs).set j (k, m, y)) /\ Yt (os.set i none) ms (hs.set i V.non) = (Yt os ms hs).eraseIdx j /\
   ((∀ a : Nat, i < a -> ∀ k', os[a]? ≠ some (some k')) -> j + 1 = (Yt os ms hs).length) := by
 have hi := (List.getElem?_eq_some_iff.mp h).1
 have hm : ms[i]? = some ms[i] := List.getElem?_eq_getElem (by omega)
 obtain ⟨j, ⟨m, v⟩, e1, e2, e3, e4, e5⟩ := zCb (hs := ms.zip hs) (z0 := (ms[i], V.non)) h (by rw [List.length_zip]; omega)
 rw [List.getElem?_zip_eq_some] at e1
 refine ⟨j, m, v, e1.1, e1.2, e2, fun y => ?_, ?_, e5⟩
 ·unfold Yt
  rw [zCz (i := i) e1.1]
  exact e3 _
 ·unfold Yt
  rw [zCz (i := i) hm]
  exact e4
theorem zBc {H : Hp} {N : V -> Bool} (hN : ∀ o x, IsKo H o x -> N x = o.isSome) : ∀ {os : List (Option Kd)} {xs hs : List V} {ms : List Int}, (∀ (i : Nat) o x, os[i]? = some o -> xs[i]? = some x -> IsKo H o x) -> xs.length = os.length -> hs.length = os.length -> ms.length = os.length ->
  Paired (fun (e : Int × V × V) (p : Tr) => IsK H p.1 e.2.1 /\ e.1 = p.2.1 /\ e.2.2 = p.2.2) ((ms.zip (xs.zip hs)).filter fun e => N e.2.1) (Yt os ms hs)
 | o :: os, x :: xs, v :: hs, m :: ms, h, h1, h2, h3 => by
  have ih := zBc hN (os := os) (xs := xs) (hs := hs) (ms := ms) (fun i o x e1 e2 => h (i + 1) o x (by simpa using e1) (by simpa using e2)) (by simpa using h1) (by simpa using h2) (by simpa using h3)
  have h0 := h 0 o x rfl rfl
  have n0 := hN o x h0
  show Paired _ (((m, x, v) :: (ms.zip (xs.zip hs))).filter fun e => N e.2.1) _
  cases o with
  | none =>
   rw [List.filter_cons_of_neg (by show ¬ N x = true; rw [n0]; decide)]
   exact ih
  | some k =>
   rw [List.filter_cons_of_pos (by show N x = true; rw [n0]; rfl)]
   exact .cons ⟨h0, rfl, rfl⟩ ih
 | [], [], [], [], _, _, _, _ => .nil
def Ris (es : List Tr) : Prop := es.Pairwise fun a b => a.2.1 < b.2.1
theorem zDs {es : List Tr} {e : Tr} (h : Ris es) (h2 : ∀ x ∈ es, x.2.1 < e.2.1) : Ris (es ++ [e]) := by
 unfold Ris
 rw [List.pairwise_append]
 exact ⟨h, List.pairwise_singleton _ _, fun a ha b hb => by rw [List.mem_singleton.mp hb]; exact h2 a ha⟩
theorem zGJ {es : List Tr} {j : Nat} (h : Ris es) : Ris (es.eraseIdx j) := h.sublist (List.eraseIdx_sublist ..)
theorem zFP {k : Kd} {m : Int} {v y : V} : ∀ {es : List Tr} {j : Nat}, Ris es -> es[j]? = some (k, m, v) -> Ris (es.set j (k, m, y))
 | e :: es, 0, h, e0 => by
  cases e0
  have h' := List.pairwise_cons.mp h
  exact List.pairwise_cons.mpr ⟨fun b hb => h'.1 b hb, h'.2⟩
 | e :: es, j + 1, h, e0 => by
  have h' := List.pairwise_cons.mp h
  have e1 : es[j]? = some (k, m, v) := by simpa using e0
  refine List.pairwise_cons.mpr ⟨fun b hb => ?_, zFP h'.2 e1⟩
  rcases List.mem_or_eq_of_mem_set hb with z | z
  ·exact h'.1 b z
  ·rw [z]; have q := h'.1 _ (List.mem_of_getElem? e1); exact q
 | [], _, _, e0 => by simp at e0
theorem zKO {es : List Tr} (h : Ris es) {i j : Nat} {a b : Tr} (ha : es[i]? = some a) (hb : es[j]? = some b) (hij : i < j) : a.2.1 < b.2.1 := by
 have h1 := (List.getElem?_eq_some_iff.mp ha)
 have h2 := (List.getElem?_eq_some_iff.mp hb)
 have := List.pairwise_iff_getElem.mp h i j h1.1 h2.1 hij
 rw [h1.2, h2.2] at this
 exact this
end L2
namespace PySem
namespace F
theorem zBv : Slot "reversed" "__init__" "object.__init__" :=
 .of (owner := "object") (n := "__init__") (by rw [typeLookup_type, builtinLookup_eq_fast]; kernel_rfl) (by decide +kernel) (by decide +kernel) (by decide +kernel)
  (by first | exact .inl (by decide +kernel) | exact .inr (by decide +kernel)) (by rw [isSubtype_type]; kernel_rfl)
theorem called_rvd : TypeCalled "reversed" "reversed.__new__" "object.__init__" :=
 ⟨by decide +kernel, by decide +kernel, ⟨_, _, mro_reversed⟩, made_reversed, by decide +kernel, by rw [isSubtype_type]; kernel_rfl, zBv⟩
end F
end PySem
namespace PySem
end PySem
namespace L2
open PySem PySem.Spec PyProof.Rows
end L2
namespace PySem
namespace F
theorem zB3 : Manifest.owners.lookup (String.ofList ['r', 'o', 't', 'a', 'r', 'e', 't', 'i', 'e', 's', 'r', 'e', 'v', 'e', 'r', '_', 't', 's', 'i', 'l'].reverse) = some Manifest.sig_list_reverseiterator := by kernel_rfl
theorem slot_lrv_next : Slot "list_reverseiterator" "__next__" "list_reverseiterator.__next__" :=
 .of (owner := "list_reverseiterator") (n := "__next__") (by rw [typeLookup_type, builtinLookup_eq_fast]; kernel_rfl) (by decide +kernel) (by decide +kernel) (by decide +kernel)
  (by first | exact .inl (by decide +kernel) | exact .inr (by decide +kernel)) (by rw [isSubtype_type]; kernel_rfl)
theorem entry_lrv_next : entryFor table "list_reverseiterator.__next__" = some Builtin.«list_reverseiterator.__next__» := entryFor_of_tree (by kernel_rfl)
theorem args_lrv_next_1 (a : Value) : argsOk "list_reverseiterator.__next__" ⟨[a], []⟩ := by
 unfold argsOk; rw [signature?_of (id := "list_reverseiterator.__next__") (n := ['_', '_', 't', 'x', 'e', 'n', '_', '_']) (o := ['r', 'o', 't', 'a', 'r', 'e', 't', 'i', 'e', 's', 'r', 'e', 'v', 'e', 'r', '_', 't', 's', 'i', 'l']) (by kernel_rfl) zB3]; kernel_rfl
theorem slot_lrv_iter : Slot "list_reverseiterator" "__iter__" "list_reverseiterator.__iter__" :=
 .of (owner := "list_reverseiterator") (n := "__iter__") (by rw [typeLookup_type, builtinLookup_eq_fast]; kernel_rfl) (by decide +kernel) (by decide +kernel) (by decide +kernel)
  (by first | exact .inl (by decide +kernel) | exact .inr (by decide +kernel)) (by rw [isSubtype_type]; kernel_rfl)
theorem args_lrv_iter_1 (a : Value) : argsOk "list_reverseiterator.__iter__" ⟨[a], []⟩ := by
 unfold argsOk; rw [signature?_of (id := "list_reverseiterator.__iter__") (n := ['_', '_', 'r', 'e', 't', 'i', '_', '_']) (o := ['r', 'o', 't', 'a', 'r', 'e', 't', 'i', 'e', 's', 'r', 'e', 'v', 'e', 'r', '_', 't', 's', 'i', 'l']) (by kernel_rfl) zB3]; kernel_rfl
theorem entry_lrv_iter : entryFor table "list_reverseiterator.__iter__" = some Builtin.«dict_keyiterator.__iter__» :=
 entryFor_alias (id' := "dict_keyiterator.__iter__") (by kernel_rfl) (by first | rfl | decide +kernel | (unfold String.splitOn; simp +decide [String.splitOnAux])) (by decide +kernel) (by kernel_rfl)
theorem slot_lrv_hint : Slot "list_reverseiterator" "__length_hint__" "list_reverseiterator.__length_hint__" :=
 .of (owner := "list_reverseiterator") (n := "__length_hint__") (by rw [typeLookup_type, builtinLookup_eq_fast]; kernel_rfl) (by decide +kernel) (by decide +kernel) (by decide +kernel)
  (by first | exact .inl (by decide +kernel) | exact .inr (by decide +kernel)) (by rw [isSubtype_type]; kernel_rfl)
theorem lrv_no_len : typeLookup (.type "list_reverseiterator") "__len__" = pure none := by rw [typeLookup_type, builtinLookup_eq_fast]; kernel_rfl
theorem sub_lrv_rvd : isSubtype (.type "list_reverseiterator") (.type "reversed") = pure false := by rw [isSubtype_type]; kernel_rfl
end F
def Q3 (l : Addr) (i : Int) : Obj := { cls := .type "list_reverseiterator", data := .fields #[.ref l, rawInt i] }
theorem WH (l : Addr) (items : Array Value) (n : Nat) :
  Meets (Builtin.«reversed.__new__» ⟨[.type "reversed", .ref l], []⟩) (fun _ R s => s.heap.get? l = some { cls := .type "list", dict := none, data := .seq items n, slots := #[] } /\
   R (.ok (.ret (.ref s.heap.objs.size))) { s with heap := s.heap.push (Q3 l ((items.size : Int) - 1)) }) :=
 .of_wp fun prog w A R s h => by
  obtain ⟨hl, h⟩ := h
  have hT : s.TypeIs (.ref l) "list" := ⟨_, hl, rfl⟩
  unfold Builtin.«reversed.__new__»
  refine wpAny_bind (wpAny_of_eq (newClass_reversed _) ?_)
  try dsimp only
  refine wpAny_bind (wpAny_of_eq (a := ()) (by first | rfl | kernel_rfl) ?_)
  refine wpAny_bind (wpAny_of_eq (a := ()) (by first | rfl | kernel_rfl) ?_)
  try dsimp only
  refine wpAny_bind (wpAny_specialOf hT F.slot_list_reversed.lookup ?_)
  try dsimp only
  refine wpAny_bind (wpAny_of_eq (F.slot_list_reversed.bind _) ?_)
  try dsimp only
  rw [if_neg (show ¬ ((Value.builtin "list.__reversed__" == Value.none) = true) from Bool.false_ne_true)]
  refine wpAny_bind (wpAny_rule ?_)
  refine wpAny_bind ?_
  show wpAny _ _ (call (.builtin "list.__reversed__") [.ref l]) _ _ _
  refine call_meets F.slot_list_reversed hT F.entry_list_reversed (F.args_list_reversed_1 _) (AutoListH.list___reversed___list_0 l items n) ⟨hl, ?_⟩
  exact wpAny_pure ⟨_, rfl, h⟩
section
variable {prog : Program} {w : World} {A : Around} {E : Value -> Shared -> Prop} {s : Shared}
theorem zBu {l : Addr} {items : Array Value} {n : Nat} {Q : Value -> Shared -> Prop} (hl : s.heap.get? l = some { cls := .type "list", dict := none, data := .seq items n, slots := #[] })
  (h : Q (.ref s.heap.objs.size) { s with heap := s.heap.push (Q3 l ((items.size : Int) - 1)) }) :
  wpAny (model prog w) A (call (.type "reversed") [.ref l]) Q E s := by
 have ft := F.called_rvd
 obtain ⟨c, tl, hmro⟩ := ft.mro
 have hmade := ft.made
 have hsub := F.sub_lrv_rvd
 have hct := F.typeCall_reversed_1 (.ref l)
 refine wpAny_call (codeAny_of_tree ?_)
 show wpAny _ _ (callAny (.type "reversed") _) _ _ _
 refine wpAny_pure ⟨Code.quiet_builtin _ (by decide +kernel), codeAny_builtin F.entry_type_call ?_⟩
 rw [Around.under_plain (weight_type_call_type "reversed" [.ref l] []) rfl]
 have h1 := ft.notType
 have h2 := ft.canCreate
 repeat (any_goals (first | assumption | wp_step))
 have hn : codeAny (model prog w) A.in1 (.call (.builtin "reversed.__new__") ⟨[.type "reversed", .ref l], []⟩) (fun r s1 => r = .ok (.ret (.ref s.heap.objs.size)) /\ s1 = { s with heap := s.heap.push (Q3 l ((items.size : Int) - 1)) }) s :=
  codeAny_call_builtin ft.plain F.entry_reversed_new (wpAny_of_eq (F.newCall_reversed_1 _) (WH l items n prog w A.in1 (fun r s1 => r = .ok (.ret (.ref s.heap.objs.size)) /\ s1 = { s with heap := s.heap.push (Q3 l ((items.size : Int) - 1)) }) s ⟨hl, rfl, rfl⟩))
 refine codeAny_mono hn fun r s₁ hr => ?_
 obtain ⟨rfl, rfl⟩ := hr
 have hT : Shared.TypeIs { s with heap := s.heap.push (Q3 l ((items.size : Int) - 1)) } (.ref s.heap.objs.size) "list_reverseiterator" := ⟨_, Heap.get?_push_size _ rfl, rfl⟩
 repeat (any_goals (first | assumption | wp_step))
theorem zBx {it l : Addr} {items : Array Value} {i : Nat} {x : Value} {Q : Option Value -> Shared -> Prop} (ho : s.heap.get? it = some (Q3 l (i : Int))) (hl : s.heap.IsList l items) (hx : items[i]? = some x)
  (hQ : ∀ h', h'.get? it = some (Q3 l ((i : Int) - 1)) -> Heap.SameBut it s.heap h' -> Q (some x) { s with heap := h' }) : wpAny (model prog w) A (pyNext (.ref it)) Q E s := by
 obtain ⟨ol, hol, _, nl, hdl⟩ := hl
 have hT : s.TypeIs (.ref it) "list_reverseiterator" := ⟨_, ho, rfl⟩
 unfold pyNext
 refine wpAny_bind (wpAny_attempt (wpAny_callSpecial?_slot (name := Str.ofString "__next__") hT F.slot_lrv_next
  (wpAny_call_entry F.slot_lrv_next hT F.entry_lrv_next ?_ (F.args_lrv_next_1 _))))
 unfold Builtin.«list_reverseiterator.__next__»
 refine wpAny_bind (wpAny_of_eq (a := (Value.ref it, [])) rfl ?_)
 try dsimp only
 refine wpAny_bind (wpAny_field ho rfl (x := rawInt (i : Int)) rfl ?_)
 show wpAny _ _ (if (i : Int) < 0 then _ else _) _ _ s
 rw [if_neg (by omega)]
 refine wpAny_bind (wpAny_field ho rfl (x := .ref l) rfl ?_)
 refine wpAny_bind (wpAny_seqItems hol hdl ?_)
 simp only [Int.toNat_natCast, hx]
 refine wpAny_bind (wpAny_setField ho rfl (by simp) (wpAny_pure ⟨x, rfl, wpAny_pure (hQ _ ?_ (Heap.SameBut.update ..))⟩))
 rw [Heap.get?_update_self _ ho (Obj.isFreed_of_fields (Obj.data_mapFields rfl _))]
 rfl
theorem zCL {it l : Addr} {Q : Option Value -> Shared -> Prop} (hh : A.handled = none) (ho : s.heap.get? it = some (Q3 l (-1)))
  (hQ : ∀ h', Heap.ExtBut it s.heap h' -> Q none { s with heap := h' }) : wpAny (model prog w) A (pyNext (.ref it)) Q E s := by
 have hT : s.TypeIs (.ref it) "list_reverseiterator" := ⟨_, ho, rfl⟩
 unfold pyNext
 refine wpAny_bind (wpAny_attempt (wpAny_callSpecial?_slot (name := Str.ofString "__next__") hT F.slot_lrv_next
  (wpAny_call_entry F.slot_lrv_next hT F.entry_lrv_next ?_ (F.args_lrv_next_1 _))))
 unfold Builtin.«list_reverseiterator.__next__»
 refine wpAny_bind (wpAny_of_eq (a := (Value.ref it, [])) rfl ?_)
 try dsimp only
 refine wpAny_bind (wpAny_field ho rfl (x := rawInt (-1)) rfl ?_)
 show wpAny _ _ (if (-1 : Int) < 0 then _ else _) _ _ s
 rw [if_pos (by decide)]
 refine wpAny_bind (wpAny_rule ?_)
 refine wpAny_bind ?_
 show wpAny _ _ (newExc (.type "StopIteration") [] >>= fun e => raiseNew e) _ _ _
 refine wpAny_bind ?_
 simp only [newExc, newTuple]
 refine wpAny_bind (wpAny_newObj_type ?_ (by size_fits))
 refine wpAny_bind (m := firstArgMember _ _) (wpAny_of_eq (a := Value.none) (by first | rfl | (simp only [firstArgMember]; rfl)) ?_)
 refine wpAny_newObj_type ?_ (by size_fits)
 simp only [raiseNew]
 refine wpAny_bind (wpAny_handled ?_)
 first | rw [show A.in1.handled = none from hh] | rw [hh]
 refine wpAny_bind (wpAny_pure (wpAny_throw ?_))
 refine wpAny_bind (wpAny_isInstance (T := "StopIteration") (b := true) ⟨_, Heap.get?_push_size _ rfl, rfl⟩ isSubtype_stop ?_)
 exact wpAny_pure (hQ _ (fun b o hb e => Heap.get?_push_of_some _ (Heap.get?_push_of_some _ e)))
theorem zIg {it l : Addr} {i : Int} {Q : Value -> Shared -> Prop} (ho : s.heap.get? it = some (Q3 l i)) (h : Q (.ref it) s) : wpAny (model prog w) A (pyIter (.ref it)) Q E s := by
 have hT : s.TypeIs (.ref it) "list_reverseiterator" := ⟨_, ho, rfl⟩
 refine wpAny_pyIter_slot hT F.slot_lrv_iter (wpAny_call_entry F.slot_lrv_iter hT F.entry_lrv_iter ?_ (F.args_lrv_iter_1 _))
 show wpAny _ _ (ret (.ref it)) _ _ s
 exact wpAny_pure ⟨_, rfl, "list_reverseiterator", _, hT, F.slot_lrv_next.lookup, h⟩
end
end PySem
namespace L2
open PySem PySem.Spec PyProof.Rows
def Itv (K : W.Frag) (a : Addr) (n : Nat) : It :=
 ⟨fun i H => i < n /\ ∃ xs, SqL K H a xs /\ xs.length = n, fun i H x H' => H' = H /\ ∀ xs, SqL K H a xs -> xs[n - 1 - i]? = some x, fun i _ => n <= i⟩
section
variable {X : Cx} {tg : Expr}
def zL9 (K : W.Frag) (tl : TE) : TI := fun σ H R => tl σ H fun x H1 => ∃ a xs, x = .ref a /\ H1 a = some (.lst xs) /\ R (Itv K a xs.length) H1
end
end L2
namespace PySem
section
variable {prog : Program} {w : World} {A : Around} {s : Shared} {R : Result -> Shared -> Prop}
variable {I : Addr} {fp wr : List Addr} {G : Array GenState -> Array GenState -> Prop} {n : Nat} {P : Nat -> Value -> Prop} {St : Nat -> Shared -> Prop}
theorem zEZ {l : Addr} {items : Array Value} (W : WalksS prog w A.in1 I fp wr G n P St) (hz : items.size <= sizeLine) (ho : s.heap.get? I = some (Q3 l ((items.size : Int) - 1))) (hli : s.heap.IsList l items) (S : Addr) (res : Value) (c₀ : Nat) (hst : St 0 s) (hSf : S ∉ fp) (hI : I ∈ fp) (hlf : l ∈ fp)
  (hS : s.heap.get? S = some { cls := .type "list", data := .seq #[] c₀ })
  (hR : ∀ s' acc' c', Moved (S :: wr) G s s' -> s'.heap.get? S = some { cls := .type "list", dict := none, data := .seq acc' c', slots := #[] } -> ItemsOf P acc' n -> R (.ok (.ret res)) s') (hn : n <= sizeLine := by size_fits) :
  wpAny (model prog w) A.in1 (Builtin.List.listExtendWith (.ref S) (.ref I) res)
   (fun fin s' => match fin with | .done f => R (.ok f) s' | .again c' => c'.quiet = true /\ codeAny (model prog w) A c' R s') (fun e s' => R (.error e) s') s := by
 have hT : s.TypeIs (.ref I) "list_reverseiterator" := ⟨_, ho, rfl⟩
 have hSI : S ≠ I := fun e => hSf (e ▸ hI)
 unfold Builtin.List.listExtendWith
 refine wpAny_bind (wpAny_typeOf hT ?_)
 have h1 : Builtin.List.listSameRef (.ref S) (.ref I) = false := by simp [Builtin.List.listSameRef, hSI]
 have h2 : (Value.type "list_reverseiterator" == Value.type "list") = false := by decide
 have h3 : (Value.type "list_reverseiterator" == Value.type "tuple") = false := by decide
 simp only [h1, h2, h3, Bool.or_false, Bool.false_eq_true, if_false]
 refine wpAny_bind (W.self 0 _ _ _ hst ?_)
 refine wpAny_bind (wpAny_holding ?_)
 unfold Builtin.List.listLengthHint
 refine wpAny_bind (wpAny_specialOf hT F.lrv_no_len ?_)
 show wpAny _ A.in1 (specialOf (Value.ref I) (Str.ofString "__length_hint__") >>= _) _ _ _
 refine wpAny_bind (wpAny_specialOf hT F.slot_lrv_hint.lookup ?_)
 (generalize hid : ("list_reverseiterator.__length_hint__" : String) = id0; (fail_if_success (clear hid id0)); wp_delta; rw [show splitId id0 = some ("list_reverseiterator", "__length_hint__") from by subst hid; decide +kernel]; subst hid)
 refine wpAny_bind (wpAny_isInstance (b := true) hT (by rw [isSubtype_type]; kernel_rfl) ?_)
 rw [if_neg (by decide)]
 dsimp only
 split
 ·rw [if_neg (by decide +kernel)]
  refine wpAny_pure ?_
  rw [if_neg (by decide)]
  refine wpAny_pure ⟨plainId_quiet F.plain_extend_loop _, codeAny_extend_loopS W hn _ hSf _ n 0 _ _ _ rfl (Nat.zero_le _) hst hS (ItemsOf.nil P) fun s' acc' c' hm hS' hacc => ?_⟩
  exact hR s' acc' c' hm hS' hacc
 ·rename_i hs
  exact absurd (by decide +kernel) hs
theorem zBi {l : Addr} {items : Array Value} (W : WalksS prog w A.in1 I fp wr G n P St) (hz : items.size <= sizeLine) (ho : s.heap.get? I = some (Q3 l ((items.size : Int) - 1))) (hli : s.heap.IsList l items) (S : Addr) (hst : St 0 s) (hSf : S ∉ fp) (hI : I ∈ fp) (hlf : l ∈ fp)
  (hS : s.heap.get? S = some { cls := .type "list", data := .seq #[] })
  (hR : ∀ s' acc' c', Moved (S :: wr) G s s' -> s'.heap.get? S = some { cls := .type "list", dict := none, data := .seq acc' c', slots := #[] } -> ItemsOf P acc' n -> R (.ok (.ret .none)) s') (hn : n <= sizeLine := by size_fits) :
  wpAny (model prog w) A.in1 (Builtin.«list.__init__» ⟨[.ref S, .ref I], []⟩)
   (fun fin s' => match fin with | .done f => R (.ok f) s' | .again c' => c'.quiet = true /\ codeAny (model prog w) A c' R s') (fun e s' => R (.error e) s') s := by
 have hSI : S ≠ I := fun e => hSf (e ▸ hI)
 unfold Builtin.«list.__init__»
 dsimp only
 rw [if_neg (by decide), if_neg (by simp)]
 refine wpAny_bind ?_
 unfold Builtin.List.listItems
 refine wpAny_bind (wpAny_seqItems hS rfl (wpAny_pure ?_))
 refine wpAny_bind (wpAny_updateSeq hS rfl ?_)
 have hS₂ := Heap.get?_update_self (Obj.mapSeq (fun _ => (#[] : Array Value))) hS rfl
 have oth : ∀ b o, b ≠ S -> s.heap.get? b = some o -> (s.heap.update S (Obj.mapSeq (fun _ => (#[] : Array Value)))).get? b = some o :=
  fun b o hb e => (Heap.get?_update_other _ _ (Ne.symm hb)).trans e
 refine wpAny_bind (wpAny_letGo ?_)
 refine zEZ (s := { s with heap := s.heap.update S (Obj.mapSeq (fun _ => (#[] : Array Value))) }) (hn := hn) W hz (oth _ _ (Ne.symm hSI) ho) (hli.at fun o e => oth _ _ (fun h => hSf (h ▸ hlf)) e) S .none _ (W.frame 0 s _ s.toks hst (Nat.le_refl _) fun b hb o e => oth b o (fun h => hSf (h ▸ hb)) e) hSf hI hlf hS₂ fun s' acc' c' hm hS' hacc => ?_
 exact hR s' acc' c' (Moved.trans W.gtrans ((Moved.refl W.grefl).then_heap (Nat.le_refl _) fun b o hb e => oth b o (fun h => hb (h ▸ List.mem_cons_self)) e) hm) hS' hacc
theorem zBf {E : Value -> Shared -> Prop} {Q : Value -> Shared -> Prop} {l : Addr} {items : Array Value} (W : WalksS prog w A.in1.in1 I fp wr G n P St) (hz : items.size <= sizeLine) (ho : s.heap.get? I = some (Q3 l ((items.size : Int) - 1))) (hli : s.heap.IsList l items) (hst : St 0 s) (hfp : ∀ b ∈ fp, b < s.heap.objs.size) (hI : I ∈ fp) (hlf : l ∈ fp)
  (hQ : ∀ s' acc' c', Moved (s.heap.objs.size :: wr) G { s with heap := s.heap.push { cls := .type "list", data := .seq #[] } } s' ->
   s'.heap.get? s.heap.objs.size = some { cls := .type "list", dict := none, data := .seq acc' c', slots := #[] } -> ItemsOf P acc' n -> Q (.ref s.heap.objs.size) s') (hn : n <= sizeLine := by size_fits) :
  wpAny (model prog w) A (call (.type "list") [.ref I]) Q E s := by
 have hSf : s.heap.objs.size ∉ fp := fun hm => Nat.lt_irrefl _ (hfp _ hm)
 refine callType_codes (Q₁ := fun obj s₁ => obj = .ref s.heap.objs.size /\ s₁ = { s with heap := s.heap.push { cls := .type "list", data := .seq #[] } }) F.called_list (F.typeCall_list_1 _) F.entry_list_init
  (code_list_new _ ⟨rfl, rfl⟩) fun obj s₁ h₁ => ?_
 obtain ⟨rfl, rfl⟩ := h₁
 have hS : (s.heap.push { cls := .type "list", data := .seq #[] }).get? s.heap.objs.size = some { cls := .type "list", data := .seq #[] } := Heap.get?_push_size _ rfl
 refine ⟨⟨_, hS, rfl⟩, F.args_list_init_2 _ _, zBi (s := { s with heap := s.heap.push { cls := .type "list", data := .seq #[] } }) (hn := hn) W hz (Heap.get?_push_of_some _ ho) (hli.at fun o e => Heap.get?_push_of_some _ e) _ (W.frame 0 s _ s.toks hst (Nat.le_refl _) fun b _ o e => Heap.get?_push_of_some _ e) hSf hI hlf hS fun s' acc' c' hm hS' hacc => ?_⟩
 exact ⟨rfl, hQ s' acc' c' hm hS' hacc⟩
end
theorem Walks.listRv {prog : Program} {w : World} {A : Around} (hh : A.handled = none) (I l : Addr) (hne : l ≠ I) (items : Array Value) :
  Walks prog w A I [I, l] [I] items.size (fun i v => items[items.size - 1 - i]? = some v) (fun i h => i <= items.size /\ h.get? I = some (Q3 l ((items.size : Int) - 1 - (i : Int))) /\ h.IsList l items) where
 sub := fun b hb => by simp at hb; simp [hb]
 frame := fun _ _ _ x hk => ⟨x.1, hk I (by simp) _ x.2.1, x.2.2.at fun o e => hk l (by simp) o e⟩
 item := fun i s Q E hi x hQ => by
  have e : (items.size : Int) - 1 - (i : Int) = ((items.size - 1 - i : Nat) : Int) := by omega
  have ho := x.2.1
  rw [e] at ho
  have hx : items[items.size - 1 - i]? = some (items[items.size - 1 - i]'(by omega)) := Array.getElem?_eq_getElem (by omega)
  refine zBx ho x.2.2 hx fun h' ho' hs' => ?_
  have e2 : ((items.size - 1 - i : Nat) : Int) - 1 = (items.size : Int) - 1 - ((i + 1 : Nat) : Int) := by omega
  rw [e2] at ho'
  exact hQ _ h' s.toks hx ⟨hi, ho', x.2.2.extBut hs'.extBut hne⟩ fun b o hb eo => hs'.extBut b o (fun h => hb (by simp [h])) eo
 done := fun s Q E x hQ => by
  have e : (items.size : Int) - 1 - (items.size : Int) = -1 := by omega
  have ho := x.2.1
  rw [e] at ho
  exact zCL hh ho fun h' he' => hQ h' s.toks fun b o hb eo => he' b o (fun h => hb (by simp [h])) eo
 self := fun _ _ _ _ x hQ => zIg x.2.1 hQ
end PySem
namespace L2
open PySem PySem.Spec PyProof.Rows
section
variable {X : Cx}
theorem zEW {xs : List V} {its : List Value} {acc : Array Value} (r : Vals xs its) (h : ItemsOf (fun i v => its.toArray[its.toArray.size - 1 - i]? = some v) acc its.toArray.size) : Vals xs.reverse acc.toList := by
 have e : acc.toList = its.reverse := by
  refine List.ext_getElem? fun i => ?_
  by_cases hi : i < its.length
  ·have hs : acc.size = its.length := by have := h.1; simpa using this
   have hia : i < acc.size := by omega
   have h2 := h.2 i acc[i] (Array.getElem?_eq_getElem hia)
   rw [List.getElem?_reverse hi]
   have h3 : its[its.length - 1 - i]? = some acc[i] := by simpa using h2
   rw [h3]
   simp [hia]
  ·have hs : acc.size = its.length := by have := h.1; simpa using this
   rw [List.getElem?_eq_none (by simp; omega), List.getElem?_eq_none (by simp; omega)]
 rw [e]
 exact r.reverse
def Ja (te : TE) : TE := fun σ H Q => te σ H fun x H1 => ∃ a xs, x = .ref a /\ H1 a = some (.lst xs) /\ ∀ l, H1 l = none -> Q (.ref l) (upd H1 l (.lst xs.reverse))
theorem zDg {e : Expr} {te : TE} {p1 p2 pos1 pos2 : Pos} (hc : X.calm = true) (hgL : Gl X "list") (hmL : X.mg "list" = none) (hgR : Gl X "reversed") (hmR : X.mg "reversed" = none) (he : PE X e te)
  (hs1 : starEach [e] X.env = [(false, eval e X.env)] := by rfl) (hs2 : starEach [Expr.Call (.Name "reversed" p2) [e] [] pos2] X.env = [(false, eval (Expr.Call (.Name "reversed" p2) [e] [] pos2) X.env)] := by rfl) :
  PE X (.Call (.Name "list" p1) [.Call (.Name "reversed" p2) [e] [] pos2] [] pos1) (Ja te) := by
 intro pins s σ H Q I h
 refine wpAny_Call_Name_kw (Zc I hgL hmL boot_list ?_)
 refine PyProof.Rows.callWith_type1 ?_ hs2 rfl
 rw [hs2]
 show wpAny _ _ (spliced ((false, eval (Expr.Call (.Name "reversed" p2) [e] [] pos2) X.env) :: [])) _ _ s
 refine Calls.spliced_cons ?_
 refine wpAny_Call_Name_kw (Zc I hgR hmR boot_reversed ?_)
 refine PyProof.Rows.callWith_type1 ?_ hs1 rfl
 rw [hs1]
 show wpAny _ _ (spliced ((false, eval e X.env) :: [])) _ _ s
 refine Calls.spliced_cons (thn (he pins s σ H _ I h) fun u s1 ⟨x, H1, I1, r1, a, xs, e1, hq, q⟩ => Calls.spliced_nil ?_)
 subst e1
 cases r1
 obtain ⟨hz, its, n, r, eo⟩ := I1.hok a _ hq
 have hlen := r.length
 have hal : a < s1.heap.objs.size := Heap.lt_size eo
 have hzz : its.toArray.size <= sizeLine := by rw [List.size_toArray]; omega
 refine zBu eo (Calls.spliced_nil ?_)
 have ho : (s1.heap.push (Q3 a ((its.toArray.size : Int) - 1))).get? s1.heap.objs.size = some (Q3 a ((its.toArray.size : Int) - 1)) := Heap.get?_push_size _ rfl
 have hsz : (s1.heap.push (Q3 a ((its.toArray.size : Int) - 1))).objs.size = s1.heap.objs.size + 1 := Heap.size_push ..
 have hli : (s1.heap.push (Q3 a ((its.toArray.size : Int) - 1))).IsList a its.toArray := ⟨_, Heap.get?_push_of_some _ eo, rfl, _, rfl⟩
 have W := (Walks.listRv (prog := X.prog) (w := X.w) (A := X.A.in1.in1) (I1.ok.hd hc) s1.heap.objs.size a (Nat.ne_of_lt hal) its.toArray).toS
 refine zBf (s := { s1 with heap := s1.heap.push (Q3 a ((its.toArray.size : Int) - 1)) }) W hzz ho hli ⟨Nat.zero_le _, by rw [show ((its.toArray.size : Int) - 1 - ((0 : Nat) : Int)) = (its.toArray.size : Int) - 1 from by omega]; exact ho, hli⟩ (fun b hb => by
   show _ < (s1.heap.push _).objs.size
   rw [hsz]
   rcases List.mem_cons.mp hb with z | z
   ·rw [z]; exact Nat.lt_succ_self _
   ·rw [List.mem_singleton.mp z]; exact Nat.lt_succ_of_lt hal) (by simp) (by simp) (fun s' acc' c' hm hS' hacc => ?_) hzz
 have kp : ∀ b o, s1.heap.get? b = some o -> s'.heap.get? b = some o := fun b o eb => by
  have hb := Heap.lt_size eb
  refine hm.heap b o (fun hmem => ?_) (Heap.get?_push_of_some _ (Heap.get?_push_of_some _ eb))
  have hmem' : b ∈ [(s1.heap.push (Q3 a ((its.toArray.size : Int) - 1))).objs.size, s1.heap.objs.size] := hmem
  rw [hsz] at hmem'
  rcases List.mem_cons.mp hmem' with e2 | e2
  ·exact absurd e2 (Nat.ne_of_lt (Nat.lt_succ_of_lt hb))
  ·exact absurd (List.mem_singleton.mp e2) (Nat.ne_of_lt hb)
 have hS2 : s'.heap.get? (s1.heap.objs.size + 1) = some { cls := .type "list", dict := none, data := .seq acc' c', slots := #[] } := by rw [← hsz]; exact hS'
 have I2 : Inv X pins σ (upd H1 (s1.heap.objs.size + 1) (.lst xs.reverse)) { s1 with heap := s'.heap, toks := s'.toks } :=
  I1.laid kp (Nat.le_succ _) ⟨by rw [List.length_reverse]; exact hz, acc'.toList, c', zEW r hacc, by rw [hS2]⟩
 have es : s' = { s1 with heap := s'.heap, toks := s'.toks } := by
  have h1 := hm.gens
  have h2 := hm.drawn
  have h3 := hm.os
  cases s'
  simp only at h1 h2 h3
  subst h1 h2 h3
  rfl
 rw [es]
 refine ⟨.ref (s1.heap.objs.size + 1), _, I2, ?_, q _ (I1.hok.fresh (Nat.le_succ _))⟩
 show Value.ref _ = Value.ref _
 rw [hsz]
end
end L2
namespace L2
open PySem PySem.Spec PyProof.Rows
structure CMeth (K : W.Frag) (C : Addr) (m : Str) (f : Addr) : Prop where
 rd : PySem.W.readsIn K C (.type "type") = true
 sg : PySem.W.specialIn K (.ref C) "__getattribute__" = some (some (.builtin "type.__getattribute__"))
 fc : PySem.W.findCls K (.ref C) (.type "type") m = some (.val (.ref f))
 kp : W.keepIn K (.ref f) = true
section
variable {X : Cx} {CX : CXT} {k : Nat} {f C : Addr} {fd : FuncData} {ps : List Str} {sp : Sp} {dvs : List V} {ds : List Value} {E : XK} {x m : Str} {p pos apos : Pos} {e : Expr} {es : List Expr} {t : TA}
theorem zEy {pl : Sem Bool} (hg : Gl X x) (hm : X.mg x = some (.ref C)) (c : CMeth X.K C m f) (F : FnOk X.prog X.w X.K X.mg X.base CX k f fd ps sp) (hr : Room k X.A) (hb : Binds X.K fd ps ds) (hd : Vals dvs ds) (hx : Yo CX X E) (ha : PA X (e :: es) t)
  (hdb : (x == ("__debug__" : Str)) = false := by decide) (hst : starEach (e :: es) X.env = (false, eval e X.env) :: starEach es X.env := by rfl) (hpl : (backTo pos (starEach es X.env)).any (·.1) = false := by rfl)
  (ht : eval (.Call (.Attribute (.Name x p) m apos) (e :: es) [] pos) X.env = (do
   let ov ← eval (.Name x p) X.env
   standAt apos.atName
   let (f, first) ← holding [ov] (getMethod ov m pl)
   callWith pos f first (backTo pos (starEach (e :: es) X.env)) (backToKw pos (keywordEach [] X.env))) := by rfl) :
  PE X (.Call (.Attribute (.Name x p) m apos) (e :: es) [] pos) (zFR sp dvs E t) := by
 intro pins s σ H Q I h
 refine PySem.W.methodCall_KW (pl := pl) (WE I hg hm ?_ hdb) ht
 refine PySem.W.method_cls I.kIn c.sg (PySem.W.cls_value I.kIn c.rd c.fc rfl ?_)
 refine PySem.W.callWith_K (first := []) (h₀ := X.base) I.ok.mod.kin c.kp (thn (ha pos pins { s with toks := s.toks + 1 } σ H _ (I.tok _) h) fun us s1 ⟨vs, H1, I1, r, q⟩ => ⟨I1.kIn, ?_⟩) hst hpl
 exact zCt F hr hb hd hx I1 r q
end
end L2
namespace L2
open PySem PySem.Spec PyProof.Rows
theorem LB.cnt {st : Nat -> Option Int} {n i : Nat} {cs : List Int} (hn : 0 < n) (h : LB st n i cs) : (∀ p, p < i -> ∃ m, st p = some m) -> cs.countP (fun v => v != -1) = i := by
 induction h with
 | zero => intro _; rw [List.countP_replicate]; simp
 | skip _ e _ => intro ha; obtain ⟨m, hm⟩ := ha _ (Nat.lt_succ_self _); rw [e] at hm; cases hm
 | @put i c m cs hb e hc ih =>
  intro ha
  have L := hb.laid hn
  have hlen := L.len
  have hsl : sl m n c < cs.length := by rw [hlen]; exact zAg hn
  have hat : cs[sl m n c]? = some (-1) := by
   have := ZX (cs := cs) (m := m) (c := c) (by omega)
   rw [hlen, hc.2.1] at this
   exact this
  have he : cs[sl m n c] = -1 := by
   rw [List.getElem?_eq_getElem hsl] at hat
   exact Option.some.inj hat
  rw [List.countP_set hsl, ih fun p hp => ha p (by omega), he]
  have z : ((i : Int) != -1) = true := by simp
  rw [z]
  simp
theorem Fm.of_lb {st : Nat -> Option Int} {n : Nat} {cs : List Int} {os : List (Option Kd)} (h2 : IsP2 (n : Int)) (h : LB st n os.length cs) (hr : os.length < n) (hst : ∀ p, p < os.length -> ∃ k : Kd, os[p]? = some (some k) /\ st p = some k.st)
  (hk : ∀ (p q : Nat) (k : Kd), os[p]? = some (some k) -> os[q]? = some (some k) -> p = q) : Fm n cs os := by
 have hn : 0 < n := by omega
 have L := h.laid hn
 refine ⟨L.len, h2, h.cnt hn (fun p hp => let ⟨k, _, e⟩ := hst p hp; ⟨k.st, e⟩), hr, fun j v hv => ?_, fun p k hp => ?_, fun i j v h1 h3 h4 => L.one i j v h1 h3 (by omega), hk⟩
 ·rcases L.old j v hv with e | ⟨p, hp, e, _⟩
  ·exact .inl e
  ·obtain ⟨k, hk, _⟩ := hst p hp
   exact .inr (.inr ⟨p, k, e, hk⟩)
 ·have hpl := (List.getElem?_eq_some_iff.mp hp).1
  obtain ⟨k', e1, e2⟩ := hst p hpl
  rw [hp] at e1
  cases e1
  obtain ⟨c, c1, c2, c3⟩ := L.has p _ hpl e2
  exact ⟨c, c1, c2, fun c' hc' => by have := c3 c' hc'; omega⟩
def Qo {α : Type} : List (Option Kd) -> List α -> List α
 | some _ :: os, a :: l => a :: Qo os l
 | none :: os, _ :: l => Qo os l
 | _, _ => []
def Qd (os : List (Option Kd)) : List (Option Kd) := os.filter Option.isSome
theorem Yl {α : Type} : ∀ {os : List (Option Kd)} {l : List α}, l.length = os.length -> (Qo os l).length = (Qd os).length
 | [], [], _ => rfl
 | some k :: os, a :: l, h => by
  show (Qo os l).length + 1 = (Qd (some k :: os)).length
  rw [Yl (os := os) (l := l) (by simpa using h)]
  rfl
 | none :: os, a :: l, h => by
  show (Qo os l).length = (Qd (none :: os)).length
  rw [Yl (os := os) (l := l) (by simpa using h)]
  rfl
theorem Jg {α β : Type} {f : α -> β} : ∀ {os : List (Option Kd)} {l : List α}, (Qo os l).map f = Qo os (l.map f)
 | [], l => by cases l <;> rfl
 | some k :: os, [] => rfl
 | none :: os, [] => rfl
 | some k :: os, a :: l => by
  show f a :: (Qo os l).map f = f a :: Qo os (l.map f)
  rw [Jg]
 | none :: os, a :: l => by
  show (Qo os l).map f = Qo os (l.map f)
  rw [Jg]
theorem JU {α : Type} {x : α} : ∀ {os : List (Option Kd)} {l : List α}, x ∈ Qo os l -> x ∈ l
 | [], l, h => by cases l <;> simp [Qo] at h
 | some k :: os, [], h => by simp [Qo] at h
 | none :: os, [], h => by simp [Qo] at h
 | some k :: os, a :: l, h => by
  have h' : x ∈ a :: Qo os l := h
  rcases List.mem_cons.mp h' with z | z
  ·rw [z]; exact List.mem_cons_self
  ·exact List.mem_cons_of_mem _ (JU z)
 | none :: os, a :: l, h => by
  have h' : x ∈ Qo os l := h
  exact List.mem_cons_of_mem _ (JU h')
theorem zGz {os : List (Option Kd)} {p : Nat} (hp : p < (Qd os).length) : ∃ k : Kd, (Qd os)[p]? = some (some k) := by
 have e : (Qd os)[p]? = some (Qd os)[p] := List.getElem?_eq_getElem hp
 have hm : (Qd os)[p] ∈ Qd os := List.getElem_mem hp
 have := (List.mem_filter.mp hm).2
 cases h : (Qd os)[p] with
 | none => rw [h] at this; cases this
 | some k => rw [h] at e; exact ⟨k, e⟩
theorem WB {os : List (Option Kd)} {o : Option Kd} (h : o ∈ Qd os) : o ∈ os := (List.mem_filter.mp h).1
theorem zHM {os : List (Option Kd)} : (Qd os).length <= os.length := List.length_filter_le _ _
theorem zAz : ∀ {os : List (Option Kd)} {p : Nat} {k : Kd}, (Qd os)[p]? = some (some k) -> ∃ i : Nat, os[i]? = some (some k)
 | os, p, k, h => List.getElem?_of_mem (WB (List.mem_of_getElem? h))
theorem Wh : ∀ {os : List (Option Kd)}, (∀ (p q : Nat) (k : Kd), os[p]? = some (some k) -> os[q]? = some (some k) -> p = q) -> ∀ (p q : Nat) (k : Kd), (Qd os)[p]? = some (some k) -> (Qd os)[q]? = some (some k) -> p = q
 | [], _, p, q, k, h, _ => by simp [Qd] at h
 | none :: os, hu, p, q, k, h1, h2 => Wh (os := os) (fun p q k e1 e2 => by have := hu (p + 1) (q + 1) k (by simpa using e1) (by simpa using e2); omega) p q k h1 h2
 | some k0 :: os, hu, p, q, k, h1, h2 => by
  have ih := Wh (os := os) (fun p q k e1 e2 => by have := hu (p + 1) (q + 1) k (by simpa using e1) (by simpa using e2); omega)
  have c : Qd (some k0 :: os) = some k0 :: Qd os := rfl
  rw [c] at h1 h2
  match p, q, h1, h2 with
  | 0, 0, _, _ => rfl
  | 0, q + 1, h1, h2 =>
   cases h1
   obtain ⟨i, hi⟩ := zAz (os := os) (p := q) (k := k0) (by simpa using h2)
   have := hu 0 (i + 1) k0 rfl (by simpa using hi)
   omega
  | p + 1, 0, h1, h2 =>
   cases h2
   obtain ⟨i, hi⟩ := zAz (os := os) (p := p) (k := k0) (by simpa using h1)
   have := hu 0 (i + 1) k0 rfl (by simpa using hi)
   omega
  | p + 1, q + 1, h1, h2 => rw [ih p q k (by simpa using h1) (by simpa using h2)]
theorem Jh {α : Type} : ∀ {os : List (Option Kd)} {l : List α}, l.length = os.length -> Q1 (Qd os) (Qo os l) = Q1 os l
 | [], [], _ => rfl
 | some k :: os, a :: l, h => by
  show (k, a) :: Q1 (Qd os) (Qo os l) = (k, a) :: Q1 os l
  rw [Jh (by simpa using h)]
 | none :: os, a :: l, h => by
  show Q1 (Qd os) (Qo os l) = Q1 os l
  rw [Jh (by simpa using h)]
def YJ (os : List (Option Kd)) : Nat := (Qd os).length
theorem zGZ {os : List (Option Kd)} {k : Kd} : YJ (os ++ [some k]) = YJ os + 1 := by
 unfold YJ Qd
 rw [List.filter_append, List.length_append]
 rfl
theorem zA6 {k : Kd} : ∀ {os : List (Option Kd)} {i : Nat}, os[i]? = some (some k) -> YJ (os.set i none) + 1 = YJ os
 | [], i, h => by simp at h
 | o :: os, 0, h => by cases h; rfl
 | some k0 :: os, i + 1, h => by
  have := zA6 (os := os) (i := i) (by simpa using h)
  show (Qd (os.set i none)).length + 1 + 1 = (Qd os).length + 1
  unfold YJ at this
  omega
 | none :: os, i + 1, h => by
  have := zA6 (os := os) (i := i) (by simpa using h)
  show (Qd (os.set i none)).length + 1 = (Qd os).length
  exact this
end L2
namespace L2
open PySem PySem.Spec PyProof.Rows
theorem zAs {H : Hp} {o : Option Kd} {os : List (Option Kd)} {x : V} {xs : List V} (h : IsKos H (o :: os) (x :: xs)) : IsKo H o x /\ IsKos H os xs :=
 ⟨h.2 0 o x rfl rfl, by have := h.1; simpa using this, fun i o' x' e1 e2 => h.2 (i + 1) o' x' (by simpa using e1) (by simpa using e2)⟩
theorem zD8 {H : Hp} {o : Option Kd} {os : List (Option Kd)} {x : V} {xs : List V} (h : IsKo H o x) (t : IsKos H os xs) : IsKos H (o :: os) (x :: xs) := (IsKos.one h).app t
theorem zHb {H : Hp} {o : Option Kd} {x : V} (h : IsKo H o x) : NN x = o.isSome := by
 unfold NN
 rw [h.non]
 cases o <;> rfl
theorem zEU {H : Hp} : ∀ {os : List (Option Kd)} {xs : List V}, IsKos H os xs -> IsKos H (Qd os) (Kp xs)
 | [], [], _ => IsKos.nil
 | [], x :: xs, h => by have := h.1; simp at this
 | o :: os, [], h => by have := h.1; simp at this
 | o :: os, x :: xs, h => by
  obtain ⟨h1, h2⟩ := zAs h
  have ih := zEU h2
  have n := zHb h1
  unfold Kp at ih ⊢
  cases o with
  | none => rw [List.filter_cons_of_neg (by rw [n]; decide)]; exact ih
  | some k => rw [List.filter_cons_of_pos (by rw [n]; rfl)]; exact zD8 h1 ih
theorem zCs {H : Hp} : ∀ {os : List (Option Kd)} {xs ys : List V}, IsKos H os xs -> ys.length = os.length -> Kb xs ys = Qo os ys
 | [], xs, [], h, _ => by cases xs with | nil => rfl | cons x xs => have := h.1; simp at this
 | o :: os, [], y :: ys, h, _ => by have := h.1; simp at this
 | o :: os, x :: xs, y :: ys, h, hl => by
  obtain ⟨h1, h2⟩ := zAs h
  have ih := zCs (ys := ys) h2 (by simpa using hl)
  have n := zHb h1
  unfold Kb at ih ⊢
  rw [List.zip_cons_cons]
  cases o with
  | none => rw [List.filter_cons_of_neg (by show ¬ NN x = true; rw [n]; decide)]; exact ih
  | some k =>
   rw [List.filter_cons_of_pos (by show NN x = true; rw [n]; rfl)]
   show y :: _ = y :: Qo os ys
   rw [ih]
end L2
namespace L2
open PySem PySem.Spec PyProof.Rows
def gm (os : List (Option Kd)) (v : Int) : Int := if v < 0 then v else match os[v.toNat]? with | some (some _) => v | _ => -2
structure Hist (n : Nat) (cs : List Int) (os : List (Option Kd)) (ks : List Kd) : Prop where
 len : ks.length = os.length
 at_ : ∀ (i : Nat) k, os[i]? = some (some k) -> ks[i]? = some k
 lb : ∃ L, LB (fun p => (ks[p]?).map Kd.st) n ks.length L /\ cs = L.map (gm os)
end L2
namespace L2
open PySem PySem.Spec PyProof.Rows
theorem zKY {X : Cx} {P : Program} {w : World} : Yo (CXe P w) X E0 := fun _ _ _ _ _ _ _ h => by
 obtain ⟨_, _, _, _, _, _, _, _, _, _, _, h⟩ := h
 exact h.elim
end L2
namespace L2
open PySem PySem.Spec PyProof.Rows
section
variable {X : Cx}
def zKf : List V -> Hp -> VK -> Prop := fun xs H Q => ∃ b, xs = [.bl b] /\ Q (.int (if b then 1 else 0)) H
end
end L2
namespace L2
open PySem PySem.Spec PyProof.Rows
end L2
namespace PySem
structure KeyAt (prog : Program) (w : World) (A : Around) (s : Shared) (es : Array DictEntry) (key : Value) (hs : Int) (b : Nat -> Bool) : Prop where
 eq : ∀ i e tk, es[i]? = some e -> SeqAt.EqAt A { s with toks := tk } e.key key (b i)
 hash : ∀ i e, es[i]? = some e -> b i = true -> e.hash = hs
 uni : ∀ i j, i < es.size -> j < es.size -> b i = true -> b j = true -> i = j
 quiet : ∀ (E : Value -> Shared -> Prop) (Q : Bool -> Shared -> Prop) tk, Q true { s with toks := tk } -> wpAny (model prog w) A (eqIsQuiet 8 key) Q E { s with toks := tk }
 quiets : ∀ e ∈ es, ∀ (E : Value -> Shared -> Prop) (Q : Bool -> Shared -> Prop) tk, Q true { s with toks := tk } -> wpAny (model prog w) A (eqIsQuiet 8 e.key) Q E { s with toks := tk }
 ref : ∀ e ∈ es, e.key = key -> carriedByValue key = false -> e.hash = hs
 kind : (∃ i t, key = .int i t) \/ (∃ x t, key = .str x t /\ ∀ i e, es[i]? = some e -> isExactStrKey e.key = true -> e.key.isStr x = b i) \/ ∃ a, key = .ref a
 py : ∀ (E : Value -> Shared -> Prop) (Q : Int -> Shared -> Prop) tk, (∀ tk', Q hs { s with toks := tk' }) -> wpAny (model prog w) A (pyHash key) Q E { s with toks := tk }
section
variable {prog : Program} {w : World} {A : Around} {E : Value -> Shared -> Prop} {s : Shared} {es : Array DictEntry} {key : Value} {hs : Int} {b : Nat -> Bool} {d : Addr} {o : Obj} {ep : Nat}
theorem KeyAt.tok (K : KeyAt prog w A s es key hs b) (tk : Nat) : KeyAt prog w A { s with toks := tk } es key hs b :=
 ⟨fun i e t h => K.eq i e t h, K.hash, K.uni, fun E Q t h => K.quiet E Q t h, fun e he E Q t h => K.quiets e he E Q t h, K.ref, K.kind, fun E Q t h => K.py E Q t h⟩
def Y7 (es : Array DictEntry) (hs : Int) : List Nat := placesWithHash es.size (fun i => es[i]?.map (·.hash)) hs
theorem zJ5 : (Y7 es hs).Nodup := by
 unfold Y7 placesWithHash
 exact List.filter_sublist.nodup List.nodup_range
theorem W3 {i : Nat} (h : i ∈ Y7 es hs) : i < es.size := by
 unfold Y7 placesWithHash at h
 exact List.mem_range.mp (List.mem_filter.mp h).1
theorem KeyAt.in_plcs (K : KeyAt prog w A s es key hs b) {i : Nat} (hi : i < es.size) (hb : b i = true) : i ∈ Y7 es hs := by
 unfold Y7 placesWithHash
 refine List.mem_filter.mpr ⟨List.mem_range.mpr hi, ?_⟩
 have e := Array.getElem?_eq_getElem hi
 show (Option.map (fun x : DictEntry => x.hash) es[i]? == some hs) = true
 rw [e, Option.map_some, K.hash i _ e hb]
 exact beq_self_eq_true _
theorem zDz (K : KeyAt prog w A s es key hs b) (ho : s.heap.get? d = some o) (hd : o.data = .dict es ep) {Q : Option Nat -> Shared -> Prop} (hnone : (∀ i, i < es.size -> b i = false) -> Q none s) (hsome : ∀ i, i < es.size -> b i = true -> Q (some i) s) :
  wpAny (model prog w) A (dictWalkPlain d key hs es (Y7 es hs)) Q E s := by
 unfold dictWalkPlain
 refine wpAny_bind ?_
 refine wpAny_forIn_list _ (fun YL r s' => s' = s /\ r = (none, ()) /\ ∃ dn, Y7 es hs = dn ++ YL /\ ∀ j ∈ dn, b j = false) _ ?_ ?_ _ _ ⟨rfl, rfl, [], rfl, fun _ h => by cases h⟩
 ·rintro x YL r s' ⟨rfl, rfl, dn, hpl, hdn⟩
  have hx : x < es.size := W3 (hs := hs) (by rw [hpl]; simp)
  have ex := Array.getElem?_eq_getElem hx
  rw [ex]
  dsimp only
  have nx : b x = false -> ∃ dn, Y7 es hs = dn ++ YL /\ ∀ j ∈ dn, b j = false := fun hb => ⟨dn ++ [x], by rw [hpl]; simp, fun j hj => by
   rcases List.mem_append.mp hj with h | h
   ·exact hdn j h
   ·rw [List.mem_singleton.mp h]; exact hb⟩
  by_cases hh : (es[x].hash == hs) = true
  ·rw [if_pos hh]
   refine wpAny_bind (wpAny_dictEpoch ho hd (wpAny_bind (K.eq x _ s'.toks ex prog w E _ (wpAny_bind (wpAny_dictEpoch ho hd ?_)))))
   rw [if_neg (by simp)]
   cases hb : b x with
   | true => exact wpAny_bind (wpAny_rule (wpAny_pure (wpAny_pure (hsome x hx hb))))
   | false => exact wpAny_bind (wpAny_rule (wpAny_pure ⟨rfl, rfl, nx hb⟩))
  ·rw [if_neg hh]
   refine wpAny_pure ⟨rfl, rfl, nx ?_⟩
   cases hb : b x with
   | false => rfl
   | true => exact absurd (by rw [K.hash x _ ex hb]; exact beq_self_eq_true _) hh
 ·rintro r s' ⟨rfl, rfl, dn, hpl, hdn⟩
  refine wpAny_pure (hnone fun i hi => ?_)
  cases hb : b i with
  | false => rfl
  | true =>
   have hm := K.in_plcs hi hb
   rw [hpl, List.append_nil] at hm
   rw [← hb, hdn i hm]
theorem zHQ (K : KeyAt prog w A s es key hs b) {st : List Value} (hst : ∀ v ∈ st, ∃ e ∈ es, v = e.key) {Q : Bool -> Shared -> Prop} (h : Q false s) : wpAny (model prog w) A (tableMayTell key st) Q E s := by
 unfold tableMayTell
 split
 ·exact wpAny_pure h
 ·refine wpAny_bind (K.quiet E _ s.toks ?_)
  rw [if_neg (by decide)]
  refine wpAny_bind ?_
  refine wpAny_forIn_list _ (fun YL r s' => s' = s /\ r = (none, ()) /\ ∀ v ∈ YL, ∃ e ∈ es, v = e.key) _ ?_ ?_ _ _ ⟨rfl, rfl, hst⟩
  ·rintro x YL r s' ⟨rfl, rfl, hr⟩
   obtain ⟨e, he, rfl⟩ := hr x List.mem_cons_self
   refine wpAny_bind (K.quiets e he E _ s'.toks ?_)
   rw [if_neg (by decide)]
   exact wpAny_pure ⟨rfl, rfl, fun v hv => hr v (List.mem_cons_of_mem _ hv)⟩
  ·rintro r s' ⟨rfl, rfl, _⟩
   exact wpAny_pure h
theorem zJn (K : KeyAt prog w A s es key hs b) (ho : s.heap.get? d = some o) (hd : o.data = .dict es ep) {x : Str} (hb : ∀ i e, es[i]? = some e -> e.key.isStr x = b i) {Q : Option Nat -> Shared -> Prop} (hnone : (∀ i, i < es.size -> b i = false) -> Q none s) (hsome : ∀ i, i < es.size -> b i = true -> Q (some i) s) :
  wpAny (model prog w) A (foundByValue d key es x) Q E s := by
 unfold foundByValue
 cases hf : es.findIdx? (·.key.isStr x) with
 | none =>
  refine wpAny_pure (hnone fun i hi => ?_)
  have := Array.findIdx?_eq_none_iff.mp hf es[i] (Array.getElem_mem hi)
  rw [← hb i _ (Array.getElem?_eq_getElem hi)]
  simpa using this
 | some i =>
  obtain ⟨hi, h1, _⟩ := Array.findIdx?_eq_some_iff_getElem.mp hf
  have ei := Array.getElem?_eq_getElem hi
  have hbi : b i = true := by rw [← hb i _ ei]; exact h1
  dsimp only
  rw [ei]
  dsimp only
  refine wpAny_bind (wpAny_dictEpoch ho hd (wpAny_bind (K.eq i _ s.toks ei prog w E _ (wpAny_bind (wpAny_dictEpoch ho hd ?_)))))
  rw [if_neg (by simp), hbi]
  exact wpAny_bind (wpAny_rule (wpAny_pure (hsome i hi hbi)))
theorem zCm (K : KeyAt prog w A s es key hs b) (ho : s.heap.get? d = some o) (hd : o.data = .dict es ep) {Q : Option Nat -> Shared -> Prop} (hnone : (∀ i, i < es.size -> b i = false) -> Q none s) (hsome : ∀ i, i < es.size -> b i = true -> Q (some i) s) :
  wpAny (model prog w) A (dictFind d key hs) Q E s := by
 have hst : ∀ v ∈ (Y7 es hs).filterMap (fun i => es[i]?.map (·.key)), ∃ e ∈ es, v = e.key := by
  intro v hv
  obtain ⟨i, hi, hv⟩ := List.mem_filterMap.mp hv
  have ei := Array.getElem?_eq_getElem (W3 hi)
  rw [ei] at hv
  exact ⟨_, Array.getElem_mem _, (Option.some.inj hv).symm⟩
 unfold dictFind
 try with_reducible refine wpAny_holding ?_
 refine wpAny_bind (wpAny_dictEntries ho hd ?_)
 rcases K.kind with ⟨i, t, rfl⟩ | ⟨x, t, rfl, hx⟩ | ⟨a, rfl⟩
 case' inl =>
  show wpAny _ _ (if (_ :: (Y7 es hs).filterMap (fun i => es[i]?.map (·.key))).all carriedByValue = true then _ else _) _ _ _
  by_cases hv : (Value.int i t :: (Y7 es hs).filterMap (fun i => es[i]?.map (·.key))).all carriedByValue = true
  ·rw [if_pos hv]
   exact zDz K ho hd hnone hsome
  rw [if_neg hv]
 case' inr.inl =>
  show wpAny _ _ (if es.all (fun e => isExactStrKey e.key) = true then _ else _) _ _ _
  by_cases hall : es.all (fun e => isExactStrKey e.key) = true
  ·rw [if_pos hall]
   exact zJn K ho hd (fun i e he => hx i e he (by
    have := Array.all_eq_true_iff_forall_mem.mp hall e (Array.mem_of_getElem? he)
    exact this)) hnone hsome
  rw [if_neg hall]
  show wpAny _ _ (if (_ :: (Y7 es hs).filterMap (fun i => es[i]?.map (·.key))).all carriedByValue = true then _ else _) _ _ _
  by_cases hv : (Value.str x t :: (Y7 es hs).filterMap (fun i => es[i]?.map (·.key))).all carriedByValue = true
  ·rw [if_pos hv]
   exact zDz K ho hd hnone hsome
  rw [if_neg hv]
 case' inr.inr =>
  show wpAny _ _ (if (_ :: (Y7 es hs).filterMap (fun i => es[i]?.map (·.key))).all carriedByValue = true then _ else _) _ _ _
  rw [if_neg (by simp [carriedByValue])]
  show wpAny _ _ (if (es.any fun e => e.key == Value.ref a && e.hash != hs) = true then _ else _) _ _ _
  rw [if_neg (by
   rw [← Array.any_toList, List.any_eq_true]
   rintro ⟨e, he, hc⟩
   rw [Bool.and_eq_true] at hc
   have h1 : e.key = Value.ref a := eq_of_beq hc.1
   have h2 := K.ref e (Array.mem_toList_iff.mp he) h1 rfl
   simp [h2] at hc)]
 all_goals
  show wpAny _ _ (if ((Y7 es hs).filterMap (fun i => es[i]?.map (·.key)) == [_]) = true then _ else _) _ _ _
 case' inl => by_cases hone : ((Y7 es hs).filterMap (fun i => es[i]?.map (·.key)) == [Value.int i t]) = true
 case' inr.inl => by_cases hone : ((Y7 es hs).filterMap (fun i => es[i]?.map (·.key)) == [Value.str x t]) = true
 case' inr.inr => by_cases hone : ((Y7 es hs).filterMap (fun i => es[i]?.map (·.key)) == [Value.ref a]) = true
 all_goals first | rw [if_pos hone] | rw [if_neg hone]
 all_goals first | refine wpAny_bind (wpAny_pure ?_) | refine wpAny_bind (zHQ K hst ?_)
 all_goals
  show wpAny _ _ (if (false && _) = true then _ else _) _ _ _
  rw [if_neg (by simp)]
  refine wpAny_bind ?_
  refine wpAny_forIn_list _ (fun YL r s' => s' = s /\ ∃ hit dn, r = (none, hit) /\ Y7 es hs = dn ++ YL /\ ((hit = none /\ ∀ j ∈ dn, b j = false) \/ ∃ j, j ∈ dn /\ hit = some j /\ b j = true)) _ ?_ ?_ _ _
   ⟨rfl, none, [], rfl, rfl, .inl ⟨rfl, fun _ h => by cases h⟩⟩
  ·rintro x YL r s' ⟨rfl, hit, dn, rfl, hpl, hH⟩
   have hx : x < es.size := W3 (hs := hs) (by rw [hpl]; simp)
   have ex := Array.getElem?_eq_getElem hx
   have hpl' : Y7 es hs = (dn ++ [x]) ++ YL := by rw [hpl]; simp
   have nx : b x = false -> ((hit = none /\ ∀ j ∈ dn ++ [x], b j = false) \/ ∃ j, j ∈ dn ++ [x] /\ hit = some j /\ b j = true) := fun hb => by
    rcases hH with ⟨h0, hdn⟩ | ⟨j, hj, h1, h2⟩
    ·refine .inl ⟨h0, fun j hj => ?_⟩
     rcases List.mem_append.mp hj with h | h
     ·exact hdn j h
     ·rw [List.mem_singleton.mp h]; exact hb
    ·exact .inr ⟨j, List.mem_append_left _ hj, h1, h2⟩
   rw [ex]
   dsimp only
   by_cases hh : (es[x].hash == hs) = true
   ·rw [if_pos hh]
    refine wpAny_bind (wpAny_dictEpoch ho hd (wpAny_bind (K.eq x _ s'.toks ex prog w E _ (wpAny_bind (wpAny_dictEpoch ho hd ?_)))))
    rw [if_neg (by simp)]
    cases hb : b x with
    | true =>
     rcases hH with ⟨rfl, hdn⟩ | ⟨j, hj, _, h2⟩
     ·rw [if_pos rfl, if_neg (by simp)]
      refine wpAny_bind (wpAny_rule ?_)
      split
      ·exact wpAny_pure (wpAny_pure (hsome x hx hb))
      ·exact wpAny_pure ⟨rfl, some x, dn ++ [x], rfl, hpl', .inr ⟨x, by simp, rfl, hb⟩⟩
     ·have hjx : j = x := K.uni j x (W3 (hs := hs) (by rw [hpl]; simp [hj])) hx h2 hb
      have nd := zJ5 (es := es) (hs := hs)
      rw [hpl, List.nodup_append] at nd
      exact absurd hjx (nd.2.2 j hj x List.mem_cons_self)
    | false =>
     rw [if_neg (by decide)]
     refine wpAny_bind (wpAny_rule ?_)
     rw [if_neg (by simp)]
     exact wpAny_pure ⟨rfl, hit, dn ++ [x], rfl, hpl', nx hb⟩
   ·rw [if_neg hh]
    refine wpAny_pure ⟨rfl, hit, dn ++ [x], rfl, hpl', nx ?_⟩
    cases hb : b x with
    | false => rfl
    | true => exact absurd (by rw [K.hash x _ ex hb]; exact beq_self_eq_true _) hh
  ·rintro r s' ⟨rfl, hit, dn, rfl, hpl, hH⟩
   rcases hH with ⟨rfl, hdn⟩ | ⟨j, hj, rfl, h2⟩
   ·refine wpAny_pure (hnone fun i hi => ?_)
    cases hb : b i with
    | false => rfl
    | true =>
     have hm := K.in_plcs hi hb
     rw [hpl, List.append_nil] at hm
     rw [← hb, hdn i hm]
   ·exact wpAny_pure (hsome j (W3 (hs := hs) (by rw [hpl]; simp [hj])) h2)
end
end PySem
namespace PySem
def RawD (h : Heap) (d : Addr) (es : Array DictEntry) (ep : Nat) : Prop := ∃ o, h.get? d = some o /\ o.ExactDict /\ o.data = .dict es ep
section
variable {prog : Program} {w : World} {A : Around} {E : Value -> Shared -> Prop} {s : Shared} {es : Array DictEntry} {key : Value} {hs : Int} {b : Nat -> Bool} {d : Addr} {ep : Nat}
theorem RawD.typeIs (r : RawD s.heap d es ep) : s.TypeIs (.ref d) "dict" := let ⟨o, ho, hc, _⟩ := r; ⟨o, ho, hc.1⟩
theorem zLl (K : KeyAt prog w A s es key hs b) (r : RawD s.heap d es ep) {Q : Option Value -> Shared -> Prop} (hnone : (∀ i, i < es.size -> b i = false) -> ∀ tk, Q none { s with toks := tk })
  (hsome : ∀ i e, es[i]? = some e -> b i = true -> ∀ tk, Q (some e.val) { s with toks := tk }) : wpAny (model prog w) A (dictGet d key) Q E s := by
 obtain ⟨o, ho, hc, hd⟩ := r
 unfold dictGet
 try with_reducible refine wpAny_holding ?_
 refine wpAny_bind (K.py E _ s.toks fun tk => wpAny_bind (zCm (K.tok tk) ho hd ?_ ?_))
 ·intro h
  exact wpAny_pure (hnone h tk)
 ·intro i hi hb
  refine wpAny_bind (wpAny_dictEntries (s := { s with toks := tk }) ho hd ?_)
  have ei := Array.getElem?_eq_getElem hi
  rw [ei]
  exact wpAny_pure (hsome i _ ei hb tk)
theorem zLw (K : KeyAt prog w A s es key hs b) (r : RawD s.heap d es ep) (hz : es.size <= sizeLine) {v : Value} {Q : Unit -> Shared -> Prop}
  (hnew : (∀ i, i < es.size -> b i = false) -> ∀ h' tk, RawD h' d (es.push ⟨hs, key, v⟩) (ep + 1) -> Heap.SameBut d s.heap h' -> Q () { s with heap := h', toks := tk })
  (hold : ∀ i e, es[i]? = some e -> b i = true -> ∀ h' tk, RawD h' d (es.modify i fun e => { e with val := v }) ep -> Heap.SameBut d s.heap h' -> Q () { s with heap := h', toks := tk }) : wpAny (model prog w) A (dictSet d key v) Q E s := by
 obtain ⟨o, ho, hc, hd⟩ := r
 unfold dictSet
 try with_reducible refine wpAny_holding ?_
 refine wpAny_bind (K.py E _ s.toks fun tk => ?_)
 unfold dictSetHashed
 try with_reducible refine wpAny_holding ?_
 refine wpAny_bind (zCm (K.tok tk) ho hd ?_ ?_)
 ·intro h
  refine wpAny_bind (wpAny_rule (wpAny_updateDictKeys (hz := hz) (s := { s with toks := tk }) ho hd (hnew h _ tk ⟨_, Heap.get?_update_self _ ho (Obj.isFreed_of_dict (Obj.data_mapDictKeys hd _)), hc.mapDictKeys _, Obj.data_mapDictKeys hd _⟩ (Heap.SameBut.update ..))))
 ·intro i hi hb
  exact wpAny_bind (wpAny_rule (wpAny_bind (wpAny_updateDict (s := { s with toks := tk }) ho hd (wpAny_point (hold i _ (Array.getElem?_eq_getElem hi) hb _ tk ⟨_, Heap.get?_update_self _ ho (Obj.isFreed_of_dict (Obj.data_mapDict hd _)), hc.mapDict _, Obj.data_mapDict hd _⟩ (Heap.SameBut.update ..))))))
theorem zK5 (K : KeyAt prog w A s es key hs b) (r : RawD s.heap d es ep) (hz : es.size <= sizeLine) {Q : Option DictEntry -> Shared -> Prop} (hnone : (∀ i, i < es.size -> b i = false) -> ∀ tk, Q none { s with toks := tk })
  (hsome : ∀ i e, es[i]? = some e -> b i = true -> ∀ h' tk, RawD h' d (es.eraseIdxIfInBounds i) (ep + 1) -> Heap.SameBut d s.heap h' -> Q (some e) { s with heap := h', toks := tk }) : wpAny (model prog w) A (Builtin.Dict.takeOut d key) Q E s := by
 obtain ⟨o, ho, hc, hd⟩ := r
 unfold Builtin.Dict.takeOut
 try with_reducible refine wpAny_holding ?_
 refine wpAny_bind (K.py E _ s.toks fun tk => wpAny_bind (zCm (K.tok tk) ho hd ?_ ?_))
 ·intro h
  exact wpAny_pure (hnone h tk)
 ·intro i hi hb
  refine wpAny_bind (wpAny_dictEntries (s := { s with toks := tk }) ho hd ?_)
  have ei := Array.getElem?_eq_getElem hi
  rw [ei]
  exact wpAny_bind (wpAny_updateDictKeys (hz := hz) (s := { s with toks := tk }) ho hd (wpAny_pure (hsome i _ ei hb _ tk ⟨_, Heap.get?_update_self _ ho (Obj.isFreed_of_dict (Obj.data_mapDictKeys hd _)), hc.mapDictKeys _, Obj.data_mapDictKeys hd _⟩ (Heap.SameBut.update ..))))
theorem zKN (K : KeyAt prog w A.in1 s es key hs b) (r : RawD s.heap d es ep) {Q : Value -> Shared -> Prop} {i : Nat} {e : DictEntry} (hi : es[i]? = some e) (hb : b i = true) (h : ∀ tk, Q e.val { s with toks := tk }) :
  wpAny (model prog w) A (getItem (.ref d) key) Q E s := by
 unfold getItem
 try with_reducible refine wpAny_holding ?_
 refine wpAny_bind (wpAny_sequenceKey r.typeIs (by decide) ?_)
 refine wpAny_bind (wpAny_callSpecial?_slot (name := Str.ofString "__getitem__") r.typeIs slot_dict_getitem
  (wpAny_call_entry slot_dict_getitem r.typeIs entry_dict_getitem ?_ (args_dict_getitem _ _)))
 show wpAny _ _ (dictGet d key >>= _) _ _ s
 have hlt : i < es.size := (Array.getElem?_eq_some_iff.mp hi).1
 refine wpAny_bind (zLl K r (fun h => absurd hb (by rw [h i hlt]; decide)) ?_)
 intro j e' ej hbj tk
 have hjl : j < es.size := (Array.getElem?_eq_some_iff.mp ej).1
 obtain rfl := K.uni i j hlt hjl hb hbj
 obtain rfl : e = e' := Option.some.inj (hi.symm.trans ej)
 exact wpAny_pure ⟨e.val, rfl, wpAny_pure (h tk)⟩
theorem zEd (K : KeyAt prog w A.in1 s es key hs b) (r : RawD s.heap d es ep) (hz : es.size <= sizeLine) {v : Value} {Q : Unit -> Shared -> Prop}
  (hnew : (∀ i, i < es.size -> b i = false) -> ∀ h' tk, RawD h' d (es.push ⟨hs, key, v⟩) (ep + 1) -> Heap.SameBut d s.heap h' -> Q () { s with heap := h', toks := tk })
  (hold : ∀ i e, es[i]? = some e -> b i = true -> ∀ h' tk, RawD h' d (es.modify i fun e => { e with val := v }) ep -> Heap.SameBut d s.heap h' -> Q () { s with heap := h', toks := tk }) : wpAny (model prog w) A (setItem (.ref d) key v) Q E s := by
 unfold setItem
 try with_reducible refine wpAny_holding ?_
 refine wpAny_bind (wpAny_sequenceKey r.typeIs (by decide) ?_)
 refine wpAny_bind (wpAny_callSpecial?_slot (name := Str.ofString "__setitem__") r.typeIs slot_dict_setitem
  (wpAny_call_entry slot_dict_setitem r.typeIs entry_dict_setitem ?_ (args_dict_setitem _ _ _)))
 show wpAny _ _ (Builtin.Dict.notOrdered "__setitem__" ⟨[.ref d, key, v], []⟩ >>= _) _ _ s
 refine wpAny_bind (wpAny_notOrdered_dict r.typeIs ?_)
 show wpAny _ _ (dictSet d key v >>= _) _ _ s
 exact wpAny_bind (zLw K r hz (fun h h' tk r' hs' => wpAny_pure ⟨.none, rfl, wpAny_pure (hnew h h' tk r' hs')⟩) fun i e ei hb h' tk r' hs' => wpAny_pure ⟨.none, rfl, wpAny_pure (hold i e ei hb h' tk r' hs')⟩)
theorem zLD (K : KeyAt prog w A.in1 s es key hs b) (r : RawD s.heap d es ep) (hz : es.size <= sizeLine) {Q : Value -> Shared -> Prop} {i : Nat} {e : DictEntry} (hi : es[i]? = some e) (hb : b i = true)
  (h : ∀ h' tk, RawD h' d (es.eraseIdxIfInBounds i) (ep + 1) -> Heap.SameBut d s.heap h' -> Q e.val { s with heap := h', toks := tk }) : wpAny (model prog w) A (call (.builtin "dict.pop") [.ref d, key]) Q E s := by
 refine wpAny_call_entry PySem.F.slot_dict_pop r.typeIs PySem.F.entry_dict_pop ?_ (PySem.F.args_dict_pop_2 _ _)
 have hlt : i < es.size := (Array.getElem?_eq_some_iff.mp hi).1
 have go : wpAny (model prog w) A.in1 (Builtin.Dict.takeOut d key) (fun o s' => o = some e /\ Q e.val s') E s :=
  zK5 K r hz (fun h => absurd hb (by rw [h i hlt]; decide)) fun j e' ej hbj h' tk r' hs' => by
   have hjl : j < es.size := (Array.getElem?_eq_some_iff.mp ej).1
   obtain rfl := K.uni i j hlt hjl hb hbj
   obtain rfl : e = e' := Option.some.inj (hi.symm.trans ej)
   exact ⟨rfl, h h' tk r' hs'⟩
 unfold Builtin.«dict.pop»
 refine wpAny_bind ?_
 unfold Builtin.Dict.keyAndDefault
 refine wpAny_bind (wpAny_notOrdered_dict r.typeIs ?_)
 refine wpAny_pure ?_
 obtain ⟨o, ho, hc, hd⟩ := id r
 dsimp only
 split
 ·refine wpAny_bind (wpAny_pure ?_)
  rw [if_neg (by decide)]
  refine wpAny_bind (wpAny_mono go ?_ fun _ _ h => h)
  rintro o' s' ⟨rfl, q⟩
  exact wpAny_bind (wpAny_letGo (wpAny_pure ⟨e.val, rfl, q⟩))
 ·refine wpAny_bind (wpAny_dictEntries ho hd (wpAny_bind (wpAny_pure ?_)))
  rw [if_neg (by rw [Array.isEmpty_iff_size_eq_zero]; omega)]
  refine wpAny_bind (wpAny_mono go ?_ fun _ _ h => h)
  rintro o' s' ⟨rfl, q⟩
  exact wpAny_bind (wpAny_letGo (wpAny_pure ⟨e.val, rfl, q⟩))
theorem zIa (r : RawD s.heap d es ep) (hz : es.size <= sizeLine) {Q : Value -> Shared -> Prop} (h : ∀ h', RawD h' d #[] (ep + 1) -> Heap.SameBut d s.heap h' -> Q .none { s with heap := h' }) :
  wpAny (model prog w) A (call (.builtin "dict.clear") [.ref d]) Q E s := by
 refine wpAny_call_entry PySem.F.slot_dict_clear r.typeIs PySem.F.entry_dict_clear ?_ (PySem.F.args_dict_clear_1 _)
 obtain ⟨o, ho, hc, hdat⟩ := id r
 unfold Builtin.«dict.clear»
 refine wpAny_bind ?_
 unfold Builtin.Dict.noArgs
 refine wpAny_bind (wpAny_notOrdered_dict r.typeIs ?_)
 refine wpAny_pure ?_
 refine wpAny_bind (wpAny_dictEntries ho hdat ?_)
 refine wpAny_bind ?_
 unfold bearsInstanceDictMark
 refine wpAny_bind (wpAny_load ho (wpAny_pure ?_))
 refine wpAny_bind (wpAny_updateDictKeys (hz := hz) ho hdat ?_)
 have hnew : RawD (s.heap.update d (Obj.mapDictKeys fun _ => #[])) d #[] (ep + 1) := ⟨_, Heap.get?_update_self _ ho (Obj.isFreed_of_dict (Obj.data_mapDictKeys hdat _)), hc.mapDictKeys _, Obj.data_mapDictKeys hdat _⟩
 split
 ·exact wpAny_bind (wpAny_letGo (wpAny_pure ⟨.none, rfl, h _ hnew (Heap.SameBut.update ..)⟩))
 ·exact wpAny_bind (wpAny_pure (wpAny_pure ⟨.none, rfl, h _ hnew (Heap.SameBut.update ..)⟩))
end
end PySem
namespace PySem
section
variable {prog : Program} {w : World} {A : Around} {E : Value -> Shared -> Prop} {s : Shared} {es : Array DictEntry} {d it : Addr} {ep i : Nat}
theorem RawD.at {h h' : Heap} (r : RawD h d es ep) (k : ∀ o, h.get? d = some o -> h'.get? d = some o) : RawD h' d es ep := let ⟨o, ho, c⟩ := r; ⟨o, k o ho, c⟩
theorem zKF (r : RawD s.heap d es ep) (hd : (d == sysModules) = false) {Q : Value -> Shared -> Prop}
  (hQ : ∀ h', h'.IsKeyIter s.heap.objs.size d 0 es.size ep -> h'.objs.size = s.heap.objs.size + 1 -> (∀ b o, s.heap.get? b = some o -> h'.get? b = some o) -> Q (.ref s.heap.objs.size) { s with heap := h' }) : wpAny (model prog w) A (pyIter (.ref d)) Q E s := by
 obtain ⟨o, ho, hc, hdat⟩ := id r
 refine wpAny_pyIter_slot r.typeIs F.slot_dict_iter (wpAny_call_entry F.slot_dict_iter r.typeIs F.entry_dict_iter ?_ (F.args_dict_iter_1 _))
 unfold Builtin.«dict.__iter__»
 refine wpAny_bind ?_
 unfold Builtin.Dict.dictSlotNone
 refine wpAny_bind (wpAny_notOrdered_dict r.typeIs (wpAny_pure ?_))
 show wpAny _ _ (Builtin.Dict.showsAll d >>= _) _ _ s
 refine wpAny_bind ?_
 unfold Builtin.Dict.showsAll
 rw [hd, if_neg (by decide)]
 refine wpAny_pure ?_
 refine wpAny_bind (wpAny_dictEntries ho hdat ?_)
 refine wpAny_bind (wpAny_dictEpoch ho hdat ?_)
 exact wpAny_bind (wpAny_newObj_type (wpAny_pure ⟨_, rfl, "dict_keyiterator", _, ⟨_, Heap.get?_push_size _ rfl, rfl⟩, F.slot_dict_keyiterator_next.lookup, hQ _ ⟨_, Heap.get?_push_size _ rfl, rfl, rfl⟩ (Heap.size_push ..) fun b o e => Heap.get?_push_of_some _ e⟩))
theorem zKM (hit : s.heap.IsKeyIter it d i es.size ep) (r : RawD s.heap d es ep) {e : DictEntry} (hx : es[i]? = some e) {Q : Option Value -> Shared -> Prop}
  (hQ : ∀ h', h'.IsKeyIter it d (i + 1) es.size ep -> Heap.SameBut it s.heap h' -> Q (some e.key) { s with heap := h' }) : wpAny (model prog w) A (pyNext (.ref it)) Q E s := by
 obtain ⟨oi, hoi, hci, hdi⟩ := id hit
 obtain ⟨o, ho, hc, hdat⟩ := id r
 unfold pyNext
 refine wpAny_bind (wpAny_attempt (wpAny_callSpecial?_slot (name := Str.ofString "__next__") hit.typeIs F.slot_dict_keyiterator_next
  (wpAny_call_entry F.slot_dict_keyiterator_next hit.typeIs F.entry_dict_keyiterator_next ?_ (F.args_dict_keyiterator_next_1 _))))
 refine wpAny_bind (wpAny_pure ?_)
 refine wpAny_bind (wpAny_bind ?_)
 first | refine wpAny_bind (wpAny_typeNameOfWhole_keyiter hit.typeIs (wpAny_pure ?_)) | refine wpAny_bind (wpAny_typeNameOf_keyiter hit.typeIs (wpAny_pure ?_))
 refine wpAny_bind (wpAny_fieldsOf hoi hdi ?_)
 simp only [show Builtin.Dict_items.ownsTuple "dict_keyiterator" = false by decide, Bool.false_eq_true, if_false]
 show wpAny _ _ (if (Value.ref d == Value.none) = true then _ else _) _ _ s
 rw [if_neg (c := (Value.ref d == Value.none) = true) Bool.false_ne_true]
 refine wpAny_bind (wpAny_pure (wpAny_bind (wpAny_dictEntries ho hdat ?_)))
 rw [if_neg (by simp)]
 refine wpAny_bind (wpAny_pure (wpAny_bind (wpAny_dictEpoch ho hdat ?_)))
 rw [if_neg (by simp)]
 refine wpAny_pure ?_
 simp only [show ¬ ((i : Int) < 0) from by omega, if_false, Int.toNat_natCast, hx]
 refine wpAny_bind ?_
 first | refine wpAny_bind (wpAny_typeNameOfWhole_keyiter hit.typeIs (wpAny_pure ?_)) | refine wpAny_bind (wpAny_typeNameOf_keyiter hit.typeIs (wpAny_pure ?_))
 refine wpAny_bind (wpAny_isOneOf_keyiter hit.typeIs ?_)
 show wpAny _ _ (setField (.ref it) 1 (rawInt ((i : Int) + 1)) >>= _) _ _ s
 refine wpAny_bind (wpAny_setField hoi hdi (by simp) ?_)
 have hit' : (s.heap.update it (Obj.mapFields (·.setIfInBounds 1 (rawInt ((i : Int) + 1))))).IsKeyIter it d (i + 1) es.size ep :=
  ⟨_, Heap.get?_update_self _ hoi (Obj.isFreed_of_fields (Obj.data_mapFields hdi _)), (Obj.cls_mapFields ..).trans hci, by rw [Obj.data_mapFields hdi]; simp [rawInt]⟩
 refine wpAny_bind (wpAny_holding ?_)
 refine wpAny_bind (wpAny_isOneOf_keyiter (s := { s with heap := s.heap.update it (Obj.mapFields (·.setIfInBounds 1 (rawInt ((i : Int) + 1)))) }) hit'.typeIs ?_)
 show wpAny _ _ (pure e.key) _ _ _
 exact wpAny_pure (wpAny_pure ⟨_, rfl, wpAny_pure (hQ _ hit' (Heap.SameBut.update ..))⟩)
theorem zK8 (hh : A.handled = none) (hit : s.heap.IsKeyIter it d es.size es.size ep) (r : RawD s.heap d es ep) {Q : Option Value -> Shared -> Prop}
  (hQ : ∀ h', Heap.ExtBut it s.heap h' -> Q none { s with heap := h' }) : wpAny (model prog w) A (pyNext (.ref it)) Q E s := by
 obtain ⟨oi, hoi, hci, hdi⟩ := id hit
 obtain ⟨o, ho, hc, hdat⟩ := id r
 unfold pyNext
 refine wpAny_bind (wpAny_attempt (wpAny_callSpecial?_slot (name := Str.ofString "__next__") hit.typeIs F.slot_dict_keyiterator_next
  (wpAny_call_entry F.slot_dict_keyiterator_next hit.typeIs F.entry_dict_keyiterator_next ?_ (F.args_dict_keyiterator_next_1 _))))
 refine wpAny_bind (wpAny_pure ?_)
 refine wpAny_bind (wpAny_bind ?_)
 first | refine wpAny_bind (wpAny_typeNameOfWhole_keyiter hit.typeIs (wpAny_pure ?_)) | refine wpAny_bind (wpAny_typeNameOf_keyiter hit.typeIs (wpAny_pure ?_))
 refine wpAny_bind (wpAny_fieldsOf hoi hdi ?_)
 simp only [show Builtin.Dict_items.ownsTuple "dict_keyiterator" = false by decide, Bool.false_eq_true, if_false]
 show wpAny _ _ (if (Value.ref d == Value.none) = true then _ else _) _ _ s
 rw [if_neg (c := (Value.ref d == Value.none) = true) Bool.false_ne_true]
 refine wpAny_bind (wpAny_pure (wpAny_bind (wpAny_dictEntries ho hdat ?_)))
 rw [if_neg (by simp)]
 refine wpAny_bind (wpAny_pure (wpAny_bind (wpAny_dictEpoch ho hdat ?_)))
 rw [if_neg (by simp)]
 refine wpAny_pure ?_
 simp only [show ¬ ((es.size : Int) < 0) from by omega, if_false, Int.toNat_natCast, Array.getElem?_eq_none (Nat.le_refl es.size)]
 refine wpAny_bind ?_
 first | refine wpAny_bind (wpAny_typeNameOfWhole_keyiter hit.typeIs (wpAny_pure ?_)) | refine wpAny_bind (wpAny_typeNameOf_keyiter hit.typeIs (wpAny_pure ?_))
 show wpAny _ _ (setField (.ref it) 0 .none >>= _) _ _ s
 refine wpAny_bind (wpAny_setField hoi hdi (by simp) ?_)
 show wpAny _ _ (newExc (.type "StopIteration") [] >>= _) _ _ _
 refine wpAny_bind ?_
 simp only [newExc, newTuple]
 refine wpAny_bind (wpAny_newObj_type ?_ (by size_fits))
 refine wpAny_bind (m := firstArgMember _ _) (wpAny_of_eq (a := Value.none) (by first | rfl | (simp only [firstArgMember]; rfl)) ?_)
 refine wpAny_newObj_type ?_ (by size_fits)
 simp only [raiseNew]
 refine wpAny_bind (wpAny_handled ?_)
 rw [show A.in1.handled = none from hh]
 refine wpAny_bind (wpAny_pure (wpAny_throw ?_))
 refine wpAny_bind (wpAny_isInstance (T := "StopIteration") (b := true) ⟨_, Heap.get?_push_size _ rfl, rfl⟩ isSubtype_stop ?_)
 exact wpAny_pure (hQ _ (((Heap.SameBut.update ..).extBut.push _).push _))
end
theorem Walks.dkeys {prog : Program} {w : World} {A : Around} (hh : A.handled = none) (I d : Addr) (hne : d ≠ I) (es : Array DictEntry) (ep : Nat) :
  Walks prog w A I [I, d] [I] es.size (fun i v => ∃ e, es[i]? = some e /\ v = e.key) (fun i h => h.IsKeyIter I d i es.size ep /\ RawD h d es ep) where
 sub := fun b hb => by simp at hb; simp [hb]
 frame := fun _ _ _ x hk => ⟨let ⟨o, e, c⟩ := x.1; ⟨o, hk I (by simp) o e, c⟩, x.2.at fun o e => hk d (by simp) o e⟩
 item := fun i s Q E hi x hQ => by
  have ei := Array.getElem?_eq_getElem hi
  exact zKM x.1 x.2 ei fun h' hit' hs' => hQ _ h' s.toks ⟨_, ei, rfl⟩ ⟨hit', x.2.at fun o e => hs'.extBut d o hne e⟩ fun b o hb e => hs'.extBut b o (fun h => hb (by simp [h])) e
 done := fun s Q E x hQ => zK8 hh x.1 x.2 fun h' he' => hQ h' s.toks fun b o hb e => he' b o (fun h => hb (by simp [h])) e
 self := fun _ _ _ _ x hQ => wpAny_pyIter_keyiter x.1 hQ
section
variable {prog : Program} {w : World} {A : Around} {E : Value -> Shared -> Prop} {s : Shared} {es : Array DictEntry} {d : Addr} {ep : Nat} {R : Result -> Shared -> Prop}
theorem zGI (hh : A.in1.handled = none) (r : RawD s.heap d es ep) (hd : (d == sysModules) = false) (hz : es.size <= sizeLine) (S : Addr) (res : Value) (c₀ : Nat) (hSd : S ≠ d)
  (hS : s.heap.get? S = some { cls := .type "list", data := .seq #[] c₀ })
  (hR : ∀ s' acc' c', (∀ b o, b ≠ S -> s.heap.get? b = some o -> s'.heap.get? b = some o) -> s'.gens = s.gens -> s'.drawn = s.drawn -> s'.os = s.os -> s'.heap.get? S = some { cls := .type "list", dict := none, data := .seq acc' c', slots := #[] } ->
   ItemsOf (fun i v => ∃ e, es[i]? = some e /\ v = e.key) acc' es.size -> R (.ok (.ret res)) s') :
  wpAny (model prog w) A.in1 (Builtin.List.listExtendWith (.ref S) (.ref d) res)
   (fun fin s' => match fin with | .done f => R (.ok f) s' | .again c' => c'.quiet = true /\ codeAny (model prog w) A c' R s') (fun e s' => R (.error e) s') s := by
 have hT := r.typeIs
 unfold Builtin.List.listExtendWith
 refine wpAny_bind (wpAny_typeOf hT ?_)
 have h1 : Builtin.List.listSameRef (.ref S) (.ref d) = false := by simp [Builtin.List.listSameRef, hSd]
 have h2 : (Value.type "dict" == Value.type "list") = false := by decide
 have h3 : (Value.type "dict" == Value.type "tuple") = false := by decide
 simp only [h1, h2, h3, Bool.or_false, Bool.false_eq_true, if_false]
 refine wpAny_bind (zKF r hd fun h1 hit hsz1 kp1 => ?_)
 have hdI : d ≠ s.heap.objs.size := by
  obtain ⟨o, ho, _⟩ := r
  exact Nat.ne_of_lt (Heap.lt_size ho)
 have hSI : S ≠ s.heap.objs.size := Nat.ne_of_lt (Heap.lt_size hS)
 have W := (Walks.dkeys (prog := prog) (w := w) (A := A.in1) hh s.heap.objs.size d hdI es ep).toS
 have r1 : RawD h1 d es ep := r.at fun o e => kp1 _ _ e
 have hS1 := kp1 _ _ hS
 have hSf : S ∉ [s.heap.objs.size, d] := by simp [hSI, hSd]
 refine wpAny_bind (wpAny_holding ?_)
 unfold Builtin.List.listLengthHint
 refine wpAny_bind (wpAny_specialOf (s := { s with heap := h1 }) r1.typeIs F.slot_dict_len.lookup ?_)
 (generalize hid : ("dict.__len__" : String) = id0; (fail_if_success (clear hid id0)); wp_delta; rw [show splitId id0 = some ("dict", "__len__") from by subst hid; decide +kernel]; subst hid)
 refine wpAny_bind (wpAny_isInstance (b := true) (s := { s with heap := h1 }) r1.typeIs (by rw [isSubtype_type]; kernel_rfl) ?_)
 show wpAny _ _ (if (!true) = true then _ else _) _ _ _
 rw [if_neg (by decide)]
 show wpAny _ _ (ite (_ = true) _ _) _ _ _
 rw [if_pos (by decide +kernel)]
 ·refine wpAny_bind (wpAny_typeOf (s := { s with heap := h1 }) r1.typeIs ?_)
  refine wpAny_pure ?_
  have fini : ∀ s' : Shared, Moved (S :: [s.heap.objs.size]) (fun a b => b = a) { s with heap := h1 } s' -> (∀ b o, b ≠ S -> s.heap.get? b = some o -> s'.heap.get? b = some o) /\ s'.gens = s.gens /\ s'.drawn = s.drawn /\ s'.os = s.os := fun s' hm =>
   ⟨fun b o hb e => hm.heap b o (by simp [hb, Nat.ne_of_lt (Heap.lt_size e)]) (kp1 _ _ e), hm.gens, hm.drawn, hm.os⟩
  split
  ·refine wpAny_bind (wpAny_rule ?_)
   refine wpAny_bind ?_
   unfold Builtin.List.listTouch
   refine wpAny_bind (wpAny_updateSeq (s := { s with heap := h1 }) hS1 rfl ?_)
   have hS₂ := Heap.get?_update_self (Obj.mapSeq (·.push Value.none)) hS1 rfl
   refine wpAny_updateSeq (hz := by seq_fits) hS₂ rfl ?_
   have hS₃ := Heap.get?_update_self (Obj.mapSeq (·.pop)) hS₂ rfl
   have oth : ∀ b o, b ≠ S -> h1.get? b = some o -> ((h1.update S (Obj.mapSeq (·.push Value.none))).update S (Obj.mapSeq (·.pop))).get? b = some o :=
    fun b o hb e => (Heap.get?_update_other _ _ (Ne.symm hb)).trans ((Heap.get?_update_other _ _ (Ne.symm hb)).trans e)
   refine wpAny_pure ⟨plainId_quiet F.plain_extend_loop _, codeAny_extend_loopS W hz _ hSf _ es.size 0 _ _ _ rfl (Nat.zero_le _)
    (W.frame 0 { s with heap := h1 } _ s.toks ⟨hit, r1⟩ (Nat.le_refl _) fun b hb o e => oth b o (fun h => hSf (h ▸ hb)) e) hS₃ (ItemsOf.nil _) fun s' acc' c' hm hS' hacc => ?_⟩
   have m0 : Moved (S :: [s.heap.objs.size]) (fun a b => b = a) { s with heap := h1 } { s with heap := (h1.update S (Obj.mapSeq (·.push Value.none))).update S (Obj.mapSeq (·.pop)) } :=
    ⟨fun b o hb e => oth b o (fun h => hb (by simp [h])) e, rfl, rfl, rfl, Nat.le_refl _⟩
   obtain ⟨f1, f2, f3, f4⟩ := fini s' (Moved.trans W.gtrans m0 hm)
   exact hR s' acc' c' f1 f2 f3 f4 hS' hacc
  ·refine wpAny_pure ⟨plainId_quiet F.plain_extend_loop _, codeAny_extend_loopS W hz _ hSf _ es.size 0 _ _ _ rfl (Nat.zero_le _) ⟨hit, r1⟩ hS1 (ItemsOf.nil _) fun s' acc' c' hm hS' hacc => ?_⟩
   obtain ⟨f1, f2, f3, f4⟩ := fini s' hm
   exact hR s' acc' c' f1 f2 f3 f4 hS' hacc
theorem zKV (hh : A.in1.handled = none) (r : RawD s.heap d es ep) (hd : (d == sysModules) = false) (hz : es.size <= sizeLine) (S : Addr) (hSd : S ≠ d) (hS : s.heap.get? S = some { cls := .type "list", data := .seq #[] })
  (hR : ∀ s' acc' c', (∀ b o, b ≠ S -> s.heap.get? b = some o -> s'.heap.get? b = some o) -> s'.gens = s.gens -> s'.drawn = s.drawn -> s'.os = s.os -> s'.heap.get? S = some { cls := .type "list", dict := none, data := .seq acc' c', slots := #[] } ->
   ItemsOf (fun i v => ∃ e, es[i]? = some e /\ v = e.key) acc' es.size -> R (.ok (.ret .none)) s') :
  wpAny (model prog w) A.in1 (Builtin.«list.__init__» ⟨[.ref S, .ref d], []⟩)
   (fun fin s' => match fin with | .done f => R (.ok f) s' | .again c' => c'.quiet = true /\ codeAny (model prog w) A c' R s') (fun e s' => R (.error e) s') s := by
 unfold Builtin.«list.__init__»
 dsimp only
 rw [if_neg (by decide), if_neg (by simp)]
 refine wpAny_bind ?_
 unfold Builtin.List.listItems
 refine wpAny_bind (wpAny_seqItems hS rfl (wpAny_pure ?_))
 refine wpAny_bind (wpAny_updateSeq hS rfl ?_)
 have hS₂ := Heap.get?_update_self (Obj.mapSeq (fun _ => (#[] : Array Value))) hS rfl
 have oth : ∀ b o, b ≠ S -> s.heap.get? b = some o -> (s.heap.update S (Obj.mapSeq (fun _ => (#[] : Array Value)))).get? b = some o :=
  fun b o hb e => (Heap.get?_update_other _ _ (Ne.symm hb)).trans e
 refine wpAny_bind (wpAny_letGo ?_)
 exact zGI (s := { s with heap := s.heap.update S (Obj.mapSeq (fun _ => (#[] : Array Value))) }) hh (r.at fun o e => oth _ _ (Ne.symm hSd) e) hd hz S .none _ hSd hS₂ fun s' acc' c' f1 f2 f3 f4 hS' hacc =>
  hR s' acc' c' (fun b o hb e => f1 b o hb (oth b o hb e)) f2 f3 f4 hS' hacc
theorem zJh (hh : A.handled = none) (r : RawD s.heap d es ep) (hd : (d == sysModules) = false) (hz : es.size <= sizeLine) {Q : Value -> Shared -> Prop}
  (hQ : ∀ h' tk acc' c', (∀ b o, s.heap.get? b = some o -> h'.get? b = some o) -> h'.get? s.heap.objs.size = some { cls := .type "list", dict := none, data := .seq acc' c', slots := #[] } ->
   ItemsOf (fun i v => ∃ e, es[i]? = some e /\ v = e.key) acc' es.size -> Q (.ref s.heap.objs.size) { s with heap := h', toks := tk }) : wpAny (model prog w) A (call (.type "list") [.ref d]) Q E s := by
 refine callType_codes (Q₁ := fun obj s₁ => obj = .ref s.heap.objs.size /\ s₁ = { s with heap := s.heap.push { cls := .type "list", data := .seq #[] } }) F.called_list (F.typeCall_list_1 _) F.entry_list_init
  (code_list_new _ ⟨rfl, rfl⟩) fun obj s₁ h₁ => ?_
 obtain ⟨rfl, rfl⟩ := h₁
 have hS : (s.heap.push { cls := .type "list", data := .seq #[] }).get? s.heap.objs.size = some { cls := .type "list", data := .seq #[] } := Heap.get?_push_size _ rfl
 have hSd : s.heap.objs.size ≠ d := by
  obtain ⟨o, ho, _⟩ := r
  exact Nat.ne_of_gt (Heap.lt_size ho)
 refine ⟨⟨_, hS, rfl⟩, F.args_list_init_2 _ _, zKV (A := A.in1) (s := { s with heap := s.heap.push { cls := .type "list", data := .seq #[] } }) hh (r.at fun o e => Heap.get?_push_of_some _ e) hd hz _ hSd hS fun s' acc' c' f1 f2 f3 f4 hS' hacc => ?_⟩
 have q := hQ s'.heap s'.toks acc' c' (fun b o e => f1 b o (Nat.ne_of_lt (Heap.lt_size e)) (Heap.get?_push_of_some _ e)) hS' hacc
 have es : s' = { s with heap := s'.heap, toks := s'.toks } := by
  cases s'
  simp only at f2 f3 f4
  subst f2 f3 f4
  rfl
 rw [es]
 exact ⟨rfl, q⟩
end
end PySem
namespace L2
open PySem PySem.Spec PyProof.Rows
mutual
def Kd.hsh (w : World) : Kd -> Int
 | .num i => hashInt i
 | .txt x => hashStr w x
 | .tup ks => reduceHash (Builtin.Tuple.tupleHashOf (Kd.hshL w ks))
def Kd.hshL (w : World) : List Kd -> List Int
 | [] => []
 | k :: r => k.hsh w :: Kd.hshL w r
end
theorem Kd.hshL_snoc (w : World) (k : Kd) : ∀ ks : List Kd, Kd.hshL w (ks ++ [k]) = Kd.hshL w ks ++ [k.hsh w]
 | [] => by show Kd.hshL w [k] = _; unfold Kd.hshL Kd.hshL; rfl
 | j :: r => by show Kd.hshL w (j :: (r ++ [k])) = _; unfold Kd.hshL; rw [Kd.hshL_snoc w k r]; rfl
def TK (H : Hp) (ks : List Kd) (us : List Value) : Prop := ∃ vs, IsKs H ks vs /\ Vals vs us
theorem TK.cons_inv {H : Hp} {ks : List Kd} {u : Value} {us : List Value} (t : TK H ks (u :: us)) : ∃ k kr x, ks = k :: kr /\ IsK H k x /\ RelV x u /\ TK H kr us := by
 obtain ⟨vs, h, r⟩ := t
 cases r with
 | @cons x _ xr _ rx rr =>
  cases ks with
  | nil => unfold IsKs at h; cases h
  | cons k kr =>
   unfold IsKs at h
   obtain ⟨v, vr, e, h1, h2⟩ := h
   obtain ⟨rfl, rfl⟩ := List.cons.inj e
   exact ⟨k, kr, x, rfl, h1, rx, xr, h2, rr⟩
theorem TK.nil_inv {H : Hp} {ks : List Kd} (t : TK H ks []) : ks = [] := by
 obtain ⟨vs, h, r⟩ := t
 cases r
 cases ks with
 | nil => rfl
 | cons k kr => unfold IsKs at h; obtain ⟨v, vr, e, _⟩ := h; cases e
section
variable {X : Cx} {pins : List (Addr × Obj)} {σ : St} {H : Hp} {s : Shared}
theorem zMZ (I : Inv X pins σ H s) : ∀ (n : Nat) {k : Kd} {x : V} {u : Value} {A : Around}, k.deep <= n -> IsK H k x -> RelV x u -> A.units + n < cLine ->
  ∀ (E : Value -> Shared -> Prop) (Q : Int -> Shared -> Prop) tk, (∀ tk', Q (k.hsh X.w) { s with toks := tk' }) -> wpAny (model X.prog X.w) A (pyHash u) Q E { s with toks := tk } := by
 intro n
 induction n with
 | zero =>
  intro k x u A hd hk rx hu E Q tk h
  cases k with
  | num i => unfold IsK at hk; subst hk; obtain ⟨t, rfl⟩ := rx; unfold Kd.hsh at h; exact wpAny_pyHash_int (h _)
  | txt i => unfold IsK at hk; subst hk; obtain ⟨t, rfl⟩ := rx; unfold Kd.hsh at h; exact wpAny_pyHash_str (h _)
  | tup ks => unfold Kd.deep at hd; omega
 | succ n ih =>
  intro k x u A hd hk rx hu E Q tk h
  cases k with
  | num i => exact ih (by unfold Kd.deep; omega) hk rx (by omega) E Q tk h
  | txt i => exact ih (by unfold Kd.deep; omega) hk rx (by omega) E Q tk h
  | tup ks =>
   unfold IsK at hk; obtain ⟨a, vs, rfl, ha, _, hks⟩ := hk; cases rx
   obtain ⟨its, r1, ⟨o, ho, hc, m, hdt⟩, _⟩ := I.tuple (SqT.of ha)
   have hT : ({ s with toks := tk } : Shared).TypeIs (.ref a) "tuple" := ⟨o, ho, hc⟩
   unfold Kd.deep at hd
   have hdk : ∀ j ∈ ks, j.deep <= n := fun j hj => Nat.le_trans (Kd.deep_le hj) (by omega)
   unfold pyHash
   first | unfold pyHashByItsType | skip
   first | refine wpAny_bind (wpAny_cRoomFor_or (.inr (by omega)) ?_) | skip
   refine wpAny_bind (wpAny_specialOf hT F.slot_tuple_hash.lookup ?_)
   show wpAny _ _ (if (some (Value.builtin "tuple.__hash__") == some Value.none) = true then _ else _) Q E _
   rw [if_neg (by rw [beq_builtin_none]; exact Bool.false_ne_true)]
   refine wpAny_bind (wpAny_specialOf hT F.slot_tuple_hash.lookup ?_)
   show wpAny _ _ (callSpecialIfBoundUnlessNone? (.ref a) "__hash__" _ >>= _) Q E _
   refine wpAny_bind (wpAny_callSpecialIfBoundUnlessNone?_slot hT F.slot_tuple_hash (wpAny_call_entry F.slot_tuple_hash hT F.entry_tuple_hash ?_ (F.args_tuple_hash_1 _)))
   show wpAny _ _ (Builtin.Tuple.tupleItemsOf (.ref a) >>= _) _ _ _
   refine wpAny_bind (wpAny_tupleItemsOf (s := { s with toks := tk }) ho hdt ?_)
   refine wpAny_bind ?_
   rw [← Array.forIn_toList]
   refine wpAny_forIn_list _ (fun YL (b : Array Int) s' => ∃ dn lf, ks = dn ++ lf /\ TK H lf YL /\ b.toList = Kd.hshL X.w dn /\ ∃ t, s' = { s with toks := t }) _ ?_ ?_ _ _ ⟨[], ks, rfl, ⟨vs, hks, by simpa using r1⟩, by unfold Kd.hshL; rfl, tk, rfl⟩
   ·rintro y YL b s' ⟨dn, lf, e1, t1, hb, t, rfl⟩
    obtain ⟨k, kr, x, rfl, hk, rx, t2⟩ := t1.cons_inv
    refine wpAny_bind (ih (hdk k (by rw [e1]; simp)) hk rx (by show A.units + 1 + n < cLine; omega) _ _ t fun t' => ?_)
    first
     | exact wpAny_pure ⟨dn ++ [k], kr, by rw [e1]; simp, t2, by rw [Kd.hshL_snoc]; simp [hb], t', rfl⟩
     | exact wpAny_bind (wpAny_pure (wpAny_pure ⟨dn ++ [k], kr, by rw [e1]; simp, t2, by rw [Kd.hshL_snoc]; simp [hb], t', rfl⟩))
   ·rintro b s' ⟨dn, lf, e1, t1, hb, t, rfl⟩
    have e2 := t1.nil_inv
    subst e2
    rw [List.append_nil] at e1
    subst e1
    show wpAny _ _ (retInt (Builtin.Tuple.tupleHashOf b.toList)) _ _ _
    rw [hb]
    refine wpAny_ret_mkInt ?_
    unfold Kd.hsh reduceHash at h
    generalize Builtin.Tuple.tupleHashOf (Kd.hshL X.w ks) = z at h
    show wpAny _ _ (if (decide (-(2 : Int) ^ 63 <= z) && decide (z < 2 ^ 63)) = true then _ else _) Q E _
    split
    ·rename_i hr
     rw [if_pos hr] at h
     exact wpAny_pure (h _)
    ·rename_i hr
     rw [if_neg hr] at h
     exact wpAny_bind (wpAny_rule (wpAny_pure (h _)))
theorem zFy (I : Inv X pins σ H s) : ∀ (n : Nat) {k : Kd} {x : V} {u : Value} {A : Around}, k.deep <= n -> IsK H k x -> RelV x u ->
  ∀ (E : Value -> Shared -> Prop) (Q : Bool -> Shared -> Prop) tk, Q true { s with toks := tk } -> wpAny (model X.prog X.w) A (eqIsQuiet n u) Q E { s with toks := tk } := by
 intro n
 induction n with
 | zero =>
  intro k x u A hd hk rx E Q tk h
  cases k with
  | num i => unfold IsK at hk; subst hk; obtain ⟨t, rfl⟩ := rx; rw [eqIsQuiet_byValue _ rfl]; exact wpAny_pure h
  | txt i => unfold IsK at hk; subst hk; obtain ⟨t, rfl⟩ := rx; rw [eqIsQuiet_byValue _ rfl]; exact wpAny_pure h
  | tup ks => unfold Kd.deep at hd; omega
 | succ n ih =>
  intro k x u A hd hk rx E Q tk h
  cases k with
  | num i => unfold IsK at hk; subst hk; obtain ⟨t, rfl⟩ := rx; rw [eqIsQuiet_byValue _ rfl]; exact wpAny_pure h
  | txt i => unfold IsK at hk; subst hk; obtain ⟨t, rfl⟩ := rx; rw [eqIsQuiet_byValue _ rfl]; exact wpAny_pure h
  | tup ks =>
   unfold IsK at hk; obtain ⟨a, vs, rfl, ha, _, hks⟩ := hk; cases rx
   obtain ⟨its, r1, ⟨o, ho, hc, m, hdt⟩, _⟩ := I.tuple (SqT.of ha)
   have hT : ({ s with toks := tk } : Shared).TypeIs (.ref a) "tuple" := ⟨o, ho, hc⟩
   unfold Kd.deep at hd
   have hdk : ∀ j ∈ ks, j.deep <= n := fun j hj => Nat.le_trans (Kd.deep_le hj) (by omega)
   unfold eqIsQuiet
   refine wpAny_bind (wpAny_specialOf hT F.slot_tuple_eq.lookup ?_)
   show wpAny _ _ (isInstance (.ref a) (.type "tuple") >>= _) _ _ _
   refine wpAny_bind (wpAny_isInstance hT isSubtype_tuple_tuple ?_)
   rw [if_neg (by decide)]
   refine wpAny_bind (wpAny_seqItems (s := { s with toks := tk }) ho hdt ?_)
   refine wpAny_bind ?_
   show wpAny _ _ (forIn its.toArray _ _) _ _ _
   rw [← Array.forIn_toList]
   refine wpAny_forIn_list _ (fun YL r s' => r.1 = none /\ s' = { s with toks := tk } /\ ∃ lf, (∀ j ∈ lf, j.deep <= n) /\ TK H lf YL) _ ?_ ?_ _ _ ⟨rfl, rfl, ks, hdk, vs, hks, by simpa using r1⟩
   ·rintro y YL r s' ⟨hr, rfl, lf, hl, t1⟩
    obtain ⟨k, kr, x, rfl, hk, rx, t2⟩ := t1.cons_inv
    refine wpAny_bind (ih (hl k List.mem_cons_self) hk rx _ _ tk ?_)
    rw [if_neg (by decide)]
    exact wpAny_pure ⟨rfl, rfl, kr, fun j hj => hl j (List.mem_cons_of_mem _ hj), t2⟩
   ·rintro ⟨r1, r2⟩ s' ⟨hr, rfl, _⟩
    simp only at hr
    subst hr
    exact wpAny_pure h
end
end L2
namespace L2
open PySem PySem.Spec PyProof.Rows
abbrev En := Kd × V × V
def EnR (w : World) (p : En) (e : DictEntry) : Prop := e.hash = p.1.hsh w /\ RelV p.2.1 e.key /\ RelV p.2.2 e.val
def dko (w : World) (a : Addr) (ps : List En) : HO := .ext fun h => ps.length <= sizeLine /\ (a == sysModules) = false /\ ∃ es ep, RawD h a es ep /\ Paired (EnR w) ps es.toList
structure EnOk (H : Hp) (ps : List En) : Prop where
 is : ∀ p ∈ ps, IsK H p.1 p.2.1 /\ p.1.deep <= 6
 nd : (ps.map (·.1)).Nodup
theorem EnOk.nil {H : Hp} : EnOk H [] := ⟨fun p h => (by cases h), List.nodup_nil⟩
theorem EnOk.same {H H' : Hp} {ps : List En} (h : EnOk H ps) (s : TupS H H') : EnOk H' ps := ⟨fun p hp => ⟨(h.is p hp).1.same s, (h.is p hp).2⟩, h.nd⟩
def atE (ps : List En) (k : Kd) : Option V := (ps.find? fun p => decide (p.1 = k)).map (·.2.2)
def Yi (ps : List En) (k : Kd) (x v : V) : List En := if k ∈ ps.map (·.1) then ps.map (fun p => if p.1 = k then (p.1, p.2.1, v) else p) else ps ++ [(k, x, v)]
def Zu (ps : List En) (k : Kd) : List En := ps.filter fun p => decide (p.1 ≠ k)
theorem JX {X : Cx} {pins : List (Addr × Obj)} {σ : St} {H : Hp} {s : Shared} {a : Addr} {ps : List En} (I : Inv X pins σ H s) (e : H a = some (dko X.w a ps)) :
  ps.length <= sizeLine /\ (a == sysModules) = false /\ ∃ es ep, RawD s.heap a es ep /\ Paired (EnR X.w) ps es.toList := (I.hok a _ e).1
theorem zBV {P : Program} {w w' : World} {H : Hp} {h : Heap} {a : Addr} {ps : List En} {es : Array DictEntry} {ep : Nat} (z : ps.length <= sizeLine) (hd : (a == sysModules) = false) (r : RawD h a es ep) (pr : Paired (EnR w) ps es.toList) : ObjOk P w' H h a (dko w a ps) :=
 ⟨⟨z, hd, es, ep, r, pr⟩, let ⟨o, ho, _⟩ := r; ⟨o, ho⟩, fun h1 h2 ⟨z, hd, es, ep, r, pr⟩ k => ⟨z, hd, es, ep, r.at k, pr⟩⟩
theorem Paired.getR {α β : Type} {R : α -> β -> Prop} : ∀ {ps : List α} {es : List β} {i : Nat} {e : β}, Paired R ps es -> es[i]? = some e -> ∃ p, ps[i]? = some p /\ R p e
 | _, _, _, _, .nil, h => by simp at h
 | _, _, 0, _, .cons r _, h => by simp at h; subst h; exact ⟨_, rfl, r⟩
 | _, _, i + 1, e, .cons _ t, h => by
  obtain ⟨p, h1, h2⟩ := Paired.getR (i := i) (e := e) t (by simpa using h)
  exact ⟨p, by simpa using h1, h2⟩
theorem Paired.getL {α β : Type} {R : α -> β -> Prop} : ∀ {ps : List α} {es : List β} {i : Nat} {p : α}, Paired R ps es -> ps[i]? = some p -> ∃ e, es[i]? = some e /\ R p e
 | _, _, _, _, .nil, h => by simp at h
 | _, _, 0, _, .cons r _, h => by simp at h; subst h; exact ⟨_, rfl, r⟩
 | _, _, i + 1, p, .cons _ t, h => by
  obtain ⟨e, h1, h2⟩ := Paired.getL (i := i) (p := p) t (by simpa using h)
  exact ⟨e, by simpa using h1, h2⟩
theorem Paired.snoc {α β : Type} {R : α -> β -> Prop} {p : α} {e : β} (r : R p e) : ∀ {ps : List α} {es : List β}, Paired R ps es -> Paired R (ps ++ [p]) (es ++ [e])
 | _, _, .nil => .cons r .nil
 | _, _, .cons q t => .cons q (Paired.snoc r t)
theorem Paired.modi {α β : Type} {R : α -> β -> Prop} {f : α -> α} {g : β -> β} (hf : ∀ p e, R p e -> R (f p) (g e)) : ∀ {ps : List α} {es : List β} (i : Nat), Paired R ps es -> Paired R (ps.modify i f) (es.modify i g)
 | _, _, _, .nil => by simp; exact .nil
 | _, _, 0, .cons q t => .cons (hf _ _ q) t
 | _, _, i + 1, .cons q t => .cons q (Paired.modi hf i t)
theorem Paired.eras {α β : Type} {R : α -> β -> Prop} : ∀ {ps : List α} {es : List β} (i : Nat), Paired R ps es -> Paired R (ps.eraseIdx i) (es.eraseIdx i)
 | _, _, _, .nil => .nil
 | _, _, 0, .cons q t => t
 | _, _, i + 1, .cons q t => .cons q (Paired.eras i t)
theorem zAj {ps : List En} {i : Nat} {p : En} (h : ps[i]? = some p) : p.1 ∈ ps.map (·.1) := List.mem_map.mpr ⟨p, List.mem_of_getElem? h, rfl⟩
theorem zES : ∀ {ps : List En} {i : Nat} {p : En}, (ps.map (·.1)).Nodup -> ps[i]? = some p -> atE ps p.1 = some p.2.2
 | [], i, p, _, h => by simp at h
 | q :: r, 0, p, _, h => by simp at h; subst h; simp [atE]
 | q :: r, i + 1, p, hn, h => by
  have h' : r[i]? = some p := by simpa using h
  rw [List.map_cons, List.nodup_cons] at hn
  have hne : ¬ q.1 = p.1 := fun e => hn.1 (e ▸ zAj h')
  have := zES hn.2 h'
  simpa [atE, List.find?_cons, hne] using this
theorem zIJ {k : Kd} {v : V} : ∀ {ps : List En}, ¬ k ∈ ps.map (·.1) -> ps.map (fun p => if p.1 = k then (p.1, p.2.1, v) else p) = ps
 | [], _ => rfl
 | q :: r, h => by
  rw [List.map_cons, List.mem_cons, not_or] at h
  rw [List.map_cons, if_neg (fun e => h.1 e.symm), zIJ h.2]
theorem zBC {k : Kd} {x v : V} : ∀ {ps : List En} {i : Nat} {p : En}, (ps.map (·.1)).Nodup -> ps[i]? = some p -> p.1 = k -> ps.modify i (fun p => (p.1, p.2.1, v)) = ps.map (fun p => if p.1 = k then (p.1, p.2.1, v) else p)
 | [], i, p, _, h, _ => by simp at h
 | q :: r, 0, p, hn, h, e => by
  rw [List.map_cons, List.nodup_cons] at hn
  have h0 : q = p := by simpa using h
  subst h0
  rw [List.map_cons, if_pos e, zIJ (e ▸ hn.1)]
  rfl
 | q :: r, i + 1, p, hn, h, e => by
  rw [List.map_cons, List.nodup_cons] at hn
  have h' : r[i]? = some p := by simpa using h
  have hne : ¬ q.1 = k := fun z => hn.1 (z.trans e.symm ▸ zAj h')
  rw [List.map_cons, if_neg hne]
  show q :: r.modify i _ = _
  rw [zBC (x := x) hn.2 h' e]
theorem zHP {k : Kd} {ps : List En} (h : ¬ k ∈ ps.map (·.1)) : Zu ps k = ps := List.filter_eq_self.mpr fun p hp => decide_eq_true fun e => h (e ▸ List.mem_map.mpr ⟨p, hp, rfl⟩)
theorem Ju {k : Kd} : ∀ {ps : List En} {i : Nat} {p : En}, (ps.map (·.1)).Nodup -> ps[i]? = some p -> p.1 = k -> ps.eraseIdx i = Zu ps k
 | [], i, p, _, h, _ => by simp at h
 | q :: r, 0, p, hn, h, e => by
  rw [List.map_cons, List.nodup_cons] at hn
  have h0 : q = p := by simpa using h
  subst h0
  show r = List.filter _ (q :: r)
  rw [List.filter_cons, if_neg (by simp [e])]
  exact (zHP (e ▸ hn.1)).symm
 | q :: r, i + 1, p, hn, h, e => by
  rw [List.map_cons, List.nodup_cons] at hn
  have h' : r[i]? = some p := by simpa using h
  have hne : ¬ q.1 = k := fun z => hn.1 (z.trans e.symm ▸ zAj h')
  show q :: r.eraseIdx i = List.filter _ (q :: r)
  rw [List.filter_cons, if_pos (by simp [hne]), Ju hn.2 h' e]
  rfl
theorem zIX {ps : List En} {k : Kd} {x v : V} : (Yi ps k x v).length <= ps.length + 1 := by
 unfold Yi
 split <;> simp
theorem zF9 {ps : List En} {k : Kd} : (Zu ps k).length <= ps.length := List.length_filter_le _ _
theorem zF5 {ps : List En} {k : Kd} {x v : V} : (Yi ps k x v).map (·.1) = if k ∈ ps.map (·.1) then ps.map (·.1) else ps.map (·.1) ++ [k] := by
 unfold Yi
 split
 ·rw [List.map_map]
  refine List.map_congr_left fun p _ => ?_
  show (if p.1 = k then (p.1, p.2.1, v) else p).1 = p.1
  split <;> rfl
 ·simp
theorem zEc {ps : List En} {k : Kd} : (Zu ps k).map (·.1) = (ps.map (·.1)).filter fun j => decide (j ≠ k) := by
 unfold Zu
 induction ps with
 | nil => rfl
 | cons p r ih =>
  rw [List.filter_cons, List.map_cons, List.filter_cons]
  split
  ·rw [List.map_cons, ih]
  ·exact ih
theorem EnOk.put {H : Hp} {ps : List En} {k : Kd} {x v : V} (h : EnOk H ps) (hk : IsK H k x) (hd : k.deep <= 6) : EnOk H (Yi ps k x v) := by
 refine ⟨fun p hp => ?_, ?_⟩
 ·unfold Yi at hp
  split at hp
  ·obtain ⟨q, hq, rfl⟩ := List.mem_map.mp hp
   have := h.is q hq
   split <;> exact this
  ·rcases List.mem_append.mp hp with hp | hp
   ·exact h.is p hp
   ·rw [List.mem_singleton.mp hp]; exact ⟨hk, hd⟩
 ·rw [zF5]
  split
  ·exact h.nd
  ·rename_i hn
   exact zFj h.nd hn
theorem EnOk.drop {H : Hp} {ps : List En} {k : Kd} (h : EnOk H ps) : EnOk H (Zu ps k) :=
 ⟨fun p hp => h.is p (List.mem_filter.mp hp).1, by rw [zEc]; exact List.filter_sublist.nodup h.nd⟩
section
variable {X : Cx} {pins : List (Addr × Obj)} {σ : St} {H : Hp} {s : Shared} {ps : List En} {es : Array DictEntry} {k : Kd} {x : V} {u : Value} {A : Around}
def bE (ps : List En) (k : Kd) : Nat -> Bool := fun i => (ps[i]?.map fun p => decide (p.1 = k)).getD false
theorem Ww {i : Nat} {p : En} (h : ps[i]? = some p) : bE ps k i = decide (p.1 = k) := by unfold bE; rw [h]; rfl
theorem zAq (I : Inv X pins σ H s) (hu : A.units + 8 < cLine) (ok : EnOk H ps) (pr : Paired (EnR X.w) ps es.toList) (hk : IsK H k x) (hd : k.deep <= 6) (rx : RelV x u) : KeyAt X.prog X.w A s es u (k.hsh X.w) (bE ps k) := by
 have gt : ∀ {i e}, es[i]? = some e -> ∃ p, ps[i]? = some p /\ EnR X.w p e /\ IsK H p.1 p.2.1 /\ p.1.deep <= 6 := fun {i e} h => by
  obtain ⟨p, h1, h2⟩ := Paired.getR pr (i := i) (e := e) (by simpa using h)
  exact ⟨p, h1, h2, ok.is p (List.mem_of_getElem? h1)⟩
 have mm : ∀ {e}, e ∈ es -> ∃ i, es[i]? = some e := fun {e} h => by
  obtain ⟨i, hi⟩ := List.mem_iff_getElem?.mp (Array.mem_toList_iff.mpr h)
  exact ⟨i, by simpa using hi⟩
 refine ⟨fun i e tk h => ?_, fun i e h hb => ?_, fun i j hi hj h1 h2 => ?_, fun E Q tk h => zFy I 8 (by omega) hk rx E Q tk h, fun e he E Q tk h => ?_, fun e he h1 h2 => ?_, ?_, fun E Q tk h => zMZ I 6 hd hk rx (by omega) E Q tk h⟩
 ·obtain ⟨p, h1, h2, h3, h4⟩ := gt h
  rw [Ww h1]
  have z := zG4 (I.tok tk) 6 (A := A) h4 h3 hk h2.2.1 rx (by omega)
  rw [Kd.eqb_dec] at z
  exact z
 ·obtain ⟨p, h1, h2, h3, h4⟩ := gt h
  rw [Ww h1] at hb
  rw [h2.1, of_decide_eq_true hb]
 ·obtain ⟨p, p1, _⟩ := gt (Array.getElem?_eq_getElem hi)
  obtain ⟨q, q1, _⟩ := gt (Array.getElem?_eq_getElem hj)
  rw [Ww p1] at h1
  rw [Ww q1] at h2
  have e1 : (ps.map (·.1))[i]? = some k := by rw [List.getElem?_map, p1, ← of_decide_eq_true h1]; rfl
  have e2 : (ps.map (·.1))[j]? = some k := by rw [List.getElem?_map, q1, ← of_decide_eq_true h2]; rfl
  exact (List.getElem?_inj (List.getElem?_eq_some_iff.mp e1).1 ok.nd).mp (e1.trans e2.symm)
 ·obtain ⟨i, hi⟩ := mm he
  obtain ⟨p, h1, h2, h3, h4⟩ := gt hi
  exact zFy I 8 (by omega) h3 h2.2.1 E Q tk h
 ·obtain ⟨i, hi⟩ := mm he
  obtain ⟨p, p1, p2, p3, p4⟩ := gt hi
  have e1 : p.2.1 = x := RelV.inj (h1 ▸ p2.2.1) rx
  rw [p2.1, Kd.eqb_eq (p3.inj (e1 ▸ hk))]
 ·cases k with
  | num i => unfold IsK at hk; subst hk; obtain ⟨t, rfl⟩ := rx; exact .inl ⟨i, t, rfl⟩
  | txt y =>
   unfold IsK at hk; subst hk; obtain ⟨t, rfl⟩ := rx
   refine .inr (.inl ⟨y, t, rfl, fun i e he hs => ?_⟩)
   obtain ⟨p, p1, p2, p3, p4⟩ := gt he
   rw [Ww p1]
   have hr := p2.2.1
   obtain ⟨⟨pk, px, pv⟩, rfl⟩ : ∃ q, q = p := ⟨p, rfl⟩
   dsimp only at p3 hr ⊢
   cases pk with
   | num j => unfold IsK at p3; subst p3; obtain ⟨t', e'⟩ := hr; rw [e'] at hs; cases hs
   | txt z =>
    unfold IsK at p3; subst p3; obtain ⟨t', e'⟩ := hr; rw [e']
    rw [← Kd.eqb_dec]
    unfold Kd.eqb
    rfl
   | tup ls => unfold IsK at p3; obtain ⟨b, ws, rfl, _⟩ := p3; rw [show e.key = Value.ref b from hr] at hs; cases hs
  | tup ks => unfold IsK at hk; obtain ⟨b, ws, rfl, _⟩ := hk; cases rx; exact .inr (.inr ⟨b, rfl⟩)
end
section
variable {X : Cx}
def zIP (w : World) : TE := fun _ H Q => ∀ p, H p = none -> Q (.ref p) (upd H p (dko w p []))
theorem zKP {pos : Pos} : PE X (.Dict [] [] pos) (zIP X.w) := fun pins s σ H Q I h =>
 wpAny_Dict_empty ⟨.ref s.heap.objs.size, _, I.laid (a := s.heap.objs.size) (o := dko X.w s.heap.objs.size []) (t' := s.toks) (fun _ _ q => Heap.get?_push_of_some _ q) (Nat.le_refl _)
  (zBV (Nat.zero_le _) (beq_eq_false_iff_ne.mpr (Ne.symm (Nat.ne_of_lt I.big))) ⟨_, Heap.get?_push_size _ rfl, ⟨rfl, rfl, rfl⟩, rfl⟩ .nil), rfl, h _ (I.hok.fresh (Nat.le_refl _))⟩
theorem zMD {ps : List En} {es : Array DictEntry} {k : Kd} {w : World} (pr : Paired (EnR w) ps es.toList) (h : ∀ i, i < es.size -> bE ps k i = false) : ¬ k ∈ ps.map (·.1) := fun hm => by
 obtain ⟨p, hp, e⟩ := List.mem_map.mp hm
 obtain ⟨i, hi⟩ := List.mem_iff_getElem?.mp hp
 obtain ⟨e', he, _⟩ := Paired.getL pr hi
 have hl : i < es.size := by
  have := (List.getElem?_eq_some_iff.mp he).1
  simpa using this
 have := h i hl
 rw [Ww hi, decide_eq_true e] at this
 cases this
theorem zLj {ps : List En} {es : Array DictEntry} {k : Kd} {w : World} {i : Nat} {e : DictEntry} (pr : Paired (EnR w) ps es.toList) (hi : es[i]? = some e) (h : bE ps k i = true) : ∃ p, ps[i]? = some p /\ p.1 = k /\ EnR w p e := by
 obtain ⟨p, p1, p2⟩ := Paired.getR pr (i := i) (e := e) (by simpa using hi)
 rw [Ww p1] at h
 exact ⟨p, p1, of_decide_eq_true h, p2⟩
theorem RawD.there {h : Heap} {d : Addr} {es : Array DictEntry} {ep : Nat} (r : RawD h d es ep) : ∃ q, h.get? d = some q := let ⟨o, ho, _⟩ := r; ⟨o, ho⟩
def zMR (w : World) : zIm := fun o x v H Q => ∃ a ps k, o = .ref a /\ H a = some (dko w a ps) /\ EnOk H ps /\ IsK H k x /\ k.deep <= 6 /\ ps.length < sizeLine /\ Q (upd H a (dko w a (Yi ps k x v)))
theorem zKZ (hu : X.A.units + 64 < cLine) : zJ7 X (zMR X.w) := by
 intro pins s σ H o x v ov iv u Q I ro rx rv h
 obtain ⟨a, ps, k, rfl, e, ok, hk, hd, hl, q⟩ := h
 cases ro
 obtain ⟨z, hm, es, ep, r, pr⟩ := JX I e
 have hes : es.size = ps.length := by have := Paired.length pr; simpa using this.symm
 have z' : (Yi ps k x v).length <= sizeLine := Nat.le_trans zIX hl
 refine zEd (zAq I (by show X.A.units + 1 + 8 < cLine; omega) ok pr hk hd rx) r (by omega) (fun h h' tk r' hs => ⟨_, zAZ I (by rw [e]; exact True.intro) hs (RawD.there r') (zBV z' hm r' ?_), q⟩) fun i e' ei hb h' tk r' hs => ⟨_, zAZ I (by rw [e]; exact True.intro) hs (RawD.there r') (zBV z' hm r' ?_), q⟩
 ·unfold Yi
  rw [if_neg (zMD pr h), Array.toList_push]
  exact Paired.snoc ⟨rfl, rx, rv⟩ pr
 ·obtain ⟨p, p1, p2, _⟩ := zLj pr ei hb
  unfold Yi
  rw [if_pos (p2 ▸ zAj p1), ← zBC (x := x) ok.nd p1 p2, Array.toList_modify]
  exact Paired.modi (fun p e ⟨h1, h2, _⟩ => ⟨h1, h2, rv⟩) i pr
def zL1 (w : World) : V -> List V -> Hp -> VK -> Prop := fun o vs H Q => ∃ a ps k x v, o = .ref a /\ vs = [x] /\ H a = some (dko w a ps) /\ EnOk H ps /\ IsK H k x /\ k.deep <= 6 /\ atE ps k = some v /\ Q v (upd H a (dko w a (Zu ps k)))
theorem zHo {ps : List En} {k : Kd} {v : V} (h : atE ps k = some v) : ∃ (i : Nat) (p : En), ps[i]? = some p /\ p.1 = k /\ p.2.2 = v := by
 unfold atE at h
 cases hf : ps.find? (fun p => decide (p.1 = k)) with
 | none => rw [hf] at h; cases h
 | some p =>
  rw [hf] at h
  obtain ⟨i, hi⟩ := List.mem_iff_getElem?.mp (List.mem_of_find?_eq_some hf)
  have hp : decide (p.1 = k) = true := List.find?_some (p := fun p : En => decide (p.1 = k)) hf
  exact ⟨i, p, hi, of_decide_eq_true hp, Option.some.inj h⟩
theorem zFB (hu : X.A.units + 64 < cLine) : MtR X "dict.pop" (zL1 X.w) := by
 intro pins s σ H o vs ov us Q I ro rv h
 obtain ⟨a, ps, k, x, v, rfl, rfl, e, ok, hk, hd, hv, q⟩ := h
 cases ro
 obtain ⟨u, rfl, rx⟩ := rv.one
 obtain ⟨z, hm, es, ep, r, pr⟩ := JX I e
 have hes : es.size = ps.length := by have := Paired.length pr; simpa using this.symm
 obtain ⟨i, p, p1, p2, p3⟩ := zHo hv
 obtain ⟨en, h1, h2⟩ := Paired.getL pr p1
 have h1' : es[i]? = some en := by simpa using h1
 refine zLD (zAq I (by show X.A.units + 1 + 8 < cLine; omega) ok pr hk hd rx) r (by omega) h1' (by rw [Ww p1]; exact decide_eq_true p2) fun h' tk r' hs => ⟨v, _, zAZ I (by rw [e]; exact True.intro) hs (RawD.there r') (zBV (Nat.le_trans zF9 z) hm r' ?_), p3 ▸ h2.2.2, q⟩
 rw [← Ju ok.nd p1 p2, Array.toList_eraseIdxIfInBounds]
 exact Paired.eras i pr
def zJO (w : World) : V -> List V -> Hp -> VK -> Prop := fun o vs H Q => ∃ a ps, o = .ref a /\ vs = [] /\ H a = some (dko w a ps) /\ Q .non (upd H a (dko w a []))
theorem zGD : MtM X "dict.clear" (zJO X.w) := by
 intro pins s σ H o vs ov us Q I ro rv h
 obtain ⟨a, ps, rfl, rfl, e, q⟩ := h
 cases ro
 have hus := rv.zero
 subst hus
 obtain ⟨z, hm, es, ep, r, pr⟩ := JX I e
 have hes : es.size = ps.length := by have := Paired.length pr; simpa using this.symm
 exact zIa r (by omega) fun h' r' hs => ⟨.non, _, zAZ (t' := s.toks) I (by rw [e]; exact True.intro) hs (RawD.there r') (zBV (Nat.zero_le _) hm r' .nil), rfl, q⟩
def zHX (w : World) : List V -> Hp -> VK -> Prop := fun vs H Q => ∃ a ps, vs = [.ref a] /\ H a = some (dko w a ps) /\ ∀ l, H l = none -> Q (.ref l) (upd H l (.lst (ps.map (·.2.1))))
theorem zAx (hc : X.calm = true) : WK X (.type "list") (zHX X.w) := by
 intro pins s σ H vs us Q I rv h
 obtain ⟨a, ps, rfl, e, q⟩ := h
 obtain ⟨u, rfl, rx⟩ := rv.one
 cases rx
 obtain ⟨z, hm, es, ep, r, pr⟩ := JX I e
 have hes : es.size = ps.length := by have := Paired.length pr; simpa using this.symm
 refine zJh (I.ok.hd hc) r hm (by omega) fun h' tk acc c kp hl ha => ⟨.ref _, _, I.laid (o := .lst (ps.map (·.2.1))) kp (Nat.le_refl _) ⟨by rw [List.length_map]; exact z, acc.toList, c, ?_, by rw [hl]⟩, rfl, q _ (I.hok.fresh (Nat.le_refl _))⟩
 have key : ∀ (ps : List En) (es us : List _), Paired (EnR X.w) ps es -> us.length = es.length -> (∀ (i : Nat) u, us[i]? = some u -> ∃ e, es[i]? = some e /\ u = DictEntry.key e) -> Vals (ps.map (·.2.1)) us := by
  intro ps es us pr
  induction pr generalizing us with
  | nil => intro hl _; cases us with
   | nil => exact .nil
   | cons u r => cases hl
  | @cons p e pr' er r t ih => intro hl hu; cases us with
   | nil => cases hl
   | cons u us =>
    refine .cons ?_ (ih us (by simpa using hl) fun i u h => by simpa using hu (i + 1) u (by simpa using h))
    obtain ⟨e', h1, h2⟩ := hu 0 u rfl
    cases h1
    rw [h2]
    exact r.2.1
 refine key ps es.toList acc.toList pr (by simpa using ha.1) fun i u hu => ?_
 obtain ⟨e', h1, h2⟩ := ha.2 i u (by simpa using hu)
 exact ⟨e', by simpa using h1, h2⟩
theorem zER {pins : List (Addr × Obj)} {σ : St} {H : Hp} {s : Shared} {a : Addr} {ps : List En} (I : Inv X pins σ H s) (e : H a = some (dko X.w a ps)) : s.TypeIs (.ref a) "dict" /\ ∀ b, Value.ref a = .ref b -> ∃ ob, s.heap.get? b = some ob /\ ob.dict = none := by
 obtain ⟨_, _, es, ep, ⟨o, ho, hc, hd⟩, _⟩ := JX I e
 exact ⟨⟨o, ho, hc.1⟩, fun b q => by cases q; exact ⟨o, ho, hc.2.1⟩⟩
def zLd (w : World) (r : V -> List V -> Hp -> VK -> Prop) (to : TE) : TE := fun σ H Q => to σ H fun x H1 => (∃ a ps, x = .ref a /\ H1 a = some (dko w a ps)) /\ r x [] H1 Q
def tKM (w : World) (r : V -> List V -> Hp -> VK -> Prop) (to : TE) (t : TA) : TE := fun σ H Q => to σ H fun x H1 => (∃ a ps, x = .ref a /\ H1 a = some (dko w a ps)) /\ t σ H1 fun xs H2 => r x xs H2 Q
variable {o e : Expr} {es : List Expr} {to : TE} {t : TA} {name : Str} {apos cpos : Pos} {id : String} {r : V -> List V -> Hp -> VK -> Prop}
theorem zLb (slot : Slot "dict" name id) (hty : typeOf (.builtin id) = pure (.type "method_descriptor")) (hm : MtR X id r) (ho : PE X o to)
  (hbase : attributeBase o name X.env (eval o X.env) = eval o X.env := by rfl) (hline : (apos.endLine == cpos.line) = true := by rfl) : PE X (.Call (.Attribute o name apos) [] [] cpos) (zLd X.w r to) := by
 intro pins s σ H Q I h
 refine wpAny_Call_method0_late hbase hline (thn (ho pins s σ H _ I h) fun v s1 ⟨x, H1, I1, r1, ⟨a, ps, ex, ea⟩, q1⟩ => ?_)
 subst ex
 cases r1
 obtain ⟨h1, h2⟩ := zER I1 ea
 exact ⟨"dict", id, PySem.F.plainAttrs_dict, slot, hty, h1, h2, Calls.callWith_builtin rfl (PySem.evalArgs_none (hm pins s1 σ H1 (.ref a) [] _ [] Q I1 rfl .nil q1))⟩
theorem zKn (slot : Slot "dict" name id) (hty : typeOf (.builtin id) = pure (.type "method_descriptor")) (hm : MtR X id r) (ho : PE X o to) (ha : PA X (e :: es) t)
  (hbase : attributeBase o name X.env (eval o X.env) = eval o X.env := by rfl)
  (hfew : ((backTo cpos (starEach (e :: es) X.env)).all (fun x => !x.1) && (backToKw cpos (keywordEach [] X.env)).all (fun x => x.1.isSome)
   && decide ((e :: es).length + ([] : List Keyword).length + (if ([] : List Keyword).isEmpty then 0 else 1) < 30)) = true := by rfl)
  (hline : (apos.endLine == cpos.line) = true := by rfl) (hs : starEach (e :: es) X.env = (false, eval e X.env) :: starEach es X.env := by rfl) (hplain : (backTo cpos (starEach es X.env)).any (·.1) = false := by rfl) :
  PE X (.Call (.Attribute o name apos) (e :: es) [] cpos) (tKM X.w r to t) := by
 intro pins s σ H Q I h
 refine wpAny_Call_method_late hbase hfew hline rfl (thn (ho pins s σ H _ I h) fun v s1 ⟨x, H1, I1, r1, ⟨a, ps, ex, ea⟩, q1⟩ => ?_)
 subst ex
 cases r1
 obtain ⟨h1, h2⟩ := zER I1 ea
 refine ⟨"dict", id, PySem.F.plainAttrs_dict, slot, hty, h1, h2, ?_⟩
 have hA := ha cpos pins s1 σ H1 _ I1 q1
 rw [hs] at hA ⊢
 refine Calls.callWith_builtin (by show (false || (backTo cpos (starEach es X.env)).any (·.1)) = false; rw [hplain] <;> rfl) (Calls.evalArgs_plain ?_)
 exact thn hA fun us s2 ⟨vs, H2, I2, r2, q2⟩ => hm pins s2 σ H2 (.ref a) vs _ us Q I2 rfl r2 q2
def zDp (w : World) (td ty : TE) : TE := fun σ H Q => td σ H fun x H1 => ty σ H1 fun y H2 => ∃ a ps k v, x = .ref a /\ H2 a = some (dko w a ps) /\ EnOk H2 ps /\ IsK H2 k y /\ k.deep <= 6 /\ atE ps k = some v /\ Q v H2
theorem zJa {i : Expr} {pos : Pos} {td ty : TE} (hu : X.A.units + 64 < cLine) (ho : PE X o td) (hi : PE X i ty) (hs : zKw i) : PE X (.Subscript o i pos) (zDp X.w td ty) := by
 intro pins s σ H Q I h
 refine zI7 PySem.F.slot_dict_getitem.lookup hs (thn (ho pins s σ H _ I h) fun u s1 ⟨x, H1, I1, rx, q1⟩ => thn (hi pins s1 σ H1 _ I1 q1) fun iv s2 ⟨y, H2, I2, ry, a, ps, k, v, ex, e, ok, hk, hd, hv, q2⟩ => ?_)
 subst ex
 obtain rfl : u = Value.ref a := rx
 obtain ⟨z, hm, es, ep, r, pr⟩ := JX I2 e
 obtain ⟨j, p, p1, p2, p3⟩ := zHo hv
 obtain ⟨en, h1, h2⟩ := Paired.getL pr p1
 exact ⟨(zER I2 e).1, zKN (zAq I2 (by show X.A.units + 1 + 8 < cLine; omega) ok pr hk hd ry) r (by simpa using h1) (by rw [Ww p1]; exact decide_eq_true p2) fun tk => ⟨v, H2, I2.tok tk, p3 ▸ h2.2.2, q2⟩⟩
end
end L2
namespace L2
open PySem PySem.Spec PyProof.Rows
theorem zHH {ps : List En} {k : Kd} (h : k ∈ ps.map (·.1)) : ∃ v, atE ps k = some v := by
 obtain ⟨p, hp, e⟩ := List.mem_map.mp h
 unfold atE
 cases hf : ps.find? (fun p => decide (p.1 = k)) with
 | none => exact absurd (decide_eq_true e) (List.find?_eq_none.mp hf p hp)
 | some q => exact ⟨_, rfl⟩
theorem EnOk.kos {H : Hp} {ps : List En} (h : EnOk H ps) : IsKos H ((ps.map (·.1)).map some) (ps.map (·.2.1)) := by
 have key : ∀ qs : List En, (∀ p ∈ qs, IsK H p.1 p.2.1) -> IsKos H ((qs.map (·.1)).map some) (qs.map (·.2.1)) := by
  intro qs
  induction qs with
  | nil => exact fun _ => IsKos.nil
  | cons q r ih => exact fun hq => zD8 (show IsKo H (some q.1) q.2.1 from hq q List.mem_cons_self) (ih fun p hp => hq p (List.mem_cons_of_mem _ hp))
 exact key ps fun p hp => (h.is p hp).1
end L2
namespace L2
open PySem PySem.Spec PyProof.Rows
def Lf3 (x : V) : Prop := (∃ i, x = .int i) \/ (∃ z, x = .str z) \/ x = .non
def Sm : Nat -> Hp -> V -> V -> Prop
 | 0, _, x, y => x = y /\ Lf3 x
 | d + 1, H, x, y => (x = y /\ Lf3 x) \/ ∃ a b xs ys, x = .ref a /\ y = .ref b /\ H a = some (.tup xs) /\ H b = some (.tup ys) /\ xs.length = ys.length /\ xs.length <= 1000 /\ ∀ (i : Nat) u v, xs[i]? = some u -> ys[i]? = some v -> Sm d H u v
theorem Sm.leaf {d : Nat} {H : Hp} {x : V} (h : Lf3 x) : Sm d H x x := by
 cases d with
 | zero => exact ⟨rfl, h⟩
 | succ d => exact .inl ⟨rfl, h⟩
theorem Sm.same {H H' : Hp} (t : TupS H H') : ∀ {d : Nat} {x y : V}, Sm d H x y -> Sm d H' x y
 | 0, _, _, h => h
 | d + 1, _, _, h => by
  rcases h with h | ⟨a, b, xs, ys, e1, e2, h1, h2, h3, h4, h5⟩
  ·exact .inl h
  ·exact .inr ⟨a, b, xs, ys, e1, e2, t _ _ h1, t _ _ h2, h3, h4, fun i u v hu hv => (h5 i u v hu hv).same t⟩
theorem Sm.up {H : Hp} : ∀ {d : Nat} {x y : V}, Sm d H x y -> Sm (d + 1) H x y
 | 0, _, _, h => .inl h
 | d + 1, _, _, h => by
  rcases h with h | ⟨a, b, xs, ys, e1, e2, h1, h2, h3, h4, h5⟩
  ·exact .inl h
  ·exact .inr ⟨a, b, xs, ys, e1, e2, h1, h2, h3, h4, fun i u v hu hv => (h5 i u v hu hv).up⟩
theorem IsK.sm {H : Hp} : ∀ {d : Nat} {k : Kd} {x y : V}, IsK H k x -> IsK H k y -> k.deep <= d -> Sm d H x y := by
 intro d
 induction d with
 | zero =>
  intro k x y hx hy hd
  cases k with
  | num i => unfold IsK at hx hy; rw [hx, hy]; exact .leaf (.inl ⟨i, rfl⟩)
  | txt z => unfold IsK at hx hy; rw [hx, hy]; exact .leaf (.inr (.inl ⟨z, rfl⟩))
  | tup ks => unfold Kd.deep at hd; omega
 | succ d ih =>
  intro k x y hx hy hd
  cases k with
  | num i => unfold IsK at hx hy; rw [hx, hy]; exact .leaf (.inl ⟨i, rfl⟩)
  | txt z => unfold IsK at hx hy; rw [hx, hy]; exact .leaf (.inr (.inl ⟨z, rfl⟩))
  | tup ks =>
   unfold Kd.deep at hd
   unfold IsK at hx hy
   obtain ⟨a, vs, rfl, ha, z1, h1⟩ := hx
   obtain ⟨b, ws, rfl, hb, z2, h2⟩ := hy
   refine .inr ⟨a, b, vs, ws, rfl, rfl, ha, hb, by rw [h1.length, h2.length], z1, fun i u v hu hv => ?_⟩
   obtain ⟨k1, e1, i1⟩ := h1.get hu
   obtain ⟨k2, e2, i2⟩ := h2.get hv
   rw [e1] at e2; cases e2
   exact ih i1 i2 (Nat.le_trans (Kd.deep_le (List.mem_of_getElem? e1)) (by omega))
theorem Paired.modAt {α β : Type} {R : α -> β -> Prop} {f : α -> α} {g : β -> β} : ∀ {ps : List α} {es : List β} (i : Nat), Paired R ps es -> (∀ p e, ps[i]? = some p -> es[i]? = some e -> R p e -> R (f p) (g e)) -> Paired R (ps.modify i f) (es.modify i g)
 | _, _, _, .nil, _ => by simp; exact .nil
 | _, _, 0, .cons q t, h => .cons (h _ _ rfl rfl q) t
 | _, _, i + 1, .cons q t, h => .cons q (Paired.modAt i t fun p e h1 h2 => h p e (by simpa using h1) (by simpa using h2))
theorem zB6 {α β : Type} : ∀ {os : List (Option Kd)} {l : List α} {m : List β}, l.length = os.length -> m.length = os.length -> (Qo os l).zip (Qo os m) = Qo os (l.zip m)
 | [], [], [], _, _ => rfl
 | o :: os, x :: l, y :: m, h1, h2 => by
  have ih := zB6 (os := os) (l := l) (m := m) (by simpa using h1) (by simpa using h2)
  cases o with
  | none => exact ih
  | some k => exact congrArg (List.cons (x, y)) ih
theorem zGB {os : List (Option Kd)} {ms : List Int} {hs : List V} (h1 : hs.length = os.length) (h2 : ms.length = os.length) : Yt (Qd os) (Qo os ms) (Qo os hs) = Yt os ms hs := by
 unfold Yt
 rw [zB6 h2 h1]
 exact Jh (by rw [List.length_zip]; omega)
end L2
namespace L2
open PySem PySem.Spec PyProof.Rows
structure Wk where
 dx : Addr
 pt : Addr
 bk : Bool
 st : Bool
 ov : Bool
 la : Int
 ca : Int
 we : Int
abbrev wkK : List Str := ["book", "back", "strict", "changes", "last", "over"]
def wk1 (p : Addr) : List (Str × V) := [("book", .ref p)]
def wk2 (p : Addr) (bk : Bool) : List (Str × V) := [("book", .ref p), ("back", .bl bk)]
def wk3 (p : Addr) (bk st : Bool) : List (Str × V) := [("book", .ref p), ("back", .bl bk), ("strict", .bl st)]
def wk4 (p : Addr) (bk st : Bool) (pt : Addr) : List (Str × V) := [("book", .ref p), ("back", .bl bk), ("strict", .bl st), ("changes", .ref pt)]
def wk5 (p : Addr) (bk st : Bool) (pt : Addr) (la : Int) : List (Str × V) := [("book", .ref p), ("back", .bl bk), ("strict", .bl st), ("changes", .ref pt), ("last", .int la)]
def wkF (p : Addr) (bk st : Bool) (pt : Addr) (la : Int) (ov : Bool) : List (Str × V) := [("book", .ref p), ("back", .bl bk), ("strict", .bl st), ("changes", .ref pt), ("last", .int la), ("over", .bl ov)]
section
variable {p pt : Addr} {bk st ov : Bool} {la : Int}
theorem zFM : (wkF p bk st pt la ov).lookup ("book" : Str) = some (.ref p) := by kernel_rfl
theorem zI8 : (wkF p bk st pt la ov).lookup ("back" : Str) = some (.bl bk) := by kernel_rfl
theorem zFz : (wkF p bk st pt la ov).lookup ("strict" : Str) = some (.bl st) := by kernel_rfl
theorem zEH : (wkF p bk st pt la ov).lookup ("changes" : Str) = some (.ref pt) := by kernel_rfl
theorem zJH : (wkF p bk st pt la ov).lookup ("last" : Str) = some (.int la) := by kernel_rfl
theorem zJT : (wkF p bk st pt la ov).lookup ("over" : Str) = some (.bl ov) := by kernel_rfl
theorem zH5 : (wk3 p bk st).lookup ("book" : Str) = some (.ref p) := by kernel_rfl
theorem zLf : (wk3 p bk st).lookup ("changes_now" : Str) = none := by kernel_rfl
theorem zD3 : (wk4 p bk st pt).lookup ("changes" : Str) = some (.ref pt) := by kernel_rfl
theorem zJD : Qk "book" (.ref p) [] = wk1 p := by kernel_rfl
theorem zKG : Qk "back" (.bl bk) (wk1 p) = wk2 p bk := by kernel_rfl
theorem zJF : Qk "strict" (.bl st) (wk2 p bk) = wk3 p bk st := by kernel_rfl
theorem zJ2 : (wk3 p bk st).length < 1000 := by show 3 < 1000; decide
theorem zJ3 : (wk4 p bk st pt).length < 1000 := by show 4 < 1000; decide
theorem zJJ : (wk5 p bk st pt la).length < 1000 := by show 5 < 1000; decide
theorem zJx : Qk "changes" (.ref pt) (wk3 p bk st) = wk4 p bk st pt := by kernel_rfl
theorem zJj : Qk "last" (.int la) (wk4 p bk st pt) = wk5 p bk st pt la := by kernel_rfl
theorem zI5 : Qk "over" (.bl ov) (wk5 p bk st pt la) = wkF p bk st pt la ov := by kernel_rfl
theorem zDv {q : Int} : Qk "last" (.int q) (wkF p bk st pt la ov) = wkF p bk st pt q ov := by kernel_rfl
theorem zDy {q : Bool} : Qk "over" (.bl q) (wkF p bk st pt la ov) = wkF p bk st pt la q := by kernel_rfl
theorem zL7 {m : Str} (h : wkK.contains m = false) : (wkF p bk st pt la ov).lookup m = none := Jn h
theorem zHv : (wkF p bk st pt la ov).length < 1000 := by show 6 < 1000; decide
end
structure WkAt (C : Addr) (H : Hp) (x p : Addr) (W : Wk) : Prop where
 ob : H x = some (.ins C W.dx (wkF p W.bk W.st W.pt W.la W.ov))
 ch : H W.pt = some (.tup [.int W.ca, .int W.we])
def But1 (x : Addr) (H H' : Hp) : Prop := ∀ b o, H b = some o -> b ≠ x -> H' b = some o
section
variable {C D x y p q : Addr} {H H' H2 : Hp} {W : Wk} {S : Sh}
theorem WkAt.same (A : WkAt C H x p W) (g : Same H H') : WkAt C H' x p W := ⟨g _ _ A.ob, g _ _ A.ch⟩
theorem WkAt.nept (A : WkAt C H x p W) : W.pt ≠ x := fun e => by have := A.ch; rw [e, A.ob] at this; cases this
theorem Same.but1 (g : Same H H') : But1 x H H' := fun b o e _ => g b o e
theorem But1.trans (a : But1 x H H') (b : But1 x H' H2) : But1 x H H2 := fun c o e n => b c o (a c o e n) n
theorem zFH {dx : Addr} {fs : List (Str × V)} (hx : H x = some (.ins C dx fs)) (hl : fs.length ≠ 9) (B : ShAt D H p S) : x ≠ p /\ x ≠ S.pc /\ x ≠ S.pr /\ x ≠ S.ph /\ x ≠ S.pm := by
 obtain ⟨xs, h1, _⟩ := B.hr
 refine ⟨fun z => ?_, fun z => ?_, fun z => ?_, fun z => ?_, fun z => ?_⟩
 ·rw [z, B.ob] at hx
  injection hx with hx
  injection hx with _ _ hx
  exact hl (congrArg List.length hx).symm
 ·rw [z, B.hc] at hx; cases hx
 ·rw [z, h1] at hx; cases hx
 ·rw [z, B.hh] at hx; cases hx
 ·rw [z, B.hm] at hx; cases hx
theorem zDZ {dx : Addr} {fs : List (Str × V)} (hx : H x = some (.ins C dx fs)) (b : But1 x H H') : TupS H H' := fun c xs e => b c _ e fun z => by rw [z, hx] at e; cases e
theorem ShAt.but0 {dx : Addr} {fs : List (Str × V)} (B : ShAt D H p S) (hx : H x = some (.ins C dx fs)) (hl : fs.length ≠ 9) (b : But1 x H H') : ShAt D H' p S := by
 obtain ⟨f1, f2, f3, f4, f5⟩ := zFH hx hl B
 obtain ⟨xs, h1, h2⟩ := B.hr
 exact ⟨b _ _ B.ob (Ne.symm f1), b _ _ B.hc (Ne.symm f2), ⟨xs, b _ _ h1 (Ne.symm f3), h2.same (zDZ hx b)⟩, b _ _ B.hh (Ne.symm f4), b _ _ B.hm (Ne.symm f5), B.ne, B.fm, B.s8, B.rm, B.l1, B.l2, B.dp, B.cm⟩
theorem WkAt.far (A : WkAt C H x q W) (B : ShAt D H p S) : x ≠ p /\ x ≠ S.pc /\ x ≠ S.pr /\ x ≠ S.ph /\ x ≠ S.pm := zFH A.ob (by show 6 ≠ 9; decide) B
theorem WkAt.tups (A : WkAt C H x q W) (b : But1 x H H') : TupS H H' := zDZ A.ob b
end
end L2
namespace L2
open PySem PySem.Spec PyProof.Rows
end L2
namespace L2
open PySem PySem.Spec PyProof.Rows
end L2
namespace L2
open PySem PySem.Spec PyProof.Rows
end L2
namespace L2
open PySem PySem.Spec PyProof.Rows
section
variable {X : Cx}
def JQ (z : Str) (k : Nat) : Str := ⟨(List.replicate k z.cps).foldl (· ++ ·) #[]⟩
theorem zBB (z : Str) (k : Nat) : (JQ z k).length = k * z.length := by
 show ((List.replicate k z.cps).foldl (· ++ ·) #[]).size = k * z.cps.size
 rw [zCA]
 simp
def zFJ : R2 := fun x y H Q => ∃ z k, x = .str z /\ y = .int k /\ 0 <= k /\ k <= 1000 /\ 1 <= z.length /\ z.length <= 1000 /\ Q (.str (JQ z k.toNat)) H
theorem zDA : OpR X (binaryOp .Mult) zFJ := by
 intro pins s σ H x y v u Q I rx ry h
 obtain ⟨z, k, rfl, rfl, h1, h2, h3, h4, q⟩ := h
 by_cases e : 1 <= k
 ·obtain ⟨t, rfl⟩ := rx
  obtain ⟨t', rfl⟩ := ry
  refine PySem.P.mul_str (by rw [decide_eq_false (by omega), decide_eq_false (by omega)]; rfl) (fun _ _ => ?_) (fun _ _ => ?_) ?_
  ·have h5 : (1000 : Int) * k <= 2 ^ 63 - 1 := by omega
   have : (1000 : Int) <= (2 ^ 63 - 1) / k := (Int.le_ediv_iff_mul_le (by omega)).mpr h5
   omega
  ·unfold Builtin.Str.tooLong
   have : z.length * k.toNat <= 1000 * 1000 := Nat.mul_le_mul h4 (by omega)
   simp [sizeLine]
   omega
  ·rw [if_neg (by omega)]
   by_cases e1 : k = 1
   ·subst e1
    rw [if_pos (show ((1 : Int) == 1 || z.length == 0) = true from by simp)]
    have ez : JQ z (1 : Int).toNat = z := by
     show (⟨(List.replicate 1 z.cps).foldl (· ++ ·) #[]⟩ : Str) = z
     simp [List.replicate]
    rw [ez] at q
    exact ⟨.str z, H, I, ⟨t, rfl⟩, q⟩
   ·rw [if_neg (by simp [e1]; omega)]
    refine ⟨?_, ⟨.str (JQ z k.toNat), H, I.tok _, ⟨_, rfl⟩, q⟩⟩
    show ((List.replicate k.toNat z.cps).foldl (· ++ ·) #[]).size <= sizeLine
    rw [zCA]
    have : k.toNat * z.cps.size <= 1000 * 1000 := Nat.mul_le_mul (by omega) h4
    simp [sizeLine]
    omega
 ·have e0 : k = 0 := by omega
  subst e0
  obtain ⟨t, rfl⟩ := rx
  obtain ⟨t', rfl⟩ := ry
  exact PySem.P.mul_str_none (by decide) (by decide) ⟨.str Str.empty, H, I.tok _, ⟨_, rfl⟩, q⟩
end
end L2
namespace L2
open PySem PySem.Spec PyProof.Rows
open Builtin.Int (intBits)
section
variable {X : Cx}
def zMQ (i j : Int) : Prop := intBits i <= 2 ^ 20 /\ intBits j <= 2 ^ 20
theorem zJ1 : OpR X (binaryOp .Mult) (rI zMQ fun i j => .int (i * j)) := opI fun _ _ _ _ _ _ _ hc q => mul_int q (IntMulOk.of_bits hc.1 hc.2)
end
theorem zGr {x y : Int} (hx : intBits x <= 2 ^ 20) (h : y.natAbs <= x.natAbs + 1000001 /\ (y.natAbs <= 2 ^ 40 \/ y.natAbs <= x.natAbs)) : intBits y <= 2 ^ 20 := by
 have h1 := intBits_le_iff.mp hx
 refine intBits_le_iff.mpr ?_
 have h2 : (2 : Nat) ^ 41 <= 2 ^ (2 ^ 20) := Nat.pow_le_pow_right (by decide) (by decide)
 generalize (2 : Nat) ^ (2 ^ 20) = N at h1 h2 ⊢
 rcases h.2 with z | z
 ·have : (2 : Nat) ^ 40 < 2 ^ 41 := by decide
  omega
 ·omega
end L2
namespace L2
open PySem PySem.Spec PyProof.Rows PySem.W
open Builtin.Int (intBits)
theorem zAD : ∀ (ns : List Int) (b : Nat), WData.weightAll (ns.map WData.int) <= b -> ∀ n ∈ ns, intBits n <= b
 | [], _, _, _, h => by cases h
 | i :: ns, b, h, n, hn => by
  have h' : WData.weight (WData.int i) + 1 + WData.weightAll (ns.map WData.int) <= b := h
  rcases List.mem_cons.mp hn with z | z
  ·subst z
   have e : WData.weight (WData.int n) = intBits n := rfl
   omega
  ·exact zAD ns b (by omega) n z
theorem zHr {ns : List Int} (h : WData.layableAll [WData.list (ns.map WData.int)] = true) : ∀ n ∈ ns, intBits n <= 2 ^ 20 := by
 obtain ⟨h1, h2, h3⟩ := layableW_iff.mp (layW_cons h).1
 exact zAD ns _ h3
end L2
namespace AttB
open PySem PySem.W PySem.Calls PyProof.Rows Att
theorem attach_callB {l : OpenLaw} {n : Nat} {q : Program} {loose : List Str} {XP : (Str -> Option Value) -> Heap -> Prop} {YP : World -> Heap -> Prop} {d : DefRec}
  (hn : l.most = some n) (hdf : d.params.defaults = [])
  (call : ∀ (w : World) (s₀ s₁ : Shared) (mg mb : Str -> Option Value) (fa : Addr) (o : Obj) (pm cd doc : Value) (a : Addr) (vs : List Value) (ns : List Int),
   Ground q loose [] XP w s₀ mg mb s₁.heap -> YP w s₁.heap ->
   s₁.heap.get? fa = some o -> o.data = .func (docDef d.name d.params d.body d.scope pm cd doc) -> s₁.heap.CodeRec cd d.name -> mg d.name = some (.ref fa) ->
   s₁.heap.get? a = some { cls := .type "list", data := .seq vs.toArray } -> IntsAre vs ns -> ns.length <= n -> s₁.gens = #[] -> (∀ x ∈ ns, Builtin.Int.intBits x <= 2 ^ 20) ->
   codeAny (model l.prog w) callerA (.call (.ref fa) ⟨[.ref a], []⟩) (fun r s' => r = .ok (.ret (.bool true)) /\ OldK s₁.heap s'.heap /\ s'.os = s₁.os /\ AllBare s'.gens) s₁) :
  WalkO q loose XP YP l.row.toRowW d [] (fun f vs => PySem.call f vs) := by
 intro w s₀ s₁ mg mb G Y fa o pm cd doc dV kV ho hd hcd hD hmg hg args vals as hpre hlay hrd hwl hlo
 obtain rfl : dV = .none := Dflts.none hD hdf
 obtain rfl : kV = .none := Dflts.noKw hD
 obtain ⟨a, vs, ns, rfl, rfl, hobj, hints, hlen⟩ := zGn hn hpre hwl
 refine enter_call (codeAny_mono (call w s₀ s₁ mg mb fa o pm cd doc a vs ns G Y ho (fd_plain hd) hcd hmg hobj hints hlen hg (L2.zHr hlay)) fun r s' hq => ?_)
 obtain ⟨rfl, h2, h3, h4⟩ := hq
 exact ⟨.inl ⟨.bool true, .bool true, [], rfl, fun _ => rfl, .bool true, zGL l _, fun _ => ⟨List.Pairwise.nil, fun _ hm => (nomatch hm)⟩⟩, h2, h3, h4⟩
end AttB
namespace L2
open PySem PySem.Spec PyProof.Rows
theorem zHL {l : PySem.W.OpenLaw} {n k : Nat} {q : Program} {loose : List Str} {XP : (Str -> Option Value) -> Heap -> Prop} {YP : World -> Heap -> Prop} {d : DefRec} {K : Params -> W.Frag} {CX : World -> CXT} {sp : World -> Sp} {x : Str}
  (hn : l.most = some n) (hn2 : n <= sizeLine) (hdf : d.params.defaults = []) (hr : Room k callerA)
  (hY : ∀ (w : World) (h : Heap), YP w h -> (K w.params).In h)
  (F : ∀ (w : World) (mg : Str -> Option Value) (fa : Addr) (h : Heap), (K w.params).In h -> h.Ns mainGlobals mg -> mg d.name = some (.ref fa) ->
   ∃ fd : FuncData, (∀ (s : Shared) (u : Value), BindsTo s fd ⟨[u], []⟩ [(x, u)]) /\
    ∀ base : Heap, (K w.params).In base -> base.Ns mainGlobals mg -> FnOk l.prog w (K w.params) mg base (CX w) k fa fd [x] (sp w))
  (hsp : ∀ (w : World) (H : Hp) (a : Addr) (ns : List Int), ns.length <= n -> (∀ x ∈ ns, Builtin.Int.intBits x <= 2 ^ 20) -> zLu H -> SqL (K w.params) H a (ns.map V.int) -> sp w [.ref a] H (fun v _ => v = .bl true) fun _ _ _ => False)
  (hCX : ∀ (w : World) (H : Hp) (s : Shared) (e : Value) (s' : Shared), CX w [] H s (fun _ _ _ => False) e s' -> False) :
  PySem.W.WalkO q loose XP YP l.row.toRowW d [] (fun f vs => PySem.call f vs) := by
 refine AttB.attach_callB hn hdf fun w s₀ s₁ mg mb fa o pm cd doc a vs ns G Y ho hd hcd hmg hobj hints hlen hg hbits => ?_
 have KX := hY w _ Y
 obtain ⟨fd, hb, hF⟩ := F w mg fa _ KX G.T.g hmg
 exact zI0 KX G.T.g G.T.b G.T.builtins G.T.nolimit hg hobj hints (Nat.le_trans hlen hn2) hr hF hb (fun H hO hS => hsp w H a ns hlen hbits hO hS) fun H e s' => hCX w H s₁ e s'
end L2
namespace My
open PySem L2 PyProof.Rows
def top (i : Nat) : Stmt := PySem.Challenge.pw_slotbook_k61_a_walk.main.body.getD i (.Pass ⟨0, 0, 0, 0⟩)
abbrev zBK : Stmt := top 14
abbrev Ji : Stmt := top 15
abbrev Jb : Stmt := top 16
abbrev Zq : Stmt := top 17
abbrev Zv : Stmt := top 18
abbrev JT : Stmt := top 22
abbrev zEP : Stmt := top 23
abbrev Wa : Stmt := top 24
abbrev zBY : Stmt := top 26
abbrev zC6 : Stmt := top 27
abbrev zC1 : Stmt := top 30
abbrev ZM : Stmt := top 31
abbrev Y0 : Stmt := top 32
abbrev Wi : Stmt := top 36
abbrev Y8 : Stmt := top 37
abbrev zC5 : Stmt := top 38
abbrev zAl : Stmt := top 40
abbrev WW : Stmt := top 41
abbrev zAv : Stmt := top 45
abbrev Zs : Stmt := Qf (top 43) 0
abbrev WZ : Stmt := Qf (top 43) 1
abbrev zEh : Stmt := Qf (top 43) 2
abbrev zCq : Stmt := Qf (top 43) 6
abbrev ZP : Stmt := Qf (top 43) 7
abbrev Wb : Stmt := Qf (top 43) 8
abbrev zCo : Stmt := Qf (top 43) 9
abbrev zAi : Stmt := Qf (top 43) 12
abbrev zA9 : Stmt := Qf (top 43) 11
abbrev Jk : Stmt := Qf (top 43) 15
abbrev Wc : Stmt := Qf (top 43) 16
abbrev zBD : Stmt := Qf (top 43) 17
abbrev Y5 : Stmt := Qf (top 43) 18
abbrev zCx : Stmt := Qf (top 43) 19
abbrev zBJ : Stmt := Qf (top 43) 22
abbrev Yd : Stmt := Qf (top 43) 20
abbrev ZL : Stmt := Qf (top 43) 21
abbrev Zt : Stmt := Qf (top 47) 0
abbrev Ye : Stmt := Qf (top 47) 1
abbrev ZG : Stmt := Qf (top 47) 2
abbrev Yc : Stmt := Qf (top 9) 0
abbrev Zj : Stmt := Qf (top 9) 1
abbrev YO : Stmt := Qf (top 9) 2
abbrev YI : Stmt := Qf (top 9) 3
abbrev Wf : Stmt := top 49
abbrev zC0 : Stmt := top 50
abbrev Jt : Stmt := top 51
abbrev Zk : Stmt := top 52
abbrev zC2 : Stmt := top 53
abbrev zCP : Stmt := top 54
abbrev Je : Stmt := top 55
abbrev JB : Stmt := top 56
set_option genInjectivity false in
set_option genSizeOfSpec false in
structure Ad where
 f_is_key : Addr
 d_is_key : FuncData
 f_checked : Addr
 d_checked : FuncData
 f_is_part : Addr
 d_is_part : FuncData
 f_are_parts : Addr
 d_are_parts : FuncData
 f_is_number : Addr
 d_is_number : FuncData
 f_is_size : Addr
 d_is_size : FuncData
 f_room : Addr
 d_room : FuncData
 f_size_for : Addr
 d_size_for : FuncData
 f_stride : Addr
 d_stride : FuncData
 f_probe : Addr
 d_probe : FuncData
 f_stamp : Addr
 d_stamp : FuncData
 f_text_stamp : Addr
 d_text_stamp : FuncData
 f_tuple_stamp : Addr
 d_tuple_stamp : FuncData
 f_cells_of : Addr
 d_cells_of : FuncData
 f_first_empty : Addr
 d_first_empty : FuncData
 f_paper : Addr
 d_paper : FuncData
 f_is_end : Addr
 d_is_end : FuncData
 f_place_of : Addr
 d_place_of : FuncData
 f_packed : Addr
 d_packed : FuncData
 f_H__init__ : Addr
 d_H__init__ : FuncData
 f_Hlay_out : Addr
 d_Hlay_out : FuncData
 f_Hput : Addr
 d_Hput : FuncData
 f_Htake : Addr
 d_Htake : FuncData
 f_Htake_last : Addr
 d_Htake_last : FuncData
 f_Hemptied : Addr
 d_Hemptied : FuncData
 f_Hmany : Addr
 d_Hmany : FuncData
 f_Hahead : Addr
 d_Hahead : FuncData
 f_Hafter : Addr
 d_Hafter : FuncData
 f_Hcounts : Addr
 d_Hcounts : FuncData
 f_Hentries : Addr
 d_Hentries : FuncData
 f_Hplace : Addr
 d_Hplace : FuncData
 f_Hsure_place : Addr
 d_Hsure_place : FuncData
 f_Hcome : Addr
 d_Hcome : FuncData
 f_Hwrite : Addr
 d_Hwrite : FuncData
 f_Hsize_emptied : Addr
 d_Hsize_emptied : FuncData
 f_Hmake_room : Addr
 d_Hmake_room : FuncData
 f_T__init__ : Addr
 d_T__init__ : FuncData
 f_Tsize_emptied : Addr
 d_Tsize_emptied : FuncData
 f_Tmake_room : Addr
 d_Tmake_room : FuncData
 f_Walk___init__ : Addr
 d_Walk___init__ : FuncData
 f_Walk_step : Addr
 d_Walk_step : FuncData
 f_Walk_next_entry : Addr
 d_Walk_next_entry : FuncData
 f_Walk_changes_now : Addr
 d_Walk_changes_now : FuncData
 f_Lcell_at : Addr
 d_Lcell_at : FuncData
 f_Lsame : Addr
 d_Lsame : FuncData
 f_Lkey_by : Addr
 d_Lkey_by : FuncData
 f_Lvalue_by : Addr
 d_Lvalue_by : FuncData
 f_Lbook : Addr
 d_Lbook : FuncData
 f_Ldeed : Addr
 d_Ldeed : FuncData
 f_Lwalked : Addr
 d_Lwalked : FuncData
 f_law : Addr
 d_law : FuncData
 t_DEEPEST : Tok
 t_EMPTY : Tok
 t_GONE : Tok
 t_GREATEST : Tok
 t_LEAST : Tok
 t_MOST_PARTS : Tok
 t_MOST_SIGNS : Tok
 t_TURN : Tok
 a_Lacking : Addr
 a_Walk : Addr
 a_Shelf : Addr
 a_Table : Addr
 u_H__init___0 : Tok
@[reducible] def vA {α : Type} (x y : α) : Bool -> α
 | false => x
 | true => y
abbrev cA (a : Ad) (tb : Bool) : Addr := vA a.a_Shelf a.a_Table tb
theorem bt {p : Bool -> Prop} (h0 : p false) (h1 : p true) : ∀ b, p b
 | false => h0
 | true => h1
structure Txt (K : W.Frag) (mg : Str -> Option Value) (a : Ad) : Prop where
 F_is_key : Fun K "is_key" "is_key" zBK a.f_is_key a.d_is_key
 b_is_key : Binds K a.d_is_key ["thing"] []
 m_is_key : mg "is_key" = some (.ref a.f_is_key)
 F_checked : Fun K "checked" "checked" Ji a.f_checked a.d_checked
 b_checked : Binds K a.d_checked ["thing"] []
 m_checked : mg "checked" = some (.ref a.f_checked)
 F_is_part : Fun K "is_part" "is_part" Jb a.f_is_part a.d_is_part
 b_is_part : Binds K a.d_is_part ["thing", "levels"] []
 m_is_part : mg "is_part" = some (.ref a.f_is_part)
 F_are_parts : Fun K "are_parts" "are_parts" Zq a.f_are_parts a.d_are_parts
 b_are_parts : Binds K a.d_are_parts ["things", "levels"] []
 m_are_parts : mg "are_parts" = some (.ref a.f_are_parts)
 F_is_number : Fun K "is_number" "is_number" Zv a.f_is_number a.d_is_number
 b_is_number : Binds K a.d_is_number ["thing"] []
 m_is_number : mg "is_number" = some (.ref a.f_is_number)
 F_is_size : Fun K "is_size" "is_size" JT a.f_is_size a.d_is_size
 b_is_size : Binds K a.d_is_size ["thing"] []
 m_is_size : mg "is_size" = some (.ref a.f_is_size)
 F_room : Fun K "room" "room" zEP a.f_room a.d_room
 b_room : Binds K a.d_room ["size"] []
 m_room : mg "room" = some (.ref a.f_room)
 F_size_for : Fun K "size_for" "size_for" Wa a.f_size_for a.d_size_for
 b_size_for : Binds K a.d_size_for ["many"] []
 m_size_for : mg "size_for" = some (.ref a.f_size_for)
 F_stride : Fun K "stride" "stride" zBY a.f_stride a.d_stride
 b_stride : Binds K a.d_stride ["stamp"] []
 m_stride : mg "stride" = some (.ref a.f_stride)
 F_probe : Fun K "probe" "probe" zC6 a.f_probe a.d_probe
 b_probe : Binds K a.d_probe ["stamp", "size", "count"] []
 m_probe : mg "probe" = some (.ref a.f_probe)
 F_stamp : Fun K "stamp" "stamp" zC1 a.f_stamp a.d_stamp
 b_stamp : Binds K a.d_stamp ["key"] []
 m_stamp : mg "stamp" = some (.ref a.f_stamp)
 F_text_stamp : Fun K "text_stamp" "text_stamp" ZM a.f_text_stamp a.d_text_stamp
 b_text_stamp : Binds K a.d_text_stamp ["text"] []
 m_text_stamp : mg "text_stamp" = some (.ref a.f_text_stamp)
 F_tuple_stamp : Fun K "tuple_stamp" "tuple_stamp" Y0 a.f_tuple_stamp a.d_tuple_stamp
 b_tuple_stamp : Binds K a.d_tuple_stamp ["parts"] []
 m_tuple_stamp : mg "tuple_stamp" = some (.ref a.f_tuple_stamp)
 F_cells_of : Fun K "cells_of" "cells_of" Wi a.f_cells_of a.d_cells_of
 b_cells_of : Binds K a.d_cells_of ["row", "size"] []
 m_cells_of : mg "cells_of" = some (.ref a.f_cells_of)
 F_first_empty : Fun K "first_empty" "first_empty" Y8 a.f_first_empty a.d_first_empty
 b_first_empty : Binds K a.d_first_empty ["cells", "key"] []
 m_first_empty : mg "first_empty" = some (.ref a.f_first_empty)
 F_paper : Fun K "paper" "paper" zC5 a.f_paper a.d_paper
 b_paper : Binds K a.d_paper ["cells", "row", "key"] []
 m_paper : mg "paper" = some (.ref a.f_paper)
 F_is_end : Fun K "is_end" "is_end" zAl a.f_is_end a.d_is_end
 b_is_end : Binds K a.d_is_end ["cell", "row", "key"] []
 m_is_end : mg "is_end" = some (.ref a.f_is_end)
 F_place_of : Fun K "place_of" "place_of" WW a.f_place_of a.d_place_of
 b_place_of : Binds K a.d_place_of ["cells", "row", "key"] []
 m_place_of : mg "place_of" = some (.ref a.f_place_of)
 F_packed : Fun K "packed" "packed" zAv a.f_packed a.d_packed
 b_packed : Binds K a.d_packed ["row", "beside"] []
 m_packed : mg "packed" = some (.ref a.f_packed)
 F_H__init__ : FunD K "__init__" "Shelf.__init__" Zs a.f_H__init__ a.d_H__init__ [.int 8 a.u_H__init___0]
 b_H__init___0 : Binds K a.d_H__init__ ["self", "size"] []
 b_H__init___1 : Binds K a.d_H__init__ ["self", "size"] [.int 8 a.u_H__init___0]
 M_H__init__ : CMeth K a.a_Shelf "__init__" a.f_H__init__
 F_Hlay_out : Fun K "lay_out" "Shelf.lay_out" WZ a.f_Hlay_out a.d_Hlay_out
 b_Hlay_out : Binds K a.d_Hlay_out ["self", "size", "row", "held", "comings"] []
 M_Hlay_out : ∀ tb, Meth K (cA a tb) "lay_out" a.f_Hlay_out
 F_Hput : Fun K "put" "Shelf.put" zEh a.f_Hput a.d_Hput
 b_Hput : Binds K a.d_Hput ["self", "key", "value"] []
 M_Hput : ∀ tb, Meth K (cA a tb) "put" a.f_Hput
 F_Htake : Fun K "take" "Shelf.take" zCq a.f_Htake a.d_Htake
 b_Htake : Binds K a.d_Htake ["self", "key"] []
 M_Htake : ∀ tb, Meth K (cA a tb) "take" a.f_Htake
 F_Htake_last : Fun K "take_last" "Shelf.take_last" ZP a.f_Htake_last a.d_Htake_last
 b_Htake_last : Binds K a.d_Htake_last ["self"] []
 M_Htake_last : ∀ tb, Meth K (cA a tb) "take_last" a.f_Htake_last
 F_Hemptied : Fun K "emptied" "Shelf.emptied" Wb a.f_Hemptied a.d_Hemptied
 b_Hemptied : Binds K a.d_Hemptied ["self"] []
 M_Hemptied : ∀ tb, Meth K (cA a tb) "emptied" a.f_Hemptied
 F_Hmany : Fun K "many" "Shelf.many" zCo a.f_Hmany a.d_Hmany
 b_Hmany : Binds K a.d_Hmany ["self"] []
 M_Hmany : ∀ tb, Meth K (cA a tb) "many" a.f_Hmany
 F_Hahead : Fun K "ahead" "Shelf.ahead" zAi a.f_Hahead a.d_Hahead
 b_Hahead : Binds K a.d_Hahead ["self", "number"] []
 M_Hahead : ∀ tb, Meth K (cA a tb) "ahead" a.f_Hahead
 F_Hafter : Fun K "after" "Shelf.after" zA9 a.f_Hafter a.d_Hafter
 b_Hafter : Binds K a.d_Hafter ["self", "number"] []
 M_Hafter : ∀ tb, Meth K (cA a tb) "after" a.f_Hafter
 F_Hcounts : Fun K "counts" "Shelf.counts" Jk a.f_Hcounts a.d_Hcounts
 b_Hcounts : Binds K a.d_Hcounts ["self"] []
 M_Hcounts : ∀ tb, Meth K (cA a tb) "counts" a.f_Hcounts
 F_Hentries : Fun K "entries" "Shelf.entries" Wc a.f_Hentries a.d_Hentries
 b_Hentries : Binds K a.d_Hentries ["self"] []
 M_Hentries : ∀ tb, Meth K (cA a tb) "entries" a.f_Hentries
 F_Hplace : Fun K "place" "Shelf.place" zBD a.f_Hplace a.d_Hplace
 b_Hplace : Binds K a.d_Hplace ["self", "key"] []
 M_Hplace : ∀ tb, Meth K (cA a tb) "place" a.f_Hplace
 F_Hsure_place : Fun K "sure_place" "Shelf.sure_place" Y5 a.f_Hsure_place a.d_Hsure_place
 b_Hsure_place : Binds K a.d_Hsure_place ["self", "key"] []
 M_Hsure_place : ∀ tb, Meth K (cA a tb) "sure_place" a.f_Hsure_place
 F_Hcome : Fun K "come" "Shelf.come" zCx a.f_Hcome a.d_Hcome
 b_Hcome : Binds K a.d_Hcome ["self", "key", "value"] []
 M_Hcome : ∀ tb, Meth K (cA a tb) "come" a.f_Hcome
 F_Hwrite : Fun K "write" "Shelf.write" zBJ a.f_Hwrite a.d_Hwrite
 b_Hwrite : Binds K a.d_Hwrite ["self", "key", "cell"] []
 M_Hwrite : ∀ tb, Meth K (cA a tb) "write" a.f_Hwrite
 F_Hsize_emptied : Fun K "size_emptied" "Shelf.size_emptied" Yd a.f_Hsize_emptied a.d_Hsize_emptied
 b_Hsize_emptied : Binds K a.d_Hsize_emptied ["self"] []
 M_size_emptied : ∀ tb, Meth K (cA a tb) "size_emptied" (vA a.f_Hsize_emptied a.f_Tsize_emptied tb)
 b_size_emptied : ∀ tb, Binds K (vA a.d_Hsize_emptied a.d_Tsize_emptied tb) ["self"] []
 F_Hmake_room : Fun K "make_room" "Shelf.make_room" ZL a.f_Hmake_room a.d_Hmake_room
 b_Hmake_room : Binds K a.d_Hmake_room ["self"] []
 M_make_room : ∀ tb, Meth K (cA a tb) "make_room" (vA a.f_Hmake_room a.f_Tmake_room tb)
 b_make_room : ∀ tb, Binds K (vA a.d_Hmake_room a.d_Tmake_room tb) ["self"] []
 F_T__init__ : Fun K "__init__" "Table.__init__" Zt a.f_T__init__ a.d_T__init__
 b_T__init__ : Binds K a.d_T__init__ ["self"] []
 F_Tsize_emptied : Fun K "size_emptied" "Table.size_emptied" Ye a.f_Tsize_emptied a.d_Tsize_emptied
 b_Tsize_emptied : Binds K a.d_Tsize_emptied ["self"] []
 F_Tmake_room : Fun K "make_room" "Table.make_room" ZG a.f_Tmake_room a.d_Tmake_room
 b_Tmake_room : Binds K a.d_Tmake_room ["self"] []
 F_Walk___init__ : FunD K "__init__" "Walk.__init__" Yc a.f_Walk___init__ a.d_Walk___init__ [.bool false, .bool false]
 b_Walk___init___0 : Binds K a.d_Walk___init__ ["self", "book", "back", "strict"] []
 b_Walk___init___1 : Binds K a.d_Walk___init__ ["self", "book", "back", "strict"] [.bool false]
 b_Walk___init___2 : Binds K a.d_Walk___init__ ["self", "book", "back", "strict"] [.bool false, .bool false]
 M_Walk___init__ : Meth K a.a_Walk "__init__" a.f_Walk___init__
 F_Walk_step : Fun K "step" "Walk.step" Zj a.f_Walk_step a.d_Walk_step
 b_Walk_step : Binds K a.d_Walk_step ["self"] []
 M_Walk_step : Meth K a.a_Walk "step" a.f_Walk_step
 F_Walk_next_entry : Fun K "next_entry" "Walk.next_entry" YO a.f_Walk_next_entry a.d_Walk_next_entry
 b_Walk_next_entry : Binds K a.d_Walk_next_entry ["self"] []
 M_Walk_next_entry : Meth K a.a_Walk "next_entry" a.f_Walk_next_entry
 F_Walk_changes_now : Fun K "changes_now" "Walk.changes_now" YI a.f_Walk_changes_now a.d_Walk_changes_now
 b_Walk_changes_now : Binds K a.d_Walk_changes_now ["self"] []
 M_Walk_changes_now : Meth K a.a_Walk "changes_now" a.f_Walk_changes_now
 F_Lcell_at : Fun K "_law_cell_at" "_law_cell_at" Wf a.f_Lcell_at a.d_Lcell_at
 b_Lcell_at : Binds K a.d_Lcell_at ["_law_script", "_law_k"] []
 m_Lcell_at : mg "_law_cell_at" = some (.ref a.f_Lcell_at)
 F_Lsame : Fun K "_law_same" "_law_same" zC0 a.f_Lsame a.d_Lsame
 b_Lsame : Binds K a.d_Lsame ["_law_found", "_law_due"] []
 m_Lsame : mg "_law_same" = some (.ref a.f_Lsame)
 F_Lkey_by : Fun K "_law_key_by" "_law_key_by" Jt a.f_Lkey_by a.d_Lkey_by
 b_Lkey_by : Binds K a.d_Lkey_by ["_law_way", "_law_number"] []
 m_Lkey_by : mg "_law_key_by" = some (.ref a.f_Lkey_by)
 F_Lvalue_by : Fun K "_law_value_by" "_law_value_by" Zk a.f_Lvalue_by a.d_Lvalue_by
 b_Lvalue_by : Binds K a.d_Lvalue_by ["_law_number"] []
 m_Lvalue_by : mg "_law_value_by" = some (.ref a.f_Lvalue_by)
 F_Lbook : Fun K "_law_book" "_law_book" zC2 a.f_Lbook a.d_Lbook
 b_Lbook : Binds K a.d_Lbook ["_law_cell"] []
 m_Lbook : mg "_law_book" = some (.ref a.f_Lbook)
 F_Ldeed : Fun K "_law_deed" "_law_deed" zCP a.f_Ldeed a.d_Ldeed
 b_Ldeed : Binds K a.d_Ldeed ["_law_book_here", "_law_rows", "_law_way", "_law_cell"] []
 m_Ldeed : mg "_law_deed" = some (.ref a.f_Ldeed)
 F_Lwalked : Fun K "_law_walked" "_law_walked" Je a.f_Lwalked a.d_Lwalked
 b_Lwalked : Binds K a.d_Lwalked ["_law_walk", "_law_due"] []
 m_Lwalked : mg "_law_walked" = some (.ref a.f_Lwalked)
 F_law : Fun K "law" "law" JB a.f_law a.d_law
 b_law : Binds K a.d_law ["_law_script"] []
 m_law : mg "law" = some (.ref a.f_law)
 m_paper_slots : mg "paper_slots" = some (.ref a.f_paper)
 cl_Walk : Cls K a.a_Walk
 mk_Walk : Mk K a.a_Walk a.f_Walk___init__
 m_Walk : mg "Walk" = some (.ref a.a_Walk)
 n_Walk_back : NoAttr K a.a_Walk "back"
 n_Walk_book : NoAttr K a.a_Walk "book"
 n_Walk_changes : NoAttr K a.a_Walk "changes"
 n_Walk_last : NoAttr K a.a_Walk "last"
 n_Walk_over : NoAttr K a.a_Walk "over"
 n_Walk_strict : NoAttr K a.a_Walk "strict"
 mk_Shelf : Mk K a.a_Shelf a.f_H__init__
 m_Shelf : mg "Shelf" = some (.ref a.a_Shelf)
 cl : ∀ tb, Cls K (cA a tb)
 n_came : ∀ tb, NoAttr K (cA a tb) "came"
 n_cells : ∀ tb, NoAttr K (cA a tb) "cells"
 n_comings : ∀ tb, NoAttr K (cA a tb) "comings"
 n_held : ∀ tb, NoAttr K (cA a tb) "held"
 n_moved : ∀ tb, NoAttr K (cA a tb) "moved"
 n_row : ∀ tb, NoAttr K (cA a tb) "row"
 n_size : ∀ tb, NoAttr K (cA a tb) "size"
 n_tidyings : ∀ tb, NoAttr K (cA a tb) "tidyings"
 n_went : ∀ tb, NoAttr K (cA a tb) "went"
 mk_Table : Mk K a.a_Table a.f_T__init__
 m_Table : mg "Table" = some (.ref a.a_Table)
 z_all : mg "all" = none
 z_bool : mg "bool" = none
 z_enumerate : mg "enumerate" = none
 z_int : mg "int" = none
 z_isinstance : mg "isinstance" = none
 z_len : mg "len" = none
 z_list : mg "list" = none
 z_ord : mg "ord" = none
 z_range : mg "range" = none
 z_reversed : mg "reversed" = none
 z_str : mg "str" = none
 z_tuple : mg "tuple" = none
 z_zip : mg "zip" = none
 c_DEEPEST : mg "DEEPEST" = some (.int 3 a.t_DEEPEST)
 c_EMPTY : mg "EMPTY" = some (.int (-1) a.t_EMPTY)
 c_GONE : mg "GONE" = some (.int (-2) a.t_GONE)
 c_GREATEST : mg "GREATEST" = some (.int 4096 a.t_GREATEST)
 c_LEAST : mg "LEAST" = some (.int 8 a.t_LEAST)
 c_MOST_PARTS : mg "MOST_PARTS" = some (.int 6 a.t_MOST_PARTS)
 c_MOST_SIGNS : mg "MOST_SIGNS" = some (.int 60 a.t_MOST_SIGNS)
 c_TURN : mg "TURN" = some (.int 2147483647 a.t_TURN)
 m_Lacking : mg "Lacking" = some (.ref a.a_Lacking)
 x_Lacking : ∃ bm, XC K a.a_Lacking bm
 i_Lacking : XI K a.a_Lacking
 k_Lacking : W.kitOne K (.ref a.a_Lacking) (.type "ValueError") = some true
 k_Lacking_Lacking : W.kitOne K (.ref a.a_Lacking) (.ref a.a_Lacking) = some true
 s_Lacking_Lacking : W.mroIn K a.a_Lacking (.ref a.a_Lacking) = some true
abbrev zG8 : List Str := ["thing"]
abbrev zBO : List Str := ["thing"]
theorem sc_is_key : FnScope zG8 zBO (QJ zBK) := ⟨rfl, rfl, rfl, by decide +kernel, rfl, by decide +kernel, by decide +kernel⟩
abbrev zGi : List Str := ["thing"]
abbrev WA : List Str := ["thing"]
theorem sc_checked : FnScope zGi WA (QJ Ji) := ⟨rfl, rfl, rfl, by decide +kernel, rfl, by decide +kernel, by decide +kernel⟩
abbrev zGh : List Str := ["thing", "levels"]
abbrev ZA : List Str := ["thing", "levels"]
theorem sc_is_part : FnScope zGh ZA (QJ Jb) := ⟨rfl, rfl, rfl, by decide +kernel, rfl, by decide +kernel, by decide +kernel⟩
abbrev zDu : List Str := ["things", "levels"]
abbrev Zx : List Str := ["things", "levels"]
theorem sc_are_parts : FnScope zDu Zx (QJ Zq) := ⟨rfl, rfl, rfl, by decide +kernel, rfl, by decide +kernel, by decide +kernel⟩
abbrev zDR : List Str := ["thing"]
abbrev YZ : List Str := ["thing"]
theorem sc_is_number : FnScope zDR YZ (QJ Zv) := ⟨rfl, rfl, rfl, by decide +kernel, rfl, by decide +kernel, by decide +kernel⟩
abbrev zGF : List Str := ["thing"]
abbrev Jv : List Str := ["thing"]
theorem sc_is_size : FnScope zGF Jv (QJ JT) := ⟨rfl, rfl, rfl, by decide +kernel, rfl, by decide +kernel, by decide +kernel⟩
abbrev zL0 : List Str := ["size"]
abbrev zCi : List Str := ["size"]
theorem sc_room : FnScope zL0 zCi (QJ zEP) := ⟨rfl, rfl, rfl, by decide +kernel, rfl, by decide +kernel, by decide +kernel⟩
abbrev zEm : List Str := ["many", "size"]
abbrev ZE : List Str := ["many"]
theorem sc_size_for : FnScope zEm ZE (QJ Wa) := ⟨rfl, rfl, rfl, by decide +kernel, rfl, by decide +kernel, by decide +kernel⟩
abbrev zHe : List Str := ["stamp"]
abbrev zBW : List Str := ["stamp"]
theorem sc_stride : FnScope zHe zBW (QJ zBY) := ⟨rfl, rfl, rfl, by decide +kernel, rfl, by decide +kernel, by decide +kernel⟩
abbrev zJu : List Str := ["stamp", "size", "count"]
abbrev zAf : List Str := ["stamp", "size", "count"]
theorem sc_probe : FnScope zJu zAf (QJ zC6) := ⟨rfl, rfl, rfl, by decide +kernel, rfl, by decide +kernel, by decide +kernel⟩
abbrev zKA : List Str := ["key"]
abbrev WC : List Str := ["key"]
theorem sc_stamp : FnScope zKA WC (QJ zC1) := ⟨rfl, rfl, rfl, by decide +kernel, rfl, by decide +kernel, by decide +kernel⟩
abbrev zCh : List Str := ["text", "reckoned", "sign"]
abbrev ZQ : List Str := ["text"]
theorem sc_text_stamp : FnScope zCh ZQ (QJ ZM) := ⟨rfl, rfl, rfl, by decide +kernel, rfl, by decide +kernel, by decide +kernel⟩
abbrev zBe : List Str := ["parts", "reckoned", "part"]
abbrev Y1 : List Str := ["parts"]
theorem sc_tuple_stamp : FnScope zBe Y1 (QJ Y0) := ⟨rfl, rfl, rfl, by decide +kernel, rfl, by decide +kernel, by decide +kernel⟩
abbrev zEb : List Str := ["row", "size", "cells", "place", "key"]
abbrev WT : List Str := ["row", "size"]
theorem sc_cells_of : FnScope zEb WT (QJ Wi) := ⟨rfl, rfl, rfl, by decide +kernel, rfl, by decide +kernel, by decide +kernel⟩
abbrev zBj : List Str := ["cells", "key", "mark", "count", "slot"]
abbrev Y4 : List Str := ["cells", "key"]
theorem sc_first_empty : FnScope zBj Y4 (QJ Y8) := ⟨rfl, rfl, rfl, by decide +kernel, rfl, by decide +kernel, by decide +kernel⟩
abbrev zJW : List Str := ["cells", "row", "key", "mark", "pairs", "count", "slot"]
abbrev zAa : List Str := ["cells", "row", "key"]
theorem sc_paper : FnScope zJW zAa (QJ zC5) := ⟨rfl, rfl, rfl, by decide +kernel, rfl, by decide +kernel, by decide +kernel⟩
abbrev zIk : List Str := ["cell", "row", "key"]
abbrev zAm : List Str := ["cell", "row", "key"]
theorem sc_is_end : FnScope zIk zAm (QJ zAl) := ⟨rfl, rfl, rfl, by decide +kernel, rfl, by decide +kernel, by decide +kernel⟩
abbrev zE0 : List Str := ["cells", "row", "key", "pairs", "cell"]
abbrev WX : List Str := ["cells", "row", "key"]
theorem sc_place_of : FnScope zE0 WX (QJ WW) := ⟨rfl, rfl, rfl, by decide +kernel, rfl, by decide +kernel, by decide +kernel⟩
abbrev zHD : List Str := ["row", "beside", "keys", "others"]
abbrev Wv : List Str := ["row", "beside"]
theorem sc_packed : FnScope zHD Wv (QJ zAv) := ⟨rfl, rfl, rfl, by decide +kernel, rfl, by decide +kernel, by decide +kernel⟩
abbrev zDq : List Str := ["self", "size"]
abbrev YN : List Str := ["self", "size"]
theorem sc_H__init__ : FnScope zDq YN (QJ Zs) := ⟨rfl, rfl, rfl, by decide +kernel, rfl, by decide +kernel, by decide +kernel⟩
abbrev zEK : List Str := ["self", "size", "row", "held", "comings"]
abbrev YV : List Str := ["self", "size", "row", "held", "comings"]
theorem sc_Hlay_out : FnScope zEK YV (QJ WZ) := ⟨rfl, rfl, rfl, by decide +kernel, rfl, by decide +kernel, by decide +kernel⟩
abbrev zLo : List Str := ["self", "key", "value", "place"]
abbrev zEs : List Str := ["self", "key", "value"]
theorem sc_Hput : FnScope zLo zEs (QJ zEh) := ⟨rfl, rfl, rfl, by decide +kernel, rfl, by decide +kernel, by decide +kernel⟩
abbrev zJg : List Str := ["self", "key", "place", "value"]
abbrev zAR : List Str := ["self", "key"]
theorem sc_Htake : FnScope zJg zAR (QJ zCq) := ⟨rfl, rfl, rfl, by decide +kernel, rfl, by decide +kernel, by decide +kernel⟩
abbrev zCZ : List Str := ["self", "last", "key"]
abbrev ZW : List Str := ["self"]
theorem sc_Htake_last : FnScope zCZ ZW (QJ ZP) := ⟨rfl, rfl, rfl, by decide +kernel, rfl, by decide +kernel, by decide +kernel⟩
abbrev zE2 : List Str := ["self"]
abbrev WY : List Str := ["self"]
theorem sc_Hemptied : FnScope zE2 WY (QJ Wb) := ⟨rfl, rfl, rfl, by decide +kernel, rfl, by decide +kernel, by decide +kernel⟩
abbrev zJp : List Str := ["self"]
abbrev Z3 : List Str := ["self"]
theorem sc_Hmany : FnScope zJp Z3 (QJ zCo) := ⟨rfl, rfl, rfl, by decide +kernel, rfl, by decide +kernel, by decide +kernel⟩
abbrev zIN : List Str := ["self", "number", "sooner"]
abbrev JD : List Str := ["self", "number"]
theorem sc_Hahead : FnScope zIN JD (QJ zAi) := ⟨rfl, rfl, rfl, by decide +kernel, rfl, by decide +kernel, by decide +kernel⟩
abbrev zId : List Str := ["self", "number", "later"]
abbrev zAt : List Str := ["self", "number"]
theorem sc_Hafter : FnScope zId zAt (QJ zA9) := ⟨rfl, rfl, rfl, by decide +kernel, rfl, by decide +kernel, by decide +kernel⟩
abbrev zGq : List Str := ["self"]
abbrev Js : List Str := ["self"]
theorem sc_Hcounts : FnScope zGq Js (QJ Jk) := ⟨rfl, rfl, rfl, by decide +kernel, rfl, by decide +kernel, by decide +kernel⟩
abbrev zEG : List Str := ["self"]
abbrev ZI : List Str := ["self"]
theorem sc_Hentries : FnScope zEG ZI (QJ Wc) := ⟨rfl, rfl, rfl, by decide +kernel, rfl, by decide +kernel, by decide +kernel⟩
abbrev zHz : List Str := ["self", "key"]
abbrev Wu : List Str := ["self", "key"]
theorem sc_Hplace : FnScope zHz Wu (QJ zBD) := ⟨rfl, rfl, rfl, by decide +kernel, rfl, by decide +kernel, by decide +kernel⟩
abbrev zBl : List Str := ["self", "key", "place"]
abbrev Y6 : List Str := ["self", "key"]
theorem sc_Hsure_place : FnScope zBl Y6 (QJ Y5) := ⟨rfl, rfl, rfl, by decide +kernel, rfl, by decide +kernel, by decide +kernel⟩
abbrev zKQ : List Str := ["self", "key", "value"]
abbrev zCV : List Str := ["self", "key", "value"]
theorem sc_Hcome : FnScope zKQ zCV (QJ zCx) := ⟨rfl, rfl, rfl, by decide +kernel, rfl, by decide +kernel, by decide +kernel⟩
abbrev zIv : List Str := ["self", "key", "cell", "pairs"]
abbrev Wr : List Str := ["self", "key", "cell"]
theorem sc_Hwrite : FnScope zIv Wr (QJ zBJ) := ⟨rfl, rfl, rfl, by decide +kernel, rfl, by decide +kernel, by decide +kernel⟩
abbrev zAO : List Str := ["self"]
abbrev YG : List Str := ["self"]
theorem sc_Hsize_emptied : FnScope zAO YG (QJ Yd) := ⟨rfl, rfl, rfl, by decide +kernel, rfl, by decide +kernel, by decide +kernel⟩
abbrev zCO : List Str := ["self"]
abbrev ZH : List Str := ["self"]
theorem zBw : FnScope zCO ZH (QJ ZL) := ⟨rfl, rfl, rfl, by decide +kernel, rfl, by decide +kernel, by decide +kernel⟩
abbrev zD5 : List Str := ["self"]
abbrev Zm : List Str := ["self"]
theorem sc_T__init__ : FnScope zD5 Zm (QJ Zt) := ⟨rfl, rfl, rfl, by decide +kernel, rfl, by decide +kernel, by decide +kernel⟩
abbrev zAN : List Str := ["self"]
abbrev Ze : List Str := ["self"]
theorem sc_Tsize_emptied : FnScope zAN Ze (QJ Ye) := ⟨rfl, rfl, rfl, by decide +kernel, rfl, by decide +kernel, by decide +kernel⟩
abbrev zCd : List Str := ["self", "many", "held", "comings"]
abbrev W6 : List Str := ["self"]
theorem sc_Tmake_room : FnScope zCd W6 (QJ ZG) := ⟨rfl, rfl, rfl, by decide +kernel, rfl, by decide +kernel, by decide +kernel⟩
abbrev zAK : List Str := ["self", "book", "back", "strict"]
abbrev Qu : List Str := ["self", "book", "back", "strict"]
theorem sc_Walk___init__ : FnScope zAK Qu (QJ Yc) := ⟨rfl, rfl, rfl, by decide +kernel, rfl, by decide +kernel, by decide +kernel⟩
abbrev zD1 : List Str := ["self", "entry"]
abbrev Z2 : List Str := ["self"]
theorem sc_Walk_step : FnScope zD1 Z2 (QJ Zj) := ⟨rfl, rfl, rfl, by decide +kernel, rfl, by decide +kernel, by decide +kernel⟩
abbrev JG : List Str := ["self"]
abbrev YR : List Str := ["self"]
theorem sc_Walk_next_entry : FnScope JG YR (QJ YO) := ⟨rfl, rfl, rfl, by decide +kernel, rfl, by decide +kernel, by decide +kernel⟩
abbrev WU : List Str := ["self"]
abbrev Q2 : List Str := ["self"]
theorem sc_Walk_changes_now : FnScope WU Q2 (QJ YI) := ⟨rfl, rfl, rfl, by decide +kernel, rfl, by decide +kernel, by decide +kernel⟩
abbrev zEO : List Str := ["_law_script", "_law_k"]
abbrev Wl : List Str := ["_law_script", "_law_k"]
theorem sc_Lcell_at : FnScope zEO Wl (QJ Wf) := ⟨rfl, rfl, rfl, by decide +kernel, rfl, by decide +kernel, by decide +kernel⟩
abbrev zJs : List Str := ["_law_found", "_law_due"]
abbrev Z8 : List Str := ["_law_found", "_law_due"]
theorem sc_Lsame : FnScope zJs Z8 (QJ zC0) := ⟨rfl, rfl, rfl, by decide +kernel, rfl, by decide +kernel, by decide +kernel⟩
abbrev zGQ : List Str := ["_law_way", "_law_number", "_law_some", "_law_n", "_law_text"]
abbrev Jo : List Str := ["_law_way", "_law_number"]
theorem sc_Lkey_by : FnScope zGQ Jo (QJ Jt) := ⟨rfl, rfl, rfl, by decide +kernel, rfl, by decide +kernel, by decide +kernel⟩
abbrev zD4 : List Str := ["_law_number"]
abbrev Zz : List Str := ["_law_number"]
theorem sc_Lvalue_by : FnScope zD4 Zz (QJ Zk) := ⟨rfl, rfl, rfl, by decide +kernel, rfl, by decide +kernel, by decide +kernel⟩
abbrev zJ9 : List Str := ["_law_cell"]
abbrev zCl : List Str := ["_law_cell"]
theorem sc_Lbook : FnScope zJ9 zCl (QJ zC2) := ⟨rfl, rfl, rfl, by decide +kernel, rfl, by decide +kernel, by decide +kernel⟩
abbrev zJz : List Str := ["_law_book_here", "_law_rows", "_law_way", "_law_cell", "_law_number", "_law_some", "_law_k", "_law_key"]
abbrev zCI : List Str := ["_law_book_here", "_law_rows", "_law_way", "_law_cell"]
theorem sc_Ldeed : FnScope zJz zCI (QJ zCP) := ⟨rfl, rfl, rfl, by decide +kernel, rfl, by decide +kernel, by decide +kernel⟩
abbrev zGf : List Str := ["_law_walk", "_law_due", "_law_pair", "_law_found", "_law_k"]
abbrev Jp : List Str := ["_law_walk", "_law_due"]
theorem sc_Lwalked : FnScope zGf Jp (QJ Je) := ⟨rfl, rfl, rfl, by decide +kernel, rfl, by decide +kernel, by decide +kernel⟩
abbrev zMA : List Str := ["_law_script", "_law_way", "_law_book_here", "_law_rows", "_law_cell", "_law_due"]
abbrev zHZ : List Str := ["_law_script"]
theorem sc_law : FnScope zMA zHZ (QJ JB) := ⟨rfl, rfl, rfl, by decide +kernel, rfl, by decide +kernel, by decide +kernel⟩
def zCw : Sp := fun vs H Q _ => ∃ x, vs = [.str x] /\ Q (.int (tst x.cps.toList)) H
def zHV (d : Nat) : Sp := fun vs H Q _ => ∃ v k, vs = [v] /\ IsK H k v /\ k.deep <= d /\ Q (.int k.st) H
def zL8 (d : Nat) : Sp := fun vs H Q _ => ∃ a ws ks, vs = [.ref a] /\ H a = some (.tup ws) /\ IsKs H ks ws /\ Kd.deepL ks <= d /\ Q (.int (Kd.stL 11 ks)) H
def zDt : Sp := fun vs H Q _ => ∃ m, vs = [.int m] /\ 0 <= m /\ Q (.int (std m)) H
def zCv : Sp := fun vs H Q _ => ∃ m s c, vs = [.int m, .int s, .int c] /\ 0 <= m /\ 0 < s /\ 0 <= c /\ c <= 100000 /\ Q (.int (pr m s c.toNat)) H
def zFl : Sp := fun vs H Q _ => ∃ B v t, vs = [v] /\ IsT B H t v /\ Same B H /\ Q (.bl t.isNum) H
def zDH (n : Nat) : Sp := fun vs H Q _ => ∃ B v t, vs = [v, .int n] /\ IsT B H t v /\ Same B H /\ ∀ H', Same H H' -> Q (.bl (t.ok n)) H'
def zKj (n : Nat) : Sp := fun vs H Q _ => ∃ B b ws ts, vs = [.ref b, .int n] /\ H b = some (.tup ws) /\ ws.length <= 1000 /\ IsTs B H ts ws /\ Same B H /\ ∀ H', Same H H' -> Q (.bl (decide (ts.length <= 6) && Th.okL ts n)) H'
def zKd : Sp := fun vs H Q _ => ∃ B v t, vs = [v] /\ IsT B H t v /\ Same B H /\ ∀ H', Same H H' -> Q (.bl (t.ok 3)) H'
def zAk (ns : List Int) (k : Int) : Int := (ns[k.toNat]?).getD 0
def zHT (K : W.Frag) : Sp := fun vs H Q _ => ∃ (b : Addr) (ns : List Int) (k : Int), vs = [.ref b, .int k] /\ SqL K H b (ns.map V.int) /\ 0 <= k /\ Q (.int (zAk ns k)) H
def zKX (k : Kd) : Prop := ∀ n, k.th.ok n = true
theorem zH9 {i : Int} (h1 : -10 ^ 60 < i) (h2 : i < 10 ^ 60) : zKX (.num i) := fun n => by
 unfold Kd.th Th.ok
 rw [decide_eq_true h1, decide_eq_true h2]; rfl
theorem Jd {x : Str} (h : x.length <= 60) : zKX (.txt x) := fun n => by
 unfold Kd.th Th.ok
 rw [decide_eq_true h]
theorem zHq {n : Nat} : ∀ {ks : List Kd}, (∀ k ∈ ks, k.th.ok n = true) -> Th.okL (Kd.thL ks) n = true
 | [], _ => by unfold Kd.thL Th.okL; rfl
 | k :: r, h => by
  unfold Kd.thL Th.okL
  rw [h k List.mem_cons_self, zHq fun x hx => h x (List.mem_cons_of_mem _ hx)]; rfl
theorem Z0 {ks : List Kd} {n : Nat} (h6 : ks.length <= 6) (h : ∀ k ∈ ks, k.th.ok n = true) : (Kd.tup ks).th.ok (n + 1) = true := by
 unfold Kd.th Th.ok
 rw [Kd.thL_length, decide_eq_true h6, decide_eq_true (Nat.succ_pos n), Nat.add_sub_cancel, zHq h]; rfl
theorem YX {H : Hp} {i : Int} : IsK H (.num i) (.int i) := by unfold IsK; rfl
theorem Z4 {H : Hp} {x : Str} : IsK H (.txt x) (.str x) := by unfold IsK; rfl
theorem Yh {H : Hp} {t : Addr} {ks : List Kd} {vs : List V} (h : H t = some (.tup vs)) (hz : vs.length <= 1000) (hk : IsKs H ks vs) : IsK H (.tup ks) (.ref t) := by unfold IsK; exact ⟨t, vs, rfl, h, hz, hk⟩
theorem Q4 {H : Hp} {p : Addr} {o o' : HO} : upd (upd H p o) p o' = upd H p o' := by
 funext b
 by_cases e : b = p
 ·subst e; rw [QD, QD]
 ·rw [QG e, QG e, QG e]
def NoN (H : Hp) (x : V) : Prop := (∃ b, x = .bl b) \/ x = .non \/ (∃ z, x = .str z) \/ (∃ a xs, x = .ref a /\ H a = some (.tup xs)) \/ (∃ a xs, x = .ref a /\ H a = some (.lst xs)) \/ ∃ a xs, x = .ref a /\ H a = some (.dK xs)
def Tg (H : Hp) (x : V) (n s : Bool) : Prop := (∃ i, x = .int i /\ n = true /\ s = decide (S8 i)) \/ (NoN H x /\ n = false /\ s = false)
def zKi : Sp := fun vs H Q _ => ∃ x n s, vs = [x] /\ Tg H x n s /\ Q (.bl n) H
def zME : Sp := fun vs H Q _ => ∃ x n s, vs = [x] /\ Tg H x n s /\ Q (.bl s) H
def zEt : Sp := fun vs H Q _ => ∃ i, vs = [.int i] /\ Q (.int (2 * i / 3)) H
def zMB : Sp := fun vs H Q _ => ∃ p cs v k c, vs = [.ref p, v] /\ H p = some (.lst (cs.map V.int)) /\ 0 < cs.length /\ cs.length <= 4096 /\ IsK H k v /\ k.deep <= 3 /\ IsFirst (fun c => cAt cs k.st c = -1) cs.length c /\ Q (.int (sl k.st cs.length c : Nat)) H
def zFn : Sp := fun vs H Q _ => ∃ r xs os s, vs = [.ref r, .int s] /\ H r = some (.lst xs) /\ IsKos H os xs /\ (∀ o ∈ os, zLy 3 o) /\ S8 s /\ 3 * (os.length : Int) <= 2 * s /\
 ∀ q cs H', Same H H' -> H q = none -> H' q = some (.lst (cs.map V.int)) -> LB (stO os) s.toNat os.length cs -> Q (.ref q) H'
def zKp : Sp := fun vs H Q _ => ∃ v r xs os x k, vs = [.int v, .ref r, x] /\ H r = some (.lst xs) /\ IsKos H os xs /\ IsK H k x /\ (0 <= v -> ∃ k', os[v.toNat]? = some (some k') /\ k'.deep <= 20) /\ Q (.bl (decide (YE os k v))) H
def zIY (cs : List Int) (os : List (Option Kd)) : Prop := ∀ v ∈ cs, 0 <= v -> ∃ k', os[v.toNat]? = some (some k') /\ k'.deep <= 20
def zCN : Sp := fun vs H Q _ => ∃ p r cs xs os x k c, vs = [.ref p, .ref r, x] /\ H p = some (.lst (cs.map V.int)) /\ H r = some (.lst xs) /\ IsKos H os xs /\ IsK H k x /\ k.deep <= 3 /\ 0 < cs.length /\ cs.length <= 4096 /\ zIY cs os /\
 IsFirst (fun c => YE os k (cAt cs k.st c)) cs.length c /\ ∀ q ys H', Same H H' -> H q = none -> H' q = some (.lst ys) -> IsKos H' (pap cs k.st c) ys -> Q (.ref q) H'
def zFq : Sp := fun vs H Q _ => ∃ p r cs xs os x k c, vs = [.ref p, .ref r, x] /\ H p = some (.lst (cs.map V.int)) /\ H r = some (.lst xs) /\ IsKos H os xs /\ IsK H k x /\ k.deep <= 3 /\ 0 < cs.length /\ cs.length <= 4096 /\ zIY cs os /\
 IsFirst (fun c => YE os k (cAt cs k.st c)) cs.length c /\ ∀ H', Same H H' -> Q (if cAt cs k.st c = -1 then .non else .int (cAt cs k.st c)) H'
theorem zCS {cs : List Int} {m : Int} {c : Nat} : (pap cs m c).length = c + 1 := by unfold pap; rw [List.length_map, List.length_range]
theorem zKR {cs : List Int} {m : Int} {c i : Nat} (h : i < c + 1) : (pap cs m c)[i]? = some (some (.tup [.num (sl m cs.length i : Nat), .num (cAt cs m i)])) := by unfold pap; rw [List.getElem?_map, List.getElem?_range h]; rfl
theorem zIT {cs : List Int} {m : Int} {c i : Nat} {H : Hp} {ys : List V} {y : V} (h : IsKos H (pap cs m c) ys) (e : ys[i]? = some y) : ∃ t, y = .ref t /\ H t = some (.tup [.int (sl m cs.length i : Nat), .int (cAt cs m i)]) := by
 obtain ⟨o, e1, e2⟩ := h.get e
 have il : i < c + 1 := by have := (List.getElem?_eq_some_iff.mp e1).1; rwa [zCS] at this
 rw [zKR il] at e1
 cases e1
 exact zHw e2
def zI1 : Sp := fun vs H Q _ => ∃ x k, vs = [x] /\ IsK H k x /\ k.th.ok 3 = true /\ ∀ H', Same H H' -> Q x H'
def plV : Option Nat -> V
 | some i => .int (i : Nat)
 | none => .non
def zKv (C : Addr) : Sp := fun vs H Q _ => ∃ p S x k, vs = [.ref p, x] /\ ShAt C H p S /\ IsK H k x /\ k.deep <= 3 /\ Plc S.os k fun r => ∀ H', Same H H' -> Q (plV r) H'
def JE (C : Addr) : Sp := fun vs H Q _ => ∃ p S, vs = [.ref p] /\ ShAt C H p S /\ Q (.int (S.ca - S.we)) H
def zDL (C : Addr) : Sp := fun vs H Q _ => ∃ p S, vs = [.ref p] /\ ShAt C H p S /\ ∀ t, H t = none -> Q (.ref t) (upd H t (.tup [.int (S.ca - S.we), .int S.ca, .int S.we, .int S.ti, .int S.mo]))
def YQ (S : Sh) (xs : List V) : List (Int × V × V) := (S.ms.zip (xs.zip S.hs)).filter fun e => NN e.2.1
def EntR (H : Hp) (y : V) (e : Int × V × V) : Prop := ∃ t, y = V.ref t /\ H t = some (.tup [.int e.1, e.2.1, e.2.2])
theorem EntR.same {H H' : Hp} {y : V} {e : Int × V × V} (g : Same H H') (h : EntR H y e) : EntR H' y e := h.imp fun t h => ⟨h.1, g _ _ h.2⟩
def Jm (C : Addr) : Sp := fun vs H Q _ => ∃ p S xs, vs = [.ref p] /\ ShAt C H p S /\ H S.pr = some (.lst xs) /\ ∀ l ys H', Same H H' -> H l = none -> H' l = some (.lst ys) ->
 Paired (EntR H') ys (YQ S xs) -> Q (.ref l) H'
def zCe (C : Addr) : Sp := fun vs H Q _ => ∃ p S x k v c, vs = [.ref p, x, .int v] /\ ShAt C H p S /\ IsK H k x /\ k.deep <= 3 /\ IsFirst (fun c => YE S.os k (cAt S.cs k.st c)) S.n c /\
 ∀ H', Same H H' -> Q .non (upd H' S.pc (.lst ((S.cs.set (sl k.st S.n c) v).map V.int)))
def Yu (S : Sh) (k : Kd) (c : Nat) (y : V) : Sh := { S with cs := S.cs.set (sl k.st S.n c) (S.os.length : Int), os := S.os ++ [some k], hs := S.hs ++ [y], ms := S.ms ++ [S.ca + 1], ca := S.ca + 1 }
def lay (fs : List (Str × V)) (n : Int) (pc pr ph pm : Addr) : List (Str × V) := Qk "comings" (.ref pm) (Qk "held" (.ref ph) (Qk "row" (.ref pr) (Qk "size" (.int n) (Qk "cells" (.ref pc) fs))))
def zDI (C : Addr) : Sp := fun vs H Q _ => ∃ p dx fs n pr ph pm xs os, vs = [.ref p, .int n, .ref pr, .ref ph, .ref pm] /\ H p = some (.ins C dx fs) /\ fs.length <= 9 /\ H pr = some (.lst xs) /\ IsKos H os xs /\ (∀ o ∈ os, zLy 3 o) /\ S8 n /\ 3 * (os.length : Int) <= 2 * n /\
 ∀ pc cs H', Same H H' -> H pc = none -> H' pc = some (.lst (cs.map V.int)) -> LB (stO os) n.toNat os.length cs -> Q .non (upd H' p (.ins C dx (lay fs n pc pr ph pm)))
def zEV (C : Addr) : Sp := fun vs H Q _ => ∃ p dx n, vs = [.ref p, .int n] /\ H p = some (.ins C dx []) /\ S8 n /\
 ∀ S H', (∀ b o, H b = some o -> b ≠ p -> H' b = some o) -> ShAt C H' p S -> S.n = n.toNat -> S.cs = List.replicate n.toNat (-1) -> S.os = [] -> S.hs = [] -> S.ms = [] -> S.ca = 0 -> S.we = 0 -> S.ti = 0 -> S.mo = 0 -> Q .non H'
theorem zFL {pc pr ph pm pc' pr' ph' pm' : Addr} {n n' ca we ti mo : Int} : lay (shF pc n pr ph pm ca we ti mo) n' pc' pr' ph' pm' = shF pc' n' pr' ph' pm' ca we ti mo := by
 unfold lay
 rw [zBr, zCT, zDb, zCM, zAL]
theorem zJ6 {pc pr ph pm : Addr} {n : Int} : lay [] n pc pr ph pm = sh5 pc n pr ph pm := by
 kernel_rfl
section
variable {P : Program} {w : World} {K : W.Frag} {mg : Str -> Option Value} {base : Heap} {a : Ad} {tb : Bool} {H : Hp} {Q : VK} {N : Hp -> Prop} {p : Addr} {S : Sh}
theorem zCX (T : Txt K mg a) (A : ShAt (cA a tb) H p S) : Y2 K "cells" (.ref p) H Q = Q (.ref S.pc) H := QX A.ob (T.cl tb) (T.n_cells tb) zGO
theorem zK6 (T : Txt K mg a) (A : ShAt (cA a tb) H p S) : Y2 K "size" (.ref p) H Q = Q (.int S.n) H := QX A.ob (T.cl tb) (T.n_size tb) zEB
theorem zBA (T : Txt K mg a) (A : ShAt (cA a tb) H p S) : Y2 K "row" (.ref p) H Q = Q (.ref S.pr) H := QX A.ob (T.cl tb) (T.n_row tb) zCr
theorem zDD (T : Txt K mg a) (A : ShAt (cA a tb) H p S) : Y2 K "held" (.ref p) H Q = Q (.ref S.ph) H := QX A.ob (T.cl tb) (T.n_held tb) zA7
theorem zCE (T : Txt K mg a) (A : ShAt (cA a tb) H p S) : Y2 K "comings" (.ref p) H Q = Q (.ref S.pm) H := QX A.ob (T.cl tb) (T.n_comings tb) zAE
theorem zEl (T : Txt K mg a) (A : ShAt (cA a tb) H p S) : Y2 K "came" (.ref p) H Q = Q (.int S.ca) H := QX A.ob (T.cl tb) (T.n_came tb) zBR
theorem zEu (T : Txt K mg a) (A : ShAt (cA a tb) H p S) : Y2 K "went" (.ref p) H Q = Q (.int S.we) H := QX A.ob (T.cl tb) (T.n_went tb) zDY
theorem zMN (T : Txt K mg a) (A : ShAt (cA a tb) H p S) : Y2 K "tidyings" (.ref p) H Q = Q (.int S.ti) H := QX A.ob (T.cl tb) (T.n_tidyings tb) JO
theorem zMP (T : Txt K mg a) (A : ShAt (cA a tb) H p S) : Y2 K "moved" (.ref p) H Q = Q (.int S.mo) H := QX A.ob (T.cl tb) (T.n_moved tb) zB5
theorem Yn {m : Str} (A : ShAt (cA a tb) H p S) (h : shK.contains m = false) : Wp (cA a tb) m (.ref p) H N = N H := Y9 A.ob (zEY h)
theorem zCK (A : ShAt (cA a tb) H p S) : zIY S.cs S.os := fun v hv h0 => by
 obtain ⟨j, hj⟩ := List.mem_iff_getElem?.mp hv
 rcases A.fm.good j v hj with e | e | ⟨q, k, e, hq⟩
 ·omega
 ·omega
 ·have z : v.toNat = q := by omega
  rw [z]
  exact ⟨k, hq, Nat.le_trans (A.dp _ (List.mem_of_getElem? hq)) (by decide)⟩
end
def zFt (C DL : Addr) : Sp := fun vs H Q E => ∃ p S x k, vs = [.ref p, x] /\ ShAt C H p S /\ IsK H k x /\ k.deep <= 3 /\ k.th.ok 3 = true /\ (∀ (i : Nat) H', S.os[i]? = some (some k) -> Same H H' -> Q (.int (i : Nat)) H') /\
 ((∀ i : Nat, S.os[i]? ≠ some (some k)) -> ∀ ea H', Same H H' -> H' ea = none -> E (.ref DL) (some ea) H')
def J9 (S : Sh) (k : Kd) (c i : Nat) : Sh := { S with cs := S.cs.set (sl k.st S.n c) (-2), os := S.os.set i none, hs := S.hs.set i .non, we := S.we + 1 }
def zDB (C DL : Addr) : Sp := fun vs H Q E => ∃ p S x k, vs = [.ref p, x] /\ ShAt C H p S /\ IsK H k x /\ k.deep <= 3 /\ k.th.ok 3 = true /\
 (∀ (i : Nat) c H', S.os[i]? = some (some k) -> IsFirst (fun c => YE S.os k (cAt S.cs k.st c)) S.n c -> But p S H H' -> ShAt C H' p (J9 S k c i) -> Q ((S.hs[i]?).getD .non) H') /\
 ((∀ i : Nat, S.os[i]? ≠ some (some k)) -> ∀ ea H', Same H H' -> H' ea = none -> E (.ref DL) (some ea) H')
def zCf (C : Addr) : Sp := fun vs H Q _ => ∃ p S xs m, vs = [.ref p, .int m] /\ ShAt C H p S /\ H S.pr = some (.lst xs) /\
 (∀ H', (YQ S xs).filter (fun e => decide (e.1 < m)) = [] -> Same H H' -> Q .non H') /\
 (∀ l e t H', (YQ S xs).filter (fun e => decide (e.1 < m)) = l ++ [e] -> Same H H' -> H' t = some (.tup [.int e.1, e.2.1, e.2.2]) -> Q (.ref t) H')
def zIb (os : List (Option Kd)) (i : Nat) (k : Kd) : Prop := os[i]? = some (some k) /\ ∀ j : Nat, i < j -> ∀ k', os[j]? ≠ some (some k')
def W5 (os : List (Option Kd)) : Prop := ∀ k, some k ∈ os -> k.th.ok 3 = true
def zFb (C DL : Addr) : Sp := fun vs H Q E => ∃ p S, vs = [.ref p] /\ ShAt C H p S /\ W5 S.os /\
 (∀ (i : Nat) c k x y t H', zIb S.os i k -> IsFirst (fun c => YE S.os k (cAt S.cs k.st c)) S.n c -> But p S H H' -> ShAt C H' p (J9 S k c i) -> IsK H' k x -> y = (S.hs[i]?).getD .non -> H' t = some (.tup [x, y]) -> Q (.ref t) H') /\
 ((∀ (i : Nat) k, S.os[i]? ≠ some (some k)) -> ∀ ea H', Same H H' -> H' ea = none -> E (.ref DL) (some ea) H')
def zKB (C : Addr) : Sp := fun vs H Q _ => ∃ (p : Addr) (S : Sh), vs = [.ref p] /\ (∃ we, H p = some (.ins C S.dx (shF S.pc S.n S.pr S.ph S.pm S.ca we S.ti S.mo))) /\ Q (.int S.n) H
theorem zJQ {H H' : Hp} {os : List (Option Kd)} {xs : List V} (h : IsKos H os xs) (t : TupS H H') (i : Nat) : IsKos H' (os.set i none) (xs.set i V.non) := (h.same t).set (show IsKo H' none V.non from rfl) i
def zHt : Sp := fun vs H Q _ => ∃ m, vs = [.int m] /\ 0 <= m /\ m <= 1365 /\ ∀ s, S8 s -> 3 * m <= s -> (s = 8 \/ s / 2 < 3 * m) -> Q (.int s) H
def zBU : Sp := fun vs H Q _ => ∃ a b xs ys, vs = [.ref a, .ref b] /\ H a = some (.lst xs) /\ H b = some (.lst ys) /\ xs.length = ys.length /\ xs.length <= 4096 /\
 ∀ t p q H', Same H H' -> H p = none -> H q = none -> p ≠ q -> H' t = some (.tup [.ref p, .ref q]) -> H' p = some (.lst (Kp xs)) -> H' q = some (.lst (Kb xs ys)) -> Q (.ref t) H'
def Cnt (S : Sh) : Prop := S.ca - S.we = (YJ S.os : Int)
def Zg (S : Sh) (pc pr ph pm : Addr) (n : Nat) (cs : List Int) : Sh := { S with pc := pc, pr := pr, ph := ph, pm := pm, n := n, cs := cs, os := Qd S.os, hs := Qo S.os S.hs, ms := Qo S.os S.ms, ti := S.ti + 1, mo := S.mo + (S.ca - S.we) }
def JP (p : Addr) (S S' : Sh) (H H' : Hp) : Prop := ∀ b o, H b = some o -> (b ≠ p /\ b ≠ S.pc /\ b ≠ S.pr /\ b ≠ S.ph /\ b ≠ S.pm) -> H' b = some o /\ (b ≠ p /\ b ≠ S'.pc /\ b ≠ S'.pr /\ b ≠ S'.ph /\ b ≠ S'.pm)
def zHW (C : Addr) : Sp := fun vs H Q _ => ∃ p S, vs = [.ref p] /\ ShAt C H p S /\ Cnt S /\ YJ S.os <= 1365 /\ ∀ pc pr ph pm n cs H', H pc = none -> H pr = none -> H ph = none -> H pm = none -> (∀ b o, H b = some o -> b ≠ p -> H' b = some o) -> (n = 8 \/ n < 6 * YJ S.os) -> 3 * YJ S.os <= n -> ShAt C H' p (Zg S pc pr ph pm n cs) -> Q .non H'
def Tid (S S1 : Sh) : Prop := ∃ pc pr ph pm n cs, S1 = Zg S pc pr ph pm n cs /\ (n = 8 \/ n < 6 * YJ S.os) /\ 3 * YJ S.os <= n
def zKH : Sp := fun vs H Q _ => ∃ p, vs = [V.ref p] /\ Q (.int 8) H
def zE9 (C : Addr) : Sp := fun vs H Q _ => ∃ p dx, vs = [.ref p] /\ H p = some (.ins C dx []) /\ ∀ S H', (∀ b o, H b = some o -> b ≠ p -> H' b = some o) -> ShAt C H' p S -> S.n = 8 -> S.os = [] -> S.hs = [] -> S.ms = [] -> S.ca = 0 -> S.we = 0 -> S.ti = 0 -> S.mo = 0 -> Q .non H'
theorem zDa {p : Addr} {S S1 : Sh} {H H1 H2 : Hp} (k : ∀ b o, H b = some o -> b ≠ p -> H1 b = some o) (f1 : H S1.pc = none) (f2 : H S1.pr = none) (f3 : H S1.ph = none) (f4 : H S1.pm = none) (b : But p S1 H1 H2) : JP p S S1 H H2 := fun c o e ⟨m, _⟩ =>
 ⟨b c o (k c o e m) m (QH e f1) (QH e f2) (QH e f3) (QH e f4), m, QH e f1, QH e f2, QH e f3, QH e f4⟩
def zHu (d : Nat) : Sp := fun vs H Q _ => ∃ x y, vs = [x, y] /\ Sm d H x y /\ ∀ H', Same H H' -> Q (.bl true) H'
def zKe (a : Ad) (tb : Bool) : Sp := fun vs H Q E => tb = true /\ zHW (cA a tb) vs H Q E
def zFc (a : Ad) (tb : Bool) : Sp := fun vs H Q _ => ∃ p S x k y, vs = [.ref p, x, y] /\ ShAt (cA a tb) H p S /\ Cnt S /\ YJ S.os <= 1365 /\ (tb = false -> S.os.length < 2 * S.n / 3) /\ IsK H k x /\ k.deep <= 3 /\ (∀ i : Nat, S.os[i]? ≠ some (some k)) /\
 (S.os.length < 2 * S.n / 3 -> ∀ c H', IsFirst (fun c => YE S.os k (cAt S.cs k.st c)) S.n c -> But p S H H' -> ShAt (cA a tb) H' p (Yu S k c y) -> Q .non H') /\
 (2 * S.n / 3 <= S.os.length -> ∀ S1 c H', Tid S S1 -> JP p S S1 H H' -> ShAt (cA a tb) H' p (Yu S1 k c y) -> Q .non H')
def zC9 (a : Ad) (tb : Bool) : Sp := fun vs H Q _ => ∃ p S x k y, vs = [.ref p, x, y] /\ ShAt (cA a tb) H p S /\ Cnt S /\ YJ S.os <= 1365 /\ (tb = false -> S.os.length < 2 * S.n / 3) /\ IsK H k x /\ k.deep <= 3 /\ k.th.ok 3 = true /\
 (∀ (i : Nat) H', S.os[i]? = some (some k) -> But p S H H' -> ShAt (cA a tb) H' p { S with hs := S.hs.set i y } -> Q (.bl false) H') /\
 (∀ c H', (∀ i : Nat, S.os[i]? ≠ some (some k)) -> S.os.length < 2 * S.n / 3 -> IsFirst (fun c => YE S.os k (cAt S.cs k.st c)) S.n c -> But p S H H' -> ShAt (cA a tb) H' p (Yu S k c y) -> Q (.bl true) H') /\
 (∀ S1 c H', tb = true -> (∀ i : Nat, S.os[i]? ≠ some (some k)) -> 2 * S.n / 3 <= S.os.length -> Tid S S1 -> JP p S S1 H H' -> ShAt (cA a tb) H' p (Yu S1 k c y) -> Q (.bl true) H')
def nE (tb : Bool) (S : Sh) : Nat := vA S.n 8 tb
theorem zHk {tb : Bool} {C : Addr} {H : Hp} {p : Addr} {S : Sh} (A : ShAt C H p S) : S8 ((nE tb S : Nat) : Int) := by
 cases tb
 ·exact A.s8
 ·exact .inl rfl
def zFA (a : Ad) (tb : Bool) : Sp := fun vs H Q _ => ∃ (p : Addr) (S : Sh), vs = [.ref p] /\ (∃ we, H p = some (.ins (cA a tb) S.dx (shF S.pc S.n S.pr S.ph S.pm S.ca we S.ti S.mo))) /\ Q (.int (nE tb S)) H
def zAw (tb : Bool) (S : Sh) (pc pr ph pm : Addr) : Sh := { S with pc := pc, pr := pr, ph := ph, pm := pm, n := nE tb S, cs := List.replicate (nE tb S) (-1), os := [], hs := [], ms := [], we := S.ca }
def zBE (a : Ad) (tb : Bool) : Sp := fun vs H Q _ => ∃ p S, vs = [.ref p] /\ ShAt (cA a tb) H p S /\ ∀ pc pr ph pm H', H pc = none -> H pr = none -> H ph = none -> H pm = none -> (∀ b o, H b = some o -> b ≠ p -> H' b = some o) -> ShAt (cA a tb) H' p (zAw tb S pc pr ph pm) -> Q .non H'
local macro_rules | `(tactic| walk_at "rd") => `(tactic| simp only [L2.zDn, L2.tC, L2.tOp, L2.tUn, L2.rI, L2.rI0, L2.rU, L2.zHl, L2.tB, L2.zLN, L2.tOr, L2.zKu, L2.zH4, L2.zLt, L2.zIS, L2.tIf, L2.zIt, L2.zLA, L2.zKJ, L2.zKc, L2.zKs, L2.Zd, L2.zBh, L2.zFR, L2.tCB, L2.zF6, L2.zDw, L2.zHx, L2.zJI, L2.zLa, L2.Zf, L2.tSl, L2.zIj, L2.zE4, L2.zAb, L2.zE6, L2.zG2, L2.zHn, L2.zFX, L2.zFv, L2.zLG, L2.zE8, L2.zG5, L2.zFw, L2.zFN, L2.zLI, L2.J4, L2.Yj, L2.zDO, L2.zLT, L2.zFe, L2.tBM, L2.zMO, Option.getD_some, L2.zIs, L2.zLr, L2.zIA, L2.zKk,
 Int.reduceLT, Int.reduceLE, Int.reduceToNat, Int.reducePow, Int.reduceMul, Int.reduceSub, Int.reduceAdd, Int.reduceNeg, Int.reduceEq, Int.reduceNe, Int.reduceDiv, Int.reduceMod, Nat.reduceLT, Nat.reducePow, Nat.reduceLeDiff, Nat.reduceMul,
 List.map_cons, List.map_nil, List.length_cons, List.length_nil, List.cons_append, List.nil_append, Nat.zero_add, Nat.reduceAdd, Nat.reduceSub, Nat.sub_self, List.replicate_succ, List.replicate_zero, List.append_nil, List.getElem?_cons_zero, List.getElem?_cons_succ, List.set_cons_zero, List.set_cons_succ,
 Option.some.injEq, L2.V.int.injEq, L2.V.bl.injEq, L2.V.str.injEq, L2.V.ref.injEq, and_assoc, exists_and_left, exists_eq', exists_eq, exists_eq_left, exists_eq_left', decide_eq_true_eq, Bool.not_eq_true', decide_eq_false_iff_not, ↓reduceIte, Bool.false_eq_true, if_true, if_false, Bool.not_true, Bool.not_false, true_and, and_true, List.cons.injEq, Bool.true_eq_false, reduceCtorEq, decide_true, decide_false, L2.zHS, L2.J6, L2.WL, L2.zAC, L2.Wy, L2.zAr, L2.Ws, L2.zBP, L2.Jy, L2.Jx, L2.WQ, L2.zAA, L2.JR, L2.J7, L2.WP, L2.zAB, L2.Wx, L2.Q5, L2.Qg, L2.Yz, L2.Zb, L2.Yy, L2.YY, L2.Yw, L2.W8, L2.ZK, L2.Yk, L2.ZB, L2.J1, zCw, L2.zJy, L2.zDm, L2.zJY, L2.zLU, L2.zEI, L2.zHh, L2.zHg, L2.zII, L2.zHF, L2.zCJ, L2.zK1, L2.zIf, L2.zFx, L2.zCp, L2.zIV, L2.zMK, L2.zKh, L2.zFi, L2.zIL, L2.zHa, L2.zIp, L2.zIi, L2.zL9, L2.Zo, L2.zIO, L2.Ja, L2.zKf, L2.zFD, L2.JF, L2.J2, L2.W9, L2.JM, L2.zIP, L2.tKM, L2.zLd, L2.zDp])
theorem WR {α β : Type} {F : α -> β -> Prop} {a : α} : ∀ {l : List α} {l' : List β}, Paired F (l ++ [a]) l' -> ∃ m b, l' = m ++ [b] /\ Paired F l m /\ F a b
 | [], _, .cons r .nil => ⟨[], _, rfl, .nil, r⟩
 | x :: l, _, .cons (b := b) r t => by
  obtain ⟨m, c, rfl, h1, h2⟩ := WR (l := l) t
  exact ⟨b :: m, c, rfl, .cons r h1, h2⟩
theorem J3 {α : Type} {p : α -> Bool} {e : α} : ∀ {L l : List α}, L.filter p = l ++ [e] -> ∃ i : Nat, L[i]? = some e /\ p e = true /\ ∀ j : Nat, i < j -> ∀ e', L[j]? = some e' -> p e' = false
 | [], l, h => by simp at h
 | a :: r, l, h => by
  rcases List.eq_nil_or_concat (r.filter p) with er | ⟨m, b, er⟩
  ·have none : ∀ j : Nat, ∀ e', r[j]? = some e' -> p e' = false := fun j e' he => by
    cases hp : p e' with
    | false => rfl
    | true =>
     have : e' ∈ r.filter p := List.mem_filter.mpr ⟨List.mem_of_getElem? he, hp⟩
     rw [er] at this
     cases this
   rw [List.filter_cons] at h
   cases hp : p a with
   | false => rw [hp, er] at h; simp at h
   | true =>
    rw [hp, er] at h
    have z : [a] = l ++ [e] := h
    have z2 := congrArg List.getLast? z
    simp at z2
    subst z2
    refine ⟨0, rfl, hp, fun j hj e' he => ?_⟩
    cases j with
    | zero => omega
    | succ j => exact none j e' (by simpa using he)
  ·rw [List.concat_eq_append] at er
   have eb : b = e := by
    rw [List.filter_cons] at h
    cases hp : p a with
    | false =>
     rw [hp, er] at h
     have z := congrArg List.getLast? (show m ++ [b] = l ++ [e] from h)
     simpa using z
    | true =>
     rw [hp, er] at h
     have z := congrArg List.getLast? (show (a :: m) ++ [b] = l ++ [e] from h)
     rw [List.getLast?_concat, List.getLast?_concat] at z
     exact Option.some.inj z
   subst eb
   obtain ⟨i, h1, h2, h3⟩ := J3 er
   refine ⟨i + 1, by simpa using h1, h2, fun j hj e' he => ?_⟩
   cases j with
   | zero => omega
   | succ j => exact h3 j (by omega) e' (by simpa using he)
section
variable {C p : Addr} {H : Hp} {S : Sh} {xs : List V}
theorem zIM (A : ShAt C H p S) : (YQ S xs).filter (fun e => decide (e.1 < S.ca + 1)) = YQ S xs := by
 refine List.filter_eq_self.mpr fun e he => ?_
 unfold YQ at he
 have := (List.of_mem_zip (List.mem_filter.mp he).1).1
 have := A.cm _ this
 exact decide_eq_true (by omega)
theorem zFh {o : Option Kd} {x : V} (h : IsKo H o x) : NN x = o.isSome := by
 unfold NN
 rw [h.non]
 cases o <;> rfl
theorem zDr (A : ShAt C H p S) (h : IsKos H S.os xs) {i : Nat} {o : Option Kd} (e : S.os[i]? = some o) : ∃ m x v, S.ms[i]? = some m /\ xs[i]? = some x /\ S.hs[i]? = some v /\ IsKo H o x /\ (S.ms.zip (xs.zip S.hs))[i]? = some (m, x, v) := by
 have hi := (List.getElem?_eq_some_iff.mp e).1
 have l1 := A.l1
 have l2 := A.l2
 have l3 := h.len
 obtain ⟨x, ex, ix⟩ := h.get' e
 refine ⟨S.ms[i], x, S.hs[i], List.getElem?_eq_getElem (by omega), ex, List.getElem?_eq_getElem (by omega), ix, ?_⟩
 rw [List.getElem?_zip_eq_some]
 exact ⟨List.getElem?_eq_getElem (by omega), by rw [List.getElem?_zip_eq_some]; exact ⟨ex, List.getElem?_eq_getElem (by omega)⟩⟩
theorem zHc (A : ShAt C H p S) (h : IsKos H S.os xs) (hE : YQ S xs = []) : ∀ (i : Nat) k, S.os[i]? ≠ some (some k) := fun i k e => by
 obtain ⟨m, x, v, _, _, _, ix, ez⟩ := zDr A h e
 have : (m, x, v) ∈ YQ S xs := List.mem_filter.mpr ⟨List.mem_of_getElem? ez, by show NN x = true; rw [zFh ix]; rfl⟩
 rw [hE] at this
 cases this
theorem zGY (A : ShAt C H p S) (h : IsKos H S.os xs) {l : List (Int × V × V)} {e : Int × V × V} (hE : YQ S xs = l ++ [e]) : ∃ i k, zIb S.os i k /\ xs[i]? = some e.2.1 /\ S.hs[i]? = some e.2.2 := by
 obtain ⟨i, h1, h2, h3⟩ := J3 (show (S.ms.zip (xs.zip S.hs)).filter (fun e => NN e.2.1) = l ++ [e] from hE)
 rw [List.getElem?_zip_eq_some, List.getElem?_zip_eq_some] at h1
 obtain ⟨_, g1, g2⟩ := h1
 obtain ⟨o, eo, io⟩ := h.get g1
 have z := zFh io
 rw [h2] at z
 cases o with
 | none => cases z
 | some k =>
  refine ⟨i, k, ⟨eo, fun j hj k' ej => ?_⟩, g1, g2⟩
  obtain ⟨m, x, v, _, _, _, ix, ez⟩ := zDr A h ej
  have y := h3 j hj _ ez
  have y2 := zFh ix
  rw [show NN x = false from y] at y2
  cases y2
end
theorem at0 {x : V} {xs : List V} : atI (x :: xs) 0 = some x := ZR (j := 0) rfl
def zFS (C : Addr) : Sp := fun vs H Q _ => ∃ p S xs m, vs = [.ref p, .int m] /\ ShAt C H p S /\ H S.pr = some (.lst xs) /\
 (∀ H', (YQ S xs).filter (fun e => decide (e.1 > m)) = [] -> Same H H' -> Q .non H') /\
 (∀ l e t H', (YQ S xs).filter (fun e => decide (e.1 > m)) = e :: l -> Same H H' -> H' t = some (.tup [.int e.1, e.2.1, e.2.2]) -> Q (.ref t) H')
section
variable {P : Program} {w : World} {K : W.Frag} {mg : Str -> Option Value} {base : Heap} {a : Ad} {tb : Bool}
theorem zG0 (T : Txt K mg a)(G_Hentries : FnOk P w K mg base CX0 1 a.f_Hentries a.d_Hentries ZI (Jm (cA a tb))) : FnOk P w K mg base CX0 2 a.f_Hahead a.d_Hahead JD (zCf (cA a tb)) := by
 refine T.F_Hahead.ok sc_Hahead (fun vs H Q E h => ?_) (fun cdv A outer s H vs Q E hr h => ?_)
 ·obtain ⟨p, S, xs, m, rfl, _⟩ := h
  rfl
 have nd := sc_Hahead.nd
 obtain ⟨p, S, xs, m, rfl, A, hx, q1, q2⟩ := h
 refine ⟨_, (QB (zBG (i := 2) nd rfl (Or.inl rfl) "entry" ["number"] [1] rfl ⟨rfl, rfl, by decide +kernel, by decide +kernel, rfl, by decide +kernel, by decide +kernel, rfl, by decide +kernel⟩ rfl (Z9 (Ql (pv 0) (T.cl tb) (T.M_Hentries tb) (G_Hentries.mono (by decide)) hr T.b_Hentries .nil QP)) (fun C s1 H1 fp => (QT zA3 (Qt YS (pv 0) QE (fun _ _ => rfl)) (pv 1) (QR _))) (fun C s1 H1 fp => (pv 0)))
 (QF (QL (Zw (zDQ (pv 2) (fun _ => rfl)) (Qt YS (pv 2) (zDx zA1 QE) (fun _ _ => rfl)) Q6)))), ?_⟩
 have hel : (YQ S xs).length <= 4096 := by
  have := A.small
  have := A.l2
  unfold YQ
  refine Nat.le_trans (List.length_filter_le _ _) ?_
  rw [List.length_zip]
  omega
 try walk_at "rd"
 rw [Yn A (by decide +kernel)]
 try walk_at "rd"
 refine ⟨p, S, xs, rfl, A, hx, fun l ys H1 g1 nl hl pe => ?_⟩
 have pl := Paired.length pe
 refine ⟨l, rfl, ⟨_, SqL.of hl⟩, ZU (xs := ys) (fun i zs H2 => Same H1 H2 /\ zs.length <= i /\ Paired (EntR H2) zs (((YQ S xs).take i).filter (fun e => decide (e.1 < m)))) ⟨Same.refl H1, Nat.zero_le _, .nil⟩ (fun i zs H2 _ h => SqL.of (h.1 _ _ hl)) (fun i zs H2 hi h => ?_) (fun i y zs H2 ey h => ?_) (fun zs H2 h => ?_)⟩
 ·have := h.2.1; exact Qm (by omega)
 ·obtain ⟨g, hz, pr⟩ := h
  obtain ⟨e, ee, t, rfl, ht⟩ := Yq pe ey
  have ht2 := g _ _ ht
  try walk_at "rd"
  rw [YA (v := V.int e.1) ht2 rfl, Ym ee, List.filter_append]
  try walk_at "rd"
  by_cases c : e.1 < m
  ·rw [if_pos c]
   have e1 : [e].filter (fun e : Int × V × V => decide (e.1 < m)) = [e] := by simp [List.filter, c]
   rw [e1]
   exact ⟨g, by rw [List.length_append, List.length_singleton]; omega, Ya pr ⟨t, rfl, ht2⟩⟩
  ·rw [if_neg c]
   have e1 : [e].filter (fun e : Int × V × V => decide (e.1 < m)) = [] := by simp [List.filter, c]
   rw [e1, List.append_nil]
   exact ⟨g, by omega, pr⟩
 ·obtain ⟨g, hz, pr⟩ := h
  intro l2 hl2
  have gl := QI (o := HO.lst zs) hl2
  have hu := QD (H := H2) (a := l2) (o := HO.lst zs)
  have G := (g1.trans g).trans gl
  have pr' := YM pr fun a _ b h => EntR.same gl h
  rw [List.take_of_length_le (by omega)] at pr'
  generalize upd H2 l2 (HO.lst zs) = H3 at hu G pr' ⊢
  try walk_at "rd"
  refine ⟨!zs.isEmpty, .inl ⟨zs, SqL.of hu, rfl⟩, ?_⟩
  rcases List.eq_nil_or_concat zs with ez | ⟨zs', z, ez⟩
  ·subst ez
   generalize hE : (YQ S xs).filter (fun e => decide (e.1 < m)) = es at pr'
   cases pr'
   exact zIy (q1 H3 hE G)
  ·rw [List.concat_eq_append] at ez
   subst ez
   obtain ⟨es, e, hE, _, t, rfl, ht⟩ := WR pr'
   have ne : (!(zs' ++ [V.ref t]).isEmpty) = true := by simp
   rw [ne]
   refine zL6 ?_
   show ixC (V.ref l2) (V.int (-1)) _ _
   rw [Qz hu (v := V.ref t) ((zAU (c := zs'.length) (by simp)).trans (by simp))]
   exact q2 es e t H3 hE G ht
theorem zBQ (T : Txt K mg a)(G_Hahead : FnOk P w K mg base CX0 2 a.f_Hahead a.d_Hahead JD (zCf (cA a tb)))(G_Htake : FnOk P w K mg base (CXe P w) 13 a.f_Htake a.d_Htake zAR (zDB (cA a tb) a.a_Lacking)) : FnOk P w K mg base (CXe P w) 14 a.f_Htake_last a.d_Htake_last ZW (zFb (cA a tb) a.a_Lacking) := by
 refine T.F_Htake_last.okE sc_Htake_last (fun vs H Q E h => ?_) (fun cdv A outer s H vs Q E hr h => ?_)
 ·obtain ⟨p, S, rfl, _⟩ := h
  rfl
 have nd := sc_Htake_last.nd
 obtain ⟨p, S, rfl, A, hor, q1, q2⟩ := h
 obtain ⟨bmL, xL⟩ := T.x_Lacking
 refine ⟨_, (QB (QW (i := 1) nd rfl (Or.inl rfl) (Qr (pv 0) (T.cl tb) (T.M_Hahead tb) (G_Hahead.mono (by decide)) hr T.b_Hahead .nil QP (QA (QK Yf (QS (pv 0) rfl) QE) QC)))
 (QB (QU (QT zCR (pv 1) Q6 (QR _)) (QF (zB4 hr.hd rfl T.m_Lacking xL (QA Yb QC))) QN)
 (QB (QW (i := 2) nd rfl (Or.inl rfl) (Qt YS (pv 1) QE (fun _ _ => rfl)))
 (QF (QL (YK (QA (pv 2) (QA (Qr (pv 0) (T.cl tb) (T.M_Htake tb) (G_Htake.mono (by decide)) hr T.b_Htake .nil (zKo (fun _ _ _ h => h)) (QA (pv 2) QC)) QC)))))))), ?_⟩
 obtain ⟨xs, hx1, hx2⟩ := A.hr
 have all := zIM A (xs := xs)
 try walk_at "rd"
 rw [Yn A (by decide +kernel), zEl T A]
 try walk_at "rd"
 refine ⟨p, S, xs, S.ca + 1, rfl, A, hx1, fun H1 hE g1 => ?_, fun l e t H1 hE g1 ht => ?_⟩
 ·rw [all] at hE
  try walk_at "rd"
  exact ⟨by decide, fun ea he => q2 (zHc A hx2 hE) ea H1 g1 he⟩
 ·rw [all] at hE
  obtain ⟨i, k, hlst, ex, eh⟩ := zGY A hx2 hE
  have A1 := A.same g1
  have ik : IsK H k e.2.1 := by
   obtain ⟨o, eo, io⟩ := hx2.get ex
   rw [hlst.1] at eo
   cases eo
   exact io
  have kd : k.deep <= 3 := A.dp _ (List.mem_of_getElem? hlst.1)
  try walk_at "rd"
  rw [YA (v := e.2.1) ht rfl]
  try walk_at "rd"
  rw [Yn A1 (by decide +kernel)]
  try walk_at "rd"
  refine ⟨p, S, e.2.1, k, rfl, A1, ik.same g1.tups, kd, hor k (List.mem_of_getElem? hlst.1), fun j c H2 hj hc b A2 => ?_, fun hn => absurd hlst.1 (hn i)⟩
  have ej := A.fm.keys _ _ _ hj hlst.1
  subst ej
  have tt := g1.tups.trans (A1.tups b)
  try walk_at "rd"
  refine ⟨by decide, fun u hu => ?_⟩
  have gu := QI (o := HO.tup [e.2.1, (S.hs[j]?).getD V.non]) hu
  exact q1 j c k e.2.1 _ u _ hlst hc (fun z o e' m0 m1 m2 m3 m4 => gu _ _ (b z o (g1 _ _ e') m0 m1 m2 m3 m4)) (A2.same gu) ((ik.same tt).same gu.tups) rfl QD
theorem zGb (T : Txt K mg a)(G_Hentries : FnOk P w K mg base CX0 1 a.f_Hentries a.d_Hentries ZI (Jm (cA a tb))) : FnOk P w K mg base CX0 2 a.f_Hafter a.d_Hafter zAt (zFS (cA a tb)) := by
 refine T.F_Hafter.ok sc_Hafter (fun vs H Q E h => ?_) (fun cdv A outer s H vs Q E hr h => ?_)
 ·obtain ⟨p, S, xs, m, rfl, _⟩ := h
  rfl
 have nd := sc_Hafter.nd
 obtain ⟨p, S, xs, m, rfl, A, hx, q1, q2⟩ := h
 refine ⟨_, (QB (zBG (i := 2) nd rfl (Or.inl rfl) "entry" ["number"] [1] rfl ⟨rfl, rfl, by decide +kernel, by decide +kernel, rfl, by decide +kernel, by decide +kernel, rfl, by decide +kernel⟩ rfl (Z9 (Ql (pv 0) (T.cl tb) (T.M_Hentries tb) (G_Hentries.mono (by decide)) hr T.b_Hentries .nil QP)) (fun C s1 H1 fp => (QT zBZ (Qt YS (pv 0) QE (fun _ _ => rfl)) (pv 1) (QR _))) (fun C s1 H1 fp => (pv 0)))
 (QF (QL (Zw (zDQ (pv 2) (fun _ => rfl)) (Qt YS (pv 2) QE (fun _ _ => rfl)) Q6)))), ?_⟩
 have hel : (YQ S xs).length <= 4096 := by
  have := A.small
  have := A.l2
  unfold YQ
  refine Nat.le_trans (List.length_filter_le _ _) ?_
  rw [List.length_zip]
  omega
 try walk_at "rd"
 rw [Yn A (by decide +kernel)]
 try walk_at "rd"
 refine ⟨p, S, xs, rfl, A, hx, fun l ys H1 g1 nl hl pe => ?_⟩
 have pl := Paired.length pe
 refine ⟨l, rfl, ⟨_, SqL.of hl⟩, ZU (xs := ys) (fun i zs H2 => Same H1 H2 /\ zs.length <= i /\ Paired (EntR H2) zs (((YQ S xs).take i).filter (fun e => decide (e.1 > m)))) ⟨Same.refl H1, Nat.zero_le _, .nil⟩ (fun i zs H2 _ h => SqL.of (h.1 _ _ hl)) (fun i zs H2 hi h => ?_) (fun i y zs H2 ey h => ?_) (fun zs H2 h => ?_)⟩
 ·have := h.2.1; exact Qm (by omega)
 ·obtain ⟨g, hz, pr⟩ := h
  obtain ⟨e, ee, t, rfl, ht⟩ := Yq pe ey
  have ht2 := g _ _ ht
  try walk_at "rd"
  rw [YA (v := V.int e.1) ht2 rfl, Ym ee, List.filter_append]
  try walk_at "rd"
  by_cases c : e.1 > m
  ·rw [if_pos c]
   have e1 : [e].filter (fun e : Int × V × V => decide (e.1 > m)) = [e] := by simp [List.filter, c]
   rw [e1]
   exact ⟨g, by rw [List.length_append, List.length_singleton]; omega, Ya pr ⟨t, rfl, ht2⟩⟩
  ·rw [if_neg c]
   have e1 : [e].filter (fun e : Int × V × V => decide (e.1 > m)) = [] := by simp [List.filter, c]
   rw [e1, List.append_nil]
   exact ⟨g, by omega, pr⟩
 ·obtain ⟨g, hz, pr⟩ := h
  intro l2 hl2
  have gl := QI (o := HO.lst zs) hl2
  have hu := QD (H := H2) (a := l2) (o := HO.lst zs)
  have G := (g1.trans g).trans gl
  have pr' := YM pr fun a _ b h => EntR.same gl h
  rw [List.take_of_length_le (by omega)] at pr'
  generalize upd H2 l2 (HO.lst zs) = H3 at hu G pr' ⊢
  try walk_at "rd"
  refine ⟨!zs.isEmpty, .inl ⟨zs, SqL.of hu, rfl⟩, ?_⟩
  cases zs with
  | nil =>
   generalize hE : (YQ S xs).filter (fun e => decide (e.1 > m)) = es at pr'
   cases pr'
   exact zIy (q1 H3 hE G)
  | cons z zs' =>
   generalize hE : (YQ S xs).filter (fun e => decide (e.1 > m)) = es at pr'
   cases pr' with
   | cons r0 rt =>
    obtain ⟨t, rfl, ht⟩ := r0
    refine zL6 ?_
    show ixC (V.ref l2) (V.int 0) _ _
    rw [Qz hu (v := V.ref t) at0]
    exact q2 _ _ t H3 hE G ht
end
section
variable {P : Program} {w : World} {K : W.Frag} {mg : Str -> Option Value} {base : Heap} {a : Ad} {tb : Bool}
def Far (b p : Addr) (S : Sh) : Prop := b ≠ p /\ b ≠ S.pc /\ b ≠ S.pr /\ b ≠ S.ph /\ b ≠ S.pm
def zLS (S S' : Sh) : Prop := S'.pc = S.pc /\ S'.pr = S.pr /\ S'.ph = S.ph /\ S'.pm = S.pm /\ S'.n = S.n
theorem zEF {os : List (Option Kd)} {k : Kd} (h : W5 os) (hk : k.th.ok 3 = true) : W5 (os ++ [some k]) := fun k' hk' => by
 rcases List.mem_append.mp hk' with z | z
 ·exact h k' z
 ·cases List.mem_singleton.mp z; exact hk
theorem zGV {os : List (Option Kd)} {i : Nat} (h : W5 os) : W5 (os.set i none) := fun k' hk' => by
 rcases List.mem_or_eq_of_mem_set hk' with z | z
 ·exact h k' z
 ·cases z
theorem zLe {i : Nat} : (List.replicate i true).map V.bl ++ [V.bl true] = V.bl true :: (List.replicate i true).map V.bl := by
 have e : [V.bl true] = [true].map V.bl := rfl
 rw [e, ← List.map_append, ← List.replicate_succ', List.replicate_succ, List.map_cons]
theorem zBT {C : Addr} {H : Hp} {p b : Addr} {S : Sh} (A : ShAt C H p S) (h : H b = none) : Far b p S := by
 obtain ⟨xs, h1, _⟩ := A.hr
 refine ⟨fun e => ?_, fun e => ?_, fun e => ?_, fun e => ?_, fun e => ?_⟩
 ·rw [e, A.ob] at h; cases h
 ·rw [e, A.hc] at h; cases h
 ·rw [e, h1] at h; cases h
 ·rw [e, A.hh] at h; cases h
 ·rw [e, A.hm] at h; cases h
open Builtin.Int (intBits) in
def Bt (n : Int) : Prop := ∃ c, intBits c <= 2 ^ 20 /\ 8 * n.natAbs <= c.natAbs + 8
open Builtin.Int (intBits) in
theorem zDF {n y : Int} (h : Bt n) (hy : y.natAbs <= n.natAbs + 100) : intBits y <= 2 ^ 20 := by
 obtain ⟨c, h1, h2⟩ := h
 exact zGr h1 (by omega)
open Builtin.Int (intBits) in
theorem zL4 {c : Int} (h : intBits c <= 2 ^ 20) : Bt (c / 8) := ⟨c, h, by omega⟩
theorem zEw {os : List (Option Kd)} (h : W5 os) : W5 (Qd os) := fun k hk => h k (WB hk)
theorem Z5 {p : Addr} {S S' : Sh} {H H' : Hp} (b : But p S H H') (ad : zLS S S') : JP p S S' H H' := fun c o e f => by
 obtain ⟨a1, a2, a3, a4, _⟩ := ad
 obtain ⟨f1, f2, f3, f4, f5⟩ := f
 exact ⟨b c o e f1 f2 f3 f4 f5, f1, by rw [a1]; exact f2, by rw [a2]; exact f3, by rw [a3]; exact f4, by rw [a4]; exact f5⟩
theorem YU {C : Addr} {H H' : Hp} {p : Addr} {S S' : Sh} (A : ShAt C H p S) (k : JP p S S' H H') : TupS H H' := fun c xs e => by
 obtain ⟨ys, h1, _⟩ := A.hr
 refine (k c _ e ⟨fun z => ?_, fun z => ?_, fun z => ?_, fun z => ?_, fun z => ?_⟩).1
 ·rw [z, A.ob] at e; cases e
 ·rw [z, A.hc] at e; cases e
 ·rw [z, h1] at e; cases e
 ·rw [z, A.hh] at e; cases e
 ·rw [z, A.hm] at e; cases e
def Ab3 (S : Sh) (es : List Tr) (came : Int) : Prop := es = Yt S.os S.ms S.hs /\ came = S.ca /\ Ris es /\ ∀ e ∈ es, 0 < e.2.1 /\ e.2.1 <= came
theorem Ab3.no {S : Sh} {es : List Tr} {came : Int} {C : Addr} {H : Hp} {p : Addr} (A : ShAt C H p S) (h : Ab3 S es came) {k : Kd} (e : ∀ i : Nat, S.os[i]? ≠ some (some k)) : ∀ (j : Nat) m v, es[j]? ≠ some (k, m, v) := fun j m v hj => by
 rw [h.1] at hj
 obtain ⟨i, h1, _⟩ := zFo hj
 exact e i h1
theorem Ab3.at {S : Sh} {es : List Tr} {came : Int} {C : Addr} {H : Hp} {p : Addr} (A : ShAt C H p S) (h : Ab3 S es came) {i : Nat} {k : Kd} (hi : S.os[i]? = some (some k)) :
  ∃ (j : Nat) (m : Int) (v : V), es[j]? = some (k, m, v) /\ (∀ y, Ab3 { S with hs := S.hs.set i y } (es.set j (k, m, y)) came) /\ (∀ c, Ab3 (J9 S k c i) (es.eraseIdx j) came) /\ ((∀ a : Nat, i < a -> ∀ k', S.os[a]? ≠ some (some k')) -> j + 1 = es.length) := by
 obtain ⟨h1, h2, h3, h4⟩ := h
 obtain ⟨j, m, v, e1, e2, e3, e4, e5, e6⟩ := zKU hi A.l1 A.l2
 rw [← h1] at e3 e4 e5 e6
 refine ⟨j, m, v, e3, fun y => ⟨(e4 y).symm, h2, zFP h3 e3, fun e he => ?_⟩, fun c => ⟨e5.symm, h2, zGJ h3, fun e he => h4 e (List.mem_of_mem_eraseIdx he)⟩, e6⟩
 rcases List.mem_or_eq_of_mem_set he with z | z
 ·exact h4 e z
 ·rw [z]; have q := h4 _ (List.mem_of_getElem? e3); exact q
theorem Ab3.came {S : Sh} {es : List Tr} {came : Int} {C : Addr} {H : Hp} {p : Addr} (A : ShAt C H p S) (h : Ab3 S es came) (h0 : 0 <= came) {k : Kd} {c : Nat} {y : V} : Ab3 (Yu S k c y) (es ++ [(k, came + 1, y)]) (came + 1) := by
 obtain ⟨h1, h2, h3, h4⟩ := h
 refine ⟨?_, by rw [h2]; rfl, zDs h3 (fun x hx => by have := h4 x hx; show x.2.1 < came + 1; omega), fun e he => ?_⟩
 ·show es ++ [(k, came + 1, y)] = Yt (S.os ++ [some k]) (S.ms ++ [S.ca + 1]) (S.hs ++ [y])
  rw [zB1 A.l1 A.l2, h1, h2]
 ·rcases List.mem_append.mp he with z | z
  ·have := h4 e z; omega
  ·rw [List.mem_singleton.mp z]; show 0 < came + 1 /\ came + 1 <= came + 1; omega
theorem zMI {C : Addr} {H : Hp} {p : Addr} {S : Sh} {xs : List V} (A : ShAt C H p S) (hr : H S.pr = some (.lst xs)) : Paired (fun (e : Int × V × V) (q : Tr) => IsK H q.1 e.2.1 /\ e.1 = q.2.1 /\ e.2.2 = q.2.2) (YQ S xs) (Yt S.os S.ms S.hs) := by
 obtain ⟨xs', h1, h2⟩ := A.hr
 have ex : xs' = xs := by rw [hr] at h1; injection h1 with h1; injection h1 with h1; exact h1.symm
 subst ex
 exact zBc (H := H) (N := NN) (fun o x h => zFh h) (os := S.os) (xs := xs') (hs := S.hs) (ms := S.ms) (fun i o x e1 e2 => by
  obtain ⟨o2, e3, e4⟩ := h2.get e2
  rw [e1] at e3; cases e3; exact e4) h2.len A.l1 A.l2
def TrE (H : Hp) (p : En) (e : Tr) : Prop := p.1 = e.1 /\ Sm 1 H e.2.2 p.2.2
theorem Yx {H H' : Hp} (ts : TupS H H') {ps : List En} {es : List Tr} (h : Paired (TrE H) ps es) : Paired (TrE H') ps es := YM h fun _ _ _ h => ⟨h.1, h.2.same ts⟩
theorem zDE {H : Hp} {ps : List En} {es : List Tr} (h : Paired (TrE H) ps es) : ps.map (·.1) = es.map (·.1) := by
 induction h with
 | nil => rfl
 | cons r _ ih => rw [List.map_cons, List.map_cons, r.1, ih]
structure K1 (w : World) (a : Ad) (tb : Bool) (H : Hp) (p : Addr) (S : Sh) (d : Addr) (ps : List En) (es : List Tr) : Prop where
 A : ShAt (cA a tb) H p S
 ok : W5 S.os
 cn : Cnt S
 w0 : 0 <= S.we
 ol : (S.os.length : Int) <= S.ca
 sh : tb = false -> S.n = 512
 hd : H d = some (dko w d ps)
 en : EnOk H ps
 ab : Ab3 S es S.ca
 tr : Paired (TrE H) ps es
 fd : Far d p S
def Zy (p d : Addr) (S S' : Sh) (H H' : Hp) : Prop := ∀ b o, H b = some o -> Far b p S -> b ≠ d -> H' b = some o /\ Far b p S'
theorem ShAt.far {C : Addr} {H : Hp} {p b : Addr} {S : Sh} {o' : HO} (A : ShAt C H p S) (f : Far b p S) (ts : TupS H (upd H b o')) : ShAt C (upd H b o') p S := by
 obtain ⟨xs, h1, h2⟩ := A.hr
 obtain ⟨f1, f2, f3, f4, f5⟩ := f
 have k : ∀ c o, H c = some o -> b ≠ c -> upd H b o' c = some o := fun c o e n => by rw [QG (Ne.symm n)]; exact e
 exact ⟨k _ _ A.ob f1, k _ _ A.hc f2, ⟨xs, k _ _ h1 f3, h2.same ts⟩, k _ _ A.hh f4, k _ _ A.hm f5, A.ne, A.fm, A.s8, A.rm, A.l1, A.l2, A.dp, A.cm⟩
theorem JY {H : Hp} {a : Addr} {w : World} {ps : List En} {o : HO} (h : H a = some (dko w a ps)) : TupS H (upd H a o) := fun b xs e => by
 rw [QG (zFf e h (by intro z; cases z))]; exact e
theorem Qx {p d : Addr} {S : Sh} {H H' : Hp} (g : Same H H') : Zy p d S S H H' := fun b o e f _ => ⟨g _ _ e, f⟩
theorem Z7 {p d : Addr} {S S' : Sh} {H H' : Hp} (k : JP p S S' H H') : Zy p d S S' H H' := fun b o e f _ => k b o e f
theorem QZ {p d : Addr} {S S1 S2 : Sh} {H H1 H2 : Hp} (a : Zy p d S S1 H H1) (b : Zy p d S1 S2 H1 H2) : Zy p d S S2 H H2 := fun c o e f n => b c o (a c o e f n).1 (a c o e f n).2 n
theorem zAe {p d : Addr} {S : Sh} {H : Hp} {o : HO} : Zy p d S S H (upd H d o) := fun b u e f n => ⟨by rw [QG n]; exact e, f⟩
theorem K1.same {w : World} {a : Ad} {tb : Bool} {H : Hp} {p : Addr} {S : Sh} {d : Addr} {ps : List En} {es : List Tr} {H' : Hp} (k : K1 w a tb H p S d ps es) (g : Same H H') : K1 w a tb H' p S d ps es :=
 ⟨k.A.same g, k.ok, k.cn, k.w0, k.ol, k.sh, g _ _ k.hd, k.en.same g.tups, k.ab, Yx g.tups k.tr, k.fd⟩
theorem K1.few {w : World} {a : Ad} {tb : Bool} {H : Hp} {p : Addr} {S : Sh} {d : Addr} {ps : List En} {es : List Tr} (t : K1 w a tb H p S d ps es) (h : S.ca <= 1365) : YJ S.os <= 1365 := by
 have h1 : S.ca - S.we = (YJ S.os : Int) := t.cn
 have := t.w0
 omega
theorem K1.at {w : World} {a : Ad} {tb : Bool} {H : Hp} {p : Addr} {S : Sh} {d : Addr} {ps : List En} {es : List Tr} {i : Nat} {k : Kd} (t : K1 w a tb H p S d ps es) (hi : S.os[i]? = some (some k)) : k ∈ ps.map (·.1) := by
 obtain ⟨j, m, v, hj, _⟩ := Ab3.at t.A t.ab hi
 rw [zDE t.tr]
 exact List.mem_map.mpr ⟨_, List.mem_of_getElem? hj, rfl⟩
theorem K1.no {w : World} {a : Ad} {tb : Bool} {H : Hp} {p : Addr} {S : Sh} {d : Addr} {ps : List En} {es : List Tr} {k : Kd} (t : K1 w a tb H p S d ps es) (hn : ∀ i : Nat, S.os[i]? ≠ some (some k)) : ¬ k ∈ ps.map (·.1) := fun h => by
 rw [zDE t.tr] at h
 obtain ⟨⟨k', m, v⟩, he, rfl⟩ := List.mem_map.mp h
 obtain ⟨j, hj⟩ := List.getElem?_of_mem he
 exact Ab3.no t.A t.ab hn j m v hj
theorem K1.plen {w : World} {a : Ad} {tb : Bool} {H : Hp} {p : Addr} {S : Sh} {d : Addr} {ps : List En} {es : List Tr} (t : K1 w a tb H p S d ps es) : ps.length = es.length /\ es.length <= 4096 := by
 have := t.A.small
 have h := zCQ (os := S.os) (hs := S.ms.zip S.hs)
 have e := t.ab.1
 unfold Yt at e
 rw [← e] at h
 exact ⟨Paired.length t.tr, by omega⟩
theorem zJL {ps : List En} {j : Nat} {y : V} (h : (ps.map (·.2.1))[j]? = some y) : ∃ p0, ps[j]? = some p0 /\ y = p0.2.1 := by
 rw [List.getElem?_map] at h
 cases e : ps[j]? with
 | none => rw [e] at h; cases h
 | some p0 => rw [e] at h; exact ⟨p0, rfl, (Option.some.inj h).symm⟩
theorem K1.there {w : World} {a : Ad} {tb : Bool} {H : Hp} {p : Addr} {S : Sh} {d : Addr} {ps : List En} {es : List Tr} {k : Kd} (t : K1 w a tb H p S d ps es) (h : k ∈ ps.map (·.1)) : ∃ i : Nat, S.os[i]? = some (some k) := by
 rw [zDE t.tr] at h
 obtain ⟨⟨k', m, v⟩, he, rfl⟩ := List.mem_map.mp h
 obtain ⟨j, hj⟩ := List.getElem?_of_mem he
 rw [t.ab.1] at hj
 obtain ⟨i, h1, _⟩ := zFo hj
 exact ⟨i, h1⟩
theorem K1.low {w : World} {a : Ad} {tb : Bool} {H : Hp} {p : Addr} {S : Sh} {d : Addr} {ps : List En} {es : List Tr} (t : K1 w a tb H p S d ps es) (h : S.ca <= 300) : tb = false -> S.os.length < 2 * S.n / 3 := fun z => by
 have := t.sh z
 have := t.ol
 omega
theorem zIC {w : World} {a : Ad} {tb : Bool} {H : Hp} {p : Addr} {S : Sh} {d : Addr} {ps : List En} {es : List Tr} {H2 : Hp} {S' : Sh} (kk : K1 w a tb H p S d ps es) (kS : JP p S S' H H2) :
  H2 d = some (dko w d ps) /\ EnOk H2 ps /\ Paired (TrE H2) ps es /\ Far d p S' :=
 have ts := YU kk.A kS
 ⟨(kS _ _ kk.hd kk.fd).1, kk.en.same ts, Yx ts kk.tr, (kS _ _ kk.hd kk.fd).2⟩
theorem zHj {H : Hp} {ps : List En} {es : List Tr} {j : Nat} {k : Kd} {m : Int} {v : V} (ok : EnOk H ps) (h : Paired (TrE H) ps es) (hj : es[j]? = some (k, m, v)) : Paired (TrE H) (Zu ps k) (es.eraseIdx j) := by
 obtain ⟨p, hp, hr⟩ := Paired.getR h hj
 rw [← Ju ok.nd hp hr.1]
 exact Paired.eras j h
theorem zDP {α : Type} {e : α} : ∀ {es : List α} {j : Nat}, es.set j e = es.modify j (fun _ => e)
 | [], _ => by simp
 | _ :: _, 0 => rfl
 | a :: r, j + 1 => congrArg (List.cons a) (zDP (es := r) (j := j))
theorem zLX {H : Hp} {ps : List En} {es : List Tr} {j : Nat} {k : Kd} {m : Int} {v y x u : V} (ok : EnOk H ps) (h : Paired (TrE H) ps es) (hj : es[j]? = some (k, m, v)) (hv : Sm 1 H y u) : Paired (TrE H) (Yi ps k x u) (es.set j (k, m, y)) := by
 obtain ⟨p, hp, hr⟩ := Paired.getR h hj
 have e1 : p.1 = k := hr.1
 have hm : k ∈ ps.map (·.1) := e1 ▸ zAj hp
 unfold Yi
 rw [if_pos hm, ← zBC (x := x) ok.nd hp e1, zDP]
 refine Paired.modAt j h fun q e h1 h2 h3 => ⟨?_, hv⟩
 rw [hp] at h1; cases h1
 exact hr.1
theorem K1.gone {w : World} {a : Ad} {tb : Bool} {H : Hp} {p : Addr} {S : Sh} {d : Addr} {ps : List En} {es : List Tr} {H2 : Hp} {k : Kd} {c i : Nat} (kk : K1 w a tb H p S d ps es) (hi : S.os[i]? = some (some k)) (A2 : ShAt (cA a tb) H2 p (J9 S k c i)) (b1 : H2 d = some (dko w d ps)) (b2 : EnOk H2 ps) (b3 : Paired (TrE H2) ps es) (b5 : Far d p S) :
  ∃ es', K1 w a tb (upd H2 d (dko w d (Zu ps k))) p (J9 S k c i) d (Zu ps k) es' := by
 have t1 := JY (o := dko w d (Zu ps k)) b1
 obtain ⟨j, m, v, hj, _, ab2, _⟩ := Ab3.at kk.A kk.ab hi
 have h1 : S.ca - S.we = (YJ S.os : Int) := kk.cn
 have hcs := zA6 hi
 refine ⟨es.eraseIdx j, ShAt.far A2 (show Far d p (J9 S k c i) from b5) t1, zGV kk.ok, ?_, ?_, ?_, kk.sh, QD, b2.drop.same t1, ab2 c, Yx t1 (zHj b2 b3 hj), b5⟩
 ·show S.ca - (S.we + 1) = (YJ (S.os.set i none) : Int)
  omega
 ·show 0 <= S.we + 1
  have := kk.w0
  omega
 ·show (((S.os.set i none).length : Nat) : Int) <= S.ca
  rw [List.length_set]
  exact kk.ol
theorem K1.emptied {w : World} {a : Ad} {tb : Bool} {H2 : Hp} {p : Addr} {S : Sh} {d : Addr} {ps : List En} {qc qr qh qm : Addr} (A2 : ShAt (cA a tb) H2 p (zAw tb S qc qr qh qm)) (w0 : 0 <= S.ca) (sh : tb = false -> S.n = 512) (b1 : H2 d = some (dko w d ps)) (b4 : Far d p (zAw tb S qc qr qh qm)) :
  K1 w a tb (upd H2 d (dko w d [])) p (zAw tb S qc qr qh qm) d [] [] := by
 have t1 := JY (o := dko w d []) b1
 refine ⟨ShAt.far A2 b4 t1, fun k hk => (by cases hk), ?_, w0, w0, fun z => ?_, QD, EnOk.nil, ⟨rfl, rfl, List.Pairwise.nil, fun e he => by cases he⟩, .nil, b4⟩
 ·show S.ca - S.ca = ((0 : Nat) : Int)
  omega
 ·show nE tb S = 512
  rw [z]
  exact sh z
theorem zKC {S : Sh} {es : List Tr} {came : Int} (A : S.hs.length = S.os.length /\ S.ms.length = S.os.length) (h : Ab3 S es came) (h0 : 0 <= came) {k : Kd} {c : Nat} {y : V} : Ab3 (Yu S k c y) (es ++ [(k, came + 1, y)]) (came + 1) := by
 obtain ⟨h1, h2, h3, h4⟩ := h
 refine ⟨?_, by rw [h2]; rfl, zDs h3 (fun x hx => by have := h4 x hx; show x.2.1 < came + 1; omega), fun e he => ?_⟩
 ·show es ++ [(k, came + 1, y)] = Yt (S.os ++ [some k]) (S.ms ++ [S.ca + 1]) (S.hs ++ [y])
  rw [zB1 A.1 A.2, h1, h2]
 ·rcases List.mem_append.mp he with z | z
  ·have := h4 e z; omega
  ·rw [List.mem_singleton.mp z]; show 0 < came + 1 /\ came + 1 <= came + 1; omega
theorem zJk {S : Sh} {k : Kd} {c : Nat} {y : V} (cn : Cnt S) (ol : (S.os.length : Int) <= S.ca) : Cnt (Yu S k c y) /\ (((Yu S k c y).os.length : Nat) : Int) <= (Yu S k c y).ca := by
 have h1 : S.ca - S.we = (YJ S.os : Int) := cn
 refine ⟨?_, ?_⟩
 ·show S.ca + 1 - S.we = (YJ (S.os ++ [some k]) : Int)
  rw [zGZ]; omega
 ·show (((S.os ++ [some k]).length : Nat) : Int) <= S.ca + 1
  rw [List.length_append, List.length_singleton]
  omega
theorem zLZ {S S1 : Sh} {es : List Tr} (td : Tid S S1) (cn : Cnt S) (ol : (S.os.length : Int) <= S.ca) (ab : Ab3 S es S.ca) (l1 : S.hs.length = S.os.length) (l2 : S.ms.length = S.os.length) : S1.os = Qd S.os /\ S1.ca = S.ca /\ S1.we = S.we /\ Cnt S1 /\ (S1.os.length : Int) <= S1.ca /\ Ab3 S1 es S1.ca /\ S1.hs.length = S1.os.length /\ S1.ms.length = S1.os.length := by
 have e0 : S1.os = Qd S.os /\ S1.ca = S.ca /\ S1.we = S.we /\ S1.ms = Qo S.os S.ms /\ S1.hs = Qo S.os S.hs := by
  obtain ⟨pc1, pr1, ph1, pm1, n', cs', rfl, s1, s2⟩ := td
  exact ⟨rfl, rfl, rfl, rfl, rfl⟩
 obtain ⟨e1, e2, e3, e4, e5⟩ := e0
 have oss : YJ (Qd S.os) = YJ S.os := by unfold YJ Qd; rw [List.filter_filter]; congr 2; funext o; cases o <;> rfl
 have hcn : S.ca - S.we = (YJ S.os : Int) := cn
 have sl := zHM (os := S.os)
 refine ⟨e1, e2, e3, ?_, ?_, ?_, ?_, ?_⟩
 ·show S1.ca - S1.we = (YJ S1.os : Int)
  rw [e1, e2, e3, oss]; exact hcn
 ·rw [e1, e2]; omega
 ·obtain ⟨h1, h2, h3, h4⟩ := ab
  exact ⟨by rw [e1, e4, e5, zGB l1 l2]; exact h1, rfl, h3, by rw [e2]; exact h4⟩
 ·rw [e1, e5]; exact Yl l1
 ·rw [e1, e4]; exact Yl l2
def Vl (H : Hp) (n : Int) (v : V) : Prop := if n % 5 = 0 then v = .non else if n % 5 = 1 then v = .str (Str.ofString "") else if n % 5 = 2 then ∃ t, v = .ref t /\ H t = some (.tup [.int (n / 5 % 100), .str (Str.ofString "t")]) else if n % 5 = 3 then v = .int (n / 5 % 13 - 6) else v = .int (n / 5 % (2 * 10 ^ 60 - 1) - 10 ^ 60 + 1)
theorem Vl.same {H H' : Hp} (ts : TupS H H') {n : Int} {v : V} (h : Vl H n v) : Vl H' n v := by
 unfold Vl at h ⊢
 by_cases h0 : n % 5 = 0
 ·rw [if_pos h0] at h ⊢; exact h
 rw [if_neg h0] at h ⊢
 by_cases h1 : n % 5 = 1
 ·rw [if_pos h1] at h ⊢; exact h
 rw [if_neg h1] at h ⊢
 by_cases h2 : n % 5 = 2
 ·rw [if_pos h2] at h ⊢
  obtain ⟨t, e, h⟩ := h
  exact ⟨t, e, ts _ _ h⟩
 rw [if_neg h2] at h ⊢
 exact h
theorem Vl.sm {H : Hp} {n : Int} {u v : V} (h : Vl H n u) (h' : Vl H n v) : Sm 1 H u v := by
 unfold Vl at h h'
 split at h
 ·rw [if_pos (by assumption)] at h'; rw [h, h']; exact .leaf (.inr (.inr rfl))
 ·rw [if_neg (by assumption)] at h'
  split at h
  ·rw [if_pos (by assumption)] at h'; rw [h, h']; exact .leaf (.inr (.inl ⟨_, rfl⟩))
  ·rw [if_neg (by assumption)] at h'
   split at h
   ·rw [if_pos (by assumption)] at h'
    obtain ⟨t, rfl, h1⟩ := h
    obtain ⟨t', rfl, h2⟩ := h'
    refine .inr ⟨t, t', _, _, rfl, rfl, h1, h2, rfl, (show 2 <= 1000 by decide), fun i u v hu hv => ?_⟩
    match i, hu, hv with
    | 0, hu, hv => cases hu; cases hv; exact ⟨rfl, .inl ⟨_, rfl⟩⟩
    | 1, hu, hv => cases hu; cases hv; exact ⟨rfl, .inr (.inl ⟨_, rfl⟩)⟩
   ·rw [if_neg (by assumption)] at h'
    split at h
    ·rw [if_pos (by assumption)] at h'; rw [h, h']; exact .leaf (.inl ⟨_, rfl⟩)
    ·rw [if_neg (by assumption)] at h'; rw [h, h']; exact .leaf (.inl ⟨_, rfl⟩)
def zJK : Sp := fun vs H Q _ => ∃ n, vs = [.int n] /\ ∀ v H', Same H H' -> Vl H' n v -> Q v H'
def zI3 (a : Ad) : Sp := fun vs H Q _ => ∃ c, vs = [.int c] /\ ∀ tb p S H', Same H H' -> ShAt (cA a tb) H' p S -> (tb = false -> S.n = 512) -> S.os = [] -> S.hs = [] -> S.ms = [] -> S.ca = 0 -> S.we = 0 -> Q (.ref p) H'
end
section
variable {P : Program} {w : World} {K : W.Frag} {mg : Str -> Option Value} {base : Heap} {a : Ad} {tb : Bool}
def pk2 (i : Int) : Str := if i = 0 then Str.ofString "ab" else Str.ofString "bC"
def tx4 (n : Int) : Str := pk2 (n % 23 % 2) ++ pk2 (n % 23 / 2 % 2) ++ pk2 (n % 23 / 4 % 2) ++ pk2 (n % 23 / 8 % 2) ++ JQ (Str.ofString "~") (n % 23 / 16).toNat
def ky5 (n : Int) : Kd := .tup [.tup [.num (n % 23 % 4), .txt (JQ (Str.ofString "k") (n % 23 / 4 % 3).toNat), .tup [.num (n % 23 / 12)]], .txt (JQ (Str.ofString "s") (n % 23 / 20 * 60).toNat), .tup [], .txt (Str.ofString ""), .num 0, .num (n % 23 % 2)]
def ky0 (n : Int) : Kd := if n % 23 - 20 = 0 then .tup [] else if n % 23 - 20 = 1 then .txt (Str.ofString "") else .tup [.tup [.tup [.txt (Str.ofString "")]]]
def kyW (w n : Int) : Kd := if w = 0 then (if 19 < n % 23 then ky0 n else .num (n % 23 - 9)) else if w = 1 then .num (5 + 2147483647 * (n % 23 - 11)) else if w = 2 then .num (3 + 131072 * (n % 23)) else if w = 3 then .num (n * 982451653 ^ 7 % (2 * 10 ^ 60 - 1) - 10 ^ 60 + 1) else if w = 4 then .txt (tx4 n) else ky5 n
def kyF (w n : Int) : Kd := if w = 6 then kyW (n / 23 % 6) n else kyW w n
open Builtin.Int (intBits) in
def zJm : Sp := fun vs H Q _ => ∃ w n, vs = [.int w, .int n] /\ intBits n <= 2 ^ 20 /\ ∀ v H', Same H H' -> IsK H' (kyF w n) v -> Q v H'
theorem Wo {n : Nat} (h : n <= 1000) : n <= sizeLine := Nat.le_of_lt (Qm (by omega))
theorem Yv {i : Int} : (pk2 i).length = 2 := by unfold pk2; split <;> rfl
theorem zJe {n : Int} : (tx4 n).length <= 60 := by
 unfold tx4
 rw [Str.length_append, Str.length_append, Str.length_append, Str.length_append, Yv, Yv, Yv, Yv, zBB, show (Str.ofString "~").length = 1 from rfl]
 omega
theorem zMq {H1 : Hp} {l0 : Addr} {n : Int} {Q : VK} (hl1 : H1 l0 = some (HO.lst [V.str (Str.ofString "ab"), V.str (Str.ofString "bC")])) (qt : Q (.str (tx4 n)) H1) :
  ixC (V.ref l0) (V.int (n % 23 % 2)) H1 fun x H1 =>
  ixC (V.ref l0) (V.int (n % 23 / 2 % 2)) H1 fun y H2 =>
   ∃ i, x = V.str i /\ ∃ x, y = V.str x /\ i.length + x.length <= sizeLine /\
        ixC (V.ref l0) (V.int (n % 23 / 4 % 2)) H2 fun y H2 =>
         ∃ x_1, y = V.str x_1 /\ (i ++ x).length + x_1.length <= sizeLine /\
            ixC (V.ref l0) (V.int (n % 23 / 8 % 2)) H2 fun y H2 =>
             ∃ x_2, y = V.str x_2 /\ (i ++ x ++ x_1).length + x_2.length <= sizeLine /\
                zFJ (V.str (Str.ofString "~")) (V.int (n % 23 / 16)) H2 fun y H2 =>
                 ∃ x_3, y = V.str x_3 /\ (i ++ x ++ x_1 ++ x_2).length + x_3.length <= sizeLine /\ Q (V.str (i ++ x ++ x_1 ++ x_2 ++ x_3)) H2 := by
 have pick : ∀ i Q', 0 <= i -> i < 2 -> Q' (V.str (pk2 i)) H1 -> ixC (V.ref l0) (V.int i) H1 Q' := fun i Q' a b f => by
  have hi : i = 0 \/ i = 1 := by omega
  rcases hi with rfl | rfl
  ·rw [Qz hl1 (v := V.str (Str.ofString "ab")) rfl]; exact f
  ·rw [Qz hl1 (v := V.str (Str.ofString "bC")) rfl]; exact f
 have e1 := Yv (i := n % 23 % 2)
 have e2 := Yv (i := n % 23 / 2 % 2)
 have e3 := Yv (i := n % 23 / 4 % 2)
 have e4 := Yv (i := n % 23 / 8 % 2)
 have l1 : (pk2 (n % 23 % 2) ++ pk2 (n % 23 / 2 % 2)).length = 4 := by rw [Str.length_append]; omega
 have l2 : (pk2 (n % 23 % 2) ++ pk2 (n % 23 / 2 % 2) ++ pk2 (n % 23 / 4 % 2)).length = 6 := by rw [Str.length_append]; omega
 have l3 : (pk2 (n % 23 % 2) ++ pk2 (n % 23 / 2 % 2) ++ pk2 (n % 23 / 4 % 2) ++ pk2 (n % 23 / 8 % 2)).length = 8 := by rw [Str.length_append]; omega
 have l4 : (JQ (Str.ofString "~") (n % 23 / 16).toNat).length <= 100 := by rw [zBB, show (Str.ofString "~").length = 1 from rfl]; omega
 exact pick _ _ (by omega) (by omega) (pick _ _ (by omega) (by omega) ⟨_, rfl, _, rfl, Wo (by omega), pick _ _ (by omega) (by omega) ⟨_, rfl, Wo (by omega), pick _ _ (by omega) (by omega) ⟨_, rfl, Wo (by omega), _, _, rfl, rfl, by omega, by omega, (show 1 <= 1 by decide), (show 1 <= 1000 by decide), _, rfl, Wo (by omega), qt⟩⟩⟩)
theorem zMr {H H1 : Hp} {n : Int} {Q : VK} (g0 : Same H H1) (q : ∀ (v : V) (H' : Hp), Same H H' -> IsK H' (ky5 n) v -> Q v H') :
  zFJ (V.str (Str.ofString "k")) (V.int (n % 23 / 4 % 3)) H1 fun x H1 =>
  1 <= sizeLine /\ ∀ (p : Addr), H1 p = none -> 3 <= sizeLine /\ ∀ (p_1 : Addr), upd H1 p (HO.tup [V.int (n % 23 / 12)]) p_1 = none ->
        CMul (n % 23 / 20) 60 /\
         zFJ (V.str (Str.ofString "s")) (V.int (n % 23 / 20 * 60)) (upd (upd H1 p (HO.tup [V.int (n % 23 / 12)])) p_1 (HO.tup [V.int (n % 23 % 4), x, V.ref p]))
          fun x H1 => 0 <= sizeLine /\ ∀ (p : Addr), H1 p = none -> 6 <= sizeLine /\ ∀ (p_2 : Addr), upd H1 p (HO.tup []) p_2 = none ->
                      Q (V.ref p_2) (upd (upd H1 p (HO.tup [])) p_2 (HO.tup [V.ref p_1, x, V.ref p, V.str (Str.ofString ""), V.int 0, V.int (n % 23 % 2)])) := by
 refine ⟨_, _, rfl, rfl, by omega, by omega, (show 1 <= 1 by decide), (show 1 <= 1000 by decide), by decide, fun p hp => ⟨by decide, fun p1 hp1 => ⟨.inr ⟨by decide, by decide⟩, ?_⟩⟩⟩
 have hp1 : upd H1 p (HO.tup [V.int (n % 23 / 12)]) p1 = none := hp1
 have u1 := QI (o := HO.tup [V.int (n % 23 / 12)]) hp
 have u2 := QI (o := HO.tup [V.int (n % 23 % 4), V.str (JQ (Str.ofString "k") (n % 23 / 4 % 3).toNat), V.ref p]) hp1
 have d1 := u2 _ _ (QD (H := H1) (a := p) (o := HO.tup [V.int (n % 23 / 12)]))
 have d2 := QD (H := upd H1 p (HO.tup [V.int (n % 23 / 12)])) (a := p1) (o := HO.tup [V.int (n % 23 % 4), V.str (JQ (Str.ofString "k") (n % 23 / 4 % 3).toNat), V.ref p])
 have G := g0.trans (u1.trans u2)
 generalize upd (upd H1 p (HO.tup [V.int (n % 23 / 12)])) p1 (HO.tup [V.int (n % 23 % 4), V.str (JQ (Str.ofString "k") (n % 23 / 4 % 3).toNat), V.ref p]) = H2 at d1 d2 G ⊢
 refine ⟨_, _, rfl, rfl, by omega, by omega, (show 1 <= 1 by decide), (show 1 <= 1000 by decide), by decide, fun p3 hp3 => ⟨by decide, fun p2 hp2 => ?_⟩⟩
 have u3 := QI (o := HO.tup []) hp3
 have u4 := QI (o := HO.tup [V.ref p1, V.str (JQ (Str.ofString "s") (n % 23 / 20 * 60).toNat), V.ref p3, V.str (Str.ofString ""), V.int 0, V.int (n % 23 % 2)]) hp2
 have d3 := u4 _ _ (QD (H := H2) (a := p3) (o := HO.tup []))
 have d4 := QD (H := upd H2 p3 (HO.tup [])) (a := p2) (o := HO.tup [V.ref p1, V.str (JQ (Str.ofString "s") (n % 23 / 20 * 60).toNat), V.ref p3, V.str (Str.ofString ""), V.int 0, V.int (n % 23 % 2)])
 have U := u3.trans u4
 have e1 := U _ _ d1
 have e2 := U _ _ d2
 exact q _ _ (G.trans U) (Yh d4 (show 6 <= 1000 by decide) ⟨_, _, rfl, Yh e2 (show 3 <= 1000 by decide) ⟨_, _, rfl, YX, _, _, rfl, Z4, _, _, rfl, Yh e1 (show 1 <= 1000 by decide) ⟨_, _, rfl, YX, rfl⟩, rfl⟩, _, _, rfl, Z4, _, _, rfl, Yh d3 (Nat.zero_le _) rfl, _, _, rfl, Z4, _, _, rfl, YX, _, _, rfl, YX, rfl⟩)
theorem zLx {n : Int} : (ky5 n).deep <= 3 /\ (ky5 n).th.ok 3 = true := by
 have kn : ∀ i : Int, -100 < i -> i < 100 -> ∀ m, (Kd.num i).th.ok m = true := fun i a b m => zH9 (by omega) (by omega) m
 have tl : ∀ (z : Str) (k : Nat), z.length = 1 -> k <= 60 -> (JQ z k).length <= 60 := fun z k h1 h2 => by rw [zBB, h1]; omega
 unfold ky5
 refine ⟨by show _ <= 3; simp [Kd.deep, Kd.deepL], Z0 (show 6 <= 6 by decide) fun k hk => ?_⟩
 simp only [List.mem_cons, List.not_mem_nil, or_false] at hk
 rcases hk with rfl | rfl | rfl | rfl | rfl | rfl
 ·refine Z0 (show 3 <= 6 by decide) fun k hk => ?_
  simp only [List.mem_cons, List.not_mem_nil, or_false] at hk
  rcases hk with rfl | rfl | rfl
  ·exact kn _ (by omega) (by omega) _
  ·exact Jd (tl _ _ rfl (by omega)) _
  ·refine Z0 (show 1 <= 6 by decide) fun k hk => ?_
   rw [List.mem_singleton.mp hk]
   exact kn _ (by omega) (by omega) _
 ·exact Jd (tl _ _ rfl (by omega)) _
 ·exact Z0 (show 0 <= 6 by decide) fun k hk => by cases hk
 ·exact Jd (x := Str.ofString "") (by decide) _
 ·exact kn _ (by omega) (by omega) _
 ·exact kn _ (by omega) (by omega) _
theorem zK3 {n : Int} : (ky0 n).deep <= 3 /\ (ky0 n).th.ok 3 = true := by
 unfold ky0
 split
 ·exact ⟨by decide, Z0 (by decide) fun k hk => by cases hk⟩
 ·split
  ·exact ⟨by decide, Jd (by decide) 3⟩
  ·refine ⟨by decide, Z0 (by decide) fun k hk => ?_⟩
   rw [List.mem_singleton.mp hk]
   refine Z0 (by decide) fun k hk => ?_
   rw [List.mem_singleton.mp hk]
   refine Z0 (by decide) fun k hk => ?_
   rw [List.mem_singleton.mp hk]
   exact Jd (by decide) 0
theorem zH7 {w n : Int} : (kyW w n).deep <= 3 /\ (kyW w n).th.ok 3 = true := by
 have kn : ∀ i : Int, -10 ^ 60 < i -> i < 10 ^ 60 -> (Kd.num i).deep <= 3 /\ (Kd.num i).th.ok 3 = true := fun i a b => ⟨by unfold Kd.deep; omega, zH9 a b 3⟩
 unfold kyW
 split
 ·split
  ·exact zK3
  ·exact kn _ (by omega) (by omega)
 split
 ·exact kn _ (by omega) (by omega)
 split
 ·exact kn _ (by omega) (by omega)
 split
 ·generalize n * 982451653 ^ 7 = z
  exact kn _ (by omega) (by omega)
 split
 ·exact ⟨by unfold Kd.deep; omega, Jd zJe 3⟩
 ·exact zLx
theorem JC {w n : Int} : (kyF w n).deep <= 3 := by unfold kyF; split <;> exact zH7.1
theorem zIh {w n : Int} : (kyF w n).th.ok 3 = true := by unfold kyF; split <;> exact zH7.2
end
def zHd (a : Ad) : Sp := fun vs H Q _ => ∃ tb x dx fs p S, vs = [.ref x] /\ H x = some (.ins a.a_Walk dx fs) /\ fs.lookup ("book" : Str) = some (V.ref p) /\ ShAt (cA a tb) H p S /\ ∀ t H', Same H H' -> H t = none -> H' t = some (.tup [.int S.ca, .int S.we]) -> Q (.ref t) H'
def nxE (bk : Bool) (n : Int) (es : List (Int × V × V)) : Option (Int × V × V) := if bk = true then (es.filter fun e => decide (e.1 < n)).getLast? else (es.filter fun e => decide (e.1 > n)).head?
def zKg (a : Ad) : Sp := fun vs H Q _ => ∃ tb x p W S xs, vs = [.ref x] /\ WkAt a.a_Walk H x p W /\ ShAt (cA a tb) H p S /\ H S.pr = some (.lst xs) /\
 (nxE W.bk W.la (YQ S xs) = none -> ∀ H', Same H H' -> Q .non H') /\ ∀ e t H', nxE W.bk W.la (YQ S xs) = some e -> Same H H' -> H' t = some (.tup [.int e.1, e.2.1, e.2.2]) -> Q (.ref t) H'
def zHI (a : Ad) : Sp := fun vs H Q _ => ∃ tb x p W S xs, vs = [.ref x] /\ WkAt a.a_Walk H x p W /\ ShAt (cA a tb) H p S /\ H S.pr = some (.lst xs) /\ (W.st = true -> W.ca = S.ca /\ W.we = S.we) /\
 (W.ov = true -> Q .non H) /\ (W.ov = false -> nxE W.bk W.la (YQ S xs) = none -> ∀ H', But1 x H H' -> WkAt a.a_Walk H' x p { W with ov := true } -> Q .non H') /\
 (W.ov = false -> ∀ e t H', nxE W.bk W.la (YQ S xs) = some e -> But1 x H H' -> WkAt a.a_Walk H' x p { W with la := e.1 } -> H' t = some (.tup [e.2.1, e.2.2]) -> Q (.ref t) H')
def zFV (a : Ad) : Sp := fun vs H Q _ => ∃ tb x dx p S bk st, vs = [.ref x, .ref p, .bl bk, .bl st] /\ H x = some (.ins a.a_Walk dx []) /\ ShAt (cA a tb) H p S /\
 ∀ W H', But1 x H H' -> WkAt a.a_Walk H' x p W -> W.bk = bk -> W.st = st -> W.ov = false -> W.la = (if bk = true then S.ca + 1 else 0) -> W.ca = S.ca -> W.we = S.we -> Q .non H'
section
variable {K : W.Frag} {mg : Str -> Option Value} {a : Ad} {H : Hp} {Q : VK} {N : Hp -> Prop} {x p : Addr} {W : Wk}
theorem zHN (T : Txt K mg a) (A : WkAt a.a_Walk H x p W) : Y2 K "book" (.ref x) H Q = Q (.ref p) H := QX A.ob T.cl_Walk T.n_Walk_book zFM
theorem zLO (T : Txt K mg a) (A : WkAt a.a_Walk H x p W) : Y2 K "back" (.ref x) H Q = Q (.bl W.bk) H := QX A.ob T.cl_Walk T.n_Walk_back zI8
theorem zHU (T : Txt K mg a) (A : WkAt a.a_Walk H x p W) : Y2 K "strict" (.ref x) H Q = Q (.bl W.st) H := QX A.ob T.cl_Walk T.n_Walk_strict zFz
theorem zGT (T : Txt K mg a) (A : WkAt a.a_Walk H x p W) : Y2 K "changes" (.ref x) H Q = Q (.ref W.pt) H := QX A.ob T.cl_Walk T.n_Walk_changes zEH
theorem zG6 (T : Txt K mg a) (A : WkAt a.a_Walk H x p W) : Y2 K "last" (.ref x) H Q = Q (.int W.la) H := QX A.ob T.cl_Walk T.n_Walk_last zJH
theorem zLc (T : Txt K mg a) (A : WkAt a.a_Walk H x p W) : Y2 K "over" (.ref x) H Q = Q (.bl W.ov) H := QX A.ob T.cl_Walk T.n_Walk_over zJT
theorem zEE {m : Str} (A : WkAt a.a_Walk H x p W) (h : wkK.contains m = false) : Wp a.a_Walk m (.ref x) H N = N H := Y9 A.ob (zL7 h)
end
section
variable {P : Program} {w : World} {K : W.Frag} {mg : Str -> Option Value} {base : Heap} {a : Ad}
theorem WJ (T : Txt K mg a)(G_Hcounts : ∀ tb, FnOk P w K mg base CX0 2 a.f_Hcounts a.d_Hcounts Js (zDL (cA a tb))) : FnOk P w K mg base CX0 3 a.f_Walk_changes_now a.d_Walk_changes_now Q2 (zHd a) := by
 refine T.F_Walk_changes_now.ok sc_Walk_changes_now (fun vs H Q E h => ?_) (fun cdv A outer s H vs Q E hr h => ?_)
 ·obtain ⟨tb, x, dx, fs, p, S, rfl, _⟩ := h
  rfl
 have nd := sc_Walk_changes_now.nd
 obtain ⟨tb, x, dx, fs, p, S, rfl, hx, hl, A, q⟩ := h
 refine ⟨_, (QF (QL (zDJ zLz (Ql (QS (pv 0) rfl) (T.cl tb) (T.M_Hcounts tb) ((G_Hcounts tb).mono (by decide)) hr T.b_Hcounts .nil QP) (zAY QE) (zAY QE)))), ?_⟩
 try walk_at "rd"
 rw [QX hx T.cl_Walk T.n_Walk_book hl, Yn A (by decide +kernel)]
 refine ⟨p, S, rfl, A, fun t ht => ?_⟩
 have g := QI (o := HO.tup [.int (S.ca - S.we), .int S.ca, .int S.we, .int S.ti, .int S.mo]) ht
 have hu := QD (H := H) (a := t) (o := HO.tup [.int (S.ca - S.we), .int S.ca, .int S.we, .int S.ti, .int S.mo])
 generalize upd H t (HO.tup [.int (S.ca - S.we), .int S.ca, .int S.we, .int S.ti, .int S.mo]) = H1 at g hu ⊢
 refine ⟨t, _, rfl, SqT.of hu, (by show ¬(HT.sIx 5 0 (some 1) = 0 /\ HT.sIx 5 5 (some 3) = 5); decide), fun t2 ht2 => ?_⟩
 exact q t2 _ (g.trans (QI ht2)) (g.free ht2) QD
theorem Wd (T : Txt K mg a)(G_Hahead : ∀ tb, FnOk P w K mg base CX0 2 a.f_Hahead a.d_Hahead JD (zCf (cA a tb)))(G_Hafter : ∀ tb, FnOk P w K mg base CX0 2 a.f_Hafter a.d_Hafter zAt (zFS (cA a tb))) : FnOk P w K mg base CX0 3 a.f_Walk_next_entry a.d_Walk_next_entry YR (zKg a) := by
 refine T.F_Walk_next_entry.ok sc_Walk_next_entry (fun vs H Q E h => ?_) (fun cdv A outer s H vs Q E hr h => ?_)
 ·obtain ⟨tb, x, p, W, S, xs, rfl, _⟩ := h
  rfl
 have nd := sc_Walk_next_entry.nd
 obtain ⟨tb, x, p, W, S, xs, rfl, A, AS, hr2, q1, q2⟩ := h
 refine ⟨_, (QF (QL (Zw (Qa (QS (pv 0) rfl)) (Qr (QS (pv 0) rfl) (T.cl tb) (T.M_Hahead tb) ((G_Hahead tb).mono (by decide)) hr T.b_Hahead .nil QP (QA (QS (pv 0) rfl) QC)) (Qr (QS (pv 0) rfl) (T.cl tb) (T.M_Hafter tb) ((G_Hafter tb).mono (by decide)) hr T.b_Hafter .nil QP (QA (QS (pv 0) rfl) QC))))), ?_⟩
 try walk_at "rd"
 rw [zLO T A]
 refine ⟨_, rfl, ?_⟩
 unfold nxE at q1 q2
 refine WI (fun c => ?_) (fun c => ?_)
 ·rw [zHN T A, Yn AS (by decide +kernel), zG6 T A]
  rw [if_pos c] at q1 q2
  refine ⟨p, S, xs, _, rfl, AS, hr2, fun H1 e1 g1 => ?_, fun l e t H1 e1 g1 ht => ?_⟩
  ·exact q1 (by rw [e1]; rfl) H1 g1
  ·exact q2 e t H1 (by rw [e1, List.getLast?_append]; rfl) g1 ht
 ·rw [zHN T A, Yn AS (by decide +kernel), zG6 T A]
  rw [if_neg c] at q1 q2
  refine ⟨p, S, xs, _, rfl, AS, hr2, fun H1 e1 g1 => ?_, fun l e t H1 e1 g1 ht => ?_⟩
  ·exact q1 (by rw [e1]; rfl) H1 g1
  ·exact q2 e t H1 (by rw [e1]; rfl) g1 ht
theorem zCW (T : Txt K mg a)(G_Walk_changes_now : FnOk P w K mg base CX0 3 a.f_Walk_changes_now a.d_Walk_changes_now Q2 (zHd a))(G_Walk_next_entry : FnOk P w K mg base CX0 3 a.f_Walk_next_entry a.d_Walk_next_entry YR (zKg a)) : FnOk P w K mg base CX0 5 a.f_Walk_step a.d_Walk_step Z2 (zHI a) := by
 refine T.F_Walk_step.ok sc_Walk_step (fun vs H Q E h => ?_) (fun cdv A outer s H vs Q E hr h => ?_)
 ·obtain ⟨tb, x, p, W, S, xs, rfl, _⟩ := h
  rfl
 have nd := sc_Walk_step.nd
 obtain ⟨tb, x, p, W, S, xs, rfl, A, AS, hr2, hst, q0, q1, q2⟩ := h
 refine ⟨_, (QB (QU (Qa (QS (pv 0) rfl)) (QF (QL Q6)) QN)
 (QB (QU (PW.pt (zEx (Qa (QS (pv 0) rfl)) (zDG (QT (zLk hr.units) (Ql (pv 0) T.cl_Walk T.M_Walk_changes_now (G_Walk_changes_now.mono (by decide)) hr T.b_Walk_changes_now .nil QP) (QS (pv 0) rfl) (QR _))))) (QF Yr) QN)
 (QB (QW (i := 1) nd rfl (Or.inl rfl) (Ql (pv 0) T.cl_Walk T.M_Walk_next_entry (G_Walk_next_entry.mono (by decide)) hr T.b_Walk_next_entry .nil QP))
 (QB (QU (QT zCR (pv 1) Q6 (QR _)) (QB (Qv (pv 0) Yg rfl)
 (QF (QL Q6))) QN)
 (QB (Qv (pv 0) (Qt YS (pv 1) QE (fun _ _ => rfl)) rfl)
 (QF (QL (YK (QA (Qt YS (pv 1) QE (fun _ _ => rfl)) (QA (Qt YS (pv 1) QE (fun _ _ => rfl)) QC)))))))))), ?_⟩
 try walk_at "rd"
 rw [zLc T A]
 refine ⟨_, rfl, ?_⟩
 rcases Bool.eq_false_or_eq_true W.ov with ov | ov
 ·rw [if_pos ov]
  exact q0 ov
 rw [if_neg (by rw [ov]; decide)]
 rw [zHU T A]
 refine ⟨_, rfl, ?_⟩
 rcases Bool.eq_false_or_eq_true W.st with st | st
 case' inl =>
  obtain ⟨s1, s2⟩ := hst st
  rw [if_pos st, zEE A (by decide +kernel)]
  refine ⟨tb, x, _, _, p, S, rfl, A.ob, zFM, AS, fun t H1 g1 nt ht => ?_⟩
  have A1 := A.same g1
  show Y2 K ("changes" : Str) (V.ref x) H1 _
  rw [zGT T A1]
  refine ⟨t, W.pt, _, _, _, _, rfl, rfl, ht, A1.ch, _, rfl, ?_⟩
  rw [if_neg (by rw [s1, s2]; simp), zEE A1 (by decide +kernel)]
 case' inr =>
  rw [if_neg (by rw [st]; decide), zEE A (by decide +kernel)]
  obtain ⟨H1, g1, eH⟩ : ∃ H1, Same H H1 /\ H1 = H := ⟨H, Same.refl H, rfl⟩
  rw [← eH]
  have A1 := A.same g1
 all_goals
  refine ⟨tb, x, p, W, S, xs, rfl, A1, AS.same g1, g1 _ _ hr2, fun e1 H2 g2 => ?_, fun e t H2 e1 g2 ht => ?_⟩
  ·have A2 := A1.same g2
   try walk_at "rd"
   rw [Qj A2.ob T.cl_Walk T.n_Walk_over zHv, zDy]
   exact q1 ov e1 _ (fun b o e n => by rw [QG n]; exact (g1.trans g2) _ _ e) ⟨QD, by rw [QG A2.nept]; exact A2.ch⟩
  ·have A2 := A1.same g2
   have hn : t ≠ x := fun z => by rw [z, A2.ob] at ht; cases ht
   try walk_at "rd"
   rw [YA (v := V.int e.1) ht rfl, Qj A2.ob T.cl_Walk T.n_Walk_last zHv, zDv]
   have ob3 := QD (H := H2) (a := x) (o := HO.ins a.a_Walk W.dx (wkF p W.bk W.st W.pt e.1 W.ov))
   have ch3 : upd H2 x (HO.ins a.a_Walk W.dx (wkF p W.bk W.st W.pt e.1 W.ov)) W.pt = some (.tup [.int W.ca, .int W.we]) := by rw [QG A2.nept]; exact A2.ch
   have ht3 : upd H2 x (HO.ins a.a_Walk W.dx (wkF p W.bk W.st W.pt e.1 W.ov)) t = some (.tup [.int e.1, e.2.1, e.2.2]) := by rw [QG hn]; exact ht
   have b3 : But1 x H (upd H2 x (HO.ins a.a_Walk W.dx (wkF p W.bk W.st W.pt e.1 W.ov))) := fun b o e n => by rw [QG n]; exact (g1.trans g2) _ _ e
   generalize upd H2 x (HO.ins a.a_Walk W.dx (wkF p W.bk W.st W.pt e.1 W.ov)) = H3 at ob3 ch3 ht3 b3 ⊢
   try walk_at "rd"
   rw [YA (v := e.2.1) ht3 rfl, YA (v := e.2.2) ht3 rfl]
   refine ⟨by decide, fun t2 ht2 => ?_⟩
   have g4 := QI (o := HO.tup [e.2.1, e.2.2]) ht2
   exact q2 ov e t2 _ e1 (b3.trans g4.but1) (WkAt.same (W := { W with la := e.1 }) ⟨ob3, ch3⟩ g4) QD
theorem Jq (T : Txt K mg a)(G_Walk_changes_now : FnOk P w K mg base CX0 3 a.f_Walk_changes_now a.d_Walk_changes_now Q2 (zHd a)) : FnOk P w K mg base CX0 4 a.f_Walk___init__ a.d_Walk___init__ Qu (zFV a) := by
 refine T.F_Walk___init__.ok sc_Walk___init__ (fun vs H Q E h => ?_) (fun cdv A outer s H vs Q E hr h => ?_)
 ·obtain ⟨tb, x, dx, p, S, bk, st, rfl, _⟩ := h
  rfl
 have nd := sc_Walk___init__.nd
 obtain ⟨tb, x, dx, p, S, bk, st, rfl, hx, A, q⟩ := h
 refine ⟨_, (QB (Qv (pv 0) (pv 1) rfl)
 (QB (Qv (pv 0) (pv 2) rfl)
 (QB (Qv (pv 0) (pv 3) rfl)
 (QB (Qv (pv 0) (Ql (pv 0) T.cl_Walk T.M_Walk_changes_now (G_Walk_changes_now.mono (by decide)) hr T.b_Walk_changes_now .nil QP) rfl)
 (QB (Qv (pv 0) (Zw (Qa (pv 2)) (QK Yf (Qt YS (QS (pv 0) rfl) QE (fun _ _ => rfl)) QE) QE) rfl)
 (QF (Qv (pv 0) Yg rfl))))))), ?_⟩
 try walk_at "rd"
 rw [Qj hx T.cl_Walk T.n_Walk_book (by show 0 < 1000; decide), zJD]
 try walk_at "rd"
 rw [Qj QD T.cl_Walk T.n_Walk_back (by show 1 < 1000; decide), Q4, zKG]
 try walk_at "rd"
 rw [Qj QD T.cl_Walk T.n_Walk_strict (by show 2 < 1000; decide), Q4, zJF]
 have ob3 := QD (H := H) (a := x) (o := HO.ins a.a_Walk dx (wk3 p bk st))
 have b3 : But1 x H (upd H x (HO.ins a.a_Walk dx (wk3 p bk st))) := fun b o e n => by rw [QG n]; exact e
 have A3 := A.but0 hx (by show 0 ≠ 9; decide) b3
 generalize upd H x (HO.ins a.a_Walk dx (wk3 p bk st)) = H3 at ob3 b3 A3 ⊢
 try walk_at "rd"
 rw [Y9 ob3 zLf]
 refine ⟨tb, x, dx, _, p, S, rfl, ob3, zH5, A3, fun t H4 g4 nt ht => ?_⟩
 have ob4 := g4 _ _ ob3
 have hn : t ≠ x := fun z => by rw [z, ob4] at ht; cases ht
 try walk_at "rd"
 rw [Qj ob4 T.cl_Walk T.n_Walk_changes zJ2, zJx]
 have ob5 := QD (H := H4) (a := x) (o := HO.ins a.a_Walk dx (wk4 p bk st t))
 have b5 : But1 x H (upd H4 x (HO.ins a.a_Walk dx (wk4 p bk st t))) := fun b o e n => by rw [QG n]; exact g4 _ _ (b3 _ _ e n)
 have ht5 : upd H4 x (HO.ins a.a_Walk dx (wk4 p bk st t)) t = some (.tup [.int S.ca, .int S.we]) := by rw [QG hn]; exact ht
 generalize upd H4 x (HO.ins a.a_Walk dx (wk4 p bk st t)) = H5 at ob5 b5 ht5 ⊢
 try walk_at "rd"
 cases bk
 case' false => (try walk_at "rd")
 case' true =>
  try walk_at "rd"
  rw [QX ob5 T.cl_Walk T.n_Walk_changes zD3, YA (v := V.int S.ca) ht5 rfl]
  refine ⟨_, rfl, ?_⟩
 all_goals
  rw [Qj ob5 T.cl_Walk T.n_Walk_last zJ3, zJj]
  try walk_at "rd"
  rw [Qj QD T.cl_Walk T.n_Walk_over zJJ, zI5, Q4]
  exact q ⟨dx, t, _, st, false, _, S.ca, S.we⟩ _ (fun b o e n => by rw [QG n]; exact b5 _ _ e n) ⟨QD, by show upd H5 x _ t = _; rw [QG hn]; exact ht5⟩ rfl rfl rfl rfl rfl rfl
end
section
variable {P : Program} {w : World} {K : W.Frag} {mg : Str -> Option Value} {base : Heap} {a : Ad} {tb : Bool}
def pb (bk : Bool) (n m : Int) : Bool := if bk = true then decide (m < n) else decide (m > n)
def nxT (bk : Bool) (n : Int) (es : List Tr) : Option Tr := (if bk = true then es.reverse else es).find? fun e => pb bk n e.2.1
theorem Paired.rev {α β : Type} {R : α -> β -> Prop} : ∀ {l : List α} {m : List β}, Paired R l m -> Paired R l.reverse m.reverse
 | _, _, .nil => .nil
 | _, _, .cons r t => by rw [List.reverse_cons, List.reverse_cons]; exact Paired.snoc r (Paired.rev t)
theorem Paired.find {α β : Type} {R : α -> β -> Prop} {f : α -> Bool} {g : β -> Bool} (h : ∀ a b, R a b -> f a = g b) : ∀ {l : List α} {m : List β}, Paired R l m -> (l.find? f = none /\ m.find? g = none) \/ ∃ a b, l.find? f = some a /\ m.find? g = some b /\ R a b
 | _, _, .nil => .inl ⟨rfl, rfl⟩
 | _, _, .cons (a := a) (b := b) r t => by
  have e := h _ _ r
  rw [List.find?_cons, List.find?_cons, ← e]
  cases f a with
  | true => exact .inr ⟨_, _, rfl, rfl, r⟩
  | false => exact Paired.find h t
theorem zLQ {bk : Bool} {n : Int} {es : List (Int × V × V)} : nxE bk n es = (if bk = true then es.reverse else es).find? fun e => pb bk n e.1 := by
 cases bk
 ·show (es.filter fun e => decide (e.1 > n)).head? = es.find? _
  rw [List.head?_filter]
  rfl
 ·show (es.filter fun e => decide (e.1 < n)).getLast? = es.reverse.find? _
  rw [List.getLast?_eq_head?_reverse, ← List.filter_reverse, List.head?_filter]
  rfl
theorem zFT {C : Addr} {H : Hp} {p : Addr} {S : Sh} {xs : List V} {es : List Tr} {bk : Bool} {n : Int} (A : ShAt C H p S) (hr : H S.pr = some (.lst xs)) (he : es = Yt S.os S.ms S.hs) :
  (nxE bk n (YQ S xs) = none /\ nxT bk n es = none) \/ ∃ e q, nxE bk n (YQ S xs) = some e /\ nxT bk n es = some q /\ IsK H q.1 e.2.1 /\ e.1 = q.2.1 /\ e.2.2 = q.2.2 := by
 have pr := zMI A hr
 rw [← he] at pr
 have pr2 : Paired (fun (e : Int × V × V) (q : Tr) => IsK H q.1 e.2.1 /\ e.1 = q.2.1 /\ e.2.2 = q.2.2) (if bk = true then (YQ S xs).reverse else YQ S xs) (if bk = true then es.reverse else es) := by
  cases bk
  ·exact pr
  ·exact Paired.rev pr
 rw [zLQ]
 unfold nxT
 exact Paired.find (fun e q h => by rw [h.2.1]) pr2
theorem zJ4 {C : Addr} {H H' : Hp} {p l : Addr} {S : Sh} (A : ShAt C H p S) (f : Far l p S) (kp : ∀ b o, H b = some o -> b ≠ l -> H' b = some o) (ts : TupS H H') : ShAt C H' p S := by
 obtain ⟨xs, h1, h2⟩ := A.hr
 obtain ⟨f1, f2, f3, f4, f5⟩ := f
 exact ⟨kp _ _ A.ob (Ne.symm f1), kp _ _ A.hc (Ne.symm f2), ⟨xs, kp _ _ h1 (Ne.symm f3), h2.same ts⟩, kp _ _ A.hh (Ne.symm f4), kp _ _ A.hm (Ne.symm f5), A.ne, A.fm, A.s8, A.rm, A.l1, A.l2, A.dp, A.cm⟩
theorem zGe {ez : List Tr} {f : Tr -> Bool} (h : ∀ (j : Nat) e, j < ez.length -> ez[j]? = some e -> f e = false) : ez.find? f = none := by
 rw [List.find?_eq_none]
 intro e he
 obtain ⟨j, hj⟩ := List.getElem?_of_mem he
 rw [h j e (List.getElem?_eq_some_iff.mp hj).1 hj]
 decide
theorem zFF {f : Tr -> Bool} : ∀ {ez : List Tr} {i : Nat} {e : Tr}, ez[i]? = some e -> f e = true -> (∀ (j : Nat) e, j < i -> ez[j]? = some e -> f e = false) -> ez.find? f = some e
 | [], i, e, h, _, _ => by simp at h
 | b :: r, 0, e, h, he, _ => by cases h; rw [List.find?_cons, he]
 | b :: r, i + 1, e, h, he, hb => by
  rw [List.find?_cons, hb 0 b (by omega) rfl]
  exact zFF (ez := r) (i := i) h he fun j e hj he => hb (j + 1) e (by omega) he
theorem zIe {n m : Int} : pb false n m = decide (m > n) := rfl
theorem zJZ {n m : Int} : pb true n m = decide (m < n) := rfl
def zig {α : Type} (bk : Bool) (l : List α) : List α := if bk = true then l.reverse else l
theorem zFY {es : List Tr} {bk : Bool} (hr : Ris es) {j k : Nat} {e e' : Tr} (hj : j < k) (h1 : (zig bk es)[j]? = some e) (h2 : (zig bk es)[k]? = some e') : pb bk e.2.1 e'.2.1 = true /\ pb bk e'.2.1 e.2.1 = false := by
 cases bk
 ·have := zKO hr h1 h2 hj
  exact ⟨decide_eq_true this, decide_eq_false (by omega)⟩
 ·have hp : es.reverse.Pairwise (fun a b => b.2.1 < a.2.1) := List.pairwise_reverse.mpr hr
  have h1' : es.reverse[j]? = some e := h1
  have h2' : es.reverse[k]? = some e' := h2
  obtain ⟨l1, e1⟩ := List.getElem?_eq_some_iff.mp h1'
  obtain ⟨l2, e2⟩ := List.getElem?_eq_some_iff.mp h2'
  have := List.pairwise_iff_getElem.mp hp j k l1 l2 hj
  rw [e1, e2] at this
  exact ⟨decide_eq_true this, decide_eq_false (by omega)⟩
theorem zJC {bk : Bool} {q : Int} : pb bk q q = false := by
 cases bk
 ·rw [zIe, decide_eq_false_iff_not]; omega
 ·rw [zJZ, decide_eq_false_iff_not]; omega
def Ahd (es : List Tr) (bk : Bool) (la : Int) (i : Nat) : Prop := (∀ (j : Nat) e, j < i -> (zig bk es)[j]? = some e -> pb bk la e.2.1 = false) /\ ∀ (j : Nat) e, i <= j -> (zig bk es)[j]? = some e -> pb bk la e.2.1 = true
theorem Ahd.at {es : List Tr} {bk : Bool} {la : Int} {i : Nat} {e : Tr} (h : Ahd es bk la i) (he : (zig bk es)[i]? = some e) : nxT bk la es = some e := zFF he (h.2 i e (Nat.le_refl _) he) h.1
theorem Ahd.end {es : List Tr} {bk : Bool} {la : Int} (h : Ahd es bk la es.length) : nxT bk la es = none := zGe fun j e hj he => h.1 j e (by
 have z : (zig bk es).length = es.length := by
  cases bk
  ·rfl
  ·exact List.length_reverse
 rw [← z]; exact hj) he
theorem Ahd.next {es : List Tr} {bk : Bool} {la : Int} {i : Nat} {e : Tr} (hr : Ris es) (h : Ahd es bk la i) (he : (zig bk es)[i]? = some e) : Ahd es bk e.2.1 (i + 1) := by
 refine ⟨fun j e' hj he' => ?_, fun j e' hj he' => (zFY hr (by omega) he he').1⟩
 rcases Nat.lt_or_ge j i with z | z
 ·exact (zFY hr z he' he).2
 ·obtain rfl : j = i := by omega
  rw [he] at he'
  cases he'
  exact zJC
theorem Ahd.zero {es : List Tr} {bk : Bool} {ca : Int} (h : ∀ e ∈ es, 0 < e.2.1 /\ e.2.1 <= ca) : Ahd es bk (if bk = true then ca + 1 else 0) 0 := by
 refine ⟨fun j e hj => by omega, fun j e _ he => ?_⟩
 have hm := List.mem_of_getElem? he
 cases bk
 ·have := h e hm
  exact (decide_eq_true (by omega) : decide (e.2.1 > 0) = true)
 ·have := h e (List.mem_reverse.mp hm)
  exact (decide_eq_true (by omega) : decide (e.2.1 < ca + 1) = true)
section
variable {w : World} {a : Ad} {tb : Bool} {H : Hp} {p : Addr} {S : Sh} {d : Addr} {ps : List En} {es : List Tr} {H' : Hp}
theorem K1.kp {z : Addr} (k : K1 w a tb H p S d ps es) (kp : ∀ b o, H b = some o -> b ≠ z -> H' b = some o) (ts : TupS H H') (f : Far z p S) (n1 : z ≠ d) : K1 w a tb H' p S d ps es :=
 ⟨zJ4 k.A f kp ts, k.ok, k.cn, k.w0, k.ol, k.sh, kp _ _ k.hd (Ne.symm n1), k.en.same ts, k.ab, Yx ts k.tr, k.fd⟩
theorem K1.wk {x : Addr} {W : Wk} (k : K1 w a tb H p S d ps es) (A : WkAt a.a_Walk H x p W) (b : But1 x H H') : K1 w a tb H' p S d ps es :=
 k.kp b (A.tups b) (A.far k.A) (zFf A.ob k.hd (by intro z; cases z))
end
def zHy (H : Hp) (y : V) (p : En) : Prop := ∃ t, y = .ref t /\ H t = some (.tup [p.2.1, p.2.2])
theorem Zl {H H' : Hp} (ts : TupS H H') {ys : List V} {ps : List En} (h : Paired (zHy H) ys ps) : Paired (zHy H') ys ps := YM h fun _ _ _ h => h.imp fun t h => ⟨h.1, ts _ _ h.2⟩
def zKq (w : World) (a : Ad) : Sp := fun vs H Q _ => ∃ tb p S d ps es x ld W ys, vs = [.ref x, .ref ld] /\ K1 w a tb H p S d ps es /\ WkAt a.a_Walk H x p W /\ W.ov = false /\ (W.st = true -> W.ca = S.ca /\ W.we = S.we) /\ W.la = (if W.bk = true then S.ca + 1 else 0) /\ H ld = some (.lst ys) /\ Paired (zHy H) ys (zig W.bk ps) /\ ∀ H', But1 x H H' -> Q (.bl true) H'
def zMe (a : Ad) (H0 : Hp) (x p : Addr) (es : List Tr) (W0 : Wk) (F : Option V -> Option V -> L2.St) (i : Nat) (σ : L2.St) (H' : Hp) : Prop := ∃ W u v, WkAt a.a_Walk H' x p W /\ W.bk = W0.bk /\ W.st = W0.st /\ W.ca = W0.ca /\ W.we = W0.we /\ W.ov = false /\ Ahd es W.bk W.la i /\ But1 x H0 H' /\ σ = F u v
def zMl (a : Ad) (H0 : Hp) (x p : Addr) (es : List Tr) (W0 : Wk) (F : Option V -> L2.St) (i : Nat) (σ : L2.St) (H' : Hp) : Prop := ∃ W u, WkAt a.a_Walk H' x p W /\ W.bk = W0.bk /\ W.st = W0.st /\ W.ca = W0.ca /\ W.we = W0.we /\ (W.ov = true \/ nxT W.bk W.la es = none) /\ But1 x H0 H' /\ σ = F u
theorem zEp (T : Txt K mg a)(G_Walk_step : FnOk P w K mg base CX0 5 a.f_Walk_step a.d_Walk_step Z2 (zHI a))(G_Lsame : FnOk P w K mg base CX0 5 a.f_Lsame a.d_Lsame Z8 (zHu 4)) : FnOk P w K mg base CX0 7 a.f_Lwalked a.d_Lwalked Jp (zKq w a) := by
 refine T.F_Lwalked.ok sc_Lwalked (fun vs H Q E h => ?_) (fun cdv A outer s H vs Q E hr h => ?_)
 ·obtain ⟨tb, p, S, d, ps, es, x, ld, W, ys, rfl, _⟩ := h
  rfl
 have nd := sc_Lwalked.nd
 obtain ⟨tb, p, S, d, ps, es, x, ld, W, ys, rfl, kk, A, ov, hst, la, hl, pr, q⟩ := h
 refine ⟨_, (QB (ZY PassesOwn.never rfl (Z9 (pv 1)) (YF (i := 2) nd rfl (Or.inl rfl)) (QB (QW (i := 3) nd rfl (Or.inl rfl) (Ql (pv 0) T.cl_Walk T.M_Walk_step (G_Walk_step.mono (by decide)) hr T.b_Walk_step .nil QP))
 (QF (QU (zA2 (Qa (QO (G_Lsame.mono (by decide)) hr rfl T.m_Lsame T.F_Lsame.kp T.b_Lsame .nil QP (QA (pv 3) (QA (pv 2) QC))))) (QF (QL Yg)) QN))))
 (QB (ZY PassesOwn.never rfl (WD rfl T.z_range (QA QE QC)) (YF (i := 4) nd rfl (Or.inl rfl)) (QF (QU (QT JK (Ql (pv 0) T.cl_Walk T.M_Walk_step (G_Walk_step.mono (by decide)) hr T.b_Walk_step .nil QP) Q6 (QR _)) (QF (QL Yg)) QN)))
 (QF (QL Yg)))), ?_⟩
 have hlx : ld ≠ x := zFf hl A.ob (by intro z; cases z)
 obtain ⟨xs, hr2, _⟩ := kk.A.hr
 have px : S.pr ≠ x := Ne.symm (A.far kk.A).2.2.1
 have ez : Paired (TrE H) (zig W.bk ps) (zig W.bk es) := by
  unfold zig
  cases W.bk
  ·exact kk.tr
  ·exact Paired.rev kk.tr
 have zl : ys.length = es.length := by
  rw [Paired.length pr, Paired.length ez]
  unfold zig
  split
  ·exact List.length_reverse
  ·rfl
 try walk_at "rd"
 refine ⟨⟨_, SqL.of hl⟩, zB8 (xs := ys) (zMe a H x p es W fun u v => [some (.ref x), some (.ref ld), u, v, none]) ⟨W, _, _, A, rfl, rfl, rfl, rfl, ov, by rw [la]; exact Ahd.zero kk.ab.2.2.2, (fun _ _ e _ => e), rfl⟩ (fun i σ H' _ h => by obtain ⟨_, _, _, _, _, _, _, _, _, _, b, _⟩ := h; exact SqL.of (b _ _ hl hlx)) (fun i y σ H1 ey h => ?_) (fun σ H1 h => ?_)⟩
 ·obtain ⟨W1, u, v, A1, b1, b2, b3, b4, ov1, po, bb, rfl⟩ := h
  have k1 := kk.wk A bb
  have ts1 := A.tups bb
  obtain ⟨p0, hp0, t0, rfl, ht0⟩ := Paired.getL pr ey
  rw [← b1] at hp0 ez
  obtain ⟨e0, he0, r1, r2⟩ := Paired.getL ez hp0
  have nx := po.at he0
  try walk_at "rd"
  rw [zEE A1 (by decide +kernel)]
  rcases zFT k1.A (bb _ _ hr2 px) k1.ab.1 (bk := W1.bk) (n := W1.la) with ⟨_, e2⟩ | ⟨e, q', e1, e2, hk, h1, h2⟩
  ·rw [nx] at e2; cases e2
  rw [nx] at e2
  cases e2
  refine ⟨tb, x, p, W1, S, xs, rfl, A1, k1.A, bb _ _ hr2 px, (fun z => by rw [b3, b4]; exact hst (b2 ▸ z)), (fun z => by rw [ov1] at z; cases z), (fun _ z => by rw [e1] at z; cases z), fun _ e' t3 H2 he b5 A2 ht3 => ?_⟩
  rw [e1] at he
  cases he
  have ts2 := A1.tups b5
  have hm0 : p0 ∈ ps := by
   have := List.mem_of_getElem? hp0
   unfold zig at this
   split at this
   ·exact List.mem_reverse.mp this
   ·exact this
  have hk0 := (kk.en.is p0 hm0).1
  obtain ⟨i', hi'⟩ := kk.there (List.mem_map.mpr ⟨p0, hm0, rfl⟩)
  have hd : p0.1.deep <= 3 := kk.A.dp _ (List.mem_of_getElem? hi')
  try walk_at "rd"
  refine ⟨_, _, rfl, .inr ⟨t3, t0, _, _, rfl, rfl, ht3, ts2 _ _ (ts1 _ _ ht0), rfl, (show 2 <= 1000 by decide), fun n u z hu hz => ?_⟩, fun H3 g3 => ⟨true, rfl, ?_⟩⟩
  ·match n, hu, hz with
   | 0, hu, hz => cases hu; cases hz; exact IsK.sm ((r1 ▸ hk : IsK H1 p0.1 e.2.1).same ts2) ((hk0.same ts1).same ts2) hd
   | 1, hu, hz => cases hu; cases hz; rw [h2]; exact (((r2.same ts1).same ts2).up).up
  rw [if_neg (by decide)]
  exact ⟨_, _, _, A2.same g3, b1, b2, b3, b4, ov1, by show Ahd es W1.bk e.1 (i + 1); rw [h1]; exact po.next kk.ab.2.2.1 he0, bb.trans (b5.trans g3.but1), rfl⟩
 ·obtain ⟨W1, u, v, A1, b1, b2, b3, b4, ov1, po, bb, rfl⟩ := h
  rw [zl] at po
  try walk_at "rd"
  refine ZF (n := 3) (zMl a H x p es W fun k => [some (.ref x), some (.ref ld), u, v, k]) ⟨W1, _, A1, b1, b2, b3, b4, .inr po.end, bb, rfl⟩ (fun i σ H2 hi h => ?_) (fun σ H2 h => ?_)
  ·obtain ⟨W2, k', A2, c1, c2, c3, c4, oo, b2', rfl⟩ := h
   have k2 := kk.wk A b2'
   try walk_at "rd"
   rw [zEE A2 (by decide +kernel)]
   refine ⟨tb, x, p, W2, S, xs, rfl, A2, k2.A, b2' _ _ hr2 px, (fun z => by rw [c3, c4]; exact hst (c2 ▸ z)), (fun z => ?_), (fun z nn H3 b5 A3 => ?_), fun z e' t3 H3 he => ?_⟩
   ·(try walk_at "rd")
    exact ⟨W2, _, A2, c1, c2, c3, c4, .inl z, b2', rfl⟩
   ·(try walk_at "rd")
    exact ⟨_, _, A3, c1, c2, c3, c4, .inl rfl, b2'.trans b5, rfl⟩
   ·rcases oo with oo | oo
    ·rw [oo] at z; cases z
    ·rcases zFT k2.A (b2' _ _ hr2 px) k2.ab.1 (bk := W2.bk) (n := W2.la) with ⟨e1, _⟩ | ⟨e, q', e1, e2, _⟩
     ·rw [e1] at he; cases he
     ·rw [oo] at e2; cases e2
  ·obtain ⟨W2, k', A2, c1, c2, c3, c4, oo, b2', rfl⟩ := h
   try walk_at "rd"
   exact q H2 b2'
end
section
variable {P : Program} {w : World} {K : W.Frag} {mg : Str -> Option Value} {base : Heap} {a : Ad} {tb : Bool}
theorem K1.came {w : World} {a : Ad} {tb : Bool} {H2 : Hp} {p : Addr} {S : Sh} {d : Addr} {ps : List En} {es : List Tr} {k : Kd} {c : Nat} {x y u : V} (A0 : S.hs.length = S.os.length /\ S.ms.length = S.os.length) (A2 : ShAt (cA a tb) H2 p (Yu S k c y)) (ok : W5 S.os) (cn : Cnt S) (w0 : 0 <= S.we) (ol : (S.os.length : Int) <= S.ca) (sh : tb = false -> S.n = 512) (ab : Ab3 S es S.ca) (hno : ¬ k ∈ ps.map (·.1))
  (b1 : H2 d = some (dko w d (Yi ps k x u))) (b2 : EnOk H2 ps) (b3 : Paired (TrE H2) ps es) (b5 : Far d p S) (hk : IsK H2 k x) (hd : k.deep <= 3) (hok : k.th.ok 3 = true) (hv : Sm 1 H2 y u) :
  K1 w a tb H2 p (Yu S k c y) d (Yi ps k x u) (es ++ [(k, S.ca + 1, y)]) := by
 have h1 : S.ca - S.we = (YJ S.os : Int) := cn
 obtain ⟨z1, z2⟩ := zJk (k := k) (c := c) (y := y) cn ol
 refine ⟨A2, zEF ok hok, z1, w0, z2, sh, b1, b2.put hk (by omega), zKC A0 ab (by omega), ?_, b5⟩
 unfold Yi
 rw [if_neg hno]
 exact Paired.snoc ⟨rfl, hv⟩ b3
theorem zMF {w : World} {a : Ad} {tb : Bool} {H : Hp} {p : Addr} {S : Sh} {d : Addr} {ps : List En} {es : List Tr} {H1 : Hp} {k : Kd} {x y u x2 : V} {Q : VK} (kk : K1 w a tb H p S d ps es) (c13 : S.ca <= 300) (hk : IsK H k x) (hd : k.deep <= 3) (hok : k.th.ok 3 = true) (g : Same (upd H d (dko w d (Yi ps k x u))) H1) (hk2 : IsK H1 k x2) (hy : Sm 1 H1 y u)
  (q : ∀ b S' es' H', K1 w a tb H' p S' d (Yi ps k x u) es' -> S'.ca <= S.ca + 1 -> Zy p d S S' H H' -> Q b H') : zC9 a tb [.ref p, x2, y] H1 Q E0 := by
 have hcn : S.ca - S.we = (YJ S.os : Int) := kk.cn
 have few := kk.few (by omega)
 have t1 := (JY (o := dko w d (Yi ps k x u)) kk.hd).trans g.tups
 have A := (ShAt.far kk.A kk.fd (JY (o := dko w d (Yi ps k x u)) kk.hd)).same g
 have d1 := g _ _ (QD (H := H) (a := d) (o := dko w d (Yi ps k x u)))
 have hk1 := hk.same t1
 have en1 := kk.en.same t1
 have tr1 := Yx t1 kk.tr
 have kD : Zy p d S S H H1 := QZ zAe (Qx g)
 refine ⟨p, S, x2, k, y, rfl, A, kk.cn, few, kk.low c13, hk2, hd, hok, (fun i H2 hi b A2 => ?_), (fun c H2 hn hr hc b A2 => ?_), fun S1 c H2 htb hn hf td kS A2 => ?_⟩
 ·have kS := Z5 b (S' := { S with hs := S.hs.set i y }) ⟨rfl, rfl, rfl, rfl, rfl⟩
  have ts := YU A kS
  obtain ⟨j, m, v0, hj, ab1, _, _⟩ := Ab3.at kk.A kk.ab hi
  exact q _ _ _ H2 ⟨A2, kk.ok, kk.cn, kk.w0, kk.ol, kk.sh, (kS _ _ d1 kk.fd).1, (en1.put hk1 (by omega)).same ts, ab1 y, Yx ts (zLX en1 tr1 hj hy), (kS _ _ d1 kk.fd).2⟩ (by show S.ca <= S.ca + 1; omega) (QZ kD (Z7 kS))
 ·have kS := Z5 b (S' := Yu S k c y) ⟨rfl, rfl, rfl, rfl, rfl⟩
  have ts := YU A kS
  exact q _ _ _ H2 (K1.came ⟨A.l1, A.l2⟩ A2 kk.ok kk.cn kk.w0 kk.ol kk.sh kk.ab (kk.no hn) (kS _ _ d1 kk.fd).1 (en1.same ts) (Yx ts tr1) kk.fd (hk1.same ts) hd hok (hy.same ts)) (by show S.ca + 1 <= S.ca + 1; omega) (QZ kD (Z7 kS))
 ·have ts := YU A (S' := S1) kS
  obtain ⟨e1, e2, e3, cn1, ol1, ab1, l1, l2⟩ := zLZ td kk.cn kk.ol kk.ab A.l1 A.l2
  have kS' : JP p S S1 H1 H2 := kS
  exact q _ _ _ H2 (K1.came ⟨l1, l2⟩ A2 (by rw [e1]; exact zEw kk.ok) cn1 (by rw [e3]; exact kk.w0) ol1 (fun z => by rw [htb] at z; cases z) ab1 (kk.no hn) (kS' _ _ d1 kk.fd).1 (en1.same ts) (Yx ts tr1) (kS' _ _ d1 kk.fd).2 (hk1.same ts) hd hok (hy.same ts)) (by show S1.ca + 1 <= S.ca + 1; omega) (QZ kD (Z7 kS'))
open Builtin.Int (intBits) in
def zD7 (w : World) (a : Ad) : Sp := fun vs H Q _ => ∃ tb p S d ps es wy c, vs = [.ref p, .ref d, .int wy, .int c] /\ K1 w a tb H p S d ps es /\ S.ca <= 290 /\ intBits c <= 2 ^ 20 /\ ∀ S' ps' es' H', K1 w a tb H' p S' d ps' es' -> S'.ca <= S.ca + 4 -> Zy p d S S' H H' -> Q .non H'
def zMn (w : World) (a : Ad) (tb : Bool) (p d lr : Addr) (S0 : Sh) (H0 : Hp) (F : Option V -> L2.St) (i : Nat) (σ : L2.St) (H' : Hp) : Prop := ∃ (S : Sh) (ps : List En) (es : List Tr) (q1 : Option V), K1 w a tb H' p S d ps es /\ S.ca <= S0.ca + i /\ Zy p d S0 S H0 H' /\ σ = F q1
theorem zG7 (T : Txt K mg a)(G_Lkey_by : FnOk P w K mg base CX0 1 a.f_Lkey_by a.d_Lkey_by Jo zJm)(G_Lvalue_by : FnOk P w K mg base CX0 1 a.f_Lvalue_by a.d_Lvalue_by Zz zJK)(G_Hput : ∀ tb, FnOk P w K mg base CX0 14 a.f_Hput a.d_Hput zEs (zC9 a tb))(G_Htake : ∀ tb, FnOk P w K mg base (CXe P w) 13 a.f_Htake a.d_Htake zAR (zDB (cA a tb) a.a_Lacking))(G_Hemptied : ∀ tb, FnOk P w K mg base CX0 12 a.f_Hemptied a.d_Hemptied WY (zBE a tb))(G_Htake_last : ∀ tb, FnOk P w K mg base (CXe P w) 14 a.f_Htake_last a.d_Htake_last ZW (zFb (cA a tb) a.a_Lacking)) : FnOk P w K mg base CX0 17 a.f_Ldeed a.d_Ldeed zCI (zD7 w a) := by
 refine T.F_Ldeed.ok sc_Ldeed (fun vs H Q E h => ?_) (fun cdv A outer s H vs Q E hr h => ?_)
 ·obtain ⟨tb, p, S, d, ps, es, wy, c, rfl, _⟩ := h
  rfl
 have nd := sc_Ldeed.nd
 obtain ⟨tb, p, S, d, ps, es, wy, c, rfl, kk, c10, hb, q⟩ := h
 refine ⟨_, (QB (QW (i := 4) nd rfl (Or.inl rfl) (QK Qp (pv 3) QE))
 (QB (QW (i := 5) nd rfl (Or.inl rfl) (zBy (zAx rfl) rfl T.z_list boot_list (QA (pv 1) QC)))
 (QF (QU (QT zA3 (QK Qh (pv 3) QE) QE (QR _)) (QB (WV (QO (G_Lvalue_by.mono (by decide)) hr rfl T.m_Lvalue_by T.F_Lvalue_by.kp T.b_Lvalue_by .nil QP (QA (QK Qp (pv 4) QE) QC)) (Wj (pv 1) (QO (G_Lkey_by.mono (by decide)) hr rfl T.m_Lkey_by T.F_Lkey_by.kp T.b_Lkey_by .nil QP (QA (pv 2) (QA (pv 4) QC))) (zKZ hr.units)))
 (QF (Qn (Qr (pv 0) (T.cl tb) (T.M_Hput tb) ((G_Hput tb).mono (by decide)) hr T.b_Hput .nil QP (QA (QO (G_Lkey_by.mono (by decide)) hr rfl T.m_Lkey_by T.F_Lkey_by.kp T.b_Lkey_by .nil QP (QA (pv 2) (QA (pv 4) QC))) (QA (QO (G_Lvalue_by.mono (by decide)) hr rfl T.m_Lvalue_by T.F_Lvalue_by.kp T.b_Lvalue_by .nil QP (QA (QK Qp (pv 4) QE) QC)) QC)))))) (QF (QU (QT YC (QK Qh (pv 3) QE) QE (QR _)) (QF (ZY PassesOwn.never rfl (WD rfl T.z_range (QA (QK Qh (QK Qp (pv 4) QE) QE) QC)) (YF (i := 6) nd rfl (Or.inl rfl)) (QB (WV (QO (G_Lvalue_by.mono (by decide)) hr rfl T.m_Lvalue_by T.F_Lvalue_by.kp T.b_Lvalue_by .nil QP (QA (QK Yf (QK Qp (pv 4) QE) (pv 6)) QC)) (Wj (pv 1) (QO (G_Lkey_by.mono (by decide)) hr rfl T.m_Lkey_by T.F_Lkey_by.kp T.b_Lkey_by .nil QP (QA (pv 2) (QA (QK Yf (pv 4) (QK YW QE (pv 6))) QC))) (zKZ hr.units)))
 (QF (Qn (Qr (pv 0) (T.cl tb) (T.M_Hput tb) ((G_Hput tb).mono (by decide)) hr T.b_Hput .nil QP (QA (QO (G_Lkey_by.mono (by decide)) hr rfl T.m_Lkey_by T.F_Lkey_by.kp T.b_Lkey_by .nil QP (QA (pv 2) (QA (QK Yf (pv 4) (QK YW QE (pv 6))) QC))) (QA (QO (G_Lvalue_by.mono (by decide)) hr rfl T.m_Lvalue_by T.F_Lvalue_by.kp T.b_Lvalue_by .nil QP (QA (QK Yf (QK Qp (pv 4) QE) (pv 6)) QC)) QC)))))))) (QF (QU (PW.pt (zEx (QT zA3 (QK Qh (pv 3) QE) QE (QR _)) (zDG (QT zBZ (QM Qq rfl T.z_len PySem.boot_len (QA (pv 5) QC)) QE (QR _))))) (QB (QW (i := 7) nd rfl (Or.inl rfl) (Qt YS (pv 5) (QK Qh (pv 4) (QM Qq rfl T.z_len PySem.boot_len (QA (pv 5) QC))) (fun _ _ => rfl)))
 (QB (Qn (Qr (pv 0) (T.cl tb) (T.M_Htake tb) ((G_Htake tb).mono (by decide)) hr T.b_Htake .nil zKY (QA (pv 7) QC)))
 (QF (Qn (zKn PySem.F.slot_dict_pop PySem.F.type_dict_pop (zFB hr.units) (pv 1) (QA (pv 7) QC)))))) (QF (QU (QT YC (QK Qh (pv 4) QE) QE (QR _)) (QB (Qn (Ql (pv 0) (T.cl tb) (T.M_Hemptied tb) ((G_Hemptied tb).mono (by decide)) hr T.b_Hemptied .nil QP))
 (QF (Qn (zLb PySem.F.slot_dict_clear PySem.F.type_dict_clear zGD (pv 1))))) (QF (QU (QT zBZ (QM Qq rfl T.z_len PySem.boot_len (QA (pv 5) QC)) QE (QR _)) (QB (Qn (Ql (pv 0) (T.cl tb) (T.M_Htake_last tb) ((G_Htake_last tb).mono (by decide)) hr T.b_Htake_last .nil zKY))
 (QF (Qn (zKn PySem.F.slot_dict_pop PySem.F.type_dict_pop (zFB hr.units) (pv 1) (QA (Qt YS (pv 5) (zDx zA1 QE) (fun _ _ => rfl)) QC))))) QN)))))))))))), ?_⟩
 have A := kk.A
 have hbt := zL4 hb
 have sm := A.small
 have hcn : S.ca - S.we = (YJ S.os : Int) := kk.cn
 have hw := kk.w0
 try walk_at "rd"
 refine ⟨d, ps, rfl, kk.hd, fun lr hlr => ?_⟩
 have v1 := QI (o := HO.lst (ps.map (·.2.1))) hlr
 have hr1 := QD (H := H) (a := lr) (o := HO.lst (ps.map (·.2.1)))
 have k1 := kk.same v1
 have frl := zBT A hlr
 have kp : IsKos (upd H lr (HO.lst (ps.map (·.2.1)))) ((ps.map (·.1)).map some) (ps.map (·.2.1)) := k1.en.kos
 have n1 : lr ≠ d := fun e => by rw [e, kk.hd] at hlr; cases hlr
 try walk_at "rd"
 generalize upd H lr (HO.lst (ps.map (·.2.1))) = H1 at v1 hr1 k1 kp ⊢
 have lx : (ps.map (·.2.1)).length = ps.length := List.length_map ..
 generalize hxs : ps.map (·.2.1) = xs at hr1 kp lx ⊢
 have fo : ∀ k' ∈ ps.map (·.1), ∃ i' : Nat, S.os[i']? = some (some k') := fun k' hk' => kk.there hk'
 have YL : Q V.non H1 := q S ps es H1 k1 (by omega) (Qx v1)
 have pick : 0 < ps.length -> ∃ y k, atI xs (c / 8 % ((ps.length : Nat) : Int)) = some y /\ IsK H1 k y /\ k.deep <= 3 /\ k.th.ok 3 = true /\ ∃ i' : Nat, S.os[i']? = some (some k) := fun z => by
  obtain ⟨y, hy⟩ := zKr (l := xs) (i := c / 8 % ((ps.length : Nat) : Int)) (Int.emod_nonneg _ (by omega)) (by rw [lx]; exact Int.emod_lt_of_pos _ (by omega))
  obtain ⟨j, _, hj, _⟩ := zCU hy
  obtain ⟨o, eo, io⟩ := kp.get hj
  obtain ⟨k, hk, rfl⟩ := List.mem_map.mp (List.mem_of_getElem? eo)
  obtain ⟨i', hi'⟩ := fo k hk
  have hm := List.mem_of_getElem? hi'
  exact ⟨y, k, hy, io, A.dp _ hm, kk.ok k hm, i', hi'⟩
 have put : ∀ S1 ps1 es1 H2 m mv, K1 w a tb H2 p S1 d ps1 es1 -> S1.ca <= 300 -> Builtin.Int.intBits m <= 2 ^ 20 -> ∀ QQ : Hp -> Prop, (∀ S' ps' es' H', K1 w a tb H' p S' d ps' es' -> S'.ca <= S1.ca + 1 -> Zy p d S1 S' H2 H' -> QQ H') -> zJK [V.int mv] H2 (fun v H3 => zJm [V.int wy, V.int m] H3 (fun i H4 => zMR w (V.ref d) i v H4 fun H5 => Wp (cA a tb) (Str.ofString "put") (V.ref p) H5 fun H6 =>
   zJm [V.int wy, V.int m] H6 (fun x H7 => zJK [V.int mv] H7 (fun y H8 => zC9 a tb [V.ref p, x, y] H8 (fun x H9 => QQ H9) E0) E0) E0) E0) E0 := fun S1 ps1 es1 H2 m mv k2 cc hm QQ qq => by
  refine ⟨mv, rfl, fun v H3 g3 hv => ⟨wy, m, rfl, hm, fun x H4 g4 hx => ?_⟩⟩
  have G4 := g3.trans g4
  have k4 := k2.same G4
  refine ⟨d, ps1, _, rfl, k4.hd, k4.en, hx, Nat.le_trans JC (by decide), Qm (by have := k4.plen; omega), ?_⟩
  have t5 := JY (o := dko w d (Yi ps1 (kyF wy m) x v)) k4.hd
  show Wp (cA a tb) _ (V.ref p) (upd H4 d (dko w d (Yi ps1 (kyF wy m) x v))) _
  rw [Yn (ShAt.far k4.A k4.fd t5) (by decide +kernel)]
  refine ⟨wy, m, rfl, hm, fun x2 H7 g7 hx2 => ⟨mv, rfl, fun y H8 g8 hy => ?_⟩⟩
  exact zMF k4 cc hx JC zIh (g7.trans g8) (hx2.same g8.tups) (hy.sm (((hv.same g4.tups).same t5).same (g7.trans g8).tups)) fun b S' es' H' k' c' s' => qq S' _ es' H' k' c' (QZ (Qx G4) s')
 by_cases c0 : c % 8 < 4
 ·rw [if_pos c0]
  exact put S ps es H1 _ _ k1 (by omega) (zDF hbt (by omega)) _ fun S' ps' es' H' k' c' s' => q S' ps' es' H' k' (by omega) (QZ (Qx v1) s')
 rw [if_neg c0]
 by_cases c3 : c % 8 = 4
 ·rw [if_pos c3]
  refine ⟨by omega, by omega, ZF (zMn w a tb p d lr S H1 fun q1 => [some (.ref p), some (.ref d), some (.int wy), some (.int c), some (.int (c / 8)), some (.ref lr), q1, none]) ⟨S, ps, es, _, k1, by omega, Qx (Same.refl H1), rfl⟩ (fun i σ H' hi h => ?_) (fun σ H' h => ?_)⟩
  ·obtain ⟨S1, ps1, es1, q1, k2, c1, s1, rfl⟩ := h
   have hi4 : i < 5 := by omega
   have m7 : ∀ x : Int, CMul 7 x := fun x => .inl ⟨by decide, by decide⟩
   try walk_at "rd"
   refine ⟨_, rfl, fun v H3 g3 hv => ⟨m7 _, wy, _, rfl, zDF hbt (by omega), fun x H4 g4 hx => ?_⟩⟩
   have G4 := g3.trans g4
   have k4 := k2.same G4
   refine ⟨d, ps1, _, rfl, k4.hd, k4.en, hx, Nat.le_trans JC (by decide), Qm (by have := k4.plen; omega), ?_⟩
   have t5 := JY (o := dko w d (Yi ps1 (kyF wy (c / 8 + 7 * (0 + (i : Int)))) x v)) k4.hd
   show Wp (cA a tb) _ (V.ref p) (upd H4 d (dko w d (Yi ps1 (kyF wy (c / 8 + 7 * (0 + (i : Int)))) x v))) _
   rw [Yn (ShAt.far k4.A k4.fd t5) (by decide +kernel)]
   refine ⟨m7 _, wy, _, rfl, zDF hbt (by omega), fun x2 H7 g7 hx2 => ⟨_, rfl, fun y H8 g8 hy => ?_⟩⟩
   exact zMF k4 (by omega) hx JC zIh (g7.trans g8) (hx2.same g8.tups) (hy.sm (((hv.same g4.tups).same t5).same (g7.trans g8).tups)) fun b S' es' H' k' c' s' => ⟨S', _, es', _, k', by omega, QZ s1 (QZ (Qx G4) s'), rfl⟩
  ·obtain ⟨S1, ps1, es1, q1, k2, c1, s1, rfl⟩ := h
   try walk_at "rd"
   exact q S1 ps1 es1 H' k2 (by omega) (QZ (Qx v1) s1)
 rw [if_neg c3]
 by_cases c5 : c % 8 < 7
 case' pos =>
  rw [if_pos c5, YD hr1, lx]
  refine ⟨_, rfl, ?_⟩
  by_cases z : 0 < ps.length
  ·rw [if_pos (by omega), YD hr1, lx]
   obtain ⟨v, k, hy, hk, hd, hok, i0, hi0⟩ := pick z
   refine ⟨_, rfl, by omega, ?_⟩
   rw [Qz hr1 hy, Yn k1.A (by decide +kernel)]
   refine ⟨p, S, v, k, rfl, k1.A, hk, hd, hok, (fun i c' H2 hi hc b A2 => ?_), fun hn => absurd hi0 (hn i0)⟩
   have kS := Z5 b (S' := J9 S k c' i) ⟨rfl, rfl, rfl, rfl, rfl⟩
   have ts := YU k1.A kS
   obtain ⟨b1, b2, b3, b5⟩ := zIC k1 kS
   obtain ⟨u, hu⟩ := zHH (ps := ps) (k := k) (kk.at hi)
   refine ⟨⟨ps, b1⟩, d, ps, k, v, u, rfl, rfl, b1, b2, hk.same ts, by omega, hu, ?_⟩
   obtain ⟨es', K6⟩ := k1.gone hi A2 b1 b2 b3 b5
   exact q _ _ _ _ K6 (by show S.ca <= S.ca + 4; omega) (QZ (Qx v1) (QZ (Z7 kS) zAe))
  rw [if_neg (by omega)]
 case' neg => rw [if_neg c5]
 all_goals
  refine WI (fun _ => ?_) (fun _ => ?_)
  ·rw [Yn k1.A (by decide +kernel)]
   refine ⟨p, S, rfl, k1.A, fun qc qr qh qm H2 e1 e2 e3 e4 kq A2 => ?_⟩
   have ks2 : JP p S (zAw tb S qc qr qh qm) H1 H2 := zDa kq e1 e2 e3 e4 (fun _ _ e _ _ _ _ _ => e)
   obtain ⟨b1, b2, b3, b5⟩ := zIC k1 ks2
   exact ⟨⟨ps, b1⟩, d, ps, rfl, rfl, b1, q _ _ _ _ (K1.emptied A2 (by omega) kk.sh b1 b5) (by show S.ca <= S.ca + 4; omega) (QZ (Qx v1) (QZ (Z7 ks2) zAe))⟩
  rw [YD hr1, lx]
  refine ⟨_, rfl, ?_⟩
  by_cases z : 0 < ps.length
  case' neg => rw [if_neg (by omega)]; exact YL
  rw [if_pos (by omega), Yn k1.A (by decide +kernel)]
  refine ⟨p, S, rfl, k1.A, kk.ok, (fun i c' k x2 y2 t2' H2 hL hc b A2 hk2 hy ht2 => ?_), fun hn => ?_⟩
  case' refine_2 =>
   have hm : (ps[0]'z).1 ∈ ps.map (·.1) := List.mem_map.mpr ⟨_, List.getElem_mem z, rfl⟩
   obtain ⟨i, hi⟩ := kk.there hm
   exact absurd hi (hn i _)
  have hi := hL.1
  have kS := Z5 b (S' := J9 S k c' i) ⟨rfl, rfl, rfl, rfl, rfl⟩
  have ts := YU k1.A kS
  obtain ⟨b1, b2, b3, b5⟩ := zIC k1 kS
  obtain ⟨j, m, v0, hj, _, _, jlast⟩ := Ab3.at A kk.ab hi
  have ej := jlast hL.2
  obtain ⟨p0, hp0, r1, _⟩ := Paired.getR b3 hj
  have r1' : p0.1 = k := r1
  have pl := kk.plen
  have hv := zES b2.nd hp0
  rw [r1'] at hv
  have hxl : IsK H2 k p0.2.1 := r1' ▸ (b2.is p0 (List.mem_of_getElem? hp0)).1
  have eat : atI xs (-1) = some p0.2.1 := by
   rw [zAU (c := j) (by rw [lx]; omega), ← hxs, List.getElem?_map, hp0]
   rfl
  refine ⟨⟨ps, b1⟩, ?_⟩
  rw [Qz (kS _ _ hr1 frl).1 eat]
  refine ⟨d, ps, k, _, _, rfl, rfl, b1, b2, hxl, Nat.le_trans (A.dp _ (List.mem_of_getElem? hi)) (by decide), hv, ?_⟩
  obtain ⟨es', K6⟩ := k1.gone hi A2 b1 b2 b3 b5
  exact q _ _ _ _ K6 (by show S.ca <= S.ca + 4; omega) (QZ (Qx v1) (QZ (Z7 kS) zAe))
end
section
variable {P : Program} {w : World} {K : W.Frag} {mg : Str -> Option Value} {base : Heap} {a : Ad} {tb : Bool}
theorem zIu {X : Cx} {w : World} {o i : Expr} {pos : Pos} {td ty : TE} (hw : X.w = w) (hu : X.A.units + 64 < cLine) (ho : PE X o td) (hi : PE X i ty) (hs : zKw i) : PE X (.Subscript o i pos) (zDp w td ty) := by
 subst hw
 exact zJa hu ho hi hs
open Builtin.Int (intBits) in
def zDU (K : W.Frag) : Sp := fun vs H Q _ => ∃ (a : Addr) (ns : List Int), vs = [.ref a] /\ SqL K H a (ns.map V.int) /\ ns.length <= 63 /\ (∀ x ∈ ns, intBits x <= 2 ^ 20) /\ ∀ H', Q (.bl true) H'
theorem zGx (ns : List Int) (lo hi : Option Int) : ∃ cells : List Int, zEA (ns.map V.int) lo hi = cells.map V.int /\ cells.length <= ns.length /\ ∀ x ∈ cells, x ∈ ns := by
 unfold zEA
 rw [← List.map_drop, ← List.map_take]
 exact ⟨_, rfl, by rw [List.length_take, List.length_drop]; omega, fun x hx => List.mem_of_mem_drop (List.mem_of_mem_take hx)⟩
theorem zIq {K : W.Frag} {w : World} {a : Ad} {tb : Bool} {H : Hp} {p : Addr} {S : Sh} {d : Addr} {ps : List En} {es : List Tr} {fin : List V -> Hp -> Prop} (k : K1 w a tb H p S d ps es) (q : ∀ ys H', Same H H' -> Paired (zHy H') ys ps -> fin ys H') :
  zHX w [V.ref d] H fun x H1 => ∃ a1, x = V.ref a1 /\ (∃ xs, SqL K H1 a1 xs) /\ zBS (Itl K a1) zDO (zJI (zDw (zDn 0) (zDw (zDp w (zDn 1) (zDn 0)) zF6))) [some (V.ref d)] fin H1 := by
 refine ⟨d, ps, rfl, k.hd, fun lr hlr => ?_⟩
 have v1 := QI (o := HO.lst (ps.map (·.2.1))) hlr
 have hr1 := QD (H := H) (a := lr) (o := HO.lst (ps.map (·.2.1)))
 generalize upd H lr (HO.lst (ps.map (·.2.1))) = H4 at v1 hr1 ⊢
 have k4 := k.same v1
 have pl := k.plen
 refine ⟨lr, rfl, ⟨_, SqL.of hr1⟩, ZU (xs := ps.map (·.2.1)) (fun i zs H5 => Same H4 H5 /\ zs.length <= i /\ Paired (zHy H5) zs (ps.take i)) ⟨Same.refl H4, Nat.zero_le _, .nil⟩ (fun i zs H5 _ h => SqL.of (h.1 _ _ hr1)) (fun i zs H5 hi h => ?_) (fun i y zs H5 ey h => ?_) (fun zs H5 h => ?_)⟩
 ·have := h.2.1
  exact Qm (by rw [List.length_map] at hi; omega)
 ·obtain ⟨g5, hz, pr⟩ := h
  have k5 := k4.same g5
  obtain ⟨p0, hp0, rfl⟩ := zJL ey
  have hm := List.mem_of_getElem? hp0
  try walk_at "rd"
  refine ⟨ps, k5.hd, k5.en, _, (k5.en.is p0 hm).1, (k5.en.is p0 hm).2, _, zES k5.en.nd hp0, by decide, fun t ht => ?_⟩
  have g6 := QI (o := HO.tup [p0.2.1, p0.2.2]) ht
  refine ⟨g5.trans g6, by rw [List.length_append, List.length_singleton]; omega, ?_⟩
  rw [ZJ hp0]
  exact Ya (Zl g6.tups pr) ⟨t, rfl, QD⟩
 ·obtain ⟨g5, hz, pr⟩ := h
  rw [List.length_map, List.take_length] at pr
  exact q zs H5 (v1.trans g5) pr
def zMb (w : World) (a : Ad) (tb : Bool) (p d l : Addr) (cs : List V) (F : Option V -> L2.St) (i : Nat) (σ : L2.St) (H' : Hp) : Prop := ∃ (S : Sh) (ps : List En) (es : List Tr) (q1 : Option V), K1 w a tb H' p S d ps es /\ S.ca <= 4 * (i : Int) /\ H' l = some (.lst cs) /\ Far l p S /\ l ≠ d /\ σ = F q1
theorem zMX (T : Txt K mg a)(G_Lcell_at : FnOk P w K mg base CX0 1 a.f_Lcell_at a.d_Lcell_at Wl (zHT K))(G_Lbook : FnOk P w K mg base CX0 15 a.f_Lbook a.d_Lbook zCl (zI3 a))(G_Ldeed : FnOk P w K mg base CX0 17 a.f_Ldeed a.d_Ldeed zCI (zD7 w a))(G_Walk___init__ : FnOk P w K mg base CX0 4 a.f_Walk___init__ a.d_Walk___init__ Qu (zFV a))(G_Lwalked : FnOk P w K mg base CX0 7 a.f_Lwalked a.d_Lwalked Jp (zKq w a)) : FnOk P w K mg base CX0 18 a.f_law a.d_law zHZ (zDU K) := by
 refine T.F_law.ok sc_law (fun vs H Q E h => ?_) (fun cdv A outer s H vs Q E hr h => ?_)
 ·obtain ⟨b, ns, rfl, _⟩ := h
  rfl
 have nd := sc_law.nd
 obtain ⟨b, ns, rfl, hS, h63, hbits, q⟩ := h
 refine ⟨_, (QB (QW (i := 1) nd rfl (Or.inl rfl) (QK Qh (QO (G_Lcell_at.mono (by decide)) hr rfl T.m_Lcell_at T.F_Lcell_at.kp T.b_Lcell_at .nil QP (QA (pv 0) (QA QE QC))) QE))
 (QB (QW (i := 2) nd rfl (Or.inl rfl) (QO (G_Lbook.mono (by decide)) hr rfl T.m_Lbook T.F_Lbook.kp T.b_Lbook .nil QP (QA (QK Qp (QO (G_Lcell_at.mono (by decide)) hr rfl T.m_Lcell_at T.F_Lcell_at.kp T.b_Lcell_at .nil QP (QA (pv 0) (QA QE QC))) QE) QC)))
 (QB (QW (i := 3) nd rfl (Or.inr rfl) zKP)
 (QB (ZY PassesOwn.never rfl (Z9 (zDJ zKK (pv 0) (zAY QE) (zAY QE))) (YF (i := 4) nd rfl (Or.inl rfl)) (QF (Qn (QO (G_Ldeed.mono (by decide)) hr rfl T.m_Ldeed T.F_Ldeed.kp T.b_Ldeed .nil QP (QA (pv 2) (QA (pv 3) (QA (pv 1) (QA (pv 4) QC))))))))
 (QB (zJV (i := 5) nd rfl (Or.inl rfl) "_law_key" ["_law_rows"] [3] rfl ⟨rfl, rfl, by decide +kernel, by decide +kernel, rfl, by decide +kernel, by decide +kernel, rfl, by decide +kernel⟩ rfl (Z9 (zBy (zAx rfl) rfl T.z_list boot_list (QA (pv 3) QC))) (fun C s1 H1 fp => (YK (QA (pv 0) (QA (zIu (w := w) rfl hr.units (pv 1) (pv 0) (fun _ _ => rfl)) QC)))))
 (QB (QU (zA2 (Qa (QO (G_Lwalked.mono (by decide)) hr rfl T.m_Lwalked T.F_Lwalked.kp T.b_Lwalked .nil QP (QA (zAd T.mk_Walk (G_Walk___init__.mono (by decide)) hr rfl T.m_Walk T.b_Walk___init___2 (.cons (show RelV (V.bl false) (Value.bool false) from rfl) (.cons (show RelV (V.bl false) (Value.bool false) from rfl) .nil)) QP (QA (pv 2) QC)) (QA (pv 5) QC))))) (QF (QL Yg)) QN)
 (QB (QU (zA2 (Qa (QO (G_Lwalked.mono (by decide)) hr rfl T.m_Lwalked T.F_Lwalked.kp T.b_Lwalked .nil QP (QA (zAd T.mk_Walk (G_Walk___init__.mono (by decide)) hr rfl T.m_Walk T.b_Walk___init___1 (.cons (show RelV (V.bl false) (Value.bool false) from rfl) .nil) QP (QA (pv 2) (QA Yg QC))) (QA (zDg rfl rfl T.z_list rfl T.z_reversed (pv 5)) QC))))) (QF (QL Yg)) QN)
 (QF (QL (QO (G_Lwalked.mono (by decide)) hr rfl T.m_Lwalked T.F_Lwalked.kp T.b_Lwalked .nil QP (QA (zAd T.mk_Walk (G_Walk___init__.mono (by decide)) hr rfl T.m_Walk T.b_Walk___init___0 .nil QP (QA (pv 2) (QA Yg (QA Yg QC)))) (QA (pv 5) QC)))))))))))), ?_⟩
 try walk_at "rd"
 refine ⟨b, ns, 0, rfl, hS, by decide, ?_⟩
 try walk_at "rd"
 refine ⟨b, ns, 0, rfl, hS, by decide, ?_⟩
 try walk_at "rd"
 refine ⟨_, rfl, fun tb p S H1 g1 A sh eo eh em eca ewe => ?_⟩
 intro d hd0
 have g2 := QI (o := dko w d []) hd0
 have d2 := QD (H := H1) (a := d) (o := dko w d [])
 have k3 : K1 w a tb (upd H1 d (dko w d [])) p S d [] [] := ⟨A.same g2, by rw [eo]; exact fun k hk => (by cases hk), by unfold Cnt; rw [eca, ewe, eo]; rfl, by rw [ewe]; decide, by rw [eo, eca]; decide, sh, d2, EnOk.nil, ⟨by rw [eo, em, eh]; rfl, rfl, List.Pairwise.nil, fun e he => by cases he⟩, .nil, zBT A hd0⟩
 have G3 := g1.trans g2
 show zMC K (V.ref b) (some 1) (some 81) (upd H1 d (dko w d [])) _
 generalize upd H1 d (dko w d []) = H3 at k3 G3 ⊢
 refine ⟨b, _, rfl, G3.seq hS, fun l hl => ?_⟩
 obtain ⟨cells, ec, lc, lm⟩ := zGx ns (some 1) (some 81)
 rw [ec]
 have gl := QI (o := HO.lst (cells.map V.int)) hl
 have hl4 := QD (H := H3) (a := l) (o := HO.lst (cells.map V.int))
 have fl := zBT k3.A hl
 have n1 : l ≠ d := fun e => by rw [e, k3.hd] at hl; cases hl
 have k4 := k3.same gl
 generalize upd H3 l (HO.lst (cells.map V.int)) = H4 at gl hl4 k4 ⊢
 refine ⟨l, rfl, ⟨_, SqL.of hl4⟩, zB8 (xs := cells.map V.int) (zMb w a tb p d l (cells.map V.int) fun u => [some (.ref b), some (.int (zAk ns 0 % 7)), some (.ref p), some (.ref d), u, none]) ⟨S, [], [], _, k4, by rw [eca]; decide, hl4, fl, n1, rfl⟩ (fun i σ H' _ h => by obtain ⟨_, _, _, _, _, _, h, _⟩ := h; exact SqL.of h) (fun i x σ H' e h => ?_) (fun σ H' h => ?_)⟩
 ·obtain ⟨S1, ps1, es1, q1, k1, c1, hl1, f1, m1, rfl⟩ := h
  obtain ⟨cell, hcell, rfl⟩ := List.mem_map.mp (List.mem_of_getElem? e)
  have il : i < cells.length := by have := (List.getElem?_eq_some_iff.mp e).1; rwa [List.length_map] at this
  have hb := hbits cell (lm cell hcell)
  try walk_at "rd"
  refine ⟨tb, p, S1, d, ps1, es1, _, _, rfl, k1, by omega, hb, fun S2 ps2 es2 H2 k2 c2 s2 => ?_⟩
  have l2 := s2 _ _ hl1 f1 m1
  exact ⟨S2, ps2, es2, _, k2, by omega, l2.1, l2.2, m1, rfl⟩
 ·obtain ⟨S1, ps1, es1, q1, k1, c1, hl1, f1, m1, rfl⟩ := h
  try walk_at "rd"
  refine zIq k1 fun ys H5 g5 pr5 ld hld => ?_
  have g6 := QI (o := HO.lst ys) hld
  have d6 := QD (H := H5) (a := ld) (o := HO.lst ys)
  have k6 := (k1.same g5).same g6
  have pr6 := Zl g6.tups pr5
  generalize upd H5 ld (HO.lst ys) = H6 at g6 d6 k6 pr6 ⊢
  intro x0 dx0 nx0 nd0 ne0
  have s0 : Same H6 (upd (upd H6 dx0 (HO.own x0)) x0 (HO.ins a.a_Walk dx0 [])) := fun b o e => by rw [QG (QH e nx0), QG (QH e nd0)]; exact e
  refine ⟨tb, x0, dx0, p, S1, false, false, rfl, QD, k6.A.same s0, fun W0 H01 bb0 AA0 e1 e2 e3 e4 e5 e6 => ⟨rfl, ?_⟩⟩
  have g01 : Same H6 H01 := fun b o e => bb0 _ _ (s0 _ _ e) (QH e nx0)
  refine ⟨tb, p, S1, d, ps1, es1, x0, ld, W0, ys, rfl, k6.same g01, AA0, e3, fun _ => ⟨e5, e6⟩, by rw [e4, e1], g01 _ _ d6, by rw [e1]; exact Zl g01.tups pr6, fun H02 b02 => ⟨true, rfl, ?_⟩⟩
  rw [if_neg (by decide)]
  have g02 : Same H6 H02 := fun b o e => b02 _ _ (g01 _ _ e) (QH e nx0)
  have k02 := k6.same g02
  intro x1 dx1 nx1 nd1 ne1
  have s1 : Same H02 (upd (upd H02 dx1 (HO.own x1)) x1 (HO.ins a.a_Walk dx1 [])) := fun b o e => by rw [QG (QH e nx1), QG (QH e nd1)]; exact e
  refine ⟨tb, x1, dx1, p, S1, true, false, rfl, QD, k02.A.same s1, fun W1 H11 bb1 AA1 e1 e2 e3 e4 e5 e6 => ⟨rfl, ?_⟩⟩
  have g11 : Same H02 H11 := fun b o e => bb1 _ _ (s1 _ _ e) (QH e nx1)
  refine ⟨_, g11 _ _ (g02 _ _ d6), fun l2 hl2 => ?_⟩
  have g12 := QI (o := HO.lst ys.reverse) hl2
  have d12 := QD (H := H11) (a := l2) (o := HO.lst ys.reverse)
  have A12 := AA1.same g12
  have G12 := g11.trans g12
  generalize upd H11 l2 (HO.lst ys.reverse) = H12 at g12 d12 A12 G12 ⊢
  refine ⟨tb, p, S1, d, ps1, es1, x1, l2, W1, _, rfl, k02.same G12, A12, e3, fun _ => ⟨e5, e6⟩, by rw [e4, e1], d12, by rw [e1]; exact Paired.rev (Zl (g02.trans G12).tups pr6), fun H13 b13 => ⟨true, rfl, ?_⟩⟩
  rw [if_neg (by decide)]
  have g13 : Same H02 H13 := fun b o e => b13 _ _ (G12 _ _ e) (QH e nx1)
  have k13 := k02.same g13
  intro x2 dx2 nx2 nd2 ne2
  have s2 : Same H13 (upd (upd H13 dx2 (HO.own x2)) x2 (HO.ins a.a_Walk dx2 [])) := fun b o e => by rw [QG (QH e nx2), QG (QH e nd2)]; exact e
  refine ⟨tb, x2, dx2, p, S1, false, true, rfl, QD, k13.A.same s2, fun W2 H21 bb2 AA2 e1 e2 e3 e4 e5 e6 => ⟨rfl, ?_⟩⟩
  have g21 : Same H13 H21 := fun b o e => bb2 _ _ (s2 _ _ e) (QH e nx2)
  exact ⟨tb, p, S1, d, ps1, es1, x2, ld, W2, ys, rfl, k13.same g21, AA2, e3, fun _ => ⟨e5, e6⟩, by rw [e4, e1], (g02.trans (g13.trans g21)) _ _ d6, by rw [e1]; exact Zl (g02.trans (g13.trans g21)).tups pr6, fun H22 _ => q H22⟩
end
section
variable {P : Program} {w : World} {K : W.Frag} {mg : Str -> Option Value} {base : Heap} {a : Ad} {tb : Bool}
theorem WM (T : Txt K mg a) : FnOk P w K mg base CX0 1 a.f_text_stamp a.d_text_stamp ZQ zCw := by
 refine T.F_text_stamp.ok sc_text_stamp (fun vs H Q E h => ?_) (fun cdv A outer s H vs Q E hr h => ?_)
 ·obtain ⟨x, rfl, _⟩ := h
  rfl
 have nd := sc_text_stamp.nd
 obtain ⟨x, rfl, q⟩ := h
 refine ⟨_, (QB (QW (i := 1) nd rfl (Or.inl rfl) QE)
 (QB (ZY PassesOwn.never rfl (zK0 (pv 0)) (YF (i := 2) nd rfl (Or.inl rfl)) (QF (QW (i := 1) nd rfl (Or.inl rfl) (QK Qh (QK Yf (QK YW QE (pv 1)) (QM zGa rfl T.z_ord boot_ord (QA (pv 2) QC))) (Q0 (v := .int 2147483647) rfl T.c_TURN ⟨_, rfl⟩)))))
 (QF (QL (pv 1))))), ?_⟩
 walk_at "rd"
 refine zHY (fun i σ H' => H' = H /\ ∃ u, σ = [some (.str x), some (.int (tst (x.cps.toList.take i))), u]) ⟨rfl, _, rfl⟩ (fun i c σ H' hc h => ?_) (fun σ H' h => ?_)
 ·obtain ⟨rfl, u, rfl⟩ := h
  walk_at "rd"
  refine ⟨.inl ⟨by decide, by decide⟩, ?_⟩
  rw [Ym hc, zHf]
 ·obtain ⟨rfl, u, rfl⟩ := h
  walk_at "rd"
  have e : x.cps.toList.take x.cps.size = x.cps.toList := List.take_of_length_le (by simp)
  rw [e]
  exact q
theorem J0 {n k : Nat} (T : Txt K mg a) (hn : 1 <= n) (G_text_stamp : FnOk P w K mg base CX0 1 a.f_text_stamp a.d_text_stamp ZQ zCw)
  (G_tuple_stamp : ∀ m, k = m + 1 -> FnOk P w K mg base CX0 n a.f_tuple_stamp a.d_tuple_stamp Y1 (zL8 m)) : FnOk P w K mg base CX0 (n + 1) a.f_stamp a.d_stamp WC (zHV k) := by
 refine T.F_stamp.ok sc_stamp (fun vs H Q E h => ?_) (fun cdv A outer s H vs Q E hr h => ?_)
 ·obtain ⟨v, k, rfl, _⟩ := h
  rfl
 have nd := sc_stamp.nd
 obtain ⟨v, kd, rfl, hk, hd, q⟩ := h
 cases kd with
 | num i =>
  unfold IsK at hk
  subst hk
  refine ⟨_, (QB (QU (Qa (QM QV rfl T.z_isinstance boot_isinstance (QA (pv 0) (QA (QY (v := .ty "str") rfl T.z_str boot_str rfl) QC)))) Qe QN) (QB (QU (Qa (QM QV rfl T.z_isinstance boot_isinstance (QA (pv 0) (QA (QY (v := .ty "tuple") rfl T.z_tuple boot_tuple rfl) QC)))) Qe QN) (QF (QL (QK Qh (pv 0) (Q0 (v := .int 2147483647) rfl T.c_TURN ⟨_, rfl⟩)))))), ?_⟩
  walk_at "rd"
  unfold Kd.st at q
  exact q
 | txt x =>
  unfold IsK at hk
  subst hk
  refine ⟨_, (QB (QU (Qa (QM QV rfl T.z_isinstance boot_isinstance (QA (pv 0) (QA (QY (v := .ty "str") rfl T.z_str boot_str rfl) QC)))) (QF (QL (QO (G_text_stamp.mono hn) hr rfl T.m_text_stamp T.F_text_stamp.kp T.b_text_stamp .nil QP (QA (pv 0) QC)))) QN) (QB Yr Qe)), ?_⟩
  walk_at "rd"
  unfold Kd.st at q
  exact q
 | tup ks =>
  unfold IsK at hk
  obtain ⟨b, ws, rfl, hb, _, hks⟩ := hk
  unfold Kd.deep at hd
  obtain ⟨m, rfl⟩ : ∃ m, k = m + 1 := ⟨k - 1, by omega⟩
  have G_tuple_stamp := G_tuple_stamp m rfl
  refine ⟨_, (QB (QU (Qa (QM QV rfl T.z_isinstance boot_isinstance (QA (pv 0) (QA (QY (v := .ty "str") rfl T.z_str boot_str rfl) QC)))) Qe QN) (QB (QU (Qa (QM QV rfl T.z_isinstance boot_isinstance (QA (pv 0) (QA (QY (v := .ty "tuple") rfl T.z_tuple boot_tuple rfl) QC)))) (QF (QL (QO G_tuple_stamp hr rfl T.m_tuple_stamp T.F_tuple_stamp.kp T.b_tuple_stamp .nil QP (QA (pv 0) QC)))) QN) Qe)), ?_⟩
  (iterate 4 ((try simp only [Q5 hb, Qg hb]); (try walk_at "rd")))
  unfold Kd.st at q
  exact ⟨_, _, _, rfl, hb, hks, by omega, q⟩
theorem W7 {n k : Nat} (T : Txt K mg a) (G_stamp : FnOk P w K mg base CX0 n a.f_stamp a.d_stamp WC (zHV k)) : FnOk P w K mg base CX0 (n + 1) a.f_tuple_stamp a.d_tuple_stamp Y1 (zL8 k) := by
 refine T.F_tuple_stamp.ok sc_tuple_stamp (fun vs H Q E h => ?_) (fun cdv A outer s H vs Q E hr h => ?_)
 ·obtain ⟨v, k, ks, rfl, _⟩ := h
  rfl
 have nd := sc_tuple_stamp.nd
 obtain ⟨b, ws, ks, rfl, hb, hks, hd, q⟩ := h
 refine ⟨_, (QB (QW (i := 1) nd rfl (Or.inl rfl) QE)
 (QB (ZY PassesOwn.never rfl (zIc (pv 0)) (YF (i := 2) nd rfl (Or.inl rfl)) (QF (QW (i := 1) nd rfl (Or.inl rfl) (QK Qh (QK zLJ (QK YW QE (pv 1)) (QO G_stamp hr rfl T.m_stamp T.F_stamp.kp T.b_stamp .nil QP (QA (pv 2) QC))) (Q0 (v := .int 2147483647) rfl T.c_TURN ⟨_, rfl⟩)))))
 (QF (QL (pv 1))))), ?_⟩
 walk_at "rd"
 refine ⟨⟨_, SqT.of hb⟩, ?_⟩
 refine zI4 (xs := ws) (fun i σ H' => H' = H /\ ∃ u, σ = [some (.ref b), some (.int (Kd.stL 11 (ks.take i))), u]) ⟨rfl, _, by unfold Kd.stL; rfl⟩ (fun i σ H' _ h => by rw [h.1]; exact SqT.of hb) (fun i x σ H' hc h => ?_) (fun σ H' h => ?_)
 ·obtain ⟨rfl, u, rfl⟩ := h
  obtain ⟨k', e1, e2⟩ := hks.get hc
  walk_at "rd"
  refine ⟨.inl ⟨by decide, by decide⟩, x, k', rfl, e2, Nat.le_trans (Kd.deep_le (List.mem_of_getElem? e1)) hd, ?_⟩
  walk_at "rd"
  rw [Ym e1, Kd.stL_snoc]
 ·obtain ⟨rfl, u, rfl⟩ := h
  walk_at "rd"
  rw [List.take_of_length_le (by rw [hks.length]; exact Nat.le_refl _)]
  exact q
theorem JL (T : Txt K mg a) : ∀ d : Nat, FnOk P w K mg base CX0 (2 * d + 2) a.f_stamp a.d_stamp WC (zHV d)
 | 0 => J0 (n := 1) (k := 0) T (Nat.le_refl _) (WM T) (fun m h => by cases h)
 | d + 1 => J0 (n := 2 * d + 3) (k := d + 1) T (by omega) (WM T) (fun m h => by
   cases h
   exact W7 T (JL T d))
theorem zGj (T : Txt K mg a) : FnOk P w K mg base CX0 1 a.f_stride a.d_stride zBW zDt := by
 refine T.F_stride.ok sc_stride (fun vs H Q E h => ?_) (fun cdv A outer s H vs Q E hr h => ?_)
 ·obtain ⟨m, rfl, _⟩ := h
  rfl
 have nd := sc_stride.nd
 obtain ⟨m, rfl, h0, q⟩ := h
 refine ⟨_, (QF (QL (QK zL2 (QK Qp (pv 0) QE) QE))), ?_⟩
 walk_at "rd"
 rw [zGC (by omega)]
 exact q
theorem zHp (T : Txt K mg a)(G_stride : FnOk P w K mg base CX0 1 a.f_stride a.d_stride zBW zDt) : FnOk P w K mg base CX0 2 a.f_probe a.d_probe zAf zCv := by
 refine T.F_probe.ok sc_probe (fun vs H Q E h => ?_) (fun cdv A outer s H vs Q E hr h => ?_)
 ·obtain ⟨m, s, c, rfl, _⟩ := h
  rfl
 have nd := sc_probe.nd
 obtain ⟨m, s, c, rfl, h0, h1, h2, h3, q⟩ := h
 refine ⟨_, (QF (QL (QK Qh (QK Yf (pv 0) (QK YW (pv 2) (QO (G_stride.mono (by decide)) hr rfl T.m_stride T.F_stride.kp T.b_stride .nil QP (QA (pv 0) QC)))) (pv 1)))), ?_⟩
 walk_at "rd"
 refine ⟨_, rfl, h0, ?_⟩
 walk_at "rd"
 refine ⟨.inl ⟨by omega, by omega⟩, h1, ?_⟩
 have e : pr m s c.toNat = (m + c * std m) % s := by unfold pr; rw [Int.toNat_of_nonneg h2]
 rw [← e]
 exact q
theorem zDV (T : Txt K mg a) : FnOk P w K mg base CX0 1 a.f_Lcell_at a.d_Lcell_at Wl (zHT K) := by
 refine T.F_Lcell_at.ok sc_Lcell_at (fun vs H Q E h => ?_) (fun cdv A outer s H vs Q E hr h => ?_)
 ·obtain ⟨b, ns, k, rfl, _⟩ := h
  rfl
 have nd := sc_Lcell_at.nd
 obtain ⟨b, ns, k, rfl, hS, h0, q⟩ := h
 refine ⟨_, (QB (QU (QT zA3 (pv 1) (QM ZS rfl T.z_len PySem.boot_len (QA (pv 0) QC)) (QR _)) (QF (QL (Qt zFG (pv 0) (pv 1) (fun _ _ => rfl)))) QN)
 (QF (QL QE))), ?_⟩
 walk_at "rd"
 refine ⟨_, .inl hS, ?_⟩
 rw [List.length_map]
 refine WI (fun c => ?_) (fun c => ?_)
 ·have e : k = ((k.toNat : Nat) : Int) := by omega
  have hk : k.toNat < ns.length := by omega
  refine ⟨b, _, k, V.int ns[k.toNat], rfl, rfl, hS, ?_, ?_⟩
  ·have e3 : atI (ns.map V.int) ((k.toNat : Nat) : Int) = some (V.int ns[k.toNat]) := ZR (by simp [hk])
   rw [← e] at e3
   exact e3
  ·have e2 : zAk ns k = ns[k.toNat] := by unfold zAk; rw [List.getElem?_eq_getElem hk]; rfl
   rw [← e2]; exact q
 ·have e2 : zAk ns k = 0 := by unfold zAk; rw [List.getElem?_eq_none (by omega)]; rfl
  rw [e2] at q
  exact q
end
section
variable {P : Program} {w : World} {K : W.Frag} {mg : Str -> Option Value} {base : Heap} {a : Ad} {tb : Bool}
theorem JN (T : Txt K mg a) : FnOk P w K mg base CX0 1 a.f_is_number a.d_is_number YZ zFl := by
 refine T.F_is_number.ok sc_is_number (fun vs H Q E h => ?_) (fun cdv A outer s H vs Q E hr h => ?_)
 ·obtain ⟨B, v, t, rfl, _⟩ := h
  rfl
 have nd := sc_is_number.nd
 obtain ⟨B, v, t, rfl, ht, hs, q⟩ := h
 refine ⟨_, (QF (QL (Za (QM QV rfl T.z_isinstance boot_isinstance (QA (pv 0) (QA (QY (v := .ty "int") rfl T.z_int boot_int rfl) QC))) (ZD (zIG (QM QV rfl T.z_isinstance boot_isinstance (QA (pv 0) (QA (QY (v := .ty "bool") rfl T.z_bool boot_bool rfl) QC)))))))), ?_⟩
 cases t with
 | num i => unfold L2.IsT at ht; subst ht; walk_at "rd"; exact q
 | txt i => unfold L2.IsT at ht; obtain ⟨rfl, _⟩ := ht; walk_at "rd"; exact q
 | tup ts => unfold L2.IsT at ht; obtain ⟨b, ws, rfl, hb, _, _⟩ := ht; (iterate 4 ((try simp only [Yz hb]); (try walk_at "rd"))); exact q
 | odd o =>
  unfold L2.IsT at ht
  cases o with
  | bl b => cases (show v = .bl b from ht); walk_at "rd"; exact q
  | non => cases (show v = .non from ht); walk_at "rd"; exact q
  | lst => obtain ⟨b, xs, rfl, hb⟩ := (show ∃ a xs, v = .ref a /\ B a = some (.lst xs) from ht); (iterate 4 ((try simp only [Yw (hs _ _ hb)]); (try walk_at "rd"))); exact q
  | dct => obtain ⟨b, xs, rfl, hb⟩ := (show ∃ a xs, v = .ref a /\ B a = some (.dK xs) from ht); (iterate 4 ((try simp only [ZB (hs _ _ hb)]); (try walk_at "rd"))); exact q
theorem WN {n k : Nat} (T : Txt K mg a) (hn : 1 <= k) (G_is_number : FnOk P w K mg base CX0 1 a.f_is_number a.d_is_number YZ zFl) (G_are_parts : ∀ m, n = m + 1 -> FnOk P w K mg base CX0 k a.f_are_parts a.d_are_parts Zx (zKj m)) : FnOk P w K mg base CX0 (k + 1) a.f_is_part a.d_is_part ZA (zDH n) := by
 refine T.F_is_part.ok sc_is_part (fun vs H Q E h => ?_) (fun cdv A outer s H vs Q E hr h => ?_)
 ·obtain ⟨B, v, t, rfl, _⟩ := h
  rfl
 have nd := sc_is_part.nd
 obtain ⟨B, v, t, rfl, ht, hs, q⟩ := h
 have q0 := q H (Same.refl H)
 cases t with
 | num i =>
  refine ⟨_, (QB (QU (Qa (QO (G_is_number.mono hn) hr rfl T.m_is_number T.F_is_number.kp T.b_is_number .nil QP (QA (pv 0) QC))) (QF (QL (zDN zA3 zA3 (zDx zA1 (QK We QE QE)) (pv 0) (QK We QE QE)))) QN) Qe), ?_⟩
  have ht0 := ht
  unfold L2.IsT at ht; subst ht
  unfold Th.ok at q0
  walk_at "rd"
  refine ⟨B, _, _, rfl, ht0, hs, ?_⟩
  unfold Th.isNum
  walk_at "rd"
  refine WI (fun c => ?_) (fun c => ?_)
  ·rw [decide_eq_true (by omega : -10 ^ 60 < i)] at q0; exact q0
  ·rw [decide_eq_false (by omega : ¬ -10 ^ 60 < i)] at q0; exact q0
 | txt x =>
  refine ⟨_, (QB (QU (Qa (QO (G_is_number.mono hn) hr rfl T.m_is_number T.F_is_number.kp T.b_is_number .nil QP (QA (pv 0) QC))) Qe QN) (QB (QU (Qa (QM QV rfl T.z_isinstance boot_isinstance (QA (pv 0) (QA (QY (v := .ty "str") rfl T.z_str boot_str rfl) QC)))) (QF (QL (YH zFI (QM Qq rfl T.z_len PySem.boot_len (QA (pv 0) QC)) (Q0 (v := .int 60) rfl T.c_MOST_SIGNS ⟨_, rfl⟩) (QR _)))) QN) Qe)), ?_⟩
  have ht0 := ht
  unfold L2.IsT at ht; obtain ⟨rfl, hx⟩ := ht
  unfold Th.ok at q0
  walk_at "rd"
  refine ⟨B, _, _, rfl, ht0, hs, ?_⟩
  unfold Th.isNum
  walk_at "rd"
  refine ⟨Nat.le_of_lt (zB0 hx), _, rfl, ?_⟩
  have e : decide ((x.length : Int) <= 60) = decide (x.length <= 60) := decide_eq_decide.mpr (by omega)
  rw [e]
  exact q0
 | tup ts =>
  have ht0 := ht
  unfold L2.IsT at ht; obtain ⟨b, ws, rfl, hb, hw, hts⟩ := ht
  unfold Th.ok at q
  cases n with
  | zero =>
   refine ⟨_, (QB (QU (Qa (QO (G_is_number.mono hn) hr rfl T.m_is_number T.F_is_number.kp T.b_is_number .nil QP (QA (pv 0) QC))) Qe QN) (QB (QU (Qa (QM QV rfl T.z_isinstance boot_isinstance (QA (pv 0) (QA (QY (v := .ty "str") rfl T.z_str boot_str rfl) QC)))) Qe QN) (QB (QU (Qa (QM QV rfl T.z_isinstance boot_isinstance (QA (pv 0) (QA (QY (v := .ty "tuple") rfl T.z_tuple boot_tuple rfl) QC)))) (QF (QL (Za (YH zBZ (pv 1) QE (QR _)) (ZD zHO)))) QN) Qe))), ?_⟩
   (iterate 4 ((try simp only [Q5 hb, Qg hb]); (try walk_at "rd")))
   refine ⟨B, _, _, rfl, ht0, hs, ?_⟩
   unfold Th.isNum
   (iterate 4 ((try simp only [Q5 hb, Qg hb]); (try walk_at "rd")))
   exact q H (Same.refl H)
  | succ m =>
   have G_are_parts := G_are_parts m rfl
   refine ⟨_, (QB (QU (Qa (QO (G_is_number.mono hn) hr rfl T.m_is_number T.F_is_number.kp T.b_is_number .nil QP (QA (pv 0) QC))) Qe QN) (QB (QU (Qa (QM QV rfl T.z_isinstance boot_isinstance (QA (pv 0) (QA (QY (v := .ty "str") rfl T.z_str boot_str rfl) QC)))) Qe QN) (QB (QU (Qa (QM QV rfl T.z_isinstance boot_isinstance (QA (pv 0) (QA (QY (v := .ty "tuple") rfl T.z_tuple boot_tuple rfl) QC)))) (QF (QL (Za (YH zBZ (pv 1) QE (QR _)) (ZD (QO G_are_parts hr rfl T.m_are_parts T.F_are_parts.kp T.b_are_parts .nil QP (QA (pv 0) (QA (QK Yp (pv 1) QE) QC))))))) QN) Qe))), ?_⟩
   (iterate 4 ((try simp only [Q5 hb, Qg hb]); (try walk_at "rd")))
   refine ⟨B, _, _, rfl, ht0, hs, ?_⟩
   unfold Th.isNum
   (iterate 4 ((try simp only [Q5 hb, Qg hb]); (try walk_at "rd")))
   rw [if_pos (by omega)]
   refine ⟨B, b, ws, ts, by rw [show ((m + 1 : Nat) : Int) - 1 = (m : Int) by omega], hb, hw, hts, hs, fun H' g => ?_⟩
   have := q H' g
   rw [decide_eq_true (by omega : 0 < m + 1), Bool.true_and] at this
   exact this
 | odd o =>
  refine ⟨_, (QB (QU (Qa (QO (G_is_number.mono hn) hr rfl T.m_is_number T.F_is_number.kp T.b_is_number .nil QP (QA (pv 0) QC))) Qe QN) (QB (QU (Qa (QM QV rfl T.z_isinstance boot_isinstance (QA (pv 0) (QA (QY (v := .ty "str") rfl T.z_str boot_str rfl) QC)))) Qe QN) (QB (QU (Qa (QM QV rfl T.z_isinstance boot_isinstance (QA (pv 0) (QA (QY (v := .ty "tuple") rfl T.z_tuple boot_tuple rfl) QC)))) Qe QN) (QF (QL Yg))))), ?_⟩
  have ht0 := ht
  unfold L2.IsT at ht
  unfold Th.ok at q0
  cases o with
  | bl b => cases (show v = .bl b from ht); walk_at "rd"; refine ⟨B, _, _, rfl, ht0, hs, ?_⟩; unfold Th.isNum; walk_at "rd"; exact q0
  | non => cases (show v = .non from ht); walk_at "rd"; refine ⟨B, _, _, rfl, ht0, hs, ?_⟩; unfold Th.isNum; walk_at "rd"; exact q0
  | lst => obtain ⟨b, xs, rfl, hb⟩ := (show ∃ a xs, v = .ref a /\ B a = some (.lst xs) from ht); have hb := hs _ _ hb; (iterate 4 ((try simp only [Yy hb, YY hb]); (try walk_at "rd"))); refine ⟨B, _, _, rfl, ht0, hs, ?_⟩; unfold Th.isNum; (iterate 4 ((try simp only [Yy hb, YY hb]); (try walk_at "rd"))); exact q0
  | dct => obtain ⟨b, xs, rfl, hb⟩ := (show ∃ a xs, v = .ref a /\ B a = some (.dK xs) from ht); have hb := hs _ _ hb; (iterate 4 ((try simp only [ZK hb, Yk hb]); (try walk_at "rd"))); refine ⟨B, _, _, rfl, ht0, hs, ?_⟩; unfold Th.isNum; (iterate 4 ((try simp only [ZK hb, Yk hb]); (try walk_at "rd"))); exact q0
theorem zAI {n k : Nat} (T : Txt K mg a) (G_is_part : FnOk P w K mg base CX0 k a.f_is_part a.d_is_part ZA (zDH n)) : FnOk P w K mg base CX0 (k + 1) a.f_are_parts a.d_are_parts Zx (zKj n) := by
 refine T.F_are_parts.ok sc_are_parts (fun vs H Q E h => ?_) (fun cdv A outer s H vs Q E hr h => ?_)
 ·obtain ⟨B, b, ws, ts, rfl, _⟩ := h
  rfl
 have nd := sc_are_parts.nd
 obtain ⟨B, b, ws, ts, rfl, hb, hw, hts, hs, q⟩ := h
 have hl := hts.length
 refine ⟨_, (QF (QL (Za (YH zFI (QM Qq rfl T.z_len PySem.boot_len (QA (pv 0) QC)) (Q0 (v := .int 6) rfl T.c_MOST_PARTS ⟨_, rfl⟩) (QR _)) (ZD (QM (zDj rfl) rfl T.z_all boot_all (QA (zKT "thing" ["levels"] [1] rfl ⟨rfl, rfl, by decide +kernel, by decide +kernel, rfl, by decide +kernel, by decide +kernel, rfl, by decide +kernel⟩ rfl (zIc (pv 0)) (fun C s1 H1 fp => (QO G_is_part hr rfl T.m_is_part T.F_is_part.kp T.b_is_part .nil QP (QA (pv 0) (QA (pv 1) QC))))) QC)))))), ?_⟩
 (iterate 4 ((try simp only [zBd hb]); (try walk_at "rd")))
 refine WI (fun c => ?_) (fun c => ?_)
 ·refine ⟨⟨_, SqT.of hb⟩, ?_⟩
  refine zGp (xs := ws) (fun i ys H' => Same H H' /\ i <= ts.length /\ ys = (ts.take i).map fun t => V.bl (t.ok n)) ⟨Same.refl H, Nat.zero_le _, rfl⟩ (fun i ys H' _ h => SqT.of (h.1 _ _ hb)) (fun i ys H' hi h => ?_) (fun i x ys H' hi h => ?_) (fun ys H' h => ?_)
  ·obtain ⟨_, _, rfl⟩ := h
   rw [List.length_map, List.length_take]
   exact zB0 (by omega)
  ·obtain ⟨g, hle, rfl⟩ := h
   obtain ⟨t', e1, e2⟩ := hts.get hi
   walk_at "rd"
   refine ⟨B, x, t', rfl, e2.same g.tups, hs.trans g, fun H2 g2 => ⟨g.trans g2, ?_, ?_⟩⟩
   ·exact (List.getElem?_eq_some_iff.mp e1).1
   ·rw [Ym e1, List.map_append]; rfl
  ·obtain ⟨g, _, rfl⟩ := h
   rw [hl, List.take_length]
   intro p hp
   have e : ts.map (fun t => V.bl (t.ok n)) = (ts.map fun t => t.ok n).map V.bl := by rw [List.map_map]; rfl
   refine ⟨p, ts.map fun t => t.ok n, rfl, SqL.of (by rw [QD, e]), ?_⟩
   have z := q _ (g.trans (QI (o := HO.lst (ts.map fun t => V.bl (t.ok n))) hp))
   rw [zFu, decide_eq_true (by omega : ts.length <= 6), Bool.true_and] at z
   exact z
 ·have z := q H (Same.refl H)
  rw [decide_eq_false (by omega : ¬ ts.length <= 6), Bool.false_and] at z
  exact z
theorem Zr (T : Txt K mg a) : ∀ n : Nat, FnOk P w K mg base CX0 (2 * n + 2) a.f_is_part a.d_is_part ZA (zDH n)
 | 0 => WN (n := 0) (k := 1) T (Nat.le_refl _) (JN T) (fun m h => by cases h)
 | n + 1 => WN (n := n + 1) (k := 2 * n + 3) T (by omega) (JN T) (fun m h => by
   cases h
   exact zAI T (Zr T n))
theorem zF7 (T : Txt K mg a)(G_is_part : FnOk P w K mg base CX0 8 a.f_is_part a.d_is_part ZA (zDH 3)) : FnOk P w K mg base CX0 9 a.f_is_key a.d_is_key zBO zKd := by
 refine T.F_is_key.ok sc_is_key (fun vs H Q E h => ?_) (fun cdv A outer s H vs Q E hr h => ?_)
 ·obtain ⟨B, v, t, rfl, _⟩ := h
  rfl
 have nd := sc_is_key.nd
 obtain ⟨B, v, t, rfl, ht, hs, q⟩ := h
 refine ⟨_, (QF (QL (QO G_is_part hr rfl T.m_is_part T.F_is_part.kp T.b_is_part .nil QP (QA (pv 0) (QA (Q0 (v := .int 3) rfl T.c_DEEPEST ⟨_, rfl⟩) QC))))), ?_⟩
 walk_at "rd"
 exact ⟨B, v, t, rfl, ht, hs, q⟩
end
section
variable {P : Program} {w : World} {K : W.Frag} {mg : Str -> Option Value} {base : Heap} {a : Ad} {tb : Bool}
theorem zBt (T : Txt K mg a) : FnOk P w K mg base CX0 1 a.f_is_number a.d_is_number YZ zKi := by
 refine T.F_is_number.ok sc_is_number (fun vs H Q E h => ?_) (fun cdv A outer s H vs Q E hr h => ?_)
 ·obtain ⟨x, n, s, rfl, _⟩ := h
  rfl
 have nd := sc_is_number.nd
 obtain ⟨x, n, s, rfl, hx, q⟩ := h
 refine ⟨_, (QF (QL (Za (QM QV rfl T.z_isinstance boot_isinstance (QA (pv 0) (QA (QY (v := .ty "int") rfl T.z_int boot_int rfl) QC))) (ZD (zIG (QM QV rfl T.z_isinstance boot_isinstance (QA (pv 0) (QA (QY (v := .ty "bool") rfl T.z_bool boot_bool rfl) QC)))))))), ?_⟩
 rcases hx with ⟨i, rfl, rfl, rfl⟩ | ⟨hx, rfl, rfl⟩
 ·walk_at "rd"
  exact q
 rcases hx with ⟨b, rfl⟩ | rfl | ⟨z, rfl⟩ | ⟨p, xs, rfl, hp⟩ | ⟨p, xs, rfl, hp⟩ | ⟨p, xs, rfl, hp⟩
 ·walk_at "rd"
  exact q
 ·walk_at "rd"
  exact q
 ·walk_at "rd"
  exact q
 ·walk_at "rd"
  rw [Yz hp]
  exact ⟨_, rfl, zIy q⟩
 ·walk_at "rd"
  rw [Yw hp]
  exact ⟨_, rfl, zIy q⟩
 ·walk_at "rd"
  rw [ZB hp]
  exact ⟨_, rfl, zIy q⟩
theorem zEo (T : Txt K mg a)(G_is_number : FnOk P w K mg base CX0 1 a.f_is_number a.d_is_number YZ zKi) : FnOk P w K mg base CX0 2 a.f_is_size a.d_is_size Jv zME := by
 refine T.F_is_size.ok sc_is_size (fun vs H Q E h => ?_) (fun cdv A outer s H vs Q E hr h => ?_)
 ·obtain ⟨x, n, s, rfl, _⟩ := h
  rfl
 have nd := sc_is_size.nd
 obtain ⟨x, n, s, rfl, hx, q⟩ := h
 refine ⟨_, (QF (QL (Za (QO (G_is_number.mono (by decide)) hr rfl T.m_is_number T.F_is_number.kp T.b_is_number .nil QP (QA (pv 0) QC)) (Za (zDN zFI zFI (Q0 (v := .int 8) rfl T.c_LEAST ⟨_, rfl⟩) (pv 0) (Q0 (v := .int 4096) rfl T.c_GREATEST ⟨_, rfl⟩)) (ZD (YH YC (QK zKy (pv 0) (QK Yp (pv 0) QE)) QE (QR _))))))), ?_⟩
 walk_at "rd"
 refine ⟨x, n, s, rfl, hx, ?_⟩
 rcases hx with ⟨i, rfl, rfl, rfl⟩ | ⟨hx, rfl, rfl⟩
 ·walk_at "rd"
  refine WI (fun c => ?_) (fun c => ?_)
  ·refine WI (fun c2 => ?_) (fun c2 => ?_)
   ·rw [zMS c c2]
    exact q
   ·have e : decide (S8 i) = false := decide_eq_false (by unfold S8; omega)
    rw [e] at q
    exact q
  ·have e : decide (S8 i) = false := decide_eq_false (by unfold S8; omega)
   rw [e] at q
   exact q
 ·walk_at "rd"
  exact q
theorem zFU (T : Txt K mg a) : FnOk P w K mg base CX0 1 a.f_room a.d_room zCi zEt := by
 refine T.F_room.ok sc_room (fun vs H Q E h => ?_) (fun cdv A outer s H vs Q E hr h => ?_)
 ·obtain ⟨i, rfl, _⟩ := h
  rfl
 have nd := sc_room.nd
 obtain ⟨i, rfl, q⟩ := h
 refine ⟨_, (QF (QL (QK Qp (QK YW QE (pv 0)) QE))), ?_⟩
 walk_at "rd"
 exact ⟨.inl ⟨by decide, by decide⟩, q⟩
theorem zAy (T : Txt K mg a)(G_stamp : FnOk P w K mg base CX0 8 a.f_stamp a.d_stamp WC (zHV 3))(G_probe : FnOk P w K mg base CX0 2 a.f_probe a.d_probe zAf zCv) : FnOk P w K mg base CX0 9 a.f_first_empty a.d_first_empty Y4 zMB := by
 refine T.F_first_empty.ok sc_first_empty (fun vs H Q E h => ?_) (fun cdv A outer s H vs Q E hr h => ?_)
 ·obtain ⟨p, cs, v, k, c, rfl, _⟩ := h
  rfl
 have nd := sc_first_empty.nd
 obtain ⟨p, cs, v, k, c, rfl, hp, l0, l1, hk, hd, hc, q⟩ := h
 refine ⟨_, (QB (QW (i := 2) nd rfl (Or.inl rfl) (QO (G_stamp.mono (by decide)) hr rfl T.m_stamp T.F_stamp.kp T.b_stamp .nil QP (QA (pv 1) QC)))
 (QF (ZY PassesOwn.never rfl (WD rfl T.z_range (QA (QM Qq rfl T.z_len PySem.boot_len (QA (pv 0) QC)) QC)) (YF (i := 3) nd rfl (Or.inl rfl)) (QB (QW (i := 4) nd rfl (Or.inl rfl) (QO (G_probe.mono (by decide)) hr rfl T.m_probe T.F_probe.kp T.b_probe .nil QP (QA (pv 2) (QA (QM Qq rfl T.z_len PySem.boot_len (QA (pv 0) QC)) (QA (pv 3) QC)))))
 (QF (QU (QT YC (Qt YS (pv 0) (pv 4) (fun _ _ => rfl)) (Q0 (v := .int (-1)) rfl T.c_EMPTY ⟨_, rfl⟩) (QR _)) (QF (QL (pv 4))) QN)))))), ?_⟩
 have rg := Kd.st_range k
 obtain ⟨c1, c2, c3⟩ := hc
 walk_at "rd"
 refine ⟨v, k, rfl, hk, hd, ?_⟩
 show zHC [V.ref p] _ _
 rw [YD hp, List.length_map]
 refine ⟨_, rfl, by omega, by omega, ?_⟩
 rw [Int.toNat_natCast]
 refine ZF (fun i σ H' => H' = H /\ i <= c /\ ∃ u w, σ = [some (.ref p), some v, some (.int k.st), u, w]) ⟨rfl, Nat.zero_le _, _, _, rfl⟩ (fun i σ H' hi h => ?_) (fun σ H' h => ?_)
 ·obtain ⟨rfl, hic, u, w, rfl⟩ := h
  walk_at "rd"
  rw [YD hp, List.length_map]
  refine ⟨_, _, _, rfl, rg.1, by omega, by omega, by omega, ?_⟩
  walk_at "rd"
  rw [Int.zero_add, Int.toNat_natCast, ← zBL l0]
  rw [Qz hp (v := V.int (cAt cs k.st i)) (ZR (by rw [List.getElem?_map, ZX l0]; rfl))]
  rw [zAb]
  refine ⟨_, rfl, WI (fun z => ?_) (fun z => ?_)⟩
  ·have z := of_decide_eq_true z
   have e : i = c := by
    rcases Nat.lt_or_ge i c with y | y
    ·exact absurd z (c3 i y)
    ·omega
   rw [e]
   exact q
  ·have z := of_decide_eq_false (Bool.eq_false_iff.mpr z)
   refine ⟨rfl, ?_⟩
   rcases Nat.lt_or_ge i c with y | y
   ·omega
   ·have e : i = c := by omega
    rw [e] at z
    exact absurd c2 z
 ·obtain ⟨rfl, hic, u, w, rfl⟩ := h
  omega
theorem zGm (T : Txt K mg a) : FnOk P w K mg base CX0 1 a.f_is_end a.d_is_end zAm zKp := by
 refine T.F_is_end.ok sc_is_end (fun vs H Q E h => ?_) (fun cdv A outer s H vs Q E hr h => ?_)
 ·obtain ⟨v, r, xs, os, x, k, rfl, _⟩ := h
  rfl
 have nd := sc_is_end.nd
 obtain ⟨v, r, xs, os, x, k, rfl, hr1, hos, hk, hv, q⟩ := h
 refine ⟨_, (QF (QL (zMH (YH YC (pv 0) (Q0 (v := .int (-1)) rfl T.c_EMPTY ⟨_, rfl⟩) (QR _)) (ZD (Za (YH zKl (pv 0) QE (QR _)) (ZD (YH (zLH hr.units) (Qt YS (pv 1) (pv 0) (fun _ _ => rfl)) (pv 2) (QR _)))))))), ?_⟩
 walk_at "rd"
 refine WI (fun z => ?_) (fun z => WI (fun z2 => ?_) (fun z2 => ?_))
 ·rw [decide_eq_true (show YE os k v from .inl z)] at q
  exact q
 ·obtain ⟨k', e1, e2⟩ := hv z2
  obtain ⟨y, e3, e4⟩ := hos.get' e1
  have at' : atI xs v = some y := by
   have := ZR e3
   rwa [Int.toNat_of_nonneg z2] at this
  rw [Qz hr1 at']
  refine ⟨k', k, e4, hk, e2, ?_⟩
  have e : k'.eqb k = decide (YE os k v) := by
   rw [Kd.eqb_dec]
   refine decide_eq_decide.mpr ⟨fun e => .inr ⟨z2, by rw [e1, e]⟩, fun h => ?_⟩
   rcases h with h | ⟨_, h⟩
   ·exact absurd h z
   ·rw [e1] at h
    exact Option.some.inj (Option.some.inj h)
  rw [e]
  exact q
 ·have e : ¬ YE os k v := fun h => by
   rcases h with h | ⟨h, _⟩
   ·exact z h
   ·exact z2 h
  rw [decide_eq_false e] at q
  exact q
theorem zG1 (T : Txt K mg a)(G_stamp : FnOk P w K mg base CX0 8 a.f_stamp a.d_stamp WC (zHV 3))(G_probe : FnOk P w K mg base CX0 2 a.f_probe a.d_probe zAf zCv)(G_is_end : FnOk P w K mg base CX0 1 a.f_is_end a.d_is_end zAm zKp) : FnOk P w K mg base CX0 9 a.f_paper a.d_paper zAa zCN := by
 refine T.F_paper.ok sc_paper (fun vs H Q E h => ?_) (fun cdv A outer s H vs Q E hr h => ?_)
 ·obtain ⟨p, r, cs, xs, os, x, k, c, rfl, _⟩ := h
  rfl
 have nd := sc_paper.nd
 obtain ⟨p, r, cs, xs, os, x, k, c, rfl, hp, hrw, hos, hk, hd, l0, l1, hg, hc, q⟩ := h
 refine ⟨_, (QB (QW (i := 3) nd rfl (Or.inl rfl) (QO (G_stamp.mono (by decide)) hr rfl T.m_stamp T.F_stamp.kp T.b_stamp .nil QP (QA (pv 2) QC)))
 (QB (QW (i := 4) nd rfl (Or.inl rfl) (Y3 QC))
 (QB (ZY PassesOwn.never rfl (WD rfl T.z_range (QA (QM Qq rfl T.z_len PySem.boot_len (QA (pv 0) QC)) QC)) (YF (i := 5) nd rfl (Or.inl rfl)) (QB (QW (i := 6) nd rfl (Or.inl rfl) (QO (G_probe.mono (by decide)) hr rfl T.m_probe T.F_probe.kp T.b_probe .nil QP (QA (pv 3) (QA (QM Qq rfl T.z_len PySem.boot_len (QA (pv 0) QC)) (QA (pv 5) QC)))))
 (QB (Qn (zFW PySem.F.plainAttrs_list PySem.F.slot_list_append PySem.F.type_list_append zAT (pv 4) (QA (YK (QA (pv 6) (QA (Qt YS (pv 0) (pv 6) (fun _ _ => rfl)) QC))) QC)))
 (QF (QU (Qa (QO (G_is_end.mono (by decide)) hr rfl T.m_is_end T.F_is_end.kp T.b_is_end .nil QP (QA (Qt YS (pv 0) (pv 6) (fun _ _ => rfl)) (QA (pv 1) (QA (pv 2) QC))))) (QF zHK) QN)))))
 (QF (QL (pv 4)))))), ?_⟩
 have rg := Kd.st_range k
 obtain ⟨c1, c2, c3⟩ := hc
 walk_at "rd"
 refine ⟨x, k, rfl, hk, hd, ?_⟩
 refine ⟨by decide, fun b hb => ?_⟩
 have g1 := QI (o := HO.lst []) hb
 show zHC [V.ref p] _ _
 rw [YD (g1 _ _ hp), List.length_map]
 refine ⟨_, rfl, by omega, by omega, ?_⟩
 rw [Int.toNat_natCast]
 refine ZF (fun i σ H' => i <= c /\ Same H H' /\ (∃ ys, H' b = some (.lst ys) /\ IsKos H' ((List.range i).map fun i => some (.tup [.num (sl k.st cs.length i : Nat), .num (cAt cs k.st i)])) ys) /\ ∃ u w, σ = [some (.ref p), some (.ref r), some x, some (.int k.st), some (.ref b), u, w]) ⟨Nat.zero_le _, g1, ⟨[], QD, IsKos.nil⟩, none, none, rfl⟩ (fun i σ H' hi h => ?_) (fun σ H' h => ?_)
 ·obtain ⟨hic, g, ⟨ys, hy, hoy⟩, u, w, rfl⟩ := h
  walk_at "rd"
  rw [YD (g _ _ hp), List.length_map]
  refine ⟨_, _, _, rfl, rg.1, by omega, by omega, by omega, ?_⟩
  rw [Int.zero_add, Int.toNat_natCast, ← zBL l0]
  have at' : atI (cs.map V.int) ((sl k.st cs.length i : Nat) : Int) = some (V.int (cAt cs k.st i)) := ZR (by rw [List.getElem?_map, ZX l0]; rfl)
  refine ⟨.inl ⟨rfl, _, SqL.of hy⟩, ?_⟩
  rw [Qz (g _ _ hp) at']
  refine ⟨by decide, fun t ht => ?_⟩
  have gt := QI (o := HO.tup [V.int (sl k.st cs.length i : Nat), V.int (cAt cs k.st i)]) ht
  rw [Wt (gt _ _ hy)]
  have hyl := hoy.len
  rw [List.length_map, List.length_range] at hyl
  refine ⟨by rw [hyl]; exact Qm (by omega), ?_⟩
  have tb := zBb (o := HO.lst (ys ++ [V.ref t])) (gt _ _ hy)
  have g2 := (g.trans gt).upd (o := HO.lst (ys ++ [V.ref t])) hb
  rw [Qz (g2 _ _ hp) at']
  have hoy2 : IsKos (upd (upd H' t (HO.tup [V.int (sl k.st cs.length i : Nat), V.int (cAt cs k.st i)])) b (HO.lst (ys ++ [V.ref t]))) ((List.range (i + 1)).map fun i => some (.tup [.num (sl k.st cs.length i : Nat), .num (cAt cs k.st i)])) (ys ++ [V.ref t]) := by
   rw [List.range_succ, List.map_append]
   refine (hoy.same (gt.tups.trans tb)).snoc ?_
   exact Yh (tb _ _ QD) (by show 2 <= 1000; decide) (IsKs.two YX YX)
  refine ⟨_, r, xs, os, x, k, rfl, g2 _ _ hrw, hos.same g2.tups, hk.same g2.tups, fun h => hg _ (zJw l0) h, _, rfl, ?_⟩
  by_cases z : YE os k (cAt cs k.st i)
  ·have e : i = c := by
    rcases Nat.lt_or_ge i c with y | y
    ·exact absurd z (c3 i y)
    ·omega
   rw [if_pos (decide_eq_true z)]
   show zKJ (zDn 4) _ _ _
   walk_at "rd"
   rw [e] at hoy2
   rw [e]
   exact q b _ _ (e ▸ g2) hb QD hoy2
  ·rw [if_neg (by simp [z])]
   refine ⟨?_, g2, _, QD, hoy2⟩
   rcases Nat.lt_or_ge i c with y | y
   ·omega
   ·have e : i = c := by omega
    rw [e] at z
    exact absurd c2 z
 ·obtain ⟨hic, g, ⟨ys, hy, hoy⟩, u, w, rfl⟩ := h
  omega
theorem zDo (T : Txt K mg a)(G_paper : FnOk P w K mg base CX0 9 a.f_paper a.d_paper zAa zCN) : FnOk P w K mg base CX0 10 a.f_place_of a.d_place_of WX zFq := by
 refine T.F_place_of.ok sc_place_of (fun vs H Q E h => ?_) (fun cdv A outer s H vs Q E hr h => ?_)
 ·obtain ⟨p, r, cs, xs, os, x, k, c, rfl, _⟩ := h
  rfl
 have nd := sc_place_of.nd
 obtain ⟨p, r, cs, xs, os, x, k, c, rfl, hp, hrw, hos, hk, hd, l0, l1, hg, hc, q⟩ := h
 refine ⟨_, (QB (QW (i := 3) nd rfl (Or.inl rfl) (QO (G_paper.mono (by decide)) hr rfl T.m_paper_slots T.F_paper.kp T.b_paper .nil QP (QA (pv 0) (QA (pv 1) (QA (pv 2) QC)))))
 (QB (QW (i := 4) nd rfl (Or.inl rfl) (Qt YS (Qt YS (pv 3) (zDx zA1 QE) (fun _ _ => rfl)) QE (fun _ _ => rfl)))
 (QF (QL (Zw (QT YC (pv 4) (Q0 (v := .int (-1)) rfl T.c_EMPTY ⟨_, rfl⟩) (QR _)) Q6 (pv 4)))))), ?_⟩
 walk_at "rd"
 refine ⟨p, r, cs, xs, os, x, k, c, rfl, hp, hrw, hos, hk, hd, l0, l1, hg, hc, fun f ys H' g hf0 hf hoy => ?_⟩
 have hyl : ys.length = c + 1 := by rw [hoy.len, zCS]
 obtain ⟨y, ey⟩ : ∃ y, ys[c]? = some y := ⟨ys[c], List.getElem?_eq_getElem (by omega)⟩
 obtain ⟨t, rfl, ht⟩ := zIT hoy ey
 have qq := q H' g
 show ixC (V.ref f) (V.int (-1)) _ _
 rw [Qz hf ((zAU hyl).trans ey), YA (v := V.int (cAt cs k.st c)) ht rfl, zAb]
 refine ⟨_, rfl, ?_⟩
 by_cases z : cAt cs k.st c = -1
 ·rw [if_pos (decide_eq_true z)]
  rw [if_pos z] at qq
  exact qq
 ·rw [if_neg (by simp [z])]
  rw [if_neg z] at qq
  exact qq
theorem zDc (T : Txt K mg a)(G_is_size : FnOk P w K mg base CX0 2 a.f_is_size a.d_is_size Jv zME)(G_room : FnOk P w K mg base CX0 1 a.f_room a.d_room zCi zEt)(G_first_empty : FnOk P w K mg base CX0 9 a.f_first_empty a.d_first_empty Y4 zMB) : FnOk P w K mg base CX0 10 a.f_cells_of a.d_cells_of WT zFn := by
 refine T.F_cells_of.ok sc_cells_of (fun vs H Q E h => ?_) (fun cdv A outer s H vs Q E hr h => ?_)
 ·obtain ⟨r, xs, os, s, rfl, _⟩ := h
  rfl
 have nd := sc_cells_of.nd
 obtain ⟨r, xs, os, s, rfl, hrw, hos, osh, h8, hl, q⟩ := h
 refine ⟨_, (QB (QU (zA2 (Qa (QO (G_is_size.mono (by decide)) hr rfl T.m_is_size T.F_is_size.kp T.b_is_size .nil QP (QA (pv 1) QC)))) (QF Yr) QN)
 (QB (QU (QT zBZ (QM Qq rfl T.z_len PySem.boot_len (QA (pv 0) QC)) (QO (G_room.mono (by decide)) hr rfl T.m_room T.F_room.kp T.b_room .nil QP (QA (pv 1) QC)) (QR _)) (QF Yr) QN)
 (QB (QW (i := 2) nd rfl (Or.inl rfl) (QK zLp (Y3 (QA (Q0 (v := .int (-1)) rfl T.c_EMPTY ⟨_, rfl⟩) QC)) (pv 1)))
 (QB (ZY PassesOwn.never rfl (zI9 rfl rfl T.z_enumerate (pv 0)) (zHB rfl (Wn (YF (i := 3) nd rfl (Or.inl rfl)) (Wn (YF (i := 4) nd rfl (Or.inl rfl)) zFZ))) (QF (QU (QT JK (pv 4) Q6 (QR _)) (QF (WV (pv 3) (Wj (pv 2) (QO (G_first_empty.mono (by decide)) hr rfl T.m_first_empty T.F_first_empty.kp T.b_first_empty .nil QP (QA (pv 2) (QA (pv 4) QC))) zDS))) QN)))
 (QF (QL (pv 2))))))), ?_⟩
 have r8 := h8.range
 have xl := hos.len
 walk_at "rd"
 refine ⟨.int s, true, true, rfl, .inl ⟨s, rfl, rfl, (decide_eq_true h8).symm⟩, true, rfl, ?_⟩
 rw [if_neg (by decide), YD hrw, xl]
 refine ⟨s, rfl, _, rfl, _, rfl, ?_⟩
 rw [if_neg (by omega)]
 refine ⟨by decide, fun p hp => ⟨p, s, _, rfl, rfl, QD, by omega, by omega, ?_, fun c hc => ?_⟩⟩
 ·show 1 * s.toNat <= sizeLine
  rw [Nat.one_mul]
  exact Nat.le_of_lt (Qm (by omega))
 have erep : (List.replicate s.toNat [V.int (-1)]).flatten = (List.replicate s.toNat (-1 : Int)).map V.int := by
  rw [List.map_replicate]
  generalize s.toNat = z
  induction z with
  | zero => rfl
  | succ z ih => rw [List.replicate_succ, List.flatten_cons, ih, List.replicate_succ]; rfl
 rw [erep]
 have g1 := QI (o := HO.lst [V.int (-1)]) hp
 have g2 := QI (o := HO.lst ((List.replicate s.toNat (-1 : Int)).map V.int)) hc
 have hc0 : H c = none := g1.free hc
 have G2 := g1.trans g2
 have sn : ((s.toNat : Nat) : Int) = s := by omega
 have p2 : IsP2 ((s.toNat : Nat) : Int) := by rw [sn]; exact h8.p2
 refine ⟨⟨_, SqL.of (G2 _ _ hrw)⟩, zGW (xs := xs) (fun i σ H' => Same H H' /\ (∃ cs : List Int, H' c = some (HO.lst (cs.map V.int)) /\ LB (stO os) s.toNat i cs) /\ ∃ u v, σ = [some (.ref r), some (.int s), some (.ref c), u, v]) ⟨G2, ⟨_, QD, .zero⟩, none, none, rfl⟩ (fun _ _ _ _ h => SqL.of (h.1 _ _ hrw)) (fun i x t σ H' e h ht => ?_) (fun σ H' h => ?_)⟩
 ·obtain ⟨G, ⟨cs, hcs, lb⟩, u, v, rfl⟩ := h
  obtain ⟨o, e1, e2⟩ := hos.get e
  have il : i < os.length := (List.getElem?_eq_some_iff.mp e1).1
  have gt := QI (o := HO.tup [V.int (i : Nat), x]) ht
  have G3 := G.trans gt
  have L := lb.laid (by omega)
  have cl := L.len
  walk_at "rd"
  refine ⟨_, SqT.of QD, rfl, _, _, rfl, _, _, rfl, rfl, ?_⟩
  have hnon := e2.non
  cases o with
  | none =>
   rw [if_neg (fun z => z (of_decide_eq_true hnon))]
   exact ⟨G3, cs, gt _ _ hcs, lb.skip (by unfold stO; rw [e1])⟩
  | some k =>
   rw [if_pos (of_decide_eq_false hnon)]
   obtain ⟨c', hc'⟩ := lb.room (by omega) p2 k.st
   refine ⟨c, cs, x, k, c', rfl, gt _ _ hcs, by omega, by omega, IsK.same G3.tups e2, osh _ (List.mem_of_getElem? e1), by rw [cl]; exact hc', ?_⟩
   show zLR (V.ref c) _ _ _ _
   rw [Wm (gt _ _ hcs) rfl (by rw [List.length_map]; exact zAg (by omega)), ← List.map_set, cl]
   exact ⟨G3.upd hc0, _, QD, lb.put (by unfold stO; rw [e1]) hc'⟩
 ·obtain ⟨G, ⟨cs, hcs, lb⟩, u, v, rfl⟩ := h
  walk_at "rd"
  rw [xl] at lb
  exact q c cs _ G hc0 hcs lb
theorem zDK (T : Txt K mg a) : FnOk P w K mg base CX0 1 a.f_size_for a.d_size_for ZE zHt := by
 refine T.F_size_for.ok sc_size_for (fun vs H Q E h => ?_) (fun cdv A outer s H vs Q E hr h => ?_)
 ·obtain ⟨m, rfl, _⟩ := h
  rfl
 have nd := sc_size_for.nd
 obtain ⟨m, rfl, h0, h1, q⟩ := h
 refine ⟨_, (QB (QW (i := 1) nd rfl (Or.inl rfl) (Q0 (v := .int 8) rfl T.c_LEAST ⟨_, rfl⟩))
 (QB (zHR PassesOwn.never (QT zA3 (pv 1) (QK YW QE (pv 0)) (QR _)) (QF (QW (i := 1) nd rfl (Or.inl rfl) (QK YW QE (pv 1)))))
 (QF (QL (pv 1))))), ?_⟩
 walk_at "rd"
 refine zIr (fun σ H' => H' = H /\ ∃ s, σ = [some (.int m), some (.int s)] /\ S8 s /\ (s = 8 \/ s / 2 < 3 * m)) (fun σ _ => match σ with | [_, some (.int s)] => (8192 - s).toNat | _ => 0) ⟨rfl, 8, rfl, .inl rfl, .inl rfl⟩ (fun σ H' h => ?_)
 obtain ⟨rfl, s, rfl, h2, h3⟩ := h
 walk_at "rd"
 refine ⟨.inl ⟨by decide, by decide⟩, ?_⟩
 refine WI (fun c => ?_) (fun c => ?_)
 ·refine ⟨fun σ' H'' => H'' = H' /\ σ' = [some (.int m), some (.int (2 * s))], fun σ' H'' e => ?_, ?_⟩
  ·obtain ⟨rfl, rfl⟩ := e
   have r := h2.range
   refine ⟨_, ?_, rfl, rfl, _, rfl, h2.double (by omega), .inr (by omega)⟩
   show (8192 - 2 * s).toNat < (8192 - s).toNat
   omega
  ·walk_at "rd"
   exact .inl ⟨by decide, by decide⟩
 ·exact q s h2 (by omega) h3
theorem zGy (T : Txt K mg a) : FnOk P w K mg base CX0 1 a.f_packed a.d_packed Wv zBU := by
 refine T.F_packed.ok sc_packed (fun vs H Q E h => ?_) (fun cdv A outer s H vs Q E hr h => ?_)
 ·obtain ⟨a, b, xs, ys, rfl, _⟩ := h
  rfl
 have nd := sc_packed.nd
 obtain ⟨a1, b1, xs, ys, rfl, ha, hb, hl, h3, q⟩ := h
 refine ⟨_, (QB (zBG (i := 2) nd rfl (Or.inl rfl) "key" [] [] rfl ⟨rfl, rfl, by decide +kernel, by decide +kernel, rfl, by decide +kernel, by decide +kernel, rfl, by decide +kernel⟩ rfl (Z9 (pv 0)) (fun C s1 H1 fp => (QT JK (pv 0) Q6 (QR _))) (fun C s1 H1 fp => (pv 0)))
 (QB (zGS (i := 3) nd rfl (Or.inl rfl) "key" "thing" [] [] rfl ⟨rfl, rfl, by decide +kernel, by decide +kernel, by decide +kernel, by decide +kernel, rfl, by decide +kernel⟩ rfl rfl rfl (zFs false false rfl T.z_zip (QA (pv 0) (QA (pv 1) QC))) (fun C s1 H1 fp => (QT JK (pv 0) Q6 (QR _))) (fun C s1 H1 fp => (pv 1)))
 (QF (QL (YK (QA (pv 2) (QA (pv 3) QC))))))), ?_⟩
 try walk_at "rd"
 refine ⟨⟨_, SqL.of ha⟩, ZU (xs := xs) (fun i zs H' => H' = H /\ zs = Kp (xs.take i)) ⟨rfl, rfl⟩ (fun _ _ _ _ h => by rw [h.1]; exact SqL.of ha) (fun i zs H' hi h => ?_) (fun i x zs H' e h => ?_) (fun zs H' h => ?_)⟩
 ·obtain ⟨rfl, rfl⟩ := h
  exact Qm (Nat.le_trans zLE (by rw [List.length_take]; omega))
 ·obtain ⟨rfl, rfl⟩ := h
  try walk_at "rd"
  rw [ZJ e, zJX]
  by_cases c : x = V.non
  ·have hN : NN x = false := by unfold NN; simp [c]
   rw [if_neg (fun h => h c), hN]; rfl
  ·have hN : NN x = true := by unfold NN; simp [c]
   rw [if_pos c, hN]; rfl
 ·obtain ⟨rfl, rfl⟩ := h
  rw [List.take_length]
  intro p hp
  have g1 := QI (o := HO.lst (Kp xs)) hp
  generalize hH1 : upd H' p (HO.lst (Kp xs)) = H1 at g1 ⊢
  have hp1 : H1 p = some (.lst (Kp xs)) := by rw [← hH1]; exact QD
  refine ⟨⟨_, SqL.of (g1 _ _ ha)⟩, ⟨_, SqL.of (g1 _ _ hb)⟩, zBM (xs := xs) (ys := ys) hl (Nat.le_of_lt (Qm (by omega))) (fun i zs H2 => Same H1 H2 /\ zs.length <= i /\ zs = Kb (xs.take i) (ys.take i)) ⟨Same.refl H1, Nat.zero_le _, rfl⟩
   (fun i zs H2 _ h => ⟨SqL.of (h.1 _ _ (g1 _ _ ha)), SqL.of (h.1 _ _ (g1 _ _ hb)), h.2.1⟩) (fun i x y t zs H2 ex ey h ht => ?_) (fun zs H2 h => ?_)⟩
  ·obtain ⟨g, hz, rfl⟩ := h
   have g2 := g.trans (QI (o := HO.tup [x, y]) ht)
   try walk_at "rd"
   have lx : (xs.take i).length = (ys.take i).length := by rw [List.length_take, List.length_take]; omega
   rw [ZJ ex, ZJ ey, zJE lx]
   by_cases c : x = V.non
   ·have hN : NN x = false := by unfold NN; simp [c]
    rw [if_neg (fun h => h c), hN]
    exact ⟨g2, by omega, rfl⟩
   ·have hN : NN x = true := by unfold NN; simp [c]
    rw [if_pos c, hN]
    exact ⟨g2, by rw [List.length_append, List.length_singleton]; omega, rfl⟩
  ·obtain ⟨g, hz, rfl⟩ := h
   rw [List.take_length, hl, List.take_length]
   intro p2 hp2
   have g2 := QI (o := HO.lst (Kb xs ys)) hp2
   have hn : H1 p2 = none := g.free hp2
   have np : p ≠ p2 := QH hp1 hn
   try walk_at "rd"
   refine ⟨by decide, fun t ht => ?_⟩
   have g3 := QI (o := HO.tup [V.ref p, V.ref p2]) ht
   have G := ((g1.trans g).trans g2).trans g3
   exact q t p p2 _ G hp (g1.free hn) np QD (g3 _ _ (g2 _ _ (g _ _ hp1))) (g3 _ _ QD)
end
section
variable {P : Program} {w : World} {K : W.Frag} {mg : Str -> Option Value} {base : Heap} {a : Ad} {tb : Bool}
theorem zEJ (T : Txt K mg a)(G_is_key : FnOk P w K mg base CX0 9 a.f_is_key a.d_is_key zBO zKd) : FnOk P w K mg base CX0 10 a.f_checked a.d_checked WA zI1 := by
 refine T.F_checked.ok sc_checked (fun vs H Q E h => ?_) (fun cdv A outer s H vs Q E hr h => ?_)
 ·obtain ⟨x, k, rfl, _⟩ := h
  rfl
 have nd := sc_checked.nd
 obtain ⟨x, k, rfl, hk, hok, q⟩ := h
 refine ⟨_, (QB (QU (zA2 (Qa (QO (G_is_key.mono (by decide)) hr rfl T.m_is_key T.F_is_key.kp T.b_is_key .nil QP (QA (pv 0) QC)))) (QF Yr) QN)
 (QF (QL (pv 0)))), ?_⟩
 try walk_at "rd"
 refine ⟨Emp, x, k.th, rfl, hk.th hok, zHE, fun H' g => ?_⟩
 rw [hok]
 try walk_at "rd"
 exact q H' g
theorem zF8 (T : Txt K mg a)(G_place_of : FnOk P w K mg base CX0 10 a.f_place_of a.d_place_of WX zFq) : FnOk P w K mg base CX0 11 a.f_Hplace a.d_Hplace Wu (zKv (cA a tb)) := by
 refine T.F_Hplace.ok sc_Hplace (fun vs H Q E h => ?_) (fun cdv A outer s H vs Q E hr h => ?_)
 ·obtain ⟨p, S, x, k, rfl, _⟩ := h
  rfl
 have nd := sc_Hplace.nd
 obtain ⟨p, S, x, k, rfl, A, hk, hd, q⟩ := h
 refine ⟨_, (QF (QL (QO (G_place_of.mono (by decide)) hr rfl T.m_place_of T.F_place_of.kp T.b_place_of .nil QP (QA (QS (pv 0) rfl) (QA (QS (pv 0) rfl) (QA (pv 1) QC)))))), ?_⟩
 try walk_at "rd"
 rw [zCX T A, zBA T A]
 obtain ⟨xs, h1, h2⟩ := A.hr
 have hl := A.fm.len
 have hs := A.small
 rcases zK4 S.os k with ⟨i, hi⟩ | hn
 ·obtain ⟨c, hc, e⟩ := A.fm.there hi
  refine ⟨S.pc, S.pr, S.cs, xs, S.os, x, k, c, rfl, A.hc, h1, h2, hk, hd, by omega, by omega, zCK A, by rw [hl]; exact hc, fun H' g => ?_⟩
  rw [e, if_neg (by omega)]
  exact q.1 i hi H' g
 ·obtain ⟨c, hc, e⟩ := A.fm.lacks hn
  refine ⟨S.pc, S.pr, S.cs, xs, S.os, x, k, c, rfl, A.hc, h1, h2, hk, hd, by omega, by omega, zCK A, by rw [hl]; exact hc, fun H' g => ?_⟩
  rw [e, if_pos rfl]
  exact q.2 hn H' g
theorem zIZ (T : Txt K mg a) : FnOk P w K mg base CX0 1 a.f_Hmany a.d_Hmany Z3 (JE (cA a tb)) := by
 refine T.F_Hmany.ok sc_Hmany (fun vs H Q E h => ?_) (fun cdv A outer s H vs Q E hr h => ?_)
 ·obtain ⟨p, S, rfl, _⟩ := h
  rfl
 have nd := sc_Hmany.nd
 obtain ⟨p, S, rfl, A, q⟩ := h
 refine ⟨_, (QF (QL (QK Yp (QS (pv 0) rfl) (QS (pv 0) rfl)))), ?_⟩
 try walk_at "rd"
 rw [zEl T A, zEu T A]
 try walk_at "rd"
 exact q
theorem zEN (T : Txt K mg a)(G_Hmany : FnOk P w K mg base CX0 1 a.f_Hmany a.d_Hmany Z3 (JE (cA a tb))) : FnOk P w K mg base CX0 2 a.f_Hcounts a.d_Hcounts Js (zDL (cA a tb)) := by
 refine T.F_Hcounts.ok sc_Hcounts (fun vs H Q E h => ?_) (fun cdv A outer s H vs Q E hr h => ?_)
 ·obtain ⟨p, S, rfl, _⟩ := h
  rfl
 have nd := sc_Hcounts.nd
 obtain ⟨p, S, rfl, A, q⟩ := h
 refine ⟨_, (QF (QL (YK (QA (Ql (pv 0) (T.cl tb) (T.M_Hmany tb) (G_Hmany.mono (by decide)) hr T.b_Hmany .nil QP) (QA (QS (pv 0) rfl) (QA (QS (pv 0) rfl) (QA (QS (pv 0) rfl) (QA (QS (pv 0) rfl) QC)))))))), ?_⟩
 try walk_at "rd"
 rw [Yn A (by decide +kernel)]
 refine ⟨p, S, rfl, A, ?_⟩
 show Y2 K ("came" : Str) (V.ref p) H _
 rw [zEl T A, zEu T A, zMN T A, zMP T A]
 exact ⟨by decide, fun t ht => q t ht⟩
theorem zDf (T : Txt K mg a) : FnOk P w K mg base CX0 1 a.f_Hentries a.d_Hentries ZI (Jm (cA a tb)) := by
 refine T.F_Hentries.ok sc_Hentries (fun vs H Q E h => ?_) (fun cdv A outer s H vs Q E hr h => ?_)
 ·obtain ⟨p, S, xs, rfl, _⟩ := h
  rfl
 have nd := sc_Hentries.nd
 obtain ⟨p, S, xs, rfl, A, hx, q⟩ := h
 refine ⟨_, (QF (QL (zID "entry" [] [] rfl ⟨rfl, rfl, by decide +kernel, by decide +kernel, rfl, by decide +kernel, by decide +kernel, rfl, by decide +kernel⟩ rfl (zJG false false false rfl T.z_zip (QA (QS (pv 0) rfl) (QA (QS (pv 0) rfl) (QA (QS (pv 0) rfl) QC)))) (fun C s1 H1 fp => (QT JK (Qt YS (pv 0) QE (fun _ _ => rfl)) Q6 (QR _))) (fun C s1 H1 fp => (pv 0))))), ?_⟩
 obtain ⟨xs', h1, h2⟩ := A.hr
 rw [hx] at h1
 cases h1
 have hxl := h2.len
 have l1 := A.l1
 have l2 := A.l2
 have hsm := A.small
 try walk_at "rd"
 rw [zCE T A, zBA T A, zDD T A]
 refine ⟨S.pm, rfl, S.pr, rfl, S.ph, rfl, ⟨_, SqL.of A.hm⟩, ⟨_, SqL.of hx⟩, ⟨_, SqL.of A.hh⟩, ?_⟩
 refine zEM (xs := S.ms.map V.int) (ys := xs) (zs := S.hs) (by rw [List.length_map]; omega) (by rw [List.length_map]; omega) (Nat.le_of_lt (Qm (by rw [List.length_map]; omega)))
  (fun i vs H' => Same H H' /\ vs.length <= i /\ Paired (EntR H') vs (((S.ms.zip (xs.zip S.hs)).take i).filter fun e => NN e.2.1)) ⟨Same.refl H, Nat.zero_le _, .nil⟩
  (fun i vs H' hi h => ⟨SqL.of (h.1 _ _ A.hm), SqL.of (h.1 _ _ hx), SqL.of (h.1 _ _ A.hh), h.2.1⟩) (fun i x y z t vs H' ex ey ez h ht => ?_) (fun vs H' h => ?_)
 ·obtain ⟨g, hl, pr⟩ := h
  rw [List.getElem?_map] at ex
  cases em : S.ms[i]? with
  | none => rw [em] at ex; cases ex
  | some m =>
   rw [em] at ex
   cases ex
   have gt := QI (o := HO.tup [V.int m, y, z]) ht
   have ez' : (S.ms.zip (xs.zip S.hs))[i]? = some (m, y, z) := by
    rw [List.getElem?_zip_eq_some]
    exact ⟨em, by rw [List.getElem?_zip_eq_some]; exact ⟨ey, ez⟩⟩
   have pr' := YM pr fun a _ b h => EntR.same gt h
   have hu := QD (H := H') (a := t) (o := HO.tup [V.int m, y, z])
   have G := g.trans gt
   generalize upd H' t (HO.tup [V.int m, y, z]) = H2 at gt pr' hu G ⊢
   try walk_at "rd"
   rw [YA (v := y) hu rfl, Ym ez', List.filter_append]
   by_cases c : y = V.non
   ·have hN : NN y = false := by unfold NN; simp [c]
    rw [if_neg (fun h => h c)]
    refine ⟨G, by omega, ?_⟩
    have e1 : [(m, y, z)].filter (fun e : Int × V × V => NN e.2.1) = [] := by simp [List.filter, hN]
    rw [e1, List.append_nil]
    exact pr'
   ·have hN : NN y = true := by unfold NN; simp [c]
    rw [if_pos c]
    refine ⟨G, by rw [List.length_append, List.length_singleton]; omega, ?_⟩
    have e1 : [(m, y, z)].filter (fun e : Int × V × V => NN e.2.1) = [(m, y, z)] := by simp [List.filter, hN]
    rw [e1]
    exact Ya pr' ⟨t, rfl, hu⟩
 ·obtain ⟨g, hl, pr⟩ := h
  intro l hl'
  have gl := QI (o := HO.lst vs) hl'
  refine q l vs _ (g.trans gl) (g.free hl') QD ?_
  have pr' := YM pr fun a _ b h => EntR.same gl h
  rw [List.take_of_length_le (by rw [List.length_zip, List.length_map]; omega)] at pr'
  exact pr'
theorem zGw (T : Txt K mg a)(G_paper : FnOk P w K mg base CX0 9 a.f_paper a.d_paper zAa zCN) : FnOk P w K mg base CX0 10 a.f_Hwrite a.d_Hwrite Wr (zCe (cA a tb)) := by
 refine T.F_Hwrite.ok sc_Hwrite (fun vs H Q E h => ?_) (fun cdv A outer s H vs Q E hr h => ?_)
 ·obtain ⟨p, S, x, k, v, c, rfl, _⟩ := h
  rfl
 have nd := sc_Hwrite.nd
 obtain ⟨p, S, x, k, v, c, rfl, A, hk, hd, hc, q⟩ := h
 refine ⟨_, (QB (QW (i := 3) nd rfl (Or.inl rfl) (QO (G_paper.mono (by decide)) hr rfl T.m_paper_slots T.F_paper.kp T.b_paper .nil QP (QA (QS (pv 0) rfl) (QA (QS (pv 0) rfl) (QA (pv 1) QC)))))
 (QF (WV (pv 2) (Wj (QS (pv 0) rfl) (Qt YS (Qt YS (pv 3) (zDx zA1 QE) (fun _ _ => rfl)) QE (fun _ _ => rfl)) zDS)))), ?_⟩
 obtain ⟨xs, h1, h2⟩ := A.hr
 have hl := A.fm.len
 have hsm := A.small
 try walk_at "rd"
 rw [zCX T A, zBA T A]
 refine ⟨S.pc, S.pr, S.cs, xs, S.os, x, k, c, rfl, A.hc, h1, h2, hk, hd, by omega, by omega, zCK A, by rw [hl]; exact hc, fun f ys H' g hf0 hf hoy => ?_⟩
 have A' := A.same g
 have hyl : ys.length = c + 1 := by rw [hoy.len, zCS]
 obtain ⟨y, ey⟩ : ∃ y, ys[c]? = some y := ⟨ys[c], List.getElem?_eq_getElem (by omega)⟩
 obtain ⟨t, rfl, ht⟩ := zIT hoy ey
 try walk_at "rd"
 rw [zCX T A']
 show ixC (V.ref f) (V.int (-1)) _ _
 rw [Qz hf ((zAU hyl).trans ey), YA (v := V.int (sl k.st S.cs.length c : Nat)) ht rfl, Wm A'.hc rfl (by rw [List.length_map]; exact zAg (by omega)), ← List.map_set, hl]
 exact q H' g
theorem zDd (T : Txt K mg a)(G_cells_of : FnOk P w K mg base CX0 10 a.f_cells_of a.d_cells_of WT zFn) : FnOk P w K mg base CX0 11 a.f_Hlay_out a.d_Hlay_out YV (zDI (cA a tb)) := by
 refine T.F_Hlay_out.ok sc_Hlay_out (fun vs H Q E h => ?_) (fun cdv A outer s H vs Q E hr h => ?_)
 ·obtain ⟨p, dx, fs, n, pr, ph, pm, xs, os, rfl, _⟩ := h
  rfl
 have nd := sc_Hlay_out.nd
 obtain ⟨p, dx, fs, n, pr, ph, pm, xs, os, rfl, hp, hf, h1, h2, osh, h8, hl, q⟩ := h
 refine ⟨_, (QB (Qv (pv 0) (QO (G_cells_of.mono (by decide)) hr rfl T.m_cells_of T.F_cells_of.kp T.b_cells_of .nil QP (QA (pv 2) (QA (pv 1) QC))) rfl)
 (QB (Qv (pv 0) (pv 1) rfl)
 (QB (Qv (pv 0) (pv 2) rfl)
 (QB (Qv (pv 0) (pv 3) rfl)
 (QF (Qv (pv 0) (pv 4) rfl)))))), ?_⟩
 try walk_at "rd"
 refine ⟨pr, xs, os, n, rfl, h1, h2, osh, h8, hl, fun pc cs H1 g hn hc lb => ?_⟩
 have hp1 := g _ _ hp
 show zIn K ("cells" : Str) (V.ref pc) (V.ref p) H1 _
 rw [Qj hp1 (T.cl tb) (T.n_cells tb) (by omega)]
 try walk_at "rd"
 rw [Qj QD (T.cl tb) (T.n_size tb) (by have := Qi "cells" (V.ref pc) fs; omega), Q4]
 try walk_at "rd"
 rw [Qj QD (T.cl tb) (T.n_row tb) (by have := Qi "cells" (V.ref pc) fs; have := Qi "size" (V.int n) (Qk "cells" (V.ref pc) fs); omega), Q4]
 try walk_at "rd"
 rw [Qj QD (T.cl tb) (T.n_held tb) (by have := Qi "cells" (V.ref pc) fs; have := Qi "size" (V.int n) (Qk "cells" (V.ref pc) fs); have := Qi "row" (V.ref pr) (Qk "size" (V.int n) (Qk "cells" (V.ref pc) fs)); omega), Q4]
 try walk_at "rd"
 rw [Qj QD (T.cl tb) (T.n_comings tb) (by have := Qi "cells" (V.ref pc) fs; have := Qi "size" (V.int n) (Qk "cells" (V.ref pc) fs); have := Qi "row" (V.ref pr) (Qk "size" (V.int n) (Qk "cells" (V.ref pc) fs)); have := Qi "held" (V.ref ph) (Qk "row" (V.ref pr) (Qk "size" (V.int n) (Qk "cells" (V.ref pc) fs))); omega), Q4]
 exact q pc cs H1 g hn hc lb
theorem zC8 (T : Txt K mg a)(G_Hlay_out : FnOk P w K mg base CX0 11 a.f_Hlay_out a.d_Hlay_out YV (zDI (cA a tb))) : FnOk P w K mg base CX0 12 a.f_H__init__ a.d_H__init__ YN (zEV (cA a tb)) := by
 refine T.F_H__init__.ok sc_H__init__ (fun vs H Q E h => ?_) (fun cdv A outer s H vs Q E hr h => ?_)
 ·obtain ⟨p, dx, n, rfl, _⟩ := h
  rfl
 have nd := sc_H__init__.nd
 obtain ⟨p, dx, n, rfl, hp, h8, q⟩ := h
 refine ⟨_, (QB (Qn (Qr (pv 0) (T.cl tb) (T.M_Hlay_out tb) (G_Hlay_out.mono (by decide)) hr T.b_Hlay_out .nil QP (QA (pv 1) (QA (Y3 QC) (QA (Y3 QC) (QA (Y3 QC) QC))))))
 (QB (Qv (pv 0) QE rfl)
 (QB (Qv (pv 0) QE rfl)
 (QB (Qv (pv 0) QE rfl)
 (QF (Qv (pv 0) QE rfl)))))), ?_⟩
 have r8 := h8.range
 try walk_at "rd"
 rw [Y9 hp (by rfl)]
 refine ⟨by decide, fun pr n1 => ⟨by decide, fun ph n2 => ⟨by decide, fun pm n3 => ?_⟩⟩⟩
 have g1 := QI (o := HO.lst []) n1
 have g2 := QI (o := HO.lst []) n2
 have g3 := QI (o := HO.lst []) n3
 have hr3 := g3 _ _ (g2 _ _ (QD (H := H) (a := pr) (o := HO.lst [])))
 have hh3 := g3 _ _ (QD (H := upd H pr (HO.lst [])) (a := ph) (o := HO.lst []))
 have hm3 := QD (H := upd (upd H pr (HO.lst [])) ph (HO.lst [])) (a := pm) (o := HO.lst [])
 have m0 : H pr = none := n1
 have m1 : pr ≠ ph := fun e => by subst e; rw [QD] at n2; cases n2
 have m2 : ph ≠ pm := fun e => by subst e; rw [QD] at n3; cases n3
 have m3 : pr ≠ pm := fun e => by subst e; rw [g2 _ _ QD] at n3; cases n3
 have G3 := (g1.trans g2).trans g3
 generalize upd (upd (upd H pr (HO.lst [])) ph (HO.lst [])) pm (HO.lst []) = H3 at g3 hr3 hh3 hm3 G3 ⊢
 refine ⟨p, dx, [], n, pr, ph, pm, [], [], rfl, G3 _ _ hp, by decide, hr3, IsKos.nil, (fun o ho => by cases ho), h8, by show (3 : Int) * (0 : Nat) <= 2 * n; omega, fun pc cs H4 g4 hn hc lb => ?_⟩
 have hcs : cs = List.replicate n.toNat (-1) := by cases lb; rfl
 rw [zJ6]
 try walk_at "rd"
 have G4 := G3.trans g4
 have k1 : pc ≠ pr := fun e => by subst e; rw [hr3] at hn; cases hn
 have k2 : pc ≠ ph := fun e => by subst e; rw [hh3] at hn; cases hn
 have k3 : pc ≠ pm := fun e => by subst e; rw [hm3] at hn; cases hn
 have p1 : p ≠ pc := QH (G3 _ _ hp) hn
 have p2 : p ≠ pr := QH hp n1
 have p3 : p ≠ ph := QH hp (g1.free n2)
 have p4 : p ≠ pm := QH hp ((g1.trans g2).free n3)
 rw [Qj QD (T.cl tb) (T.n_came tb) zJU, Q4, zJc]
 try walk_at "rd"
 rw [Qj QD (T.cl tb) (T.n_went tb) zJf, Q4, zJS]
 try walk_at "rd"
 rw [Qj QD (T.cl tb) (T.n_tidyings tb) zI6, Q4, zKS]
 try walk_at "rd"
 rw [Qj QD (T.cl tb) (T.n_moved tb) zJR, Q4, zJl]
 have nn : ((n.toNat : Nat) : Int) = n := by omega
 refine q ⟨dx, pc, pr, ph, pm, n.toNat, cs, [], [], [], 0, 0, 0, 0⟩ _ (fun b o e m => by rw [QG m]; exact G4 _ _ e) ⟨?_, ?_, ⟨[], ?_, IsKos.nil⟩, ?_, ?_, ⟨k1, k2, k3, m1, m3, m2⟩, ?_, ?_, ?_, rfl, rfl, (fun o ho => by cases ho), fun o ho => by cases ho⟩ rfl hcs rfl rfl rfl rfl rfl rfl rfl
 ·show upd H4 p _ p = some (.ins (cA a tb) dx (shF pc ((n.toNat : Nat) : Int) pr ph pm 0 0 0 0))
  rw [QD, nn]
 ·rw [QG (Ne.symm p1)]; exact hc
 ·rw [QG (Ne.symm p2)]; exact g4 _ _ hr3
 ·rw [QG (Ne.symm p3)]; exact g4 _ _ hh3
 ·rw [QG (Ne.symm p4)]; exact g4 _ _ hm3
 ·show Fm n.toNat cs []
  rw [hcs]
  exact Fm.zero (by rw [nn]; exact h8.p2)
 ·show S8 ((n.toNat : Nat) : Int)
  rw [nn]; exact h8
 ·show 3 * 0 <= 2 * n.toNat
  omega
end
section
variable {P : Program} {w : World} {K : W.Frag} {mg : Str -> Option Value} {base : Heap} {a : Ad} {tb : Bool}
theorem zAM (T : Txt K mg a)(G_checked : FnOk P w K mg base CX0 10 a.f_checked a.d_checked WA zI1)(G_Hplace : FnOk P w K mg base CX0 11 a.f_Hplace a.d_Hplace Wu (zKv (cA a tb))) : FnOk P w K mg base (CXe P w) 12 a.f_Hsure_place a.d_Hsure_place Y6 (zFt (cA a tb) a.a_Lacking) := by
 refine T.F_Hsure_place.okE sc_Hsure_place (fun vs H Q E h => ?_) (fun cdv A outer s H vs Q E hr h => ?_)
 ·obtain ⟨p, S, x, k, rfl, _⟩ := h
  rfl
 have nd := sc_Hsure_place.nd
 obtain ⟨p, S, x, k, rfl, A, hk, hd, hok, q1, q2⟩ := h
 obtain ⟨bmL, xL⟩ := T.x_Lacking
 refine ⟨_, (QB (QW (i := 2) nd rfl (Or.inl rfl) (Qr (pv 0) (T.cl tb) (T.M_Hplace tb) (G_Hplace.mono (by decide)) hr T.b_Hplace .nil QP (QA (QO (G_checked.mono (by decide)) hr rfl T.m_checked T.F_checked.kp T.b_checked .nil QP (QA (pv 1) QC)) QC)))
 (QB (QU (QT zCR (pv 2) Q6 (QR _)) (QF (zB4 hr.hd rfl T.m_Lacking xL (QA Yb QC))) QN)
 (QF (QL (pv 2))))), ?_⟩
 try walk_at "rd"
 rw [Yn A (by decide +kernel)]
 refine ⟨x, k, rfl, hk, hok, fun H1 g1 => ?_⟩
 refine ⟨p, S, x, k, rfl, A.same g1, hk.same g1.tups, hd, fun j hj H2 g2 => ?_, fun hn H2 g2 => ?_⟩
 ·unfold plV
  try walk_at "rd"
  exact q1 j H2 hj (g1.trans g2)
 ·unfold plV
  try walk_at "rd"
  exact ⟨by decide, fun ea he => q2 hn ea H2 (g1.trans g2) he⟩
theorem zGU (T : Txt K mg a)(G_Hsure_place : FnOk P w K mg base (CXe P w) 12 a.f_Hsure_place a.d_Hsure_place Y6 (zFt (cA a tb) a.a_Lacking))(G_Hwrite : FnOk P w K mg base CX0 10 a.f_Hwrite a.d_Hwrite Wr (zCe (cA a tb))) : FnOk P w K mg base (CXe P w) 13 a.f_Htake a.d_Htake zAR (zDB (cA a tb) a.a_Lacking) := by
 refine T.F_Htake.okE sc_Htake (fun vs H Q E h => ?_) (fun cdv A outer s H vs Q E hr h => ?_)
 ·obtain ⟨p, S, x, k, rfl, _⟩ := h
  rfl
 have nd := sc_Htake.nd
 obtain ⟨p, S, x, k, rfl, A, hk, hd, hok, q1, q2⟩ := h
 refine ⟨_, (QB (QW (i := 2) nd rfl (Or.inl rfl) (Qr (pv 0) (T.cl tb) (T.M_Hsure_place tb) (G_Hsure_place.mono (by decide)) hr T.b_Hsure_place .nil (zKo (fun _ _ _ h => h)) (QA (pv 1) QC)))
 (QB (QW (i := 3) nd rfl (Or.inl rfl) (Qt YS (QS (pv 0) rfl) (pv 2) (fun _ _ => rfl)))
 (QB (Qn (Qr (pv 0) (T.cl tb) (T.M_Hwrite tb) (G_Hwrite.mono (by decide)) hr T.b_Hwrite .nil QP (QA (pv 1) (QA (Q0 (v := .int (-2)) rfl T.c_GONE ⟨_, rfl⟩) QC))))
 (QB (WV Q6 (Wj (QS (pv 0) rfl) (pv 2) zDS))
 (QB (WV Q6 (Wj (QS (pv 0) rfl) (pv 2) zDS))
 (QB (Wq (pv 0) QE zBF)
 (QF (QL (pv 3))))))))), ?_⟩
 try walk_at "rd"
 rw [Yn A (by decide +kernel)]
 refine ⟨p, S, x, k, rfl, A, hk, hd, hok, fun i H1 hi g1 => ?_, q2⟩
 have A1 := A.same g1
 obtain ⟨n1, n2, n3, n4⟩ := A.lists
 obtain ⟨d1, d2, d3, d4, d5, d6⟩ := A.ne
 obtain ⟨c, hc, hce⟩ := A.fm.there hi
 have hlt : i < S.hs.length := by rw [A.l1]; exact (List.getElem?_eq_some_iff.mp hi).1
 have hlo : i < S.os.length := (List.getElem?_eq_some_iff.mp hi).1
 have hv0 : (S.hs[i]?).getD V.non = S.hs[i] := by rw [List.getElem?_eq_getElem hlt]; rfl
 try walk_at "rd"
 rw [zDD T A1, Qz A1.hh (v := S.hs[i]) (ZR (by simp [hlt]))]
 try walk_at "rd"
 rw [Yn A1 (by decide +kernel)]
 try walk_at "rd"
 refine ⟨p, S, x, k, -2, c, rfl, A1, hk.same g1.tups, hd, hc, fun H2 g2 => ?_⟩
 have A2 := A1.same g2
 obtain ⟨xs, h21, h22⟩ := A2.hr
 have hxl := h22.len
 have G2 := g1.trans g2
 have hob3 : upd H2 S.pc (HO.lst ((S.cs.set (sl k.st S.n c) (-2)).map V.int)) p = some (.ins (cA a tb) S.dx (shF S.pc S.n S.pr S.ph S.pm S.ca S.we S.ti S.mo)) := by rw [QG n1]; exact A2.ob
 have hcs3 := QD (H := H2) (a := S.pc) (o := HO.lst ((S.cs.set (sl k.st S.n c) (-2)).map V.int))
 have hrw3 : upd H2 S.pc (HO.lst ((S.cs.set (sl k.st S.n c) (-2)).map V.int)) S.pr = some (.lst xs) := by rw [QG (Ne.symm d1)]; exact h21
 have hhd3 : upd H2 S.pc (HO.lst ((S.cs.set (sl k.st S.n c) (-2)).map V.int)) S.ph = some (.lst S.hs) := by rw [QG (Ne.symm d2)]; exact A2.hh
 have hcm3 : upd H2 S.pc (HO.lst ((S.cs.set (sl k.st S.n c) (-2)).map V.int)) S.pm = some (.lst (S.ms.map V.int)) := by rw [QG (Ne.symm d3)]; exact A2.hm
 have b3 : But p S H (upd H2 S.pc (HO.lst ((S.cs.set (sl k.st S.n c) (-2)).map V.int))) := fun b o e _ m1 _ _ _ => by rw [QG m1]; exact G2 _ _ e
 generalize upd H2 S.pc (HO.lst ((S.cs.set (sl k.st S.n c) (-2)).map V.int)) = H3 at hob3 hcs3 hrw3 hhd3 hcm3 b3 ⊢
 try walk_at "rd"
 rw [QX hob3 (T.cl tb) (T.n_row tb) zCr]
 try walk_at "rd"
 rw [Wm hrw3 rfl (by omega)]
 have hob4 : upd H3 S.pr (HO.lst (xs.set i V.non)) p = some (.ins (cA a tb) S.dx (shF S.pc S.n S.pr S.ph S.pm S.ca S.we S.ti S.mo)) := by rw [QG n2]; exact hob3
 have hcs4 : upd H3 S.pr (HO.lst (xs.set i V.non)) S.pc = some (.lst ((S.cs.set (sl k.st S.n c) (-2)).map V.int)) := by rw [QG d1]; exact hcs3
 have hrw4 := QD (H := H3) (a := S.pr) (o := HO.lst (xs.set i V.non))
 have hhd4 : upd H3 S.pr (HO.lst (xs.set i V.non)) S.ph = some (.lst S.hs) := by rw [QG (Ne.symm d4)]; exact hhd3
 have hcm4 : upd H3 S.pr (HO.lst (xs.set i V.non)) S.pm = some (.lst (S.ms.map V.int)) := by rw [QG (Ne.symm d5)]; exact hcm3
 have b4 : But p S H (upd H3 S.pr (HO.lst (xs.set i V.non))) := fun b o e m0 m1 m2 m3 m4 => by rw [QG m2]; exact b3 b o e m0 m1 m2 m3 m4
 generalize upd H3 S.pr (HO.lst (xs.set i V.non)) = H4 at hob4 hcs4 hrw4 hhd4 hcm4 b4 ⊢
 try walk_at "rd"
 rw [QX hob4 (T.cl tb) (T.n_held tb) zA7]
 try walk_at "rd"
 rw [Wm hhd4 rfl hlt]
 have hob5 : upd H4 S.ph (HO.lst (S.hs.set i V.non)) p = some (.ins (cA a tb) S.dx (shF S.pc S.n S.pr S.ph S.pm S.ca S.we S.ti S.mo)) := by rw [QG n3]; exact hob4
 have hcs5 : upd H4 S.ph (HO.lst (S.hs.set i V.non)) S.pc = some (.lst ((S.cs.set (sl k.st S.n c) (-2)).map V.int)) := by rw [QG d2]; exact hcs4
 have hrw5 : upd H4 S.ph (HO.lst (S.hs.set i V.non)) S.pr = some (.lst (xs.set i V.non)) := by rw [QG d4]; exact hrw4
 have hhd5 := QD (H := H4) (a := S.ph) (o := HO.lst (S.hs.set i V.non))
 have hcm5 : upd H4 S.ph (HO.lst (S.hs.set i V.non)) S.pm = some (.lst (S.ms.map V.int)) := by rw [QG (Ne.symm d6)]; exact hcm4
 have b5 : But p S H (upd H4 S.ph (HO.lst (S.hs.set i V.non))) := fun b o e m0 m1 m2 m3 m4 => by rw [QG m3]; exact b4 b o e m0 m1 m2 m3 m4
 generalize upd H4 S.ph (HO.lst (S.hs.set i V.non)) = H5 at hob5 hcs5 hrw5 hhd5 hcm5 b5 ⊢
 try walk_at "rd"
 rw [QX hob5 (T.cl tb) (T.n_went tb) zDY]
 try walk_at "rd"
 rw [Qj hob5 (T.cl tb) (T.n_went tb) JS, JJ]
 have b6 : But p S H (upd H5 p (HO.ins (cA a tb) S.dx (shF S.pc S.n S.pr S.ph S.pm S.ca (S.we + 1) S.ti S.mo))) := fun b o e m0 m1 m2 m3 m4 => by rw [QG m0]; exact b5 b o e m0 m1 m2 m3 m4
 try walk_at "rd"
 rw [← hv0]
 refine q1 i c _ hi hc b6 ⟨QD, ?_, ⟨xs.set i V.non, ?_, ?_⟩, ?_, ?_, A.ne, A.fm.take hi hc, A.s8, ?_, ?_, ?_, ?_, A.cm⟩
 ·show upd H5 p _ S.pc = _
  rw [QG (Ne.symm n1)]; exact hcs5
 ·show upd H5 p _ S.pr = _
  rw [QG (Ne.symm n2)]; exact hrw5
 ·obtain ⟨xs0, h01, h02⟩ := A.hr
  have ex : xs = xs0 := by have := G2 _ _ h01; rw [h21] at this; cases this; rfl
  subst ex
  exact zJQ h02 (A.tups b6) i
 ·show upd H5 p _ S.ph = _
  rw [QG (Ne.symm n3)]; exact hhd5
 ·show upd H5 p _ S.pm = _
  rw [QG (Ne.symm n4)]; exact hcm5
 ·show 3 * (S.os.set i none).length <= _
  rw [List.length_set]; exact A.rm
 ·show (S.hs.set i V.non).length = (S.os.set i none).length
  rw [List.length_set, List.length_set]; exact A.l1
 ·show _ = (S.os.set i none).length
  rw [List.length_set]; exact A.l2
 ·intro o ho
  rcases List.mem_or_eq_of_mem_set ho with z | z
  ·exact A.dp o z
  ·rw [z]; exact True.intro
end
section
variable {P : Program} {w : World} {K : W.Frag} {mg : Str -> Option Value} {base : Heap} {a : Ad} {tb : Bool}
theorem zCY (T : Txt K mg a)(G_H__init__ : FnOk P w K mg base CX0 12 a.f_H__init__ a.d_H__init__ YN (zEV (cA a true))) : FnOk P w K mg base CX0 13 a.f_T__init__ a.d_T__init__ Zm (zE9 (cA a true)) := by
 refine T.F_T__init__.ok sc_T__init__ (fun vs H Q E h => ?_) (fun cdv A outer s H vs Q E hr h => ?_)
 ·obtain ⟨p, dx, rfl, _⟩ := h
  rfl
 have nd := sc_T__init__.nd
 obtain ⟨p, dx, rfl, hp, q⟩ := h
 refine ⟨_, (QF (Qn (zEy rfl T.m_Shelf T.M_H__init__ (G_H__init__.mono (by decide)) hr T.b_H__init___0 .nil QP (QA (pv 0) (QA (Q0 (v := .int 8) rfl T.c_LEAST ⟨_, rfl⟩) QC))))), ?_⟩
 try walk_at "rd"
 exact ⟨p, dx, 8, rfl, hp, .inl rfl, fun S H2 kp A en ecs eo eh em eca ewe eti emo => q S H2 kp A en eo eh em eca ewe eti emo⟩
theorem zHm (T : Txt K mg a) : FnOk P w K mg base CX0 1 a.f_Hsize_emptied a.d_Hsize_emptied YG (zKB (cA a tb)) := by
 refine T.F_Hsize_emptied.ok sc_Hsize_emptied (fun vs H Q E h => ?_) (fun cdv A outer s H vs Q E hr h => ?_)
 ·obtain ⟨p, S, rfl, _⟩ := h
  rfl
 have nd := sc_Hsize_emptied.nd
 obtain ⟨p, S, rfl, ⟨we, A⟩, q⟩ := h
 refine ⟨_, (QF (QL (QS (pv 0) rfl))), ?_⟩
 try walk_at "rd"
 rw [QX A (T.cl tb) (T.n_size tb) zEB]
 exact q
theorem Jc (T : Txt K mg a) : FnOk P w K mg base CX0 1 a.f_Tsize_emptied a.d_Tsize_emptied Ze zKH := by
 refine T.F_Tsize_emptied.ok sc_Tsize_emptied (fun vs H Q E h => ?_) (fun cdv A outer s H vs Q E hr h => ?_)
 ·obtain ⟨p, rfl, _⟩ := h
  rfl
 have nd := sc_Tsize_emptied.nd
 obtain ⟨p, rfl, q⟩ := h
 refine ⟨_, (QF (QL (Q0 (v := .int 8) rfl T.c_LEAST ⟨_, rfl⟩))), ?_⟩
 try walk_at "rd"
 exact q
theorem zAJ (T : Txt K mg a) : FnOk P w K mg base CX0 1 (vA a.f_Hsize_emptied a.f_Tsize_emptied tb) (vA a.d_Hsize_emptied a.d_Tsize_emptied tb) YG (zFA a tb) := by
 cases tb
 ·exact (zHm T).imp fun _ _ _ _ h => h
 ·exact (Jc T).imp fun _ _ _ _ ⟨p, S, e, _, q⟩ => ⟨p, e, q⟩
theorem zDX (T : Txt K mg a)(G_Hmany : FnOk P w K mg base CX0 1 a.f_Hmany a.d_Hmany Z3 (JE (cA a tb)))(G_size_emptied : FnOk P w K mg base CX0 1 (vA a.f_Hsize_emptied a.f_Tsize_emptied tb) (vA a.d_Hsize_emptied a.d_Tsize_emptied tb) YG (zFA a tb))(G_Hlay_out : FnOk P w K mg base CX0 11 a.f_Hlay_out a.d_Hlay_out YV (zDI (cA a tb))) : FnOk P w K mg base CX0 12 a.f_Hemptied a.d_Hemptied WY (zBE a tb) := by
 refine T.F_Hemptied.ok sc_Hemptied (fun vs H Q E h => ?_) (fun cdv A outer s H vs Q E hr h => ?_)
 ·obtain ⟨p, S, rfl, _⟩ := h
  rfl
 have nd := sc_Hemptied.nd
 obtain ⟨p, S, rfl, A, q⟩ := h
 refine ⟨_, (QB (Wq (pv 0) (Ql (pv 0) (T.cl tb) (T.M_Hmany tb) (G_Hmany.mono (by decide)) hr T.b_Hmany .nil QP) zBF)
 (QF (Qn (Qr (pv 0) (T.cl tb) (T.M_Hlay_out tb) (G_Hlay_out.mono (by decide)) hr T.b_Hlay_out .nil QP (QA (Ql (pv 0) (T.cl tb) (T.M_size_emptied tb) (G_size_emptied.mono (by decide)) hr (T.b_size_emptied tb) .nil QP) (QA (Y3 QC) (QA (Y3 QC) (QA (Y3 QC) QC)))))))), ?_⟩
 try walk_at "rd"
 rw [zEu T A]
 try walk_at "rd"
 rw [Yn A (by decide +kernel)]
 try walk_at "rd"
 refine ⟨p, S, rfl, A, ?_⟩
 try walk_at "rd"
 rw [Qj A.ob (T.cl tb) (T.n_went tb) JS, JJ, show S.we + (S.ca - S.we) = S.ca by omega]
 have hob := QD (H := H) (a := p) (o := HO.ins (cA a tb) S.dx (shF S.pc S.n S.pr S.ph S.pm S.ca S.ca S.ti S.mo))
 have k1 : ∀ b o, H b = some o -> b ≠ p -> upd H p (HO.ins (cA a tb) S.dx (shF S.pc S.n S.pr S.ph S.pm S.ca S.ca S.ti S.mo)) b = some o := fun b o e n => by rw [QG n]; exact e
 generalize upd H p (HO.ins (cA a tb) S.dx (shF S.pc S.n S.pr S.ph S.pm S.ca S.ca S.ti S.mo)) = H1 at hob k1 ⊢
 try walk_at "rd"
 rw [Y9 hob (zEY (by decide +kernel)), Y9 hob (zEY (by decide +kernel))]
 try walk_at "rd"
 refine ⟨p, S, rfl, ⟨_, hob⟩, ?_⟩
 try walk_at "rd"
 refine ⟨by decide, fun pr n1 => ⟨by decide, fun ph n2 => ⟨by decide, fun pm n3 => ?_⟩⟩⟩
 have g1 := QI (o := HO.lst []) n1
 have g2 := QI (o := HO.lst []) n2
 have g3 := QI (o := HO.lst []) n3
 have hr3 := g3 _ _ (g2 _ _ (QD (H := H1) (a := pr) (o := HO.lst [])))
 have hh3 := g3 _ _ (QD (H := upd H1 pr (HO.lst [])) (a := ph) (o := HO.lst []))
 have hm3 := QD (H := upd (upd H1 pr (HO.lst [])) ph (HO.lst [])) (a := pm) (o := HO.lst [])
 have m1 : pr ≠ ph := fun e => by subst e; rw [QD] at n2; cases n2
 have m2 : ph ≠ pm := fun e => by subst e; rw [QD] at n3; cases n3
 have m3 : pr ≠ pm := fun e => by subst e; rw [g2 _ _ QD] at n3; cases n3
 have G3 := (g1.trans g2).trans g3
 have p2 : p ≠ pr := QH hob n1
 have p3 : p ≠ ph := QH hob (g1.free n2)
 have p4 : p ≠ pm := QH hob ((g1.trans g2).free n3)
 generalize upd (upd (upd H1 pr (HO.lst [])) ph (HO.lst [])) pm (HO.lst []) = H3 at g3 hr3 hh3 hm3 G3 ⊢
 refine ⟨p, S.dx, _, ((nE tb S : Nat) : Int), pr, ph, pm, [], [], rfl, G3 _ _ hob, by show 9 <= 9; decide, hr3, IsKos.nil, (fun o ho => by cases ho), zHk A, by show (3 : Int) * (0 : Nat) <= 2 * _; omega, fun pc cs H4 g4 hn hc lb => ?_⟩
 have hcs : cs = List.replicate (nE tb S) (-1) := by
  have : ((nE tb S : Nat) : Int).toNat = nE tb S := by omega
  rw [this] at lb
  cases lb; rfl
 rw [zFL]
 have G4 := G3.trans g4
 have c1 : pc ≠ pr := fun e => by subst e; rw [hr3] at hn; cases hn
 have c2 : pc ≠ ph := fun e => by subst e; rw [hh3] at hn; cases hn
 have c3 : pc ≠ pm := fun e => by subst e; rw [hm3] at hn; cases hn
 have p1 : p ≠ pc := QH (G3 _ _ hob) hn
 have fr : ∀ b, H1 b = none -> b ≠ p -> H b = none := fun b hb m => by
  cases z : H b with
  | none => rfl
  | some o => rw [k1 b o z m] at hb; cases hb
 refine q pc pr ph pm _ (fr _ (G3.free hn) (Ne.symm p1)) (fr _ n1 (Ne.symm p2)) (fr _ (g1.free n2) (Ne.symm p3)) (fr _ ((g1.trans g2).free n3) (Ne.symm p4)) (fun b o e m => by rw [QG m]; exact G4 _ _ (k1 b o e m)) ⟨QD, ?_, ⟨[], ?_, IsKos.nil⟩, ?_, ?_, ⟨c1, c2, c3, m1, m3, m2⟩, Fm.zero (zHk A).p2, zHk A, ?_, rfl, rfl, (fun o ho => by cases ho), fun o ho => by cases ho⟩
 ·show upd H4 p _ pc = some (.lst ((List.replicate (nE tb S) (-1)).map V.int))
  rw [QG (Ne.symm p1), ← hcs]; exact hc
 ·show upd H4 p _ pr = _
  rw [QG (Ne.symm p2)]; exact g4 _ _ hr3
 ·show upd H4 p _ ph = _
  rw [QG (Ne.symm p3)]; exact g4 _ _ hh3
 ·show upd H4 p _ pm = _
  rw [QG (Ne.symm p4)]; exact g4 _ _ hm3
 ·show 3 * 0 <= 2 * nE tb S
  omega
end
section
variable {P : Program} {w : World} {K : W.Frag} {mg : Str -> Option Value} {base : Heap} {a : Ad} {tb : Bool}
theorem zBk (T : Txt K mg a)(G_Hmany : FnOk P w K mg base CX0 1 a.f_Hmany a.d_Hmany Z3 (JE (cA a tb)))(G_packed : FnOk P w K mg base CX0 1 a.f_packed a.d_packed Wv zBU)(G_size_for : FnOk P w K mg base CX0 1 a.f_size_for a.d_size_for ZE zHt)(G_Hlay_out : FnOk P w K mg base CX0 11 a.f_Hlay_out a.d_Hlay_out YV (zDI (cA a tb))) : FnOk P w K mg base CX0 12 a.f_Tmake_room a.d_Tmake_room W6 (zHW (cA a tb)) := by
 refine T.F_Tmake_room.ok sc_Tmake_room (fun vs H Q E h => ?_) (fun cdv A outer s H vs Q E hr h => ?_)
 ·obtain ⟨p, S, rfl, _⟩ := h
  rfl
 have nd := sc_Tmake_room.nd
 obtain ⟨p, S, rfl, A, cn, c5, q⟩ := h
 refine ⟨_, (QB (QW (i := 1) nd rfl (Or.inl rfl) (Ql (pv 0) (T.cl tb) (T.M_Hmany tb) (G_Hmany.mono (by decide)) hr T.b_Hmany .nil QP))
 (QB (QW (i := 2) nd rfl (Or.inl rfl) (QO (G_packed.mono (by decide)) hr rfl T.m_packed T.F_packed.kp T.b_packed .nil QP (QA (QS (pv 0) rfl) (QA (QS (pv 0) rfl) QC))))
 (QB (QW (i := 3) nd rfl (Or.inl rfl) (QO (G_packed.mono (by decide)) hr rfl T.m_packed T.F_packed.kp T.b_packed .nil QP (QA (QS (pv 0) rfl) (QA (QS (pv 0) rfl) QC))))
 (QB (Qn (Qr (pv 0) (T.cl tb) (T.M_Hlay_out tb) (G_Hlay_out.mono (by decide)) hr T.b_Hlay_out .nil QP (QA (QO (G_size_for.mono (by decide)) hr rfl T.m_size_for T.F_size_for.kp T.b_size_for .nil QP (QA (pv 1) QC)) (QA (Qt YS (pv 2) QE (fun _ _ => rfl)) (QA (Qt YS (pv 2) QE (fun _ _ => rfl)) (QA (Qt YS (pv 3) QE (fun _ _ => rfl)) QC))))))
 (QB (Wq (pv 0) QE zBF)
 (QF (Wq (pv 0) (pv 1) zBF))))))), ?_⟩
 have hsm := A.small
 have l1 := A.l1
 have l2 := A.l2
 obtain ⟨xs, h1, h2⟩ := A.hr
 have hxl := h2.len
 try walk_at "rd"
 rw [Yn A (by decide +kernel)]
 try walk_at "rd"
 refine ⟨p, S, rfl, A, ?_⟩
 try walk_at "rd"
 rw [zBA T A, zDD T A]
 try walk_at "rd"
 refine ⟨S.pr, S.ph, xs, S.hs, rfl, h1, A.hh, by omega, by omega, fun t1 r1 b1 H1 g1 nr1 nb1 ne1 ht1 hr1 hb1 => ?_⟩
 have A1 := A.same g1
 try walk_at "rd"
 rw [zBA T A1, zCE T A1]
 try walk_at "rd"
 refine ⟨S.pr, S.pm, xs, _, rfl, g1 _ _ h1, A1.hm, by rw [List.length_map]; omega, by omega, fun t2 r2 b2 H2 g2 nr2 nb2 ne2 ht2 hr2 hb2 => ?_⟩
 have A2 := A1.same g2
 have G2 := g1.trans g2
 try walk_at "rd"
 rw [Yn A2 (by decide +kernel)]
 try walk_at "rd"
 have hcn : S.ca - S.we = (YJ S.os : Int) := cn
 have el : (Qd S.os).length = YJ S.os := rfl
 refine ⟨_, rfl, by omega, by omega, fun n8 s8 s3 s6 => ?_⟩
 have r8 := s8.range
 have en : ((n8.toNat : Nat) : Int) = n8 := by omega
 try walk_at "rd"
 rw [YA (v := V.ref r1) (g2 _ _ ht1) rfl, YA (v := V.ref b1) (g2 _ _ ht1) rfl, YA (v := V.ref b2) ht2 rfl]
 refine ⟨p, S.dx, _, n8, r1, b1, b2, Kp xs, Qd S.os, rfl, A2.ob, by show 9 <= 9; decide, g2 _ _ hr1, (zEU h2).same G2.tups, (fun o ho => A.dp o (WB ho)), s8, by rw [el]; omega, fun pc cs H3 g3 hn hc lb => ?_⟩
 rw [zFL]
 try walk_at "rd"
 rw [QX QD (T.cl tb) (T.n_tidyings tb) JO]
 try walk_at "rd"
 rw [Qj QD (T.cl tb) (T.n_tidyings tb) JS, Q4, JZ]
 try walk_at "rd"
 rw [QX QD (T.cl tb) (T.n_moved tb) zB5]
 try walk_at "rd"
 rw [Qj QD (T.cl tb) (T.n_moved tb) JS, Q4, zBn]
 have G3 := G2.trans g3
 have kpq := zEU h2
 have eb1 : Kb xs S.hs = Qo S.os S.hs := zCs h2 l1
 have eb2 : Kb xs (S.ms.map V.int) = (Qo S.os S.ms).map V.int := by rw [zCs h2 (by rw [List.length_map]; exact l2), Jg]
 have nb2' : H b2 = none := g1.free nb2
 have npc : H pc = none := G2.free hn
 have p1 : p ≠ pc := QH A.ob npc
 have p2 : p ≠ r1 := QH A.ob nr1
 have p3 : p ≠ b1 := QH A.ob nb1
 have p4 : p ≠ b2 := QH A.ob nb2'
 have c1 : pc ≠ r1 := fun e => by subst e; rw [g2 _ _ hr1] at hn; cases hn
 have c2 : pc ≠ b1 := fun e => by subst e; rw [g2 _ _ hb1] at hn; cases hn
 have c3 : pc ≠ b2 := fun e => by subst e; rw [hb2] at hn; cases hn
 have m2 : r1 ≠ b2 := fun e => by subst e; rw [hr1] at nb2; cases nb2
 have m3 : b1 ≠ b2 := fun e => by subst e; rw [hb1] at nb2; cases nb2
 have f8 : IsP2 ((n8.toNat : Nat) : Int) := by rw [en]; exact s8.p2
 have fm : Fm n8.toNat cs (Qd S.os) := Fm.of_lb f8 lb (by omega) (fun p hp => by
  obtain ⟨k, hk⟩ := zGz hp
  exact ⟨k, hk, by unfold stO; rw [hk]⟩) (Wh A.fm.keys)
 refine q pc r1 b1 b2 n8.toNat cs _ npc nr1 nb1 nb2' (fun b o e m => by rw [QG m]; exact G3 _ _ e) (by omega) (by omega) ⟨?_, ?_, ⟨Kp xs, ?_, ?_⟩, ?_, ?_, ⟨c1, c2, c3, ne1, m2, m3⟩, fm, by show S8 ((n8.toNat : Nat) : Int); rw [en]; exact s8, by show 3 * (Qd S.os).length <= 2 * n8.toNat; omega, by show (Qo S.os S.hs).length = _; exact Yl l1, by show (Qo S.os S.ms).length = _; exact Yl l2, fun o ho => A.dp o (WB ho), fun m hm => A.cm m (JU hm)⟩
 ·show upd H3 p _ p = some (.ins (cA a tb) S.dx (shF pc ((n8.toNat : Nat) : Int) r1 b1 b2 S.ca S.we (S.ti + 1) (S.mo + (S.ca - S.we))))
  rw [QD, en]
 ·show upd H3 p _ pc = _
  rw [QG (Ne.symm p1)]; exact hc
 ·show upd H3 p _ r1 = _
  rw [QG (Ne.symm p2)]; exact g3 _ _ (g2 _ _ hr1)
 ·exact ((kpq.same G2.tups).same g3.tups).same (fun b zs e => by rw [QG (fun z => by rw [z, g3 _ _ A2.ob] at e; cases e)]; exact e)
 ·show upd H3 p _ b1 = _
  rw [QG (Ne.symm p3), g3 _ _ (g2 _ _ hb1), eb1]; rfl
 ·show upd H3 p _ b2 = _
  rw [QG (Ne.symm p4), g3 _ _ hb2, eb2]; rfl
theorem zCn (T : Txt K mg a) (G_Hmany : FnOk P w K mg base CX0 1 a.f_Hmany a.d_Hmany Z3 (JE (cA a tb)))(G_packed : FnOk P w K mg base CX0 1 a.f_packed a.d_packed Wv zBU)(G_size_for : FnOk P w K mg base CX0 1 a.f_size_for a.d_size_for ZE zHt)(G_Hlay_out : FnOk P w K mg base CX0 11 a.f_Hlay_out a.d_Hlay_out YV (zDI (cA a tb))) : FnOk P w K mg base CX0 12 (vA a.f_Hmake_room a.f_Tmake_room tb) (vA a.d_Hmake_room a.d_Tmake_room tb) ZH (zKe a tb) := by
 cases tb
 ·exact T.F_Hmake_room.ok zBw (fun _ _ _ _ h => by cases h.1) (fun _ _ _ _ _ _ _ _ _ h => by cases h.1)
 ·exact (zBk T G_Hmany G_packed G_size_for G_Hlay_out).imp fun _ _ _ _ h => h.2
end
section
variable {P : Program} {w : World} {K : W.Frag} {mg : Str -> Option Value} {base : Heap} {a : Ad} {tb : Bool}
theorem zHi (T : Txt K mg a)(G_room : FnOk P w K mg base CX0 1 a.f_room a.d_room zCi zEt)(G_make_room : FnOk P w K mg base CX0 12 (vA a.f_Hmake_room a.f_Tmake_room tb) (vA a.d_Hmake_room a.d_Tmake_room tb) ZH (zKe a tb))(G_Hwrite : FnOk P w K mg base CX0 10 a.f_Hwrite a.d_Hwrite Wr (zCe (cA a tb))) : FnOk P w K mg base CX0 13 a.f_Hcome a.d_Hcome zCV (zFc a tb) := by
 refine T.F_Hcome.ok sc_Hcome (fun vs H Q E h => ?_) (fun cdv A outer s H vs Q E hr h => ?_)
 ·obtain ⟨p, S, x, k, y, rfl, _⟩ := h
  rfl
 have nd := sc_Hcome.nd
 obtain ⟨p, S, x, k, y, rfl, A, cn, c5, hsh, hk, hd, hn, qA, qB⟩ := h
 refine ⟨_, (QB (QU (QT zKl (QM Qq rfl T.z_len PySem.boot_len (QA (QS (pv 0) rfl) QC)) (QO (G_room.mono (by decide)) hr rfl T.m_room T.F_room.kp T.b_room .nil QP (QA (QS (pv 0) rfl) QC)) (QR _)) (QF (Qn (Ql (pv 0) (T.cl tb) (T.M_make_room tb) (G_make_room.mono (by decide)) hr (T.b_make_room tb) .nil QP))) QN)
 (QB (Qn (Qr (pv 0) (T.cl tb) (T.M_Hwrite tb) (G_Hwrite.mono (by decide)) hr T.b_Hwrite .nil QP (QA (pv 1) (QA (QM Qq rfl T.z_len PySem.boot_len (QA (QS (pv 0) rfl) QC)) QC))))
 (QB (Wq (pv 0) QE zBF)
 (QB (Qn (zFW PySem.F.plainAttrs_list PySem.F.slot_list_append PySem.F.type_list_append zAT (QS (pv 0) rfl) (QA (pv 1) QC)))
 (QB (Qn (zFW PySem.F.plainAttrs_list PySem.F.slot_list_append PySem.F.type_list_append zAT (QS (pv 0) rfl) (QA (pv 2) QC)))
 (QF (Qn (zFW PySem.F.plainAttrs_list PySem.F.slot_list_append PySem.F.type_list_append zAT (QS (pv 0) rfl) (QA (QS (pv 0) rfl) QC))))))))), ?_⟩
 obtain ⟨xs, h1, h2⟩ := A.hr
 have hxl := h2.len
 have hsm := A.small
 try walk_at "rd"
 rw [zBA T A, YD h1, zK6 T A]
 refine ⟨_, rfl, ?_⟩
 try walk_at "rd"
 rw [hxl]
 rcases Classical.em (2 * S.n / 3 <= S.os.length) with hfull | hfull
 case' inl =>
  rw [if_pos (by omega), Yn A (by decide +kernel)]
  try walk_at "rd"
  refine ⟨(Bool.eq_false_or_eq_true tb).resolve_right fun z => (by have := hsh z; omega), p, S, rfl, A, cn, c5, fun pc1 pr1 ph1 pm1 n1' cs1 H0 f1 f2 f3 f4 kp0 s1 s2 A0 => ?_⟩
  have tid : Tid S (Zg S pc1 pr1 ph1 pm1 n1' cs1) := ⟨_, _, _, _, _, _, rfl, s1, s2⟩
  have el : (Qd S.os).length = YJ S.os := rfl
  have hk0 : IsK H0 k x := hk.same fun b xs e => kp0 b _ e (fun z => by rw [z, A.ob] at e; cases e)
  have hn0 : ∀ i : Nat, (Zg S pc1 pr1 ph1 pm1 n1' cs1).os[i]? ≠ some (some k) := fun i e => by
   obtain ⟨j, hj⟩ := zAz (os := S.os) e
   exact hn j hj
  have hrm : 3 * ((Zg S pc1 pr1 ph1 pm1 n1' cs1).os.length + 1) <= 2 * (Zg S pc1 pr1 ph1 pm1 n1' cs1).n := by have := A0.small; show 3 * ((Qd S.os).length + 1) <= 2 * n1'; have z : 8 <= n1' := this.2.1; omega
  have qq : ∀ c H', IsFirst (fun c => YE (Zg S pc1 pr1 ph1 pm1 n1' cs1).os k (cAt (Zg S pc1 pr1 ph1 pm1 n1' cs1).cs k.st c)) (Zg S pc1 pr1 ph1 pm1 n1' cs1).n c -> But p (Zg S pc1 pr1 ph1 pm1 n1' cs1) H0 H' -> ShAt (cA a tb) H' p (Yu (Zg S pc1 pr1 ph1 pm1 n1' cs1) k c y) -> Q .non H' := fun c H' _ b A' => qB hfull _ c H' tid (zDa kp0 f1 f2 f3 f4 b) A'
  generalize Zg S pc1 pr1 ph1 pm1 n1' cs1 = S1 at tid hn0 hrm qq A0
  try walk_at "rd"
 case' inr =>
  rw [if_neg (by omega)]
  obtain ⟨S1, H0, A0, hk0, hn0, hrm, qq, eH⟩ : ∃ S1 H0, ShAt (cA a tb) H0 p S1 /\ IsK H0 k x /\ (∀ i : Nat, S1.os[i]? ≠ some (some k)) /\ 3 * (S1.os.length + 1) <= 2 * S1.n /\ (∀ c H', IsFirst (fun c => YE S1.os k (cAt S1.cs k.st c)) S1.n c -> But p S1 H0 H' -> ShAt (cA a tb) H' p (Yu S1 k c y) -> Q .non H') /\ H0 = H := ⟨S, H, A, hk, hn, by omega, fun c H' h b A' => qA (by omega) c H' h b A', rfl⟩
  rw [← eH]
 all_goals
  clear hk hn h1 h2 hxl hsm qA qB
  have A := A0
  have hk := hk0
  have hn := hn0
  obtain ⟨xs, h1, h2⟩ := A.hr
  have hxl := h2.len
  have hsm := A.small
  obtain ⟨n1, n2, n3, n4⟩ := A.lists
  obtain ⟨d1, d2, d3, d4, d5, d6⟩ := A.ne
  obtain ⟨c, hc, hce⟩ := A.fm.lacks hn
  rw [Yn A (by decide +kernel), zBA T A, YD h1, hxl]
  refine ⟨p, S1, x, k, (S1.os.length : Nat), c, rfl, A, hk, hd, hc, fun H1 g1 => ?_⟩
  have A1 := A.same g1
  obtain ⟨xs1, h11, h12⟩ := A1.hr
  have ex : xs1 = xs := by have := g1 _ _ h1; rw [h11] at this; cases this; rfl
  subst ex
  have b2 : But p S1 H0 (upd H1 S1.pc (HO.lst ((S1.cs.set (sl k.st S1.n c) ((S1.os.length : Nat) : Int)).map V.int))) := fun b o e _ m1 _ _ _ => by rw [QG m1]; exact g1 _ _ e
  have hcs : upd H1 S1.pc (HO.lst ((S1.cs.set (sl k.st S1.n c) ((S1.os.length : Nat) : Int)).map V.int)) S1.pc = some (.lst ((S1.cs.set (sl k.st S1.n c) ((S1.os.length : Nat) : Int)).map V.int)) := QD
  have hob : upd H1 S1.pc (HO.lst ((S1.cs.set (sl k.st S1.n c) ((S1.os.length : Nat) : Int)).map V.int)) p = some (.ins (cA a tb) S1.dx (shF S1.pc S1.n S1.pr S1.ph S1.pm S1.ca S1.we S1.ti S1.mo)) := by rw [QG n1]; exact A1.ob
  have hrw : upd H1 S1.pc (HO.lst ((S1.cs.set (sl k.st S1.n c) ((S1.os.length : Nat) : Int)).map V.int)) S1.pr = some (.lst xs1) := by rw [QG (Ne.symm d1)]; exact h11
  have hhd : upd H1 S1.pc (HO.lst ((S1.cs.set (sl k.st S1.n c) ((S1.os.length : Nat) : Int)).map V.int)) S1.ph = some (.lst S1.hs) := by rw [QG (Ne.symm d2)]; exact A1.hh
  have hcm : upd H1 S1.pc (HO.lst ((S1.cs.set (sl k.st S1.n c) ((S1.os.length : Nat) : Int)).map V.int)) S1.pm = some (.lst (S1.ms.map V.int)) := by rw [QG (Ne.symm d3)]; exact A1.hm
  generalize upd H1 S1.pc (HO.lst ((S1.cs.set (sl k.st S1.n c) ((S1.os.length : Nat) : Int)).map V.int)) = H2 at b2 hcs hob hrw hhd hcm ⊢
  try walk_at "rd"
  rw [QX hob (T.cl tb) (T.n_came tb) zBR]
  try walk_at "rd"
  rw [Qj hob (T.cl tb) (T.n_came tb) JS, zCj]
  have hob3 := QD (H := H2) (a := p) (o := HO.ins (cA a tb) S1.dx (shF S1.pc S1.n S1.pr S1.ph S1.pm (S1.ca + 1) S1.we S1.ti S1.mo))
  have b3 : But p S1 H0 (upd H2 p (HO.ins (cA a tb) S1.dx (shF S1.pc S1.n S1.pr S1.ph S1.pm (S1.ca + 1) S1.we S1.ti S1.mo))) := fun b o e m0 m1 m2 m3 m4 => by rw [QG m0]; exact b2 b o e m0 m1 m2 m3 m4
  have hcs3 : upd H2 p (HO.ins (cA a tb) S1.dx (shF S1.pc S1.n S1.pr S1.ph S1.pm (S1.ca + 1) S1.we S1.ti S1.mo)) S1.pc = some (.lst ((S1.cs.set (sl k.st S1.n c) ((S1.os.length : Nat) : Int)).map V.int)) := by rw [QG (Ne.symm n1)]; exact hcs
  have hrw3 : upd H2 p (HO.ins (cA a tb) S1.dx (shF S1.pc S1.n S1.pr S1.ph S1.pm (S1.ca + 1) S1.we S1.ti S1.mo)) S1.pr = some (.lst xs1) := by rw [QG (Ne.symm n2)]; exact hrw
  have hhd3 : upd H2 p (HO.ins (cA a tb) S1.dx (shF S1.pc S1.n S1.pr S1.ph S1.pm (S1.ca + 1) S1.we S1.ti S1.mo)) S1.ph = some (.lst S1.hs) := by rw [QG (Ne.symm n3)]; exact hhd
  have hcm3 : upd H2 p (HO.ins (cA a tb) S1.dx (shF S1.pc S1.n S1.pr S1.ph S1.pm (S1.ca + 1) S1.we S1.ti S1.mo)) S1.pm = some (.lst (S1.ms.map V.int)) := by rw [QG (Ne.symm n4)]; exact hcm
  generalize upd H2 p (HO.ins (cA a tb) S1.dx (shF S1.pc S1.n S1.pr S1.ph S1.pm (S1.ca + 1) S1.we S1.ti S1.mo)) = H3 at b3 hob3 hcs3 hrw3 hhd3 hcm3 ⊢
  try walk_at "rd"
  rw [QX hob3 (T.cl tb) (T.n_row tb) zCr]
  try walk_at "rd"
  rw [zCc hrw3, Wt hrw3]
  refine ⟨True.intro, Qm (by omega), ?_⟩
  have b4 : But p S1 H0 (upd H3 S1.pr (HO.lst (xs1 ++ [x]))) := fun b o e m0 m1 m2 m3 m4 => by rw [QG m2]; exact b3 b o e m0 m1 m2 m3 m4
  have hob4 : upd H3 S1.pr (HO.lst (xs1 ++ [x])) p = some (.ins (cA a tb) S1.dx (shF S1.pc S1.n S1.pr S1.ph S1.pm (S1.ca + 1) S1.we S1.ti S1.mo)) := by rw [QG n2]; exact hob3
  have hcs4 : upd H3 S1.pr (HO.lst (xs1 ++ [x])) S1.pc = some (.lst ((S1.cs.set (sl k.st S1.n c) ((S1.os.length : Nat) : Int)).map V.int)) := by rw [QG d1]; exact hcs3
  have hrw4 := QD (H := H3) (a := S1.pr) (o := HO.lst (xs1 ++ [x]))
  have hhd4 : upd H3 S1.pr (HO.lst (xs1 ++ [x])) S1.ph = some (.lst S1.hs) := by rw [QG (Ne.symm d4)]; exact hhd3
  have hcm4 : upd H3 S1.pr (HO.lst (xs1 ++ [x])) S1.pm = some (.lst (S1.ms.map V.int)) := by rw [QG (Ne.symm d5)]; exact hcm3
  generalize upd H3 S1.pr (HO.lst (xs1 ++ [x])) = H4 at b4 hob4 hcs4 hrw4 hhd4 hcm4 ⊢
  try walk_at "rd"
  rw [QX hob4 (T.cl tb) (T.n_held tb) zA7]
  try walk_at "rd"
  rw [zCc hhd4, Wt hhd4]
  refine ⟨True.intro, Qm (by have := A.l1; omega), ?_⟩
  have b5 : But p S1 H0 (upd H4 S1.ph (HO.lst (S1.hs ++ [y]))) := fun b o e m0 m1 m2 m3 m4 => by rw [QG m3]; exact b4 b o e m0 m1 m2 m3 m4
  have hob5 : upd H4 S1.ph (HO.lst (S1.hs ++ [y])) p = some (.ins (cA a tb) S1.dx (shF S1.pc S1.n S1.pr S1.ph S1.pm (S1.ca + 1) S1.we S1.ti S1.mo)) := by rw [QG n3]; exact hob4
  have hcs5 : upd H4 S1.ph (HO.lst (S1.hs ++ [y])) S1.pc = some (.lst ((S1.cs.set (sl k.st S1.n c) ((S1.os.length : Nat) : Int)).map V.int)) := by rw [QG d2]; exact hcs4
  have hrw5 : upd H4 S1.ph (HO.lst (S1.hs ++ [y])) S1.pr = some (.lst (xs1 ++ [x])) := by rw [QG d4]; exact hrw4
  have hhd5 := QD (H := H4) (a := S1.ph) (o := HO.lst (S1.hs ++ [y]))
  have hcm5 : upd H4 S1.ph (HO.lst (S1.hs ++ [y])) S1.pm = some (.lst (S1.ms.map V.int)) := by rw [QG (Ne.symm d6)]; exact hcm4
  generalize upd H4 S1.ph (HO.lst (S1.hs ++ [y])) = H5 at b5 hob5 hcs5 hrw5 hhd5 hcm5 ⊢
  try walk_at "rd"
  rw [QX hob5 (T.cl tb) (T.n_comings tb) zAE]
  try walk_at "rd"
  rw [zCc hcm5, QX hob5 (T.cl tb) (T.n_came tb) zBR]
  refine ⟨True.intro, ?_⟩
  rw [Wt hcm5]
  refine ⟨Qm (by have := A.l2; rw [List.length_map]; omega), ?_⟩
  have b6 : But p S1 H0 (upd H5 S1.pm (HO.lst (S1.ms.map V.int ++ [V.int (S1.ca + 1)]))) := fun b o e m0 m1 m2 m3 m4 => by rw [QG m4]; exact b5 b o e m0 m1 m2 m3 m4
  refine qq c _ hc b6 ⟨?_, ?_, ⟨xs1 ++ [x], ?_, ?_⟩, ?_, ?_, A.ne, ?_, A.s8, ?_, ?_, ?_, ?_, ?_⟩
  ·rw [QG n4]; exact hob5
  ·show upd H5 S1.pm _ S1.pc = _
   rw [QG d3]; exact hcs5
  ·show upd H5 S1.pm _ S1.pr = _
   rw [QG d5]; exact hrw5
  ·exact (h2.same (A.tups b6)).snoc (hk.same (A.tups b6))
  ·show upd H5 S1.pm _ S1.ph = _
   rw [QG d6]; exact hhd5
  ·show upd H5 S1.pm _ S1.pm = some (.lst ((S1.ms ++ [S1.ca + 1]).map V.int))
   rw [QD, List.map_append]; rfl
  ·exact A.fm.put hn hc (by omega)
  ·show 3 * (S1.os ++ [some k]).length <= 2 * S1.n
   rw [List.length_append]; exact hrm
  ·show (S1.hs ++ [y]).length = (S1.os ++ [some k]).length
   rw [List.length_append, List.length_append, A.l1]; rfl
  ·show (S1.ms ++ [S1.ca + 1]).length = (S1.os ++ [some k]).length
   rw [List.length_append, List.length_append, A.l2]; rfl
  ·intro o ho
   rcases List.mem_append.mp ho with m | m
   ·exact A.dp o m
   ·rw [List.mem_singleton.mp m]; exact hd
  ·intro m hm
   rcases List.mem_append.mp hm with z | z
   ·have := A.cm m z
    show m <= S1.ca + 1
    omega
   ·rw [List.mem_singleton.mp z]; exact Int.le_refl _
theorem zKD (T : Txt K mg a)(G_checked : FnOk P w K mg base CX0 10 a.f_checked a.d_checked WA zI1)(G_Hplace : FnOk P w K mg base CX0 11 a.f_Hplace a.d_Hplace Wu (zKv (cA a tb)))(G_Hcome : FnOk P w K mg base CX0 13 a.f_Hcome a.d_Hcome zCV (zFc a tb)) : FnOk P w K mg base CX0 14 a.f_Hput a.d_Hput zEs (zC9 a tb) := by
 refine T.F_Hput.ok sc_Hput (fun vs H Q E h => ?_) (fun cdv A outer s H vs Q E hr h => ?_)
 ·obtain ⟨p, S, x, k, y, rfl, _⟩ := h
  rfl
 have nd := sc_Hput.nd
 obtain ⟨p, S, x, k, y, rfl, A, cn, c5, hsh, hk, hd, hok, q1, q2, q3⟩ := h
 refine ⟨_, (QB (QW (i := 3) nd rfl (Or.inl rfl) (Qr (pv 0) (T.cl tb) (T.M_Hplace tb) (G_Hplace.mono (by decide)) hr T.b_Hplace .nil QP (QA (QO (G_checked.mono (by decide)) hr rfl T.m_checked T.F_checked.kp T.b_checked .nil QP (QA (pv 1) QC)) QC)))
 (QB (QU (QT zCR (pv 3) Q6 (QR _)) (QB (Qn (Qr (pv 0) (T.cl tb) (T.M_Hcome tb) (G_Hcome.mono (by decide)) hr T.b_Hcome .nil QP (QA (pv 1) (QA (pv 2) QC))))
 (QF (QL Yg))) QN)
 (QB (WV (pv 2) (Wj (QS (pv 0) rfl) (pv 3) zDS))
 (QF (QL Yg))))), ?_⟩
 try walk_at "rd"
 rw [Yn A (by decide +kernel)]
 refine ⟨x, k, rfl, hk, hok, fun H1 g1 => ?_⟩
 refine ⟨p, S, x, k, rfl, A.same g1, hk.same g1.tups, hd, fun i hi H2 g2 => ?_, fun hn H2 g2 => ?_⟩
 ·have G := g1.trans g2
  have A2 := A.same G
  obtain ⟨n1, n2, n3, n4⟩ := A.lists
  obtain ⟨d1, d2, d3, d4, d5, d6⟩ := A.ne
  have hlt : i < S.hs.length := by rw [A.l1]; exact (List.getElem?_eq_some_iff.mp hi).1
  unfold plV
  try walk_at "rd"
  rw [zDD T A2]
  rw [Wm A2.hh rfl hlt]
  obtain ⟨xs, h1, h2⟩ := A2.hr
  have b : But p S H (upd H2 S.ph (HO.lst (S.hs.set i y))) := fun b o e m0 m1 m2 m3 m4 => by rw [QG m3]; exact G _ _ e
  have bt := A.tups b
  refine q1 i _ hi b ⟨?_, ?_, ⟨xs, ?_, ?_⟩, QD, ?_, A.ne, A.fm, A.s8, A.rm, ?_, A.l2, A.dp, A.cm⟩
  ·rw [QG n3]; exact A2.ob
  ·rw [QG d2]; exact A2.hc
  ·rw [QG d4]; exact h1
  ·exact h2.same (zBb A2.hh)
  ·rw [QG (Ne.symm d6)]; exact A2.hm
  ·show (S.hs.set i y).length = _
   rw [List.length_set]; exact A.l1
 ·have G := g1.trans g2
  unfold plV
  try walk_at "rd"
  rw [Yn (A.same G) (by decide +kernel)]
  refine ⟨p, S, x, k, y, rfl, A.same G, cn, c5, hsh, hk.same G.tups, hd, hn, fun hr c H3 hc b A3 => ?_, fun hf S1 c H3 td ks A3 => ?_⟩
  ·(try walk_at "rd")
   exact q2 c H3 hn hr hc (fun z o e m0 m1 m2 m3 m4 => b z o (G _ _ e) m0 m1 m2 m3 m4) A3
  ·(try walk_at "rd")
   exact q3 S1 c H3 ((Bool.eq_false_or_eq_true tb).resolve_right fun z => (by have := hsh z; omega)) hn hf td (fun z o e m => ks z o (G _ _ e) m) A3
end
section
variable {P : Program} {w : World} {K : W.Frag} {mg : Str -> Option Value} {base : Heap} {a : Ad} {tb : Bool}
theorem zGE (T : Txt K mg a) : FnOk P w K mg base CX0 1 a.f_Lsame a.d_Lsame Z8 (zHu 0) := by
 refine T.F_Lsame.ok sc_Lsame (fun vs H Q E h => ?_) (fun cdv A outer s H vs Q E hr h => ?_)
 ·obtain ⟨x, y, rfl, _⟩ := h
  rfl
 have nd := sc_Lsame.nd
 obtain ⟨x, y, rfl, hx, q⟩ := h
 obtain ⟨rfl, hx⟩ := hx
 have q0 := q H (Same.refl H)
 refine ⟨_, (QB (QU (PW.pt (zIF (Qa (QM QV rfl T.z_isinstance boot_isinstance (QA (pv 0) (QA (QY (v := .ty "bool") rfl T.z_bool boot_bool rfl) QC)))) (zEf (QT zH6 (QM QV rfl T.z_isinstance boot_isinstance (QA (pv 0) (QA (QY (v := .ty "tuple") rfl T.z_tuple boot_tuple rfl) QC))) (QM QV rfl T.z_isinstance boot_isinstance (QA (pv 1) (QA (QY (v := .ty "tuple") rfl T.z_tuple boot_tuple rfl) QC))) (QR _))))) (QF (QL Yg)) QN)
 (QB (QU (Qa (QM QV rfl T.z_isinstance boot_isinstance (QA (pv 1) (QA (QY (v := .ty "tuple") rfl T.z_tuple boot_tuple rfl) QC)))) (QF Yr) QN)
 (QF (QL (YH YC (pv 0) (pv 1) (QR _)))))), ?_⟩
 rcases hx with ⟨i, rfl⟩ | ⟨z, rfl⟩ | rfl
 ·(try walk_at "rd")
  exact q0
 ·(try walk_at "rd")
  exact q0
 ·(try walk_at "rd")
  exact q0
theorem zF0 {d k : Nat} (T : Txt K mg a)(G_Lsame : FnOk P w K mg base CX0 k a.f_Lsame a.d_Lsame Z8 (zHu d)) : FnOk P w K mg base CX0 (k + 1) a.f_Lsame a.d_Lsame Z8 (zHu (d + 1)) := by
 refine T.F_Lsame.ok sc_Lsame (fun vs H Q E h => ?_) (fun cdv A outer s H vs Q E hr h => ?_)
 ·obtain ⟨x, y, rfl, _⟩ := h
  rfl
 have nd := sc_Lsame.nd
 obtain ⟨x, y, rfl, hx, q⟩ := h
 rcases hx with ⟨rfl, hx⟩ | ⟨a1, b1, xs, ys, rfl, rfl, ha, hb, hl, h1000, h5⟩
 ·have q0 := q H (Same.refl H)
  refine ⟨_, (QB (QU (PW.pt (zIF (Qa (QM QV rfl T.z_isinstance boot_isinstance (QA (pv 0) (QA (QY (v := .ty "bool") rfl T.z_bool boot_bool rfl) QC)))) (zEf (QT zH6 (QM QV rfl T.z_isinstance boot_isinstance (QA (pv 0) (QA (QY (v := .ty "tuple") rfl T.z_tuple boot_tuple rfl) QC))) (QM QV rfl T.z_isinstance boot_isinstance (QA (pv 1) (QA (QY (v := .ty "tuple") rfl T.z_tuple boot_tuple rfl) QC))) (QR _))))) (QF (QL Yg)) QN)
  (QB (QU (Qa (QM QV rfl T.z_isinstance boot_isinstance (QA (pv 1) (QA (QY (v := .ty "tuple") rfl T.z_tuple boot_tuple rfl) QC)))) (QF Yr) QN)
  (QF (QL (YH YC (pv 0) (pv 1) (QR _)))))), ?_⟩
  rcases hx with ⟨i, rfl⟩ | ⟨z, rfl⟩ | rfl
  ·(try walk_at "rd")
   exact q0
  ·(try walk_at "rd")
   exact q0
  ·(try walk_at "rd")
   exact q0
 refine ⟨_, (QB (QU (PW.pt (zIF (Qa (QM QV rfl T.z_isinstance boot_isinstance (QA (pv 0) (QA (QY (v := .ty "bool") rfl T.z_bool boot_bool rfl) QC)))) (zEf (QT zH6 (QM QV rfl T.z_isinstance boot_isinstance (QA (pv 0) (QA (QY (v := .ty "tuple") rfl T.z_tuple boot_tuple rfl) QC))) (QM QV rfl T.z_isinstance boot_isinstance (QA (pv 1) (QA (QY (v := .ty "tuple") rfl T.z_tuple boot_tuple rfl) QC))) (QR _))))) (QF (QL Yg)) QN)
 (QB (QU (Qa (QM QV rfl T.z_isinstance boot_isinstance (QA (pv 1) (QA (QY (v := .ty "tuple") rfl T.z_tuple boot_tuple rfl) QC)))) (QF (QL (Za (YH YC (QM Qq rfl T.z_len PySem.boot_len (QA (pv 0) QC)) (QM Qq rfl T.z_len PySem.boot_len (QA (pv 1) QC)) (QR _)) (ZD (QM (zDj rfl) rfl T.z_all boot_all (QA (zIz "_law_one" "_law_two" [] [] rfl ⟨rfl, rfl, by decide +kernel, by decide +kernel, by decide +kernel, by decide +kernel, rfl, by decide +kernel⟩ rfl rfl rfl (zFs true true rfl T.z_zip (QA (pv 0) (QA (pv 1) QC))) (fun C s1 H1 fp => (QO G_Lsame hr rfl T.m_Lsame T.F_Lsame.kp T.b_Lsame .nil QP (QA (pv 0) (QA (pv 1) QC))))) QC)))))) QN)
 (QF (QL (YH YC (pv 0) (pv 1) (QR _)))))), ?_⟩
 try walk_at "rd"
 rw [Zb ha]
 try walk_at "rd"
 rw [Qg ha, Qg hb]
 try walk_at "rd"
 rw [Qg hb]
 try walk_at "rd"
 rw [zBd ha, zBd hb, hl]
 try walk_at "rd"
 refine ⟨⟨_, SqT.of ha⟩, ⟨_, SqT.of hb⟩, zBM (xs := xs) (ys := ys) hl (Nat.le_of_lt (Qm (by omega))) (fun i zs H2 => Same H H2 /\ zs.length <= i /\ zs = (List.replicate i true).map V.bl) ⟨Same.refl H, Nat.zero_le _, rfl⟩
  (fun i zs H2 _ h => ⟨SqT.of (h.1 _ _ ha), SqT.of (h.1 _ _ hb), h.2.1⟩) (fun i u v t zs H2 eu ev h ht => ?_) (fun zs H2 h => ?_)⟩
 ·obtain ⟨g, hz, rfl⟩ := h
  have g2 := g.trans (QI (o := HO.tup [u, v]) ht)
  try walk_at "rd"
  refine ⟨u, v, rfl, (h5 i u v eu ev).same g2.tups, fun H3 g3 => ⟨g2.trans g3, by rw [List.length_append, List.length_singleton]; omega, ?_⟩⟩
  exact zLe
 ·obtain ⟨g, hz, rfl⟩ := h
  intro l hl'
  refine ⟨l, _, rfl, SqL.of QD, ?_⟩
  rw [zJt]
  exact q _ (g.trans (QI hl'))
theorem zDM (T : Txt K mg a) : ∀ d : Nat, FnOk P w K mg base CX0 (d + 1) a.f_Lsame a.d_Lsame Z8 (zHu d)
 | 0 => zGE T
 | d + 1 => zF0 T (zDM T d)
end
section
variable {P : Program} {w : World} {K : W.Frag} {mg : Str -> Option Value} {base : Heap} {a : Ad} {tb : Bool}
theorem zC7 (T : Txt K mg a) : FnOk P w K mg base CX0 1 a.f_Lvalue_by a.d_Lvalue_by Zz zJK := by
 refine T.F_Lvalue_by.ok sc_Lvalue_by (fun vs H Q E h => ?_) (fun cdv A outer s H vs Q E hr h => ?_)
 ·obtain ⟨n, rfl, _⟩ := h
  rfl
 have nd := sc_Lvalue_by.nd
 obtain ⟨n, rfl, q⟩ := h
 refine ⟨_, (QB (QU (QT YC (QK Qh (pv 0) QE) QE (QR _)) (QF (QL Q6)) QN)
 (QB (QU (QT YC (QK Qh (pv 0) QE) QE (QR _)) (QF (QL Yb)) QN)
 (QB (QU (QT YC (QK Qh (pv 0) QE) QE (QR _)) (QF (QL (YK (QA (QK Qh (QK Qp (pv 0) QE) QE) (QA Yb QC))))) QN)
 (QB (QU (QT YC (QK Qh (pv 0) QE) QE (QR _)) (QF (QL (QK Yp (QK Qh (QK Qp (pv 0) QE) QE) QE))) QN)
 (QF (QL (QK Yf (QK Yp (QK Qh (QK Qp (pv 0) QE) (QK Yp (QK YW QE (QK We QE QE)) QE)) (QK We QE QE)) QE))))))), ?_⟩
 have q0 : ∀ v, Vl H n v -> Q v H := fun v h => q v H (Same.refl H) h
 try walk_at "rd"
 unfold Vl at q q0
 refine WI (fun h0 => q0 _ (by rw [if_pos h0])) (fun h0 => WI (fun h1 => q0 _ (by rw [if_neg h0, if_pos h1])) (fun h1 => WI (fun h2 => ⟨by decide, fun p hp => q _ _ (QI hp) (by rw [if_neg h0, if_neg h1, if_pos h2]; exact ⟨p, rfl, QD⟩)⟩) (fun h2 => WI (fun h3 => q0 _ (by rw [if_neg h0, if_neg h1, if_neg h2, if_pos h3])) (fun h3 => ⟨.inl ⟨by decide, by decide⟩, q0 _ (by rw [if_neg h0, if_neg h1, if_neg h2, if_neg h3]; rfl)⟩))))
theorem zI2 (T : Txt K mg a)(G_H__init__ : FnOk P w K mg base CX0 12 a.f_H__init__ a.d_H__init__ YN (zEV (cA a false)))(G_T__init__ : FnOk P w K mg base CX0 13 a.f_T__init__ a.d_T__init__ Zm (zE9 (cA a true))) : FnOk P w K mg base CX0 15 a.f_Lbook a.d_Lbook zCl (zI3 a) := by
 refine T.F_Lbook.ok sc_Lbook (fun vs H Q E h => ?_) (fun cdv A outer s H vs Q E hr h => ?_)
 ·obtain ⟨c, rfl, _⟩ := h
  rfl
 have nd := sc_Lbook.nd
 obtain ⟨c, rfl, q⟩ := h
 refine ⟨_, (QB (QU (QT YC (QK Qh (pv 0) QE) QE (QR _)) (QF (QL (zAd T.mk_Shelf (G_H__init__.mono (by decide)) hr rfl T.m_Shelf T.b_H__init___0 .nil QP (QA QE QC)))) QN)
 (QF (QL (zG3 T.mk_Table (G_T__init__.mono (by decide)) hr rfl T.m_Table T.b_T__init__ .nil QP)))), ?_⟩
 try walk_at "rd"
 refine WI (fun _ => ?_) (fun _ => ?_)
 ·intro p dx np nx ne
  refine ⟨p, dx, 512, rfl, QD, by unfold S8; omega, fun S H2 kp A en ecs eo eh em eca ewe eti emo => ⟨rfl, ?_⟩⟩
  have g2 : Same H H2 := fun b o e => kp b o (by rw [QG (QH e np), QG (QH e nx)]; exact e) (QH e np)
  exact q false p S H2 g2 A (fun _ => en) eo eh em eca ewe
 ·intro p dx np nx ne
  refine ⟨p, dx, rfl, QD, fun S H2 kp A en eo eh em eca ewe eti emo => ⟨rfl, ?_⟩⟩
  have g2 : Same H H2 := fun b o e => kp b o (by rw [QG (QH e np), QG (QH e nx)]; exact e) (QH e np)
  exact q true p S H2 g2 A (fun z => by cases z) eo eh em eca ewe
end
section
variable {P : Program} {w : World} {K : W.Frag} {mg : Str -> Option Value} {base : Heap} {a : Ad}
theorem zE1 (T : Txt K mg a) : FnOk P w K mg base CX0 1 a.f_Lkey_by a.d_Lkey_by Jo zJm := by
 refine T.F_Lkey_by.ok sc_Lkey_by (fun vs H Q E h => ?_) (fun cdv A outer s H vs Q E hr h => ?_)
 ·obtain ⟨w, n, rfl, _⟩ := h
  rfl
 have nd := sc_Lkey_by.nd
 obtain ⟨w, n, rfl, hb, q⟩ := h
 refine ⟨_, (QB (QW (i := 2) nd rfl (Or.inl rfl) (Y3 (QA Yb (QA Yb QC))))
 (QB (QW (i := 3) nd rfl (Or.inl rfl) (QK Qh (pv 1) QE))
 (QB (QU (QT YC (pv 0) QE (QR _)) (QF (QW (i := 0) nd rfl (Or.inl rfl) (QK Qh (QK Qp (pv 1) QE) QE))) QN)
 (QB (QU (PW.pt (zEx (QT YC (pv 0) QE (QR _)) (zDG (QT zBZ (pv 3) QE (QR _))))) (QF (QL (Qt YS (Y3 (QA (YK QC) (QA Yb (QA (YK (QA (YK (QA (YK (QA Yb QC)) QC)) QC)) QC)))) (QK Yp (pv 3) QE) (fun _ _ => rfl)))) QN)
 (QB (QU (QT YC (pv 0) QE (QR _)) (QF (QL (QK Yp (pv 3) QE))) QN)
 (QB (QU (QT YC (pv 0) QE (QR _)) (QF (QL (QK Yf QE (QK YW QE (QK Yp (pv 3) QE))))) QN)
 (QB (QU (QT YC (pv 0) QE (QR _)) (QF (QL (QK Yf QE (QK YW QE (pv 3))))) QN)
 (QB (QU (QT YC (pv 0) QE (QR _)) (QF (QL (QK Yf (QK Yp (QK Qh (QK zJ1 (pv 1) (QK We QE QE)) (QK Yp (QK YW QE (QK We QE QE)) QE)) (QK We QE QE)) QE))) QN)
 (QB (QU (QT YC (pv 0) QE (QR _)) (QB (QW (i := 4) nd rfl (Or.inl rfl) (QK ZT (Qt YS (pv 2) (QK Qh (pv 3) QE) (fun _ _ => rfl)) (Qt YS (pv 2) (QK Qh (QK Qp (pv 3) QE) QE) (fun _ _ => rfl))))
 (QB (QW (i := 4) nd rfl (Or.inl rfl) (QK ZT (QK ZT (pv 4) (Qt YS (pv 2) (QK Qh (QK Qp (pv 3) QE) QE) (fun _ _ => rfl))) (Qt YS (pv 2) (QK Qh (QK Qp (pv 3) QE) QE) (fun _ _ => rfl))))
 (QF (QL (QK ZT (pv 4) (QK zDA Yb (QK Qp (pv 3) QE))))))) QN)
 (QF (QL (YK (QA (YK (QA (QK Qh (pv 3) QE) (QA (QK zDA Yb (QK Qh (QK Qp (pv 3) QE) QE)) (QA (YK (QA (QK Qp (pv 3) QE) QC)) QC)))) (QA (QK zDA Yb (QK YW (QK Qp (pv 3) QE) QE)) (QA (YK QC) (QA Yb (QA QE (QA (QK Qh (pv 3) QE) QC)))))))))))))))))), ?_⟩
 revert w
 have hne : ¬ n / 23 % 6 = 6 := by omega
 have split6 : ∀ P : Int -> Prop, (∀ w, ¬ w = 6 -> P w) -> (P (n / 23 % 6) -> P 6) -> ∀ w, P w := fun P h1 h2 w => by
  by_cases h : w = 6
  ·subst h; exact h2 (h1 _ hne)
  ·exact h1 w h
 refine split6 _ (fun w h6 q => ?_) (fun hP q => ?_)
 ·clear hne split6
  have qk : ∀ v H', Same H H' -> IsK H' (kyW w n) v -> Q v H' := fun v H' g h => q v H' g (by unfold kyF; rw [if_neg h6]; exact h)
  clear q
  (iterate 4 ((try simp only [h6, if_false]); (try walk_at "rd")))
  refine ⟨by decide, fun l0 hl0 => ?_⟩
  have g0 := QI (o := HO.lst [V.str (Str.ofString "ab"), V.str (Str.ofString "bC")]) hl0
  have hl1 := QD (H := H) (a := l0) (o := HO.lst [V.str (Str.ofString "ab"), V.str (Str.ofString "bC")])
  generalize upd H l0 (HO.lst [V.str (Str.ofString "ab"), V.str (Str.ofString "bC")]) = H1 at g0 hl1 ⊢
  by_cases h0 : w = 0
  ·rw [if_pos h0]
   by_cases hn : 19 < n % 23
   ·rw [if_pos hn]
    have h0' := h0
    refine ⟨by decide, fun p0 h0 => ⟨by decide, fun p1 h1 => ⟨by decide, fun p2 h2 => ⟨by decide, fun p3 h3 => ⟨by decide, fun p4 h4 => ?_⟩⟩⟩⟩⟩
    have u0 := QI (o := HO.tup []) h0
    have u1 := QI (o := HO.tup [V.str (Str.ofString "")]) h1
    have u2 := QI (o := HO.tup [V.ref p1]) h2
    have u3 := QI (o := HO.tup [V.ref p2]) h3
    have u4 := QI (o := HO.lst [V.ref p0, V.str (Str.ofString ""), V.ref p3]) h4
    have e0 := u4 _ _ (u3 _ _ (u2 _ _ (u1 _ _ (QD (H := H1) (a := p0) (o := HO.tup [])))))
    have e1 := u4 _ _ (u3 _ _ (u2 _ _ (QD (H := upd H1 p0 (HO.tup [])) (a := p1) (o := HO.tup [V.str (Str.ofString "")]))))
    have e2 := u4 _ _ (u3 _ _ (QD (H := upd (upd H1 p0 (HO.tup [])) p1 (HO.tup [V.str (Str.ofString "")])) (a := p2) (o := HO.tup [V.ref p1])))
    have e3 := u4 _ _ (QD (H := upd (upd (upd H1 p0 (HO.tup [])) p1 (HO.tup [V.str (Str.ofString "")])) p2 (HO.tup [V.ref p1])) (a := p3) (o := HO.tup [V.ref p2]))
    have e4 := QD (H := upd (upd (upd (upd H1 p0 (HO.tup [])) p1 (HO.tup [V.str (Str.ofString "")])) p2 (HO.tup [V.ref p1])) p3 (HO.tup [V.ref p2])) (a := p4) (o := HO.lst [V.ref p0, V.str (Str.ofString ""), V.ref p3])
    have G := g0.trans (u0.trans (u1.trans (u2.trans (u3.trans u4))))
    generalize upd (upd (upd (upd (upd H1 p0 (HO.tup [])) p1 (HO.tup [V.str (Str.ofString "")])) p2 (HO.tup [V.ref p1])) p3 (HO.tup [V.ref p2])) p4 (HO.lst [V.ref p0, V.str (Str.ofString ""), V.ref p3]) = H2 at e0 e1 e2 e3 e4 G ⊢
    have hm : n % 23 - 20 = 0 \/ n % 23 - 20 = 1 \/ n % 23 - 20 = 2 := by omega
    have e9 : kyW w n = ky0 n := by unfold kyW; rw [if_pos h0', if_pos hn]
    rw [e9] at qk
    unfold ky0 at qk
    rcases hm with hm | hm | hm
    ·rw [hm, Qz e4 (v := V.ref p0) rfl]
     rw [if_pos hm] at qk
     exact qk _ H2 G (Yh e0 (by decide) IsKs.nil)
    ·rw [hm, Qz e4 (v := V.str (Str.ofString "")) rfl]
     rw [if_neg (by omega), if_pos hm] at qk
     exact qk _ H2 G Z4
    ·rw [hm, Qz e4 (v := V.ref p3) rfl]
     rw [if_neg (by omega), if_neg (by omega)] at qk
     exact qk _ H2 G (Yh e3 (show 1 <= 1000 by decide) ⟨_, _, rfl, Yh e2 (show 1 <= 1000 by decide) ⟨_, _, rfl, Yh e1 (show 1 <= 1000 by decide) ⟨_, _, rfl, Z4, rfl⟩, rfl⟩, rfl⟩)
   ·rw [if_neg hn, if_pos h0]
    exact qk _ _ g0 (by rw [show kyW w n = .num (n % 23 - 9) from by unfold kyW; rw [if_pos h0, if_neg hn]]; exact YX)
  rw [if_neg h0, if_neg h0]
  by_cases h1 : w = 1
  ·rw [if_pos h1]
   exact ⟨.inl ⟨by decide, by decide⟩, qk _ _ g0 (by rw [show kyW w n = _ from by unfold kyW; rw [if_neg h0, if_pos h1]]; exact YX)⟩
  rw [if_neg h1]
  by_cases h2 : w = 2
  ·rw [if_pos h2]
   exact ⟨.inl ⟨by decide, by decide⟩, qk _ _ g0 (by rw [show kyW w n = _ from by unfold kyW; rw [if_neg h0, if_neg h1, if_pos h2]]; exact YX)⟩
  rw [if_neg h2]
  by_cases h3 : w = 3
  ·rw [if_pos h3]
   refine ⟨⟨by decide, by decide, by decide⟩, ⟨hb, by decide +kernel⟩, .inl ⟨by decide, by decide⟩, ?_⟩
   rw [show kyW w n = _ from by unfold kyW; rw [if_neg h0, if_neg h1, if_neg h2, if_pos h3]] at qk
   exact qk _ _ g0 YX
  rw [if_neg h3]
  by_cases h4 : w = 4
  ·rw [if_pos h4]
   exact zMq hl1 (qk _ _ g0 (by rw [show kyW w n = _ from by unfold kyW; rw [if_neg h0, if_neg h1, if_neg h2, if_neg h3, if_pos h4]]; exact Z4))
  rw [if_neg h4]
  exact zMr g0 (by rw [show kyW w n = _ from by unfold kyW; rw [if_neg h0, if_neg h1, if_neg h2, if_neg h3, if_neg h4]] at qk; exact qk)
 ·have hP := hP fun v H' g h => q v H' g (by unfold kyF at h ⊢; rw [if_neg hne] at h; rw [if_pos rfl]; exact h)
  clear q
  walk_at "rd"
  simp only [hne, if_false, L2.zDn, L2.tC, L2.tOp, L2.tUn, L2.rI, L2.rI0, L2.rU, L2.zHl, L2.tB, L2.zLN, L2.tOr, L2.zKu, L2.zH4, L2.zLt, L2.zIS, L2.tIf, L2.zIt, L2.zLA, L2.zKJ, L2.zKc, L2.zKs, L2.Zd, L2.zBh, L2.zFR, L2.tCB, L2.zF6, L2.zDw, L2.zHx, L2.zJI, L2.zLa, L2.Zf, L2.tSl, L2.zIj, L2.zE4, L2.zAb, L2.zE6, L2.zG2, L2.zHn, L2.zFX, L2.zFv, L2.zLG, L2.zE8, L2.zG5, L2.zFw, L2.zFN, L2.zLI, L2.J4, L2.Yj, L2.zDO, L2.zLT, L2.zFe, L2.tBM, L2.zMO, Option.getD_some, L2.zIs, L2.zLr, L2.zIA, L2.zKk,
 Int.reduceLT, Int.reduceLE, Int.reduceToNat, Int.reducePow, Int.reduceMul, Int.reduceSub, Int.reduceAdd, Int.reduceNeg, Int.reduceEq, Int.reduceNe, Int.reduceDiv, Int.reduceMod, Nat.reduceLT, Nat.reducePow, Nat.reduceLeDiff, Nat.reduceMul,
 List.map_cons, List.map_nil, List.length_cons, List.length_nil, List.cons_append, List.nil_append, Nat.zero_add, Nat.reduceAdd, Nat.reduceSub, Nat.sub_self, List.replicate_succ, List.replicate_zero, List.append_nil, List.getElem?_cons_zero, List.getElem?_cons_succ, List.set_cons_zero, List.set_cons_succ,
 Option.some.injEq, L2.V.int.injEq, L2.V.bl.injEq, L2.V.str.injEq, L2.V.ref.injEq, and_assoc, exists_and_left, exists_eq', exists_eq, exists_eq_left, exists_eq_left', decide_eq_true_eq, Bool.not_eq_true', decide_eq_false_iff_not, ↓reduceIte, Bool.false_eq_true, if_true, if_false, Bool.not_true, Bool.not_false, true_and, and_true, List.cons.injEq, Bool.true_eq_false, reduceCtorEq, decide_true, decide_false, L2.zHS, L2.J6, L2.WL, L2.zAC, L2.Wy, L2.zAr, L2.Ws, L2.zBP, L2.Jy, L2.Jx, L2.WQ, L2.zAA, L2.JR, L2.J7, L2.WP, L2.zAB, L2.Wx, L2.Q5, L2.Qg, L2.Yz, L2.Zb, L2.Yy, L2.YY, L2.Yw, L2.W8, L2.ZK, L2.Yk, L2.ZB, L2.J1, zCw, L2.zJy, L2.zDm, L2.zJY, L2.zLU, L2.zEI, L2.zHh, L2.zHg, L2.zII, L2.zHF, L2.zCJ, L2.zK1, L2.zIf, L2.zFx, L2.zCp, L2.zIV, L2.zMK, L2.zKh, L2.zFi, L2.zIL, L2.zHa, L2.zIp, L2.zIi, L2.zL9, L2.Zo, L2.zIO, L2.Ja, L2.zKf, L2.zFD, L2.JF, L2.J2, L2.W9, L2.JM, L2.zIP, L2.tKM, L2.zLd, L2.zDp] at hP
  exact hP
end
theorem zLK {P : Program} {w : World} {K : W.Frag} {mg : Str -> Option Value} {base : Heap} {a : Ad} (T : Txt K mg a) : FnOk P w K mg base CX0 18 a.f_law a.d_law zHZ (zDU K) :=
 have c := zDV T
 have pb := zHp T (zGj T)
 have st := JL T 3
 have pap := zG1 T st pb (zGm T)
 have plo := zDo T pap
 have ce := zDc T (zEo T (zBt T)) (zFU T) (zAy T st pb)
 have ky := zF7 T (Zr T 3)
 have ch := zEJ T ky
 have pl := fun tb => zF8 (tb := tb) T plo
 have wr := fun tb => zGw (tb := tb) T pap
 have ly := fun tb => zDd (tb := tb) T ce
 have mn := fun tb => zIZ (tb := tb) T
 have en := fun tb => zDf (tb := tb) T
 have mk := fun tb => zCn (tb := tb) T (mn tb) (zGy T) (zDK T) (ly tb)
 have pt := fun tb => zKD (tb := tb) T ch (pl tb) (zHi T (zFU T) (mk tb) (wr tb))
 have su := fun tb => zAM (tb := tb) T ch (pl tb)
 have tk := fun tb => zGU (tb := tb) T (su tb) (wr tb)
 have ah := fun tb => zG0 (tb := tb) T (en tb)
 have tl := fun tb => zBQ (tb := tb) T (ah tb) (tk tb)
 have em := fun tb => zDX (tb := tb) T (mn tb) (zAJ T) (ly tb)
 have kb := zE1 T
 have vb := zC7 T
 have ini := fun tb => zC8 (tb := tb) T (ly tb)
 have cn := WJ T fun tb => zEN T (mn tb)
 have nx := Wd T ah fun tb => zGb T (en tb)
 zMX T c (zI2 T (ini false) (zCY T (ini true))) (zG7 T kb vb pt tk em tl) (Jq T cn) (zEp T (zCW T cn nx) (zDM T 4))
theorem zMJ {us : List Value} (h : us.length = 0) : us = [] := List.length_eq_zero_iff.mp h
theorem zKm {us : List Value} (h : us.length = 1) : ∃ u0, us = [u0] := match us, h with | [u0], _ => ⟨u0, rfl⟩
theorem zIo {us : List Value} (h : us.length = 2) : ∃ u0 u1, us = [u0, u1] := match us, h with | [u0, u1], _ => ⟨u0, u1, rfl⟩
theorem zKb {us : List Value} (h : us.length = 3) : ∃ u0 u1 u2, us = [u0, u1, u2] := match us, h with | [u0, u1, u2], _ => ⟨u0, u1, u2, rfl⟩
theorem zKa {us : List Value} (h : us.length = 4) : ∃ u0 u1 u2 u3, us = [u0, u1, u2, u3] := match us, h with | [u0, u1, u2, u3], _ => ⟨u0, u1, u2, u3, rfl⟩
theorem zMM {us : List Value} (h : us.length = 5) : ∃ u0 u1 u2 u3 u4, us = [u0, u1, u2, u3, u4] := match us, h with | [u0, u1, u2, u3, u4], _ => ⟨u0, u1, u2, u3, u4, rfl⟩
theorem zL5 {us : List Value} (h : us.length = 6) : ∃ u0 u1 u2 u3 u4 u5, us = [u0, u1, u2, u3, u4, u5] := match us, h with | [u0, u1, u2, u3, u4, u5], _ => ⟨u0, u1, u2, u3, u4, u5, rfl⟩
theorem zML {us : List Value} (h : us.length = 7) : ∃ u0 u1 u2 u3 u4 u5 u6, us = [u0, u1, u2, u3, u4, u5, u6] := match us, h with | [u0, u1, u2, u3, u4, u5, u6], _ => ⟨u0, u1, u2, u3, u4, u5, u6, rfl⟩
structure FK (K : W.Frag) (f : Addr) (x q : Str) (st : Stmt) (df : Value) where
 {oc kV dc pm cd ct : Value}
 {od an : Option Addr}
 {sl : Array (Option Value)}
 l : K.lookup f = some ⟨oc, od, .func (W.fnOf x q (Q9 st) (Qy st) (QJ st) df kV dc pm an cd ct), sl⟩
 c : W.codeIn K cd q = true
 k : W.keepIn K (.ref f) = true
section
variable {K : W.Frag} {f : Addr} {x q : Str} {st : Stmt}
abbrev FK.d {df : Value} (F : FK K f x q st df) : FuncData := W.fnOf x q (Q9 st) (Qy st) (QJ st) df F.kV F.dc F.pm F.an F.cd F.ct
theorem FK.fn (F : FK K f x q st .none) : Fun K x q st f F.d := zLM F.l F.c F.k
theorem FK.fnD {T : Addr} {ot : Value} {dt : Option Addr} {nt : Nat} {slt : Array (Option Value)} {ds : List Value} (F : FK K f x q st (.ref T)) (L : K.lookup T = some ⟨ot, dt, .seq ds.toArray nt, slt⟩) : FunD K x q st f F.d ds := zJv F.l F.c F.k L rfl
end
structure FG (K : W.Frag) (f : Addr) (x : Str) (st : Stmt) extends FK K f x x st .none where
 a : W.nsIn K mainGlobals x = some (some (.ref f))
structure FM (K : W.Frag) (f r : Addr) (x q : Str) (st : Stmt) (df : Value) extends FK K f x q st df where
 a : W.findIn K (.ref r) x = some (some (.ref f))
 i : W.isFn K (.ref f) = true
structure FD (K : W.Frag) (f r r' : Addr) (x q : Str) (st : Stmt) extends FM K f r x q st .none where
 e : W.findIn K (.ref r') x = some (some (.ref f))
local macro_rules | `(tactic| walk_at "b0") => `(tactic| exact fun _ _ _ _ _ _ us hl => by have e := zMJ hl; subst e; rfl)
local macro_rules | `(tactic| walk_at "b1") => `(tactic| exact fun _ _ _ _ _ _ us hl => by obtain ⟨u0, e⟩ := zKm hl; subst e; rfl)
local macro_rules | `(tactic| walk_at "b2") => `(tactic| exact fun _ _ _ _ _ _ us hl => by obtain ⟨u0, u1, e⟩ := zIo hl; subst e; rfl)
local macro_rules | `(tactic| walk_at "b3") => `(tactic| exact fun _ _ _ _ _ _ us hl => by obtain ⟨u0, u1, u2, e⟩ := zKb hl; subst e; rfl)
local macro_rules | `(tactic| walk_at "b4") => `(tactic| exact fun _ _ _ _ _ _ us hl => by obtain ⟨u0, u1, u2, u3, e⟩ := zKa hl; subst e; rfl)
local macro_rules | `(tactic| walk_at "b5") => `(tactic| exact fun _ _ _ _ _ _ us hl => by obtain ⟨u0, u1, u2, u3, u4, e⟩ := zMM hl; subst e; rfl)
local macro_rules | `(tactic| walk_at "b6") => `(tactic| exact fun _ _ _ _ _ _ us hl => by obtain ⟨u0, u1, u2, u3, u4, u5, e⟩ := zL5 hl; subst e; rfl)
local macro_rules | `(tactic| walk_at "b7") => `(tactic| exact fun _ _ _ _ _ _ us hl => by obtain ⟨u0, u1, u2, u3, u4, u5, u6, e⟩ := zML hl; subst e; rfl)
theorem zLm {K : W.Frag} {h : Heap} {mg : Str -> Option Value} (X : K.In h) (G : h.Ns mainGlobals mg)
  {r_Walk : Addr} (aC_Walk : W.nsIn K mainGlobals "Walk" = some (some (.ref r_Walk)))
  {r_Shelf : Addr} (aC_Shelf : W.nsIn K mainGlobals "Shelf" = some (some (.ref r_Shelf)))
  {r_Table : Addr} (aC_Table : W.nsIn K mainGlobals "Table" = some (some (.ref r_Table)))
  {f0 f1 f2 f3 f4 f5 f6 f7 f8 f9 f10 f11 f12 f13 f14 f15 f16 f17 f18 f19 f20 f21 f22 f23 f24 f25 f26 f27 f28 f29 f30 f31 f32 f33 f34 f35 f36 f37 f38 f39 f40 f41 f42 f43 f44 f45 f46 f47 f48 f49 f50 : Addr}
  (F0 : FG K f0 "is_key" zBK)
  (F1 : FG K f1 "checked" Ji)
  (F2 : FG K f2 "is_part" Jb)
  (F3 : FG K f3 "are_parts" Zq)
  (F4 : FG K f4 "is_number" Zv)
  (F5 : FG K f5 "is_size" JT)
  (F6 : FG K f6 "room" zEP)
  (F7 : FG K f7 "size_for" Wa)
  (F8 : FG K f8 "stride" zBY)
  (F9 : FG K f9 "probe" zC6)
  (F10 : FG K f10 "stamp" zC1)
  (F11 : FG K f11 "text_stamp" ZM)
  (F12 : FG K f12 "tuple_stamp" Y0)
  (F13 : FG K f13 "cells_of" Wi)
  (F14 : FG K f14 "first_empty" Y8)
  (F15 : FG K f15 "paper" zC5)
  (F16 : FG K f16 "is_end" zAl)
  (F17 : FG K f17 "place_of" WW)
  (F18 : FG K f18 "packed" zAv)
  {T19 : Addr} {oT19 : Value} {dT19 : Option Addr} {nT19 : Nat} {sT19 : Array (Option Value)}
  {u_H__init___0 : Tok}
  (rd19 : PySem.W.readsIn K r_Shelf (.type "type") = true) (sg19 : PySem.W.specialIn K (.ref r_Shelf) "__getattribute__" = some (some (.builtin "type.__getattribute__"))) (fc19 : PySem.W.findCls K (.ref r_Shelf) (.type "type") "__init__" = some (.val (.ref f19)))
  (F19 : FM K f19 r_Shelf "__init__" "Shelf.__init__" Zs (.ref T19))
  (L19 : K.lookup T19 = some ⟨oT19, dT19, .seq #[.int 8 u_H__init___0] nT19, sT19⟩)
  (F20 : FD K f20 r_Shelf r_Table "lay_out" "Shelf.lay_out" WZ)
  (F21 : FD K f21 r_Shelf r_Table "put" "Shelf.put" zEh)
  (F22 : FD K f22 r_Shelf r_Table "take" "Shelf.take" zCq)
  (F23 : FD K f23 r_Shelf r_Table "take_last" "Shelf.take_last" ZP)
  (F24 : FD K f24 r_Shelf r_Table "emptied" "Shelf.emptied" Wb)
  (F25 : FD K f25 r_Shelf r_Table "many" "Shelf.many" zCo)
  (F26 : FD K f26 r_Shelf r_Table "ahead" "Shelf.ahead" zAi)
  (F27 : FD K f27 r_Shelf r_Table "after" "Shelf.after" zA9)
  (F28 : FD K f28 r_Shelf r_Table "counts" "Shelf.counts" Jk)
  (F29 : FD K f29 r_Shelf r_Table "entries" "Shelf.entries" Wc)
  (F30 : FD K f30 r_Shelf r_Table "place" "Shelf.place" zBD)
  (F31 : FD K f31 r_Shelf r_Table "sure_place" "Shelf.sure_place" Y5)
  (F32 : FD K f32 r_Shelf r_Table "come" "Shelf.come" zCx)
  (F33 : FD K f33 r_Shelf r_Table "write" "Shelf.write" zBJ)
  (F34 : FM K f34 r_Shelf "size_emptied" "Shelf.size_emptied" Yd .none)
  (F35 : FM K f35 r_Shelf "make_room" "Shelf.make_room" ZL .none)
  (F36 : FM K f36 r_Table "__init__" "Table.__init__" Zt .none)
  (F37 : FM K f37 r_Table "size_emptied" "Table.size_emptied" Ye .none)
  (F38 : FM K f38 r_Table "make_room" "Table.make_room" ZG .none)
  {T39 : Addr} {oT39 : Value} {dT39 : Option Addr} {nT39 : Nat} {sT39 : Array (Option Value)}
  (F39 : FM K f39 r_Walk "__init__" "Walk.__init__" Yc (.ref T39))
  (L39 : K.lookup T39 = some ⟨oT39, dT39, .seq #[.bool false, .bool false] nT39, sT39⟩)
  (F40 : FM K f40 r_Walk "step" "Walk.step" Zj .none)
  (F41 : FM K f41 r_Walk "next_entry" "Walk.next_entry" YO .none)
  (F42 : FM K f42 r_Walk "changes_now" "Walk.changes_now" YI .none)
  (F43 : FG K f43 "_law_cell_at" Wf)
  (F44 : FG K f44 "_law_same" zC0)
  (F45 : FG K f45 "_law_key_by" Jt)
  (F46 : FG K f46 "_law_value_by" Zk)
  (F47 : FG K f47 "_law_book" zC2)
  (F48 : FG K f48 "_law_deed" zCP)
  (F49 : FG K f49 "_law_walked" Je)
  (F50 : FG K f50 "law" JB)
  (y_paper_slots : W.nsIn K mainGlobals "paper_slots" = some (some (.ref f15)))
  (pg_Walk : W.plainGet K r_Walk Str.empty = true) (hd_Walk : PySem.W.hasDictIn K r_Walk = true) (po_Walk : PySem.W.plainOver K r_Walk = true) (sa_Walk : W.findIn K (.ref r_Walk) "__setattr__" = some (some (.builtin "object.__setattr__"))) (mk_Walk : PySem.W.makesIn K r_Walk = true) (kc_Walk : W.keepIn K (.ref r_Walk) = true)
  (n_Walk_back : W.findIn K (.ref r_Walk) "back" = some none)
  (n_Walk_book : W.findIn K (.ref r_Walk) "book" = some none)
  (n_Walk_changes : W.findIn K (.ref r_Walk) "changes" = some none)
  (n_Walk_last : W.findIn K (.ref r_Walk) "last" = some none)
  (n_Walk_over : W.findIn K (.ref r_Walk) "over" = some none)
  (n_Walk_strict : W.findIn K (.ref r_Walk) "strict" = some none)
  (pg_Shelf : W.plainGet K r_Shelf Str.empty = true) (hd_Shelf : PySem.W.hasDictIn K r_Shelf = true) (po_Shelf : PySem.W.plainOver K r_Shelf = true) (sa_Shelf : W.findIn K (.ref r_Shelf) "__setattr__" = some (some (.builtin "object.__setattr__"))) (mk_Shelf : PySem.W.makesIn K r_Shelf = true) (kc_Shelf : W.keepIn K (.ref r_Shelf) = true)
  (n_Hcame : W.findIn K (.ref r_Shelf) "came" = some none)
  (n_Hcells : W.findIn K (.ref r_Shelf) "cells" = some none)
  (n_Hcomings : W.findIn K (.ref r_Shelf) "comings" = some none)
  (n_Hheld : W.findIn K (.ref r_Shelf) "held" = some none)
  (n_Hmoved : W.findIn K (.ref r_Shelf) "moved" = some none)
  (n_Hrow : W.findIn K (.ref r_Shelf) "row" = some none)
  (n_Hsize : W.findIn K (.ref r_Shelf) "size" = some none)
  (n_Htidyings : W.findIn K (.ref r_Shelf) "tidyings" = some none)
  (n_Hwent : W.findIn K (.ref r_Shelf) "went" = some none)
  (pg_Table : W.plainGet K r_Table Str.empty = true) (hd_Table : PySem.W.hasDictIn K r_Table = true) (po_Table : PySem.W.plainOver K r_Table = true) (sa_Table : W.findIn K (.ref r_Table) "__setattr__" = some (some (.builtin "object.__setattr__"))) (mk_Table : PySem.W.makesIn K r_Table = true) (kc_Table : W.keepIn K (.ref r_Table) = true)
  (n_Tcame : W.findIn K (.ref r_Table) "came" = some none)
  (n_Tcells : W.findIn K (.ref r_Table) "cells" = some none)
  (n_Tcomings : W.findIn K (.ref r_Table) "comings" = some none)
  (n_Theld : W.findIn K (.ref r_Table) "held" = some none)
  (n_Tmoved : W.findIn K (.ref r_Table) "moved" = some none)
  (n_Trow : W.findIn K (.ref r_Table) "row" = some none)
  (n_Tsize : W.findIn K (.ref r_Table) "size" = some none)
  (n_Ttidyings : W.findIn K (.ref r_Table) "tidyings" = some none)
  (n_Twent : W.findIn K (.ref r_Table) "went" = some none)
  (z_all : W.nsIn K mainGlobals "all" = some none)
  (z_bool : W.nsIn K mainGlobals "bool" = some none)
  (z_enumerate : W.nsIn K mainGlobals "enumerate" = some none)
  (z_int : W.nsIn K mainGlobals "int" = some none)
  (z_isinstance : W.nsIn K mainGlobals "isinstance" = some none)
  (z_len : W.nsIn K mainGlobals "len" = some none)
  (z_list : W.nsIn K mainGlobals "list" = some none)
  (z_ord : W.nsIn K mainGlobals "ord" = some none)
  (z_range : W.nsIn K mainGlobals "range" = some none)
  (z_reversed : W.nsIn K mainGlobals "reversed" = some none)
  (z_str : W.nsIn K mainGlobals "str" = some none)
  (z_tuple : W.nsIn K mainGlobals "tuple" = some none)
  (z_zip : W.nsIn K mainGlobals "zip" = some none)
  {t_DEEPEST : Tok} (v_DEEPEST : W.nsIn K mainGlobals "DEEPEST" = some (some (.int 3 t_DEEPEST)))
  {t_EMPTY : Tok} (v_EMPTY : W.nsIn K mainGlobals "EMPTY" = some (some (.int (-1) t_EMPTY)))
  {t_GONE : Tok} (v_GONE : W.nsIn K mainGlobals "GONE" = some (some (.int (-2) t_GONE)))
  {t_GREATEST : Tok} (v_GREATEST : W.nsIn K mainGlobals "GREATEST" = some (some (.int 4096 t_GREATEST)))
  {t_LEAST : Tok} (v_LEAST : W.nsIn K mainGlobals "LEAST" = some (some (.int 8 t_LEAST)))
  {t_MOST_PARTS : Tok} (v_MOST_PARTS : W.nsIn K mainGlobals "MOST_PARTS" = some (some (.int 6 t_MOST_PARTS)))
  {t_MOST_SIGNS : Tok} (v_MOST_SIGNS : W.nsIn K mainGlobals "MOST_SIGNS" = some (some (.int 60 t_MOST_SIGNS)))
  {t_TURN : Tok} (v_TURN : W.nsIn K mainGlobals "TURN" = some (some (.int 2147483647 t_TURN)))
  {r_Lacking N_Lacking : Addr} {nm_Lacking q_Lacking : Str} {bs_Lacking bm_Lacking : List Value} {hd_Lacking : Bool} {sn_Lacking : List Str} {sub_Lacking : List Value} {ab_Lacking : Bool} {col_Lacking : Option Bool} {dd_Lacking : Option Addr} {k0_Lacking k1_Lacking k2_Lacking k3_Lacking k5_Lacking : Option Value} {id_Lacking : String}
  (g_Lacking : W.nsIn K mainGlobals "Lacking" = some (some (.ref r_Lacking))) (o_Lacking : K.lookup r_Lacking = some (excClassObj nm_Lacking q_Lacking r_Lacking N_Lacking bs_Lacking bm_Lacking hd_Lacking sn_Lacking sub_Lacking ab_Lacking col_Lacking dd_Lacking k0_Lacking k1_Lacking k2_Lacking k3_Lacking k5_Lacking id_Lacking))
  (e_Lacking : PySem.W.excIn K r_Lacking VE "ValueError.__new__" = true) (y_Lacking : PySem.W.typeIn K (.ref r_Lacking) = some (.type "type")) (mo_Lacking : W.mroIn K r_Lacking (.type "object") = some true)
  (ga_Lacking : W.findIn K (.ref r_Lacking) "__getattribute__" = some (some (.builtin "BaseException.__getattribute__"))) (gh_Lacking : W.findIn K (.ref r_Lacking) "__getattr__" = some none) (fc_Lacking : W.findIn K (.ref r_Lacking) "__class__" = some (some (.builtin "object.__class__")))
  (sg_Lacking : PySem.W.specialIn K (.builtin "object.__class__") "__get__" = some (some (.builtin "getset_descriptor.__get__"))) (tk_Lacking : PySem.W.takesIn K (.builtin "object.__class__") = some true) (mb_Lacking : W.mroIn K r_Lacking (.type "BaseException") = some true) (vt_Lacking : W.mroIn K r_Lacking (.type "ValueError") = some true)
  (su_Lacking_Lacking : W.mroIn K r_Lacking (.ref r_Lacking) = some true)
  : ∃ a : Ad, Txt K mg a /\ a.f_law = f50 /\ a.d_law = W.fnOf "law" "law" (Q9 JB) (Qy JB) (QJ JB) .none F50.kV F50.dc F50.pm F50.an F50.cd F50.ct := by
 have m {n : Str} {v : Value} (e : W.nsIn K mainGlobals n = some (some v)) := PySem.W.mg_of X G e
 have z {n : Str} (e : W.nsIn K mainGlobals n = some none) := PySem.W.mg_none_of X G e
 exact ⟨⟨f0, F0.d, f1, F1.d, f2, F2.d, f3, F3.d, f4, F4.d, f5, F5.d, f6, F6.d, f7, F7.d, f8, F8.d, f9, F9.d, f10, F10.d, f11, F11.d, f12, F12.d, f13, F13.d, f14, F14.d, f15, F15.d, f16, F16.d, f17, F17.d, f18, F18.d, f19, F19.d, f20, F20.d, f21, F21.d, f22, F22.d, f23, F23.d, f24, F24.d, f25, F25.d, f26, F26.d, f27, F27.d, f28, F28.d, f29, F29.d, f30, F30.d, f31, F31.d, f32, F32.d, f33, F33.d, f34, F34.d, f35, F35.d, f36, F36.d, f37, F37.d, f38, F38.d, f39, F39.d, f40, F40.d, f41, F41.d, f42, F42.d, f43, F43.d, f44, F44.d, f45, F45.d, f46, F46.d, f47, F47.d, f48, F48.d, f49, F49.d, f50, F50.d, t_DEEPEST, t_EMPTY, t_GONE, t_GREATEST, t_LEAST, t_MOST_PARTS, t_MOST_SIGNS, t_TURN, r_Lacking, r_Walk, r_Shelf, r_Table, u_H__init___0⟩, ⟨F0.fn,
  F0.fn.binds (by walk_at "b1"),
  m F0.a,
  F1.fn,
  F1.fn.binds (by walk_at "b1"),
  m F1.a,
  F2.fn,
  F2.fn.binds (by walk_at "b2"),
  m F2.a,
  F3.fn,
  F3.fn.binds (by walk_at "b2"),
  m F3.a,
  F4.fn,
  F4.fn.binds (by walk_at "b1"),
  m F4.a,
  F5.fn,
  F5.fn.binds (by walk_at "b1"),
  m F5.a,
  F6.fn,
  F6.fn.binds (by walk_at "b1"),
  m F6.a,
  F7.fn,
  F7.fn.binds (by walk_at "b1"),
  m F7.a,
  F8.fn,
  F8.fn.binds (by walk_at "b1"),
  m F8.a,
  F9.fn,
  F9.fn.binds (by walk_at "b3"),
  m F9.a,
  F10.fn,
  F10.fn.binds (by walk_at "b1"),
  m F10.a,
  F11.fn,
  F11.fn.binds (by walk_at "b1"),
  m F11.a,
  F12.fn,
  F12.fn.binds (by walk_at "b1"),
  m F12.a,
  F13.fn,
  F13.fn.binds (by walk_at "b2"),
  m F13.a,
  F14.fn,
  F14.fn.binds (by walk_at "b2"),
  m F14.a,
  F15.fn,
  F15.fn.binds (by walk_at "b3"),
  m F15.a,
  F16.fn,
  F16.fn.binds (by walk_at "b3"),
  m F16.a,
  F17.fn,
  F17.fn.binds (by walk_at "b3"),
  m F17.a,
  F18.fn,
  F18.fn.binds (by walk_at "b2"),
  m F18.a,
  F19.fnD L19,
  FunD.bindsN (ps := YN) [] 2 rfl (F19.fnD L19) fun _ _ _ _ _ _ _ us hl => by obtain ⟨u0, u1, rfl⟩ := zIo hl; exact ⟨_, rfl, rfl⟩,
  FunD.bindsN (ps := YN) [.int 8 u_H__init___0] 1 rfl (F19.fnD L19) fun _ _ _ _ _ _ _ us hl => by obtain ⟨u0, rfl⟩ := zKm hl; exact ⟨_, rfl, rfl⟩,
  ⟨rd19, sg19, fc19, F19.k⟩,
  F20.fn,
  F20.fn.binds (by walk_at "b5"),
  bt ⟨F20.a, F20.i, F20.k⟩ ⟨F20.e, F20.i, F20.k⟩,
  F21.fn,
  F21.fn.binds (by walk_at "b3"),
  bt ⟨F21.a, F21.i, F21.k⟩ ⟨F21.e, F21.i, F21.k⟩,
  F22.fn,
  F22.fn.binds (by walk_at "b2"),
  bt ⟨F22.a, F22.i, F22.k⟩ ⟨F22.e, F22.i, F22.k⟩,
  F23.fn,
  F23.fn.binds (by walk_at "b1"),
  bt ⟨F23.a, F23.i, F23.k⟩ ⟨F23.e, F23.i, F23.k⟩,
  F24.fn,
  F24.fn.binds (by walk_at "b1"),
  bt ⟨F24.a, F24.i, F24.k⟩ ⟨F24.e, F24.i, F24.k⟩,
  F25.fn,
  F25.fn.binds (by walk_at "b1"),
  bt ⟨F25.a, F25.i, F25.k⟩ ⟨F25.e, F25.i, F25.k⟩,
  F26.fn,
  F26.fn.binds (by walk_at "b2"),
  bt ⟨F26.a, F26.i, F26.k⟩ ⟨F26.e, F26.i, F26.k⟩,
  F27.fn,
  F27.fn.binds (by walk_at "b2"),
  bt ⟨F27.a, F27.i, F27.k⟩ ⟨F27.e, F27.i, F27.k⟩,
  F28.fn,
  F28.fn.binds (by walk_at "b1"),
  bt ⟨F28.a, F28.i, F28.k⟩ ⟨F28.e, F28.i, F28.k⟩,
  F29.fn,
  F29.fn.binds (by walk_at "b1"),
  bt ⟨F29.a, F29.i, F29.k⟩ ⟨F29.e, F29.i, F29.k⟩,
  F30.fn,
  F30.fn.binds (by walk_at "b2"),
  bt ⟨F30.a, F30.i, F30.k⟩ ⟨F30.e, F30.i, F30.k⟩,
  F31.fn,
  F31.fn.binds (by walk_at "b2"),
  bt ⟨F31.a, F31.i, F31.k⟩ ⟨F31.e, F31.i, F31.k⟩,
  F32.fn,
  F32.fn.binds (by walk_at "b3"),
  bt ⟨F32.a, F32.i, F32.k⟩ ⟨F32.e, F32.i, F32.k⟩,
  F33.fn,
  F33.fn.binds (by walk_at "b3"),
  bt ⟨F33.a, F33.i, F33.k⟩ ⟨F33.e, F33.i, F33.k⟩,
  F34.fn,
  F34.fn.binds (by walk_at "b1"),
  bt ⟨F34.a, F34.i, F34.k⟩ ⟨F37.a, F37.i, F37.k⟩,
  bt (F34.fn.binds (by walk_at "b1")) (F37.fn.binds (by walk_at "b1")),
  F35.fn,
  F35.fn.binds (by walk_at "b1"),
  bt ⟨F35.a, F35.i, F35.k⟩ ⟨F38.a, F38.i, F38.k⟩,
  bt (F35.fn.binds (by walk_at "b1")) (F38.fn.binds (by walk_at "b1")),
  F36.fn,
  F36.fn.binds (by walk_at "b1"),
  F37.fn,
  F37.fn.binds (by walk_at "b1"),
  F38.fn,
  F38.fn.binds (by walk_at "b1"),
  F39.fnD L39,
  FunD.bindsN (ps := Qu) [] 4 rfl (F39.fnD L39) fun _ _ _ _ _ _ _ us hl => by obtain ⟨u0, u1, u2, u3, rfl⟩ := zKa hl; exact ⟨_, rfl, rfl⟩,
  FunD.bindsN (ps := Qu) [.bool false] 3 rfl (F39.fnD L39) fun _ _ _ _ _ _ _ us hl => by obtain ⟨u0, u1, u2, rfl⟩ := zKb hl; exact ⟨_, rfl, rfl⟩,
  FunD.bindsN (ps := Qu) [.bool false, .bool false] 2 rfl (F39.fnD L39) fun _ _ _ _ _ _ _ us hl => by obtain ⟨u0, u1, rfl⟩ := zIo hl; exact ⟨_, rfl, rfl⟩,
  ⟨F39.a, F39.i, F39.k⟩,
  F40.fn,
  F40.fn.binds (by walk_at "b1"),
  ⟨F40.a, F40.i, F40.k⟩,
  F41.fn,
  F41.fn.binds (by walk_at "b1"),
  ⟨F41.a, F41.i, F41.k⟩,
  F42.fn,
  F42.fn.binds (by walk_at "b1"),
  ⟨F42.a, F42.i, F42.k⟩,
  F43.fn,
  F43.fn.binds (by walk_at "b2"),
  m F43.a,
  F44.fn,
  F44.fn.binds (by walk_at "b2"),
  m F44.a,
  F45.fn,
  F45.fn.binds (by walk_at "b2"),
  m F45.a,
  F46.fn,
  F46.fn.binds (by walk_at "b1"),
  m F46.a,
  F47.fn,
  F47.fn.binds (by walk_at "b1"),
  m F47.a,
  F48.fn,
  F48.fn.binds (by walk_at "b4"),
  m F48.a,
  F49.fn,
  F49.fn.binds (by walk_at "b2"),
  m F49.a,
  F50.fn,
  F50.fn.binds (by walk_at "b1"),
  m F50.a,
  m y_paper_slots,
  ⟨pg_Walk, hd_Walk, po_Walk, sa_Walk⟩,
  ⟨mk_Walk, F39.a, F39.i, kc_Walk⟩,
  m aC_Walk,
  n_Walk_back,
  n_Walk_book,
  n_Walk_changes,
  n_Walk_last,
  n_Walk_over,
  n_Walk_strict,
  ⟨mk_Shelf, F19.a, F19.i, kc_Shelf⟩,
  m aC_Shelf,
  bt ⟨pg_Shelf, hd_Shelf, po_Shelf, sa_Shelf⟩ ⟨pg_Table, hd_Table, po_Table, sa_Table⟩,
  bt n_Hcame n_Tcame,
  bt n_Hcells n_Tcells,
  bt n_Hcomings n_Tcomings,
  bt n_Hheld n_Theld,
  bt n_Hmoved n_Tmoved,
  bt n_Hrow n_Trow,
  bt n_Hsize n_Tsize,
  bt n_Htidyings n_Ttidyings,
  bt n_Hwent n_Twent,
  ⟨mk_Table, F36.a, F36.i, kc_Table⟩,
  m aC_Table,
  z z_all,
  z z_bool,
  z z_enumerate,
  z z_int,
  z z_isinstance,
  z z_len,
  z z_list,
  z z_ord,
  z z_range,
  z z_reversed,
  z z_str,
  z z_tuple,
  z z_zip,
  m v_DEEPEST,
  m v_EMPTY,
  m v_GONE,
  m v_GREATEST,
  m v_LEAST,
  m v_MOST_PARTS,
  m v_MOST_SIGNS,
  m v_TURN,
  m g_Lacking,
  ⟨bm_Lacking, e_Lacking, _, _, _, _, _, _, _, _, _, _, _, _, _, _, _, _, o_Lacking⟩,
  ⟨ga_Lacking, gh_Lacking, fc_Lacking, sg_Lacking, tk_Lacking, mo_Lacking, mb_Lacking⟩,
  zLn (by decide +kernel) vt_Lacking,
  zJM y_Lacking mo_Lacking su_Lacking_Lacking su_Lacking_Lacking,
  su_Lacking_Lacking⟩, rfl, rfl⟩
theorem zLq {l : PySem.W.OpenLaw} {w : World} {K : W.Frag} {h : Heap} {mg : Str -> Option Value} {fa f_law : Addr} (X : K.In h) (G : h.Ns mainGlobals mg) (hfa : mg "law" = some (.ref fa)) {kV dc pm cd ct : Value} {an : Option Addr}
  (T : ∃ a : Ad, Txt K mg a /\ a.f_law = f_law /\ a.d_law = W.fnOf "law" "law" (Q9 JB) (Qy JB) (QJ JB) .none kV dc pm an cd ct) :
  ∃ fd : FuncData, (∀ (s : Shared) (v : Value), BindsTo s fd ⟨[v], []⟩ [("_law_script", v)]) /\ ∀ base : Heap, K.In base -> base.Ns mainGlobals mg -> FnOk l.prog w K mg base CX0 18 fa fd ["_law_script"] (zDU K) := by
 obtain ⟨a, T, e1, e2⟩ := T
 have e := hfa.symm.trans T.m_law
 cases e
 refine ⟨a.d_law, ?_, fun base _ _ => zLK T⟩
 rw [e2]
 exact fun s v => .of_eq rfl
theorem zMo {l : PySem.W.OpenLaw} {q : Program} {loose : List Str} {XP : (Str -> Option Value) -> Heap -> Prop} {YP : World -> Heap -> Prop} {d : DefRec} {K : Params -> W.Frag} (hn : l.most = some 63) (hdf : d.params.defaults = [])
  (hY : ∀ (w : World) (h : Heap), YP w h -> (K w.params).In h)
  (F : ∀ (w : World) (mg : Str -> Option Value) (fa : Addr) (h : Heap), (K w.params).In h -> h.Ns mainGlobals mg -> mg d.name = some (.ref fa) ->
   ∃ fd : FuncData, (∀ (s : Shared) (u : Value), BindsTo s fd ⟨[u], []⟩ [("_law_script", u)]) /\ ∀ base : Heap, (K w.params).In base -> base.Ns mainGlobals mg -> FnOk l.prog w (K w.params) mg base CX0 18 fa fd ["_law_script"] (zDU (K w.params))) :
  PySem.W.WalkO q loose XP YP l.row.toRowW d [] (fun f vs => PySem.call f vs) :=
 L2.zHL (n := 63) (k := 18) (x := "_law_script") (CX := fun _ => CX0) (sp := fun w => zDU (K w.params)) hn (by decide) hdf ⟨rfl, by decide, by decide⟩ hY F (fun _ _ a ns hl hb _ hS => ⟨a, ns, rfl, hS, hl, hb, fun _ => rfl⟩) fun _ _ _ _ _ z => z
end My
-- names taken ahead, so that the head makes no second copy of these large constants (their proofs would take most of the compiled file; its limit is 64 MiB)
namespace PySem.W.Fast
def tw2664755279547875565:=()
def tw18203448727719992945:=()
def tw6583633535938304042:=()
def tw6006279368632432945:=()
def tw8190378810146650556:=()
def tw12651793439752349919:=()
def tw7347865771775081100:=()
def tw11127473630295582815:=()
def tw13114709008322657000:=()
def tw16481845878070889562:=()
def tw13945655351021622824:=()
def tw17452882792373013149:=()
def tw12087378499217862027:=()
def tw9552993265403832708:=()
def tw6225841165088121451:=()
def tw6127545094276885532:=()
def tw12143365436817259932:=()
def tw11644628944956676193:=()
def tw14142056395005489957:=()
def tw12208789938597776469:=()
def tw12894595774763376001:=()
def tw9536240463508352015:=()
def tw8651620992300772843:=()
def tw6611795782284659877:=()
def tw17889872269860324299:=()
def tw3114899744521149018:=()
def tw245983782285403760:=()
def tw17310913650954214231:=()
def tw15861096342998670743:=()
def tw359199009004395126:=()
def tw15965710225977054731:=()
def tw16231558057201297714:=()
def tw2753750601480640845:=()
def tw2921664588975796139:=()
def tw4779338859543102327:=()
def tw8789853838142959584:=()
def tw18308197238072541497:=()
def tw8963795327249095709:=()
def tw15413905125559513727:=()
def tw327841737564388137:=()
def tw7574594709799122586:=()
def tw13357325121412211553:=()
def tw5896647146235199445:=()
def tw12971899949683962690:=()
def tw2636490758265530670:=()
def tw15580023033907896392:=()
def tw15783051183032926142:=()
def tw3911012477071691491:=()
def tw5816107764106466763:=()
def tw4109352612253899466:=()
def tw6258669799304417739:=()
def tw8306901565578350420:=()
def tw2295808316444748096:=()
def tw1649536169634588286:=()
def tw18421745122506018769:=()
def tw13057588778865872462:=()
def tw15293442780564013516:=()
def tw18181993500827418502:=()
def tw2118860211872597902:=()
def tw5511023637596426984:=()
def tw9368309446061788027:=()
def tw4170375100135986706:=()
def tw12804754886320127215:=()
def tw6246690486963158879:=()
def tw9139824995603145071:=()
def tw6604503364151614860:=()
def tw5945836713585082800:=()
def tw10811280922003042382:=()
def tw9714621046356453595:=()
def tw16893421233081700013:=()
def tw585150102736159529:=()
def tw4421914087551493033:=()
def tw4047302254918905693:=()
def tw14860693696456071424:=()
def tw14960004176290640004:=()
def tw15791717445873299030:=()
def tw4576121531464839964:=()
def tw10434320122123004911:=()
def tw4539350847038537737:=()
def tw12048199107419533547:=()
def tw7043063095930860455:=()
def tw12434366990805261518:=()
def tw15464228042208005832:=()
def tw1835612434980470952:=()
def tw5542322363258717103:=()
def tw13476326821450439980:=()
def tw16466236862113586652:=()
def tw12425938197685923985:=()
def tw13811352818238043788:=()
def tw5842683822163177032:=()
def tw2759235504290615783:=()
def tw17462201503762286496:=()
def tw10465388844626353334:=()
def tw4251314191890238930:=()
def tw954372072556931729:=()
def tw17002034216679019757:=()
def tw6614870172033795968:=()
def tw3792537534218825258:=()
def tw10323195345402763100:=()
def tw14124560802007132605:=()
def tw7142794996551802918:=()
def tw15132633534582177335:=()
def tw17244419658002196093:=()
def tw12352548995989114204:=()
def tw1159106725563069848:=()
def tw6895486733520559215:=()
def tw4376369277532508398:=()
def tw14141687536165170946:=()
def tw820148443832964610:=()
def tw4687849505031224324:=()
def tw4014311656683584776:=()
def tw9524515892431302693:=()
def tw4289735496548692758:=()
def tw14131503001311120320:=()
def tw17574058420808718158:=()
def tw14597342144989646573:=()
def tw6791586723755939734:=()
def tw921434251554705261:=()
def tw11357617419909260885:=()
def tw5058621835569363123:=()
def tw7243641480030779739:=()
def tw12380196357332416065:=()
def tw17903405607660529714:=()
def tw11323213134292974181:=()
def tw12588942138414248399:=()
def tw16294722581468649171:=()
def tw6586153922962061052:=()
def tw10989056078917364743:=()
def tw6858501747157878139:=()
def tw10484892533567193823:=()
def tw7476718236561734796:=()
def tw2894788176569336747:=()
def tw12276567569687110147:=()
def tw17283494293367059420:=()
def tw161318014194663785:=()
def tw7248040688594598265:=()
def tw4212879771436250989:=()
def tw4375876657827796034:=()
def tw5415798408879996693:=()
def tw14203314920793050627:=()
def tw493764035154568366:=()
def tw13682775611650795425:=()
def tw11892977389290037237:=()
def tw11809985230092523813:=()
def tw15824061073344718648:=()
def tw14914147521195401850:=()
def tw13125211792869187430:=()
def tw3995173422234053412:=()
def tw1043539440499518034:=()
def tw6749767114471387868:=()
def tw11609791303327360235:=()
def tw17774468106482707550:=()
def tw10955525962681053946:=()
def tw2953854747256116062:=()
def tw9276262508787989145:=()
def tw4182977938620184560:=()
def tw657283755853971981:=()
def tw14988516743191975892:=()
def tw6228360532611686682:=()
def tw14561242147351626658:=()
def tw13808126748729055229:=()
def tw12726377502495511329:=()
def tw3678400631041840185:=()
def tw990093733121413025:=()
def tw15282476773677196895:=()
def tw8942888755335600854:=()
def tw2732810217866983270:=()
def tw17119387048294327287:=()
def tw4618507195092115336:=()
def tw172283719625732265:=()
def tw994829647580715846:=()
def tw12180390514655616556:=()
def tw5175984827952823154:=()
def tw2115516844829363893:=()
def tw9770152764579616472:=()
def tw12121068323370260540:=()
def tw7103935380890796028:=()
def tw16005480274308877121:=()
def tw14964967217114000486:=()
def tw7927525897154063362:=()
def tw14124172504813645366:=()
def tw10284306313300340042:=()
def tw9211445060950681227:=()
def tw14001732559161902068:=()
def tw12537809976061899282:=()
def tw7572529484264038980:=()
def tw17824885077620849865:=()
def tw6852683997439511175:=()
def tw2181578159873078524:=()
def tw17539466902633231775:=()
def tw5572019644396341129:=()
def tw11828677975657731162:=()
def tw4937142773628016147:=()
def tw18153315018409181951:=()
def tw6883960791456713372:=()
def tw7793524681607925140:=()
def tw12823408479602400246:=()
def tw4767215077304004413:=()
def tw13863844746460535987:=()
def tw4181636768137564727:=()
def tw8031096212952264637:=()
def tw11690245447609501839:=()
def tw14123555987539921437:=()
def tw461988504804370184:=()
def tw1880378206601980605:=()
def tw7879852409310676499:=()
def tw17597811045584559812:=()
def tw12333336223891336897:=()
def tw6362528905578054403:=()
def tw7746438627819080426:=()
def tw1156912493597845527:=()
def tw3102147142599454092:=()
def tw17691522822797127883:=()
def tw7866418526948281693:=()
def tw17439310303183601265:=()
def tw2006571220038025017:=()
def tw4619397073391242289:=()
def tw7352915798152466829:=()
def tw2568304070892576930:=()
def tw16406156166335497079:=()
def tw16376862652898801075:=()
def tw1279503558893936455:=()
def tw17529555468211867941:=()
def tw42952192823000151:=()
def tw4982903231472364955:=()
def tw8035795366794797049:=()
def tw16761592409361070699:=()
def tw16739143399158930805:=()
def tw91919445650202396:=()
def tw4329697440120470622:=()
def tw8478043535571332361:=()
def tw6999840052464916316:=()
def tw8986049839886713269:=()
def tw3343312315075617752:=()
def tw11636201893775397966:=()
def tw12141055332071267068:=()
def tw16762019450397192682:=()
def tw16863148607195806221:=()
def tw16324992197912628740:=()
def tw133840582217128506:=()
def tw12817930384573924576:=()
def tw15698192997744029011:=()
def tw9625245408783144276:=()
def tw10231162240857964477:=()
def tw18317854368704888627:=()
def tw8490495833919049230:=()
def tw15341187745432160048:=()
def tw15102487444133439936:=()
def tw16560851653347034420:=()
def tw14638045231381190317:=()
def tw9287461834661373715:=()
def tw10311706888764197444:=()
def tw11112405567777803630:=()
def tw1748537294650428740:=()
def tw373185412919853274:=()
def tw9301976566495101573:=()
def tw2532440383164542852:=()
def tw12086339987808942269:=()
def tw7594645453578725832:=()
def tw2364026427309210426:=()
def tw2973731156971642416:=()
def tw17796263814546587157:=()
def tw8846530049699567288:=()
def tw11935720447040838929:=()
def tw3278000079952316575:=()
def tw9283081451524577992:=()
def tw5281311317147460199:=()
def tw14292557221569636455:=()
def tw7729950589646139375:=()
def tw18419297775856120082:=()
def tw4733530016639443376:=()
def tw2510570650053699292:=()
def tw5139536010912547761:=()
def tw732952160994443230:=()
def tw14792228888820073226:=()
def tw10819688001703657281:=()
def tw17696190118752612499:=()
def tw4900355134903495516:=()
def tw15424156457722353247:=()
def tw968310412659792407:=()
def tw17792937210924183081:=()
def tw12306433017509964942:=()
def tw17870313089088883016:=()
def tw6382148781403498661:=()
def tw4090997796384384458:=()
def tw3843540995476600437:=()
def tw12877941889815013931:=()
def tw13830552097512405935:=()
def tw16670925890131166877:=()
def tw7910968615832772372:=()
def tw16045285534856400147:=()
def tw14795024196693420174:=()
def tw15272280888960680408:=()
def tw5567097926226641844:=()
def tw17399822444457013203:=()
def tw5163424231542716548:=()
def tw2952404314922498895:=()
def tw4179566353545015437:=()
def tw4473942292683985858:=()
def tw15308767669110271569:=()
def tw6365185350498188946:=()
def tw2474379191047750772:=()
def tw15824595635092468654:=()
def tw8096442414200737010:=()
def tw10584295075923811644:=()
def tw7743942316378672091:=()
end PySem.W.Fast
open PySem PySem.W PyProof.Rows
set_option maxRecDepth 100000 in
set_option maxHeartbeats 0 in
theorem PySem.Challenge.cw_slotbook_k61_a_walk_holds : PySem.Challenge.rw_slotbook_k61_a_walk.Holds := by
 w_on; o_law; k_head; (case hw => w_witness2)
 k_fill
 refine My.zMo (l := PySem.Challenge.rw_slotbook_k61_a_walk) rfl rfl (fun w h Y => PySem.W.kIn_of Y) ?F
 case F =>
  intro w mg fa h KX G hmg
  refine' My.zLq KX G hmg (My.zLm KX G ?aC_Walk ?aC_Shelf ?aC_Table (.mk (.mk ?l0 ?c0 ?k0) ?a0) (.mk (.mk ?l1 ?c1 ?k1) ?a1) (.mk (.mk ?l2 ?c2 ?k2) ?a2) (.mk (.mk ?l3 ?c3 ?k3) ?a3) (.mk (.mk ?l4 ?c4 ?k4) ?a4) (.mk (.mk ?l5 ?c5 ?k5) ?a5) (.mk (.mk ?l6 ?c6 ?k6) ?a6) (.mk (.mk ?l7 ?c7 ?k7) ?a7) (.mk (.mk ?l8 ?c8 ?k8) ?a8) (.mk (.mk ?l9 ?c9 ?k9) ?a9) (.mk (.mk ?l10 ?c10 ?k10) ?a10) (.mk (.mk ?l11 ?c11 ?k11) ?a11) (.mk (.mk ?l12 ?c12 ?k12) ?a12) (.mk (.mk ?l13 ?c13 ?k13) ?a13) (.mk (.mk ?l14 ?c14 ?k14) ?a14) (.mk (.mk ?l15 ?c15 ?k15) ?a15) (.mk (.mk ?l16 ?c16 ?k16) ?a16) (.mk (.mk ?l17 ?c17 ?k17) ?a17) (.mk (.mk ?l18 ?c18 ?k18) ?a18) ?rd19 ?sg19 ?fc19 (.mk (.mk ?l19 ?c19 ?k19) ?a19 ?i19) ?L19 (.mk (.mk (.mk ?l20 ?c20 ?k20) ?a20 ?i20) ?e20) (.mk (.mk (.mk ?l21 ?c21 ?k21) ?a21 ?i21) ?e21) (.mk (.mk (.mk ?l22 ?c22 ?k22) ?a22 ?i22) ?e22) (.mk (.mk (.mk ?l23 ?c23 ?k23) ?a23 ?i23) ?e23) (.mk (.mk (.mk ?l24 ?c24 ?k24) ?a24 ?i24) ?e24) (.mk (.mk (.mk ?l25 ?c25 ?k25) ?a25 ?i25) ?e25) (.mk (.mk (.mk ?l26 ?c26 ?k26) ?a26 ?i26) ?e26) (.mk (.mk (.mk ?l27 ?c27 ?k27) ?a27 ?i27) ?e27) (.mk (.mk (.mk ?l28 ?c28 ?k28) ?a28 ?i28) ?e28) (.mk (.mk (.mk ?l29 ?c29 ?k29) ?a29 ?i29) ?e29) (.mk (.mk (.mk ?l30 ?c30 ?k30) ?a30 ?i30) ?e30) (.mk (.mk (.mk ?l31 ?c31 ?k31) ?a31 ?i31) ?e31) (.mk (.mk (.mk ?l32 ?c32 ?k32) ?a32 ?i32) ?e32) (.mk (.mk (.mk ?l33 ?c33 ?k33) ?a33 ?i33) ?e33) (.mk (.mk ?l34 ?c34 ?k34) ?a34 ?i34) (.mk (.mk ?l35 ?c35 ?k35) ?a35 ?i35) (.mk (.mk ?l36 ?c36 ?k36) ?a36 ?i36) (.mk (.mk ?l37 ?c37 ?k37) ?a37 ?i37) (.mk (.mk ?l38 ?c38 ?k38) ?a38 ?i38) (.mk (.mk ?l39 ?c39 ?k39) ?a39 ?i39) ?L39 (.mk (.mk ?l40 ?c40 ?k40) ?a40 ?i40) (.mk (.mk ?l41 ?c41 ?k41) ?a41 ?i41) (.mk (.mk ?l42 ?c42 ?k42) ?a42 ?i42) (.mk (.mk ?l43 ?c43 ?k43) ?a43) (.mk (.mk ?l44 ?c44 ?k44) ?a44) (.mk (.mk ?l45 ?c45 ?k45) ?a45) (.mk (.mk ?l46 ?c46 ?k46) ?a46) (.mk (.mk ?l47 ?c47 ?k47) ?a47) (.mk (.mk ?l48 ?c48 ?k48) ?a48) (.mk (.mk ?l49 ?c49 ?k49) ?a49) (.mk (.mk ?l50 ?c50 ?k50) ?a50) ?y_paper_slots ?pg_Walk ?hd_Walk ?po_Walk ?sa_Walk ?mk_Walk ?kc_Walk ?n_Walk_back ?n_Walk_book ?n_Walk_changes ?n_Walk_last ?n_Walk_over ?n_Walk_strict ?pg_Shelf ?hd_Shelf ?po_Shelf ?sa_Shelf ?mk_Shelf ?kc_Shelf ?n_Hcame ?n_Hcells ?n_Hcomings ?n_Hheld ?n_Hmoved ?n_Hrow ?n_Hsize ?n_Htidyings ?n_Hwent ?pg_Table ?hd_Table ?po_Table ?sa_Table ?mk_Table ?kc_Table ?n_Tcame ?n_Tcells ?n_Tcomings ?n_Theld ?n_Tmoved ?n_Trow ?n_Tsize ?n_Ttidyings ?n_Twent ?z_all ?z_bool ?z_enumerate ?z_int ?z_isinstance ?z_len ?z_list ?z_ord ?z_range ?z_reversed ?z_str ?z_tuple ?z_zip ?v_DEEPEST ?v_EMPTY ?v_GONE ?v_GREATEST ?v_LEAST ?v_MOST_PARTS ?v_MOST_SIGNS ?v_TURN ?g_Lacking ?o_Lacking ?e_Lacking ?y_Lacking ?mo_Lacking ?ga_Lacking ?gh_Lacking ?fc_Lacking ?sg_Lacking ?tk_Lacking ?mb_Lacking ?vt_Lacking ?su_Lacking_Lacking)
  case aC_Walk | aC_Shelf | aC_Table | a0 | a1 | a2 | a3 | a4 | a5 | a6 | a7 | a8 | a9 | a10 | a11 | a12 | a13 | a14 | a15 | a16 | a17 | a18 | a19 | a20 | a21 | a22 | a23 | a24 | a25 | a26 | a27 | a28 | a29 | a30 | a31 | a32 | a33 | a34 | a35 | a36 | a37 | a38 | a39 | a40 | a41 | a42 | a43 | a44 | a45 | a46 | a47 | a48 | a49 | a50 | l0 | c0 | k0 | l1 | c1 | k1 | l2 | c2 | k2 | l3 | c3 | k3 | l4 | c4 | k4 | l5 | c5 | k5 | l6 | c6 | k6 | l7 | c7 | k7 | l8 | c8 | k8 | l9 | c9 | k9 | l10 | c10 | k10 | l11 | c11 | k11 | l12 | c12 | k12 | l13 | c13 | k13 | l14 | c14 | k14 | l15 | c15 | k15 | l16 | c16 | k16 | l17 | c17 | k17 | l18 | c18 | k18 | rd19 | sg19 | fc19 | i19 | l19 | c19 | k19 | L19 | i20 | e20 | l20 | c20 | k20 | i21 | e21 | l21 | c21 | k21 | i22 | e22 | l22 | c22 | k22 | i23 | e23 | l23 | c23 | k23 | i24 | e24 | l24 | c24 | k24 | i25 | e25 | l25 | c25 | k25 | i26 | e26 | l26 | c26 | k26 | i27 | e27 | l27 | c27 | k27 | i28 | e28 | l28 | c28 | k28 | i29 | e29 | l29 | c29 | k29 | i30 | e30 | l30 | c30 | k30 | i31 | e31 | l31 | c31 | k31 | i32 | e32 | l32 | c32 | k32 | i33 | e33 | l33 | c33 | k33 | i34 | l34 | c34 | k34 | i35 | l35 | c35 | k35 | i36 | l36 | c36 | k36 | i37 | l37 | c37 | k37 | i38 | l38 | c38 | k38 | i39 | l39 | c39 | k39 | L39 | i40 | l40 | c40 | k40 | i41 | l41 | c41 | k41 | i42 | l42 | c42 | k42 | l43 | c43 | k43 | l44 | c44 | k44 | l45 | c45 | k45 | l46 | c46 | k46 | l47 | c47 | k47 | l48 | c48 | k48 | l49 | c49 | k49 | l50 | c50 | k50 | y_paper_slots | pg_Walk | hd_Walk | po_Walk | sa_Walk | mk_Walk | kc_Walk | n_Walk_back | n_Walk_book | n_Walk_changes | n_Walk_last | n_Walk_over | n_Walk_strict | pg_Shelf | hd_Shelf | po_Shelf | sa_Shelf | mk_Shelf | kc_Shelf | n_Hcame | n_Hcells | n_Hcomings | n_Hheld | n_Hmoved | n_Hrow | n_Hsize | n_Htidyings | n_Hwent | pg_Table | hd_Table | po_Table | sa_Table | mk_Table | kc_Table | n_Tcame | n_Tcells | n_Tcomings | n_Theld | n_Tmoved | n_Trow | n_Tsize | n_Ttidyings | n_Twent | z_all | z_bool | z_enumerate | z_int | z_isinstance | z_len | z_list | z_ord | z_range | z_reversed | z_str | z_tuple | z_zip | v_DEEPEST | v_EMPTY | v_GONE | v_GREATEST | v_LEAST | v_MOST_PARTS | v_MOST_SIGNS | v_TURN | g_Lacking | o_Lacking => k_is
  case e_Lacking => k_exc
  case y_Lacking | mo_Lacking | ga_Lacking | gh_Lacking | fc_Lacking | sg_Lacking | tk_Lacking | mb_Lacking | vt_Lacking | su_Lacking_Lacking => k_is

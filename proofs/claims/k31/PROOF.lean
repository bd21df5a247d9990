import PyProof.Rows.All
import Wide.All
import OpenK.AllK
import Wide.FinOn
import PyProof.EqAt
import PyProof.EqKinds
import PyProof.TupleCall
import PyProof.NeKinds
import PyProof.CompUse
import PyProof.IsiSeqPairs
import PyProof.IsiNone
import PyProof.Rows.SumAny
import KE.KDictOf
import KE.KEqDict
import PyProof.DictCopy
import PyProof.Rows.StrJoin2
import PyProof.Rows.SortWalk
import PyProof.ConsumeWalk
import PyProof.EnumMake
import PyProof.Cells
import KE.IntBitsLaws
import PySem.Challenge.RW_deedloom_k31_what_is_a_laying
set_option genSizeOf false
set_option Elab.async false
set_option linter.all false
set_option maxRecDepth 100000
namespace L2
open PySem PySem.Spec PyProof.Rows

/-- a key: an int or a str -/
abbrev Key := Sum Int Str
def keyIs : Key → Value → Bool
  | .inl k, v => Value.isInt k v
  | .inr x, v => Value.isStrOf x v
def keyH (w : World) : Key → Int
  | .inl k => hashInt k
  | .inr x => hashStr w x
theorem keyIs_shape : ∀ {k : Key} {v : Value}, keyIs k v = true → (∃ i t, k = Sum.inl i ∧ v = Value.int i t) ∨ (∃ x t, k = Sum.inr x ∧ v = Value.str x t)
  | .inl i, v, h => by
    obtain ⟨t, e⟩ := Value.isInt_shape (k := i) (v := v) h
    exact .inl ⟨i, t, rfl, e⟩
  | .inr x, v, h => by
    obtain ⟨t, e⟩ := Value.isStrOf_shape (x := x) (v := v) h
    exact .inr ⟨x, t, rfl, e⟩
theorem keyIs_int (i : Int) (t : Tok) : keyIs (.inl i) (.int i t) = true := by simp [keyIs, Value.isInt]
theorem keyIs_str (x : Str) (t : Tok) : keyIs (.inr x) (.str x t) = true := by simp [keyIs, Value.isStrOf]
theorem key_ll (a b : Int) : decide ((Sum.inl a : Key) = Sum.inl b) = (a == b) := by
  by_cases e : a = b
  · subst e; simp
  · have h : ¬ (Sum.inl a : Key) = Sum.inl b := fun q => e (Sum.inl.inj q)
    rw [decide_eq_false h]
    exact (beq_eq_false_iff_ne.mpr e).symm
theorem key_rr (a b : Str) : decide ((Sum.inr a : Key) = Sum.inr b) = decide (a = b) := by
  by_cases e : a = b
  · subst e; simp
  · have h : ¬ (Sum.inr a : Key) = Sum.inr b := fun q => e (Sum.inr.inj q)
    rw [decide_eq_false h, decide_eq_false e]
theorem key_lr (a : Int) (b : Str) : decide ((Sum.inl a : Key) = Sum.inr b) = false := decide_eq_false (fun q => nomatch q)
theorem key_rl (a : Str) (b : Int) : decide ((Sum.inr a : Key) = Sum.inl b) = false := decide_eq_false (fun q => nomatch q)

def mixKind (prog : Program) (w : World) : PySem.KeyKind prog w Key where
  is := keyIs
  hash := keyH w
  inj := fun v a b ha hb => by
    rcases keyIs_shape ha with ⟨i, t, rfl, rfl⟩ | ⟨x, t, rfl, rfl⟩
    · rcases keyIs_shape hb with ⟨j, u, rfl, e⟩ | ⟨y, u, rfl, e⟩
      · injection e with e1 _; rw [e1]
      · exact nomatch e
    · rcases keyIs_shape hb with ⟨j, u, rfl, e⟩ | ⟨y, u, rfl, e⟩
      · exact nomatch e
      · injection e with e1 _; rw [e1]
  byValue := fun k v h => by
    rcases keyIs_shape h with ⟨i, t, rfl, rfl⟩ | ⟨x, t, rfl, rfl⟩ <;> rfl
  pyHash := fun hv h => by
    rcases keyIs_shape hv with ⟨i, t, rfl, rfl⟩ | ⟨x, t, rfl, rfl⟩
    · exact wpAny_pyHash_int h
    · exact wpAny_pyHash_str h
  eqBool := fun hu hv h => by
    rcases keyIs_shape hu with ⟨i, t, rfl, rfl⟩ | ⟨x, t, rfl, rfl⟩
    · rcases keyIs_shape hv with ⟨j, u, rfl, rfl⟩ | ⟨y, u, rfl, rfl⟩
      · rw [key_ll] at h; exact wpAny_eqBool_int h
      · rw [key_lr] at h; exact SeqAt.EqAt.int_str i t y u _ _ _ _ h
    · rcases keyIs_shape hv with ⟨j, u, rfl, rfl⟩ | ⟨y, u, rfl, rfl⟩
      · rw [key_rl] at h; exact SeqAt.EqAt.str_int x t j u _ _ _ _ h
      · rw [key_rr] at h; exact wpAny_eqBool_str h
  «strs» := fun k x t v h => by
    rcases keyIs_shape h with ⟨i, u, rfl, e⟩ | ⟨y, u, rfl, e⟩
    · exact nomatch e
    · injection e with e1 _
      subst e1
      cases v <;> rfl

theorem mixKind_int (prog : Program) (w : World) (i : Int) (t : Tok) : (mixKind prog w).is (.inl i) (.int i t) = true := keyIs_int i t
theorem mixKind_str (prog : Program) (w : World) (x : Str) (t : Tok) : (mixKind prog w).is (.inr x) (.str x t) = true := keyIs_str x t
end L2

namespace L2
open PySem PySem.Spec PyProof.Rows

/-- a value, without the heap -/
inductive V where
  | non | bl (b : Bool) | int (i : Int) | str (x : Str) | byt (b : Array UInt8) | flt (b : UInt64) | ref (a : Addr) | ty (n : String)
  deriving DecidableEq

def RelV : V → Value → Prop
  | .non, u => u = Value.none
  | .bl b, u => u = Value.bool b
  | .int i, u => ∃ t, u = Value.int i t
  | .str x, u => ∃ t, u = Value.str x t
  | .byt b, u => ∃ t, u = Value.bytes b t
  | .flt b, u => ∃ t, u = Value.float b t
  | .ref a, u => u = Value.ref a
  | .ty n, u => u = Value.type n

abbrev Vals : List V → List Value → Prop := Paired RelV
theorem Vals.length {xs : List V} {us : List Value} (r : Vals xs us) : xs.length = us.length := Paired.length r
theorem Vals.get : ∀ {xs : List V} {us : List Value} {i : Nat} {x : V}, Vals xs us → xs[i]? = some x → ∃ u, us[i]? = some u ∧ RelV x u
  | _, _, _, _, .nil, e => by simp at e
  | _, _, 0, _, .cons r _, e => by simp at e; subst e; exact ⟨_, rfl, r⟩
  | _, _, i + 1, x, .cons _ t, e => by
    obtain ⟨u, h1, h2⟩ := Vals.get (i := i) (x := x) t (by simpa using e)
    exact ⟨u, by simpa using h1, h2⟩
theorem Vals.set {x : V} {u : Value} (r : RelV x u) : ∀ {xs : List V} {us : List Value} (i : Nat), Vals xs us → Vals (xs.set i x) (us.set i u)
  | _, _, _, .nil => .nil
  | _, _, 0, .cons _ t => .cons r t
  | _, _, i + 1, .cons q t => .cons q (Vals.set r i t)
theorem Vals.append : ∀ {xs ys : List V} {us ws : List Value}, Vals xs us → Vals ys ws → Vals (xs ++ ys) (us ++ ws)
  | _, _, _, _, .nil, s => s
  | _, _, _, _, .cons r t, s => .cons r (Vals.append t s)
theorem Vals.take : ∀ {xs : List V} {us : List Value} (n : Nat), Vals xs us → Vals (xs.take n) (us.take n)
  | _, _, 0, _ => .nil
  | _, _, _ + 1, .nil => .nil
  | _, _, n + 1, .cons r t => .cons r (Vals.take n t)
theorem Vals.drop : ∀ {xs : List V} {us : List Value} (n : Nat), Vals xs us → Vals (xs.drop n) (us.drop n)
  | _, _, 0, r => r
  | _, _, _ + 1, .nil => .nil
  | _, _, n + 1, .cons _ t => Vals.drop n t
def RelO : Option V → Option Value → Prop
  | some v, some u => RelV v u
  | none, none => True
  | _, _ => False
def KV {κ : Type} : List (κ × V) → List (κ × Value) → Prop := Paired fun (p : κ × V) (q : κ × Value) => p.1 = q.1 ∧ RelV p.2 q.2

/-- a key of a dict (00_mix): an int or a text -/
def kV : Key → V
  | .inl i => .int i
  | .inr x => .str x

/-- what stands at a tracked address -/
inductive HO where
  /-- a list -/
  | lst (xs : List V)
  /-- a tuple (never changes) -/
  | tup (xs : List V)
  /-- a dict whose keys are ints and texts; one whose keys are tuples of ints and texts (the empty one is both) -/
  | dK (kvs : List (Key × V)) | dT (kvs : List (List Key × V))
  /-- a set of ints: its members, its size -/
  | set (S : Int → Bool) (n : Nat)
  /-- an instance of the class at C, its dict at dx, its attributes -/
  | ins (C dx : Addr) (fs : List (Str × V))
  /-- the dict of the instance at x -/
  | own (x : Addr)
  /-- the dict of an exception -/
  | xd (fs : List (Str × V))
  /-- a bound method, f of x -/
  | met (f x : Addr)
  /-- a range object lo, lo + 1, .. below hi -/
  | rng (lo hi : Int)
  /-- a thing that is known to the object (the script; a dict while a loop walks it): read, never written while it is so -/
  | frz (o : Obj) (u : HO)
  /-- a code object's table -/
  | tbl (ps : Array Value)
  /-- any other thing, by what is true of its one object (a def of one's own: SetO a S n := HO.ext fun h => ..) -/
  | ext (φ : Heap → Prop)

abbrev Hp := Addr → Option HO
def upd (H : Hp) (a : Addr) (o : HO) : Hp := fun b => if b = a then some o else H b
theorem upd_same {H : Hp} {a : Addr} {o : HO} : upd H a o a = some o := by unfold upd; rw [if_pos rfl]
theorem upd_ne {H : Hp} {a b : Addr} {o : HO} (h : b ≠ a) : upd H a o b = H b := by unfold upd; rw [if_neg h]
theorem upd_upd {H : Hp} {a : Addr} {o u : HO} : upd (upd H a o) a u = upd H a u := by
  funext b; unfold upd; split <;> rfl
/-- two objects of different content stand apart -/
theorem ne_of {H : Hp} {a b : Addr} {o u : HO} (h : H a = some o) (h' : H b = some u) (d : o ≠ u) : a ≠ b := by
  intro e; subst e; rw [h] at h'; exact d (Option.some.inj h')
theorem ne_of_none {H : Hp} {a b : Addr} {o : HO} (h : H a = some o) (h' : H b = none) : a ≠ b := by
  intro e; subst e; rw [h] at h'; cases h'

section
variable (P : Program) (w : World)
def ObjOk (H : Hp) (h : Heap) (a : Addr) : HO → Prop
  | .lst xs => xs.length ≤ sizeLine ∧ ∃ (its : List Value) (n : Nat), Vals xs its ∧ h.get? a = some { cls := .type "list", data := .seq its.toArray n }
  | .tup xs => xs.length ≤ sizeLine ∧ ∃ its : List Value, Vals xs its ∧ IsTup h a its.toArray
  | .dK kvs => kvs.length ≤ sizeLine ∧ (a == sysModules) = false ∧ ∃ vs, KV kvs vs ∧ h.DictOf (mixKind P w) a vs
  | .dT kvs => kvs.length ≤ sizeLine ∧ (a == sysModules) = false ∧ ∃ xs : List (List Key × Addr × Value),
      Paired (fun (p : List Key × V) (q : List Key × Addr × Value) => p.1 = q.1 ∧ H q.2.1 = some (.tup (p.1.map kV)) ∧ RelV p.2 q.2.2) kvs xs ∧
      ∃ o es ep, h.get? a = some o ∧ o.ExactDict ∧ o.data = .dict es ep ∧ es.toList = xs.map (entryOfKey (tupleKind (mixKind P w))) ∧ (xs.map (·.1)).Nodup
  | .set S n => h.SetOf (intKind P w) a S n
  | .ins C dx fs => H dx = some (.own a) ∧ fs.length ≤ 1000 ∧ dx ≠ a ∧ h.get? a = some (PySem.W.instObj C dx) ∧
      ∃ mA, h.Ns1 dx mA ∧ (∀ f, RelO (fs.lookup f) (mA f)) ∧ PySem.Within mA (fs.map (·.1))
  | .own _ => ∃ o, h.get? a = some o
  | .xd fs => ∃ mA, h.Ns1 a mA ∧ ∀ f, RelO (fs.lookup f) (mA f)
  | .rng lo hi => ∃ t u v, h.get? a = some { cls := .type "range", data := .fields #[.int lo t, .int hi u, .int 1 v] }
  | .frz o u => h.get? a = some o ∧ ObjOk H h a u
  | .tbl ps => h.get? a = some { cls := .none, data := .fields ps }
  | .met f x => h.get? a = some (PySem.W.methodObj (.ref f) (.ref x))
  | .ext φ => φ h ∧ (∃ o, h.get? a = some o) ∧ ∀ h1 h2 : Heap, φ h1 → (∀ o, h1.get? a = some o → h2.get? a = some o) → φ h2
/-- the abstract heap is held -/
def HOk (H : Hp) (h : Heap) : Prop := ∀ a o, H a = some o → ObjOk P w H h a o
end

section
variable {P : Program} {w : World} {H H' : Hp} {h h' : Heap} {a : Addr} {o : HO}
theorem ObjOk.lt (x : ObjOk P w H h a o) : a < h.objs.size := by
  cases o with
  | lst xs => obtain ⟨_, _, _, _, e⟩ := x; exact Heap.lt_size e
  | tup xs => obtain ⟨_, _, _, p⟩ := x; exact p.lt
  | dK kvs => obtain ⟨_, _, _, _, o, _, _, e, _⟩ := x; exact Heap.lt_size e
  | dT kvs => obtain ⟨_, _, _, _, o, _, _, e, _⟩ := x; exact Heap.lt_size e
  | set S n => obtain ⟨o, _, _, _, e, _⟩ := x; exact Heap.lt_size e
  | ins C dx fs => obtain ⟨_, _, _, e, _⟩ := x; exact Heap.lt_size e
  | own y => obtain ⟨_, e⟩ := x; exact Heap.lt_size e
  | xd fs => obtain ⟨_, ⟨_, _, _, e, _⟩, _⟩ := x; exact Heap.lt_size e
  | rng lo hi => obtain ⟨_, _, _, e⟩ := x; exact Heap.lt_size e
  | frz ob u => obtain ⟨e, _⟩ := x; exact Heap.lt_size e
  | tbl ps => exact Heap.lt_size (show h.get? a = some _ from x)
  | met f y => exact Heap.lt_size (show h.get? a = some _ from x)
  | ext φ => obtain ⟨_, ⟨_, e⟩, _⟩ := x; exact Heap.lt_size e
theorem Paired.mapP {α β : Type} {F G : α → β → Prop} : ∀ {l₁ : List α} {l₂ : List β}, Paired F l₁ l₂ → (∀ a b, F a b → G a b) → Paired G l₁ l₂
  | _, _, .nil, _ => .nil
  | _, _, .cons r t, f => .cons (f _ _ r) (Paired.mapP t f)
/-- what an object's description leans on: its own object, its own dict, the tuples -/
theorem ObjOk.stay (x : ObjOk P w H h a o) (k : ∀ b u, (b = a ∨ H b = some (.own a)) → h.get? b = some u → h'.get? b = some u)
    (ho : ∀ b, H b = some (.own a) → H' b = some (.own a)) (ht : ∀ b xs, H b = some (.tup xs) → H' b = some (.tup xs)) : ObjOk P w H' h' a o := by
  induction o with
  | lst xs => obtain ⟨z, its, n, r, e⟩ := x; exact ⟨z, its, n, r, k _ _ (.inl rfl) e⟩
  | tup xs => obtain ⟨z, its, r, ob, e, c⟩ := x; exact ⟨z, its, r, ob, k _ _ (.inl rfl) e, c⟩
  | dK kvs => obtain ⟨z, y, vs, r, ob, es, ep, e, c⟩ := x; exact ⟨z, y, vs, r, ob, es, ep, k _ _ (.inl rfl) e, c⟩
  | dT kvs =>
    obtain ⟨z, y, xs, r, ob, es, ep, e, c⟩ := x
    exact ⟨z, y, xs, Paired.mapP r fun p q z => ⟨z.1, ht _ _ z.2.1, z.2.2⟩, ob, es, ep, k _ _ (.inl rfl) e, c⟩
  | set S n => obtain ⟨ob, es, ep, t, e, c⟩ := x; exact ⟨ob, es, ep, t, k _ _ (.inl rfl) e, c⟩
  | ins C dx fs =>
    obtain ⟨d, z, ne, e, mA, ⟨od, es, ep, e2, c⟩, r⟩ := x
    exact ⟨ho _ d, z, ne, k _ _ (.inl rfl) e, mA, ⟨od, es, ep, k _ _ (.inr d) e2, c⟩, r⟩
  | own y => obtain ⟨ob, e⟩ := x; exact ⟨ob, k _ _ (.inl rfl) e⟩
  | xd fs => obtain ⟨mA, ⟨od, es, ep, e, c⟩, r⟩ := x; exact ⟨mA, ⟨od, es, ep, k _ _ (.inl rfl) e, c⟩, r⟩
  | rng lo hi => obtain ⟨t, u, v, e⟩ := x; exact ⟨t, u, v, k _ _ (.inl rfl) e⟩
  | frz ob u ih => obtain ⟨e, q⟩ := x; exact ⟨k _ _ (.inl rfl) e, ih q⟩
  | tbl ps =>
    have e : h.get? a = some { cls := .none, data := .fields ps } := x
    show h'.get? a = some { cls := .none, data := .fields ps }
    exact k a _ (.inl rfl) e
  | met f y =>
    have e : h.get? a = some (PySem.W.methodObj (.ref f) (.ref y)) := x
    show h'.get? a = some (PySem.W.methodObj (.ref f) (.ref y))
    exact k a _ (.inl rfl) e
  | ext φ => obtain ⟨p, ⟨o, e⟩, st⟩ := x; exact ⟨st _ _ p fun o q => k _ _ (.inl rfl) q, ⟨o, k _ _ (.inl rfl) e⟩, st⟩
theorem HOk.lt (x : HOk P w H h) (e : H a = some o) : a < h.objs.size := (x a o e).lt
theorem HOk.fresh (x : HOk P w H h) (e : h.objs.size ≤ a) : H a = none := by
  cases q : H a with
  | none => rfl
  | some u => exact absurd (Nat.lt_of_lt_of_le (x.lt q) e) (Nat.lt_irrefl _)
/-- every object of the heap is kept -/
theorem HOk.kept (x : HOk P w H h) (k : ∀ b u, h.get? b = some u → h'.get? b = some u) : HOk P w H h' := fun a o e =>
  (x a o e).stay (fun b u _ q => k b u q) (fun _ q => q) fun _ _ q => q
/-- a new object is laid and tracked -/
theorem HOk.laid (x : HOk P w H h) (k : ∀ b u, h.get? b = some u → h'.get? b = some u) (hp : h.objs.size ≤ a) (new : ObjOk P w (upd H a o) h' a o) : HOk P w (upd H a o) h' := fun b u e => by
  have hn := x.fresh hp
  by_cases hb : b = a
  · subst hb; rw [upd_same] at e; cases e; exact new
  · rw [upd_ne hb] at e
    exact (x b u e).stay (fun c v _ q => k c v q) (fun c q => by rw [upd_ne (ne_of_none q hn)]; exact q) fun c xs q => by rw [upd_ne (ne_of_none q hn)]; exact q
end

/-- what may be read as u: it is u, or a known u -/
def Rd (H : Hp) (a : Addr) (u : HO) : Prop := H a = some u ∨ ∃ o, H a = some (.frz o u)
theorem Rd.of {H : Hp} {a : Addr} {u : HO} (h : H a = some u) : Rd H a u := .inl h
theorem Rd.ok {P : Program} {w : World} {H : Hp} {h : Heap} {a : Addr} {u : HO} (r : Rd H a u) (x : HOk P w H h) : ObjOk P w H h a u := by
  rcases r with r | ⟨o, r⟩
  · exact x a u r
  · obtain ⟨_, q⟩ := x a _ r
    exact q
/-- what may be written -/
def Mut : Option HO → Prop
  | some (.lst _) => True
  | some (.dK _) => True
  | some (.dT _) => True
  | some (.set _ _) => True
  | some (.ins _ _ _) => True
  | some (.ext _) => True
  | _ => False
section
variable {P : Program} {w : World} {H : Hp} {h h' : Heap} {x e : Addr} {o' : HO}
/-- the object at e is changed: x itself, or the dict of the instance x -/
theorem HOk.write (ok : HOk P w H h) (mu : Mut (H x)) (he : e = x ∨ H e = some (.own x)) (k : ∀ b u, b ≠ e → h.get? b = some u → h'.get? b = some u) (heo : ∃ u, h'.get? e = some u)
    (new : ObjOk P w (upd H x o') h' x o') : HOk P w (upd H x o') h' := fun b u q => by
  have nown : ∀ c y, H c = some (.own y) → c ≠ x := fun c y r z => by subst z; rw [r] at mu; exact mu
  have ntup : ∀ c xs, H c = some (.tup xs) → c ≠ x := fun c xs r z => by subst z; rw [r] at mu; exact mu
  by_cases hb : b = x
  · subst hb; rw [upd_same] at q; cases q; exact new
  · rw [upd_ne hb] at q
    by_cases hbe : b = e
    · have q' : H b = some (.own x) := by
        rcases he with z | z
        · exact absurd (hbe.trans z) hb
        · rw [hbe]; exact z
      rw [q] at q'; cases q'
      obtain ⟨v, hv⟩ := heo
      exact ⟨v, by rw [hbe]; exact hv⟩
    · refine (ok b u q).stay (fun c v hc r => k c v ?_ r) (fun c r => by rw [upd_ne (nown c b r)]; exact r) fun c xs r => by rw [upd_ne (ntup c xs r)]; exact r
      rcases hc with rfl | hc
      · exact hbe
      · rintro rfl
        rcases he with z | z
        · exact nown c b hc z
        · rw [hc] at z; cases z; exact hb rfl
end

structure Un (fs ex : List Addr) (H H' : Hp) (h h' : Heap) : Prop where
  keep : ∀ b o, h.get? b = some o → H b = none → b ∉ fs → b ∉ ex → h'.get? b = some o
  slot : ∀ b o, h.get? b = some o → H b = none → b ∈ fs → b ∉ ex → ∃ sl, h'.get? b = some { o with slots := sl }
  free : ∀ b o, h.get? b = some o → H b = none → b ∉ ex → H' b = none
  there : ∀ b o, h.get? b = some o → b ∉ ex → ∃ o', h'.get? b = some o'
  tups : ∀ b xs, H b = some (.tup xs) → H' b = some (.tup xs)
  frzs : ∀ b o u, H b = some (.frz o u) → H' b = some (.frz o u)
  tbls : ∀ b ps, H b = some (.tbl ps) → ∃ more, H' b = some (.tbl (ps ++ more))
section
variable {fs fs' ex ex' : List Addr} {H H1 H2 : Hp} {h h1 h2 h' : Heap} {a x e : Addr} {o : HO}
theorem Un.any (u : Un fs ex H H1 h h1) {b : Addr} {ob : Obj} (q : h.get? b = some ob) (n : H b = none) (hx : b ∉ ex) : ∃ sl, h1.get? b = some { ob with slots := sl } := by
  by_cases hb : b ∈ fs
  · exact u.slot b ob q n hb hx
  · exact ⟨ob.slots, u.keep b ob q n hb hx⟩
theorem Un.trans (a : Un fs ex H H1 h h1) (b : Un fs ex H1 H2 h1 h2) : Un fs ex H H2 h h2 where
  keep := fun c ob q n hc hx => b.keep c ob (a.keep c ob q n hc hx) (a.free c ob q n hx) hc hx
  slot := fun c ob q n hc hx => by
    obtain ⟨sl, e1⟩ := a.slot c ob q n hc hx
    obtain ⟨sl', e2⟩ := b.slot c _ e1 (a.free c ob q n hx) hc hx
    exact ⟨sl', e2⟩
  free := fun c ob q n hx => by
    obtain ⟨o', e1⟩ := a.there c ob q hx
    exact b.free c o' e1 (a.free c ob q n hx) hx
  there := fun c ob q hx => by
    obtain ⟨o', e1⟩ := a.there c ob q hx
    exact b.there c o' e1 hx
  tups := fun c xs q => b.tups c xs (a.tups c xs q)
  frzs := fun c ob xs q => b.frzs c ob xs (a.frzs c ob xs q)
  tbls := fun c ps q => by
    obtain ⟨m1, e1⟩ := a.tbls c ps q
    obtain ⟨m2, e2⟩ := b.tbls c _ e1
    exact ⟨m1 ++ m2, by rw [e2, Array.append_assoc]⟩
theorem Un.kept (k : ∀ b u, h.get? b = some u → h'.get? b = some u) : Un fs ex H H h h' :=
  ⟨fun b ob q _ _ _ => k b ob q, fun b ob q _ _ _ => ⟨ob.slots, k b ob q⟩, fun _ _ _ n _ => n, fun b ob q _ => ⟨ob, k b ob q⟩, fun _ _ q => q, fun _ _ _ q => q, fun _ ps q => ⟨#[], by rw [q]; simp⟩⟩
theorem Un.refl : Un fs ex H H h h := Un.kept fun _ _ q => q
theorem Un.laid (k : ∀ b u, h.get? b = some u → h'.get? b = some u) (hp : h.objs.size ≤ a) (hn : H a = none) : Un fs ex H (upd H a o) h h' where
  keep := fun b u q _ _ _ => k b u q
  slot := fun b u q _ _ _ => ⟨u.slots, k b u q⟩
  free := fun b u q n _ => by rw [upd_ne (Nat.ne_of_lt (Nat.lt_of_lt_of_le (Heap.lt_size q) hp))]; exact n
  there := fun b u q _ => ⟨u, k b u q⟩
  tups := fun b xs q => by rw [upd_ne (ne_of_none q hn)]; exact q
  frzs := fun b u xs q => by rw [upd_ne (ne_of_none q hn)]; exact q
  tbls := fun b ps q => ⟨#[], by rw [upd_ne (ne_of_none q hn), q]; simp⟩
theorem Un.write (mu : Mut (H x)) (he : e = x ∨ H e = some (.own x)) (k : ∀ b u, b ≠ e → h.get? b = some u → h'.get? b = some u) (heo : ∃ u, h'.get? e = some u) : Un fs ex H (upd H x o) h h' := by
  have hx : ∀ b, H b = none → b ≠ x := fun b n z => by subst z; rw [n] at mu; exact mu
  have hb : ∀ b, H b = none → b ≠ e := fun b n z => by
    subst z
    rcases he with r | r
    · exact hx b n r
    · rw [n] at r; cases r
  have hm : ∀ b u, H b = some u → ¬ Mut (some u) → b ≠ x := fun b u q nm z => by subst z; rw [q] at mu; exact nm mu
  refine ⟨fun b u q n _ _ => k b u (hb b n) q, fun b u q n _ _ => ⟨u.slots, k b u (hb b n) q⟩, fun b u q n _ => by rw [upd_ne (hx b n)]; exact n, fun b u q _ => ?_,
    fun b xs q => by rw [upd_ne (hm b _ q fun z => z)]; exact q, fun b u xs q => by rw [upd_ne (hm b _ q fun z => z)]; exact q, fun b ps q => ⟨#[], by rw [upd_ne (hm b _ q fun z => z), q]; simp⟩⟩
  by_cases hbe : b = e
  · subst hbe; exact heo
  · exact ⟨u, k b u hbe q⟩
theorem Un.mono (u : Un fs ex H H1 h h1) (hs : ∀ b ∈ fs, b ∈ fs') (hx : ∀ b ∈ ex, b ∈ ex') : Un fs' ex' H H1 h h1 :=
  ⟨fun b ob q n hb he => u.keep b ob q n (fun z => hb (hs b z)) fun z => he (hx b z), fun _ _ q n _ he => u.any q n fun z => he (hx _ z), fun b ob q n he => u.free b ob q n fun z => he (hx b z), fun b ob q he => u.there b ob q fun z => he (hx b z), u.tups, u.frzs, u.tbls⟩
end

def trk (h : Heap) (H : Hp) : List Addr := (List.range h.objs.size).filter fun a => (H a).isSome
def hidT (h : Heap) (H : Hp) : Heap := PySem.W.hideAll h (trk h H)
theorem hidT_size (h : Heap) (H : Hp) : (hidT h H).objs.size = h.objs.size := PySem.W.hideAll_size _ _
theorem hidT_get {h : Heap} {H : Hp} {b : Addr} {o : Obj} (e : h.get? b = some o) (n : H b = none) : (hidT h H).get? b = some o :=
  PySem.W.hideAll_get _ e fun hm => by
    have q : (H b).isSome = true := (List.mem_filter.mp hm).2
    rw [n] at q; simp at q
theorem of_hidT {h : Heap} {H : Hp} {b : Addr} {o : Obj} (e : (hidT h H).get? b = some o) : h.get? b = some o ∧ H b = none := by
  have e' : h.get? b = some o := PySem.W.of_hideAll (trk h H) e
  refine ⟨e', ?_⟩
  cases q : H b with
  | none => rfl
  | some x =>
    have hm : b ∈ trk h H := List.mem_filter.mpr ⟨List.mem_range.mpr (Heap.lt_size e'), by simp [q]⟩
    have z : (hidT h H).get? b = none := PySem.W.hideAll_none (trk h H) hm
    rw [z] at e; cases e

def allNews (g h : Heap) (L : Addr) : List (Addr × Obj) := (List.range h.objs.size).filterMap fun a => if a = L ∨ (g.get? a).isSome = true then none else (h.get? a).map fun o => (a, o)
def rest (g h : Heap) (L d : Addr) : List (Addr × Obj) := (allNews g h L).filter fun p => decide (p.1 ≠ d)
end L2

namespace L2
open PySem PySem.Spec PyProof.Rows

/-- the module's facts, over the base: the heap at the law's entry without what is tracked there -/
structure Mod (K : PySem.W.Frag) (mg : Str → Option Value) (base : Heap) : Prop where
  kin : K.In base
  glob : base.Ns mainGlobals mg
  blt : ∃ mb, base.Ns builtinsNs mb ∧ ∀ x : Str, x ≠ "__name__" → mb x = bootBuiltins x
  nolimit : base.NoLimit

/-- the context: a def's body (or a comprehension's block) running. base: fixed through the whole law; s₀, H₀: the entry; outer: the frames whose slots others may change (a def's callers); stack: all frames that run;
   ex: iterators that were made ahead of the entry and are walked here (a comprehension's); fn: the names whose cells were made at the entry (a def: all; a comprehension's block: its own); calm: not within an except suite; pn: pins that every state bears; xe: what is wanted of an exception that leaves the code -/
structure Cx where
  prog : Program
  w : World
  K : PySem.W.Frag
  mg : Str → Option Value
  base : Heap
  A : Around
  N : List Str
  s₀ : Shared
  H₀ : Hp
  env : Env
  outer : List Env
  stack : List Env
  ex : List Addr
  fn : Str → Bool
  calm : Bool
  pn : List (Addr × Obj)
  xe : Value → Shared → Prop
/-- the callers' frames -/
def frs (l : List Env) : List Addr := l.filterMap (·.frame)
abbrev Cx.fs (X : Cx) : List Addr := frs X.outer

def Vis (sc : Scope) (x : Str) : Prop := sc.names.lookup x = some .local ∨ sc.names.lookup x = some .cell ∨ sc.names.lookup x = some .free
def Loc (sc : Scope) (x : Str) : Prop := sc.names.lookup x = some .local ∨ sc.names.lookup x = some .cell
def Look (env : Env) (h : Heap) (m : Str → Option Value) (x : Str) (u : Value) : Prop :=
  (env.kindOf x = some .local ∧ m x = some u) ∨ ((env.kindOf x = some .cell ∨ env.kindOf x = some .free) ∧ ∃ c, env.cells.lookup x = some c ∧ h.IsCell c (some u))

structure Cx.Ok (X : Cx) : Prop where
  mod : Mod X.K X.mg X.base
  kind : X.env.scope.kind = .function
  glob : X.env.globals = mainGlobals
  blt : X.env.builtins = builtinsNs
  above : X.s₀.heap.objs.size ≤ X.env.locals
  inj : ∀ x y c, X.env.cells.lookup x = some c → X.env.cells.lookup y = some c → x = y
  has : ∀ x, (X.env.kindOf x = some .cell ∨ X.env.kindOf x = some .free) → ∃ c, X.env.cells.lookup x = some c
  cab : ∀ x c, X.fn x = true → X.env.cells.lookup x = some c → X.s₀.heap.objs.size ≤ c
  hd : X.calm = true → X.A.handled = none
  frames : X.A.frames = some X.stack
  stk : X.stack = X.outer ∨ (X.stack = X.env :: X.outer ∧ X.env.frame = some X.env.locals)
  exf : ∀ b ∈ X.ex, b ≠ X.env.locals ∧ ∀ x c, X.env.cells.lookup x = some c → c ≠ b
  bs : ∀ b o, X.base.get? b = some o → X.s₀.heap.get? b = some o ∧ X.H₀ b = none
  bsz : X.base.objs.size ≤ X.s₀.heap.objs.size
  noex : ∀ b o, X.base.get? b = some o → b ∉ X.ex
  exfs : ∀ b ∈ X.ex, b ∉ X.fs
  funs : X.s₀.heap.FunFrames X.base X.outer
  frf : ∀ b ∈ X.fs, X.H₀ b = none

structure Inv (X : Cx) (pins : List (Addr × Obj)) (σ : List (Option V)) (H : Hp) (s : Shared) : Prop where
  ok : X.Ok
  os : s.os = X.s₀.os
  bare : AllBare s.gens
  base : Un X.fs X.ex X.H₀ H X.s₀.heap s.heap
  loc : ∃ m, s.heap.Ns X.env.locals m ∧ ∀ (i : Nat) (x : Str) (v : V), X.N[i]? = some x → σ[i]? = some (some v) → Vis X.env.scope x → ∃ u, RelV v u ∧ Look X.env s.heap m x u
  cell : ∀ x c, X.env.cells.lookup x = some c → ∃ v, s.heap.IsCell c v
  free : H X.env.locals = none
  freeC : ∀ x c, X.env.cells.lookup x = some c → H c = none
  pin : ∀ p ∈ X.pn ++ pins, s.heap.get? p.1 = some p.2 ∧ H p.1 = none ∧ p.1 ≠ X.env.locals ∧ p.1 ∉ X.fs ∧ ∀ v, p.2.data ≠ .cell v
  hok : HOk X.prog X.w H s.heap
  len : σ.length = X.N.length

section
variable {X : Cx} {pins : List (Addr × Obj)} {σ : List (Option V)} {H H' : Hp} {s : Shared} {h' : Heap}

theorem Cx.Ok.nofr (ok : X.Ok) {b : Addr} {o : Obj} (e : X.base.get? b = some o) : b ∉ X.fs := fun hb => by
  have := (ok.funs.mem hb).1
  rw [e] at this; cases this
theorem Inv.bs (I : Inv X pins σ H s) : ∀ b o, X.base.get? b = some o → s.heap.get? b = some o ∧ H b = none := fun b o e =>
  ⟨I.base.keep b o (I.ok.bs b o e).1 (I.ok.bs b o e).2 (I.ok.nofr e) (I.ok.noex b o e), I.base.free b o (I.ok.bs b o e).1 (I.ok.bs b o e).2 (I.ok.noex b o e)⟩
theorem Inv.bk (I : Inv X pins σ H s) : ∀ b o, X.base.get? b = some o → s.heap.get? b = some o := fun b o e => (I.bs b o e).1
theorem Inv.mod (I : Inv X pins σ H s) : Mod X.K X.mg X.base := I.ok.mod
theorem Inv.kIn (I : Inv X pins σ H s) : X.K.In s.heap := I.ok.mod.kin.keeps I.bk
theorem Inv.nolimit (I : Inv X pins σ H s) : s.heap.NoLimit := I.ok.mod.nolimit.keeps I.bk
/-- the frame over the base: for OpenK's rules (K.In X.base is I.mod.kin) -/
theorem Inv.fr (I : Inv X pins σ H s) : ∃ m, Fr X.base X.env.locals s.heap m :=
  let ⟨m, hn, _⟩ := I.loc
  ⟨m, hn, I.bk, Nat.le_trans I.ok.bsz I.ok.above⟩
theorem Inv.lt (I : Inv X pins σ H s) : X.env.locals < s.heap.objs.size := let ⟨_, hn, _⟩ := I.loc; hn.lt
theorem Inv.sz (I : Inv X pins σ H s) : X.s₀.heap.objs.size ≤ s.heap.objs.size := Nat.le_trans I.ok.above (Nat.le_of_lt I.lt)
theorem Inv.nofs (I : Inv X pins σ H s) {a : Addr} (h : s.heap.objs.size ≤ a) : a ∉ X.fs := fun hb => by
  obtain ⟨_, o, ho, _⟩ := I.ok.funs.mem hb
  exact absurd (Nat.lt_of_lt_of_le (Heap.lt_size ho) (Nat.le_trans I.sz h)) (Nat.lt_irrefl _)
theorem Inv.cne (I : Inv X pins σ H s) : ∀ x c, X.env.cells.lookup x = some c → c ≠ X.env.locals := fun x c e z => by
  obtain ⟨v, o, ho, hd⟩ := I.cell x c e
  obtain ⟨m, ⟨o', es, ep, ho', hd', _⟩, _⟩ := I.loc
  rw [z, ho'] at ho; cases ho; rw [hd'] at hd; cases hd
theorem Inv.funs (I : Inv X pins σ H s) : s.heap.FunFrames X.base X.outer := by
  have all : ∀ (l : List Env), (∀ b ∈ frs l, b ∈ X.fs) → X.s₀.heap.FunFrames X.base l → s.heap.FunFrames X.base l := by
    intro l
    induction l with
    | nil => intro _ _; trivial
    | cons env r ih =>
      intro hs hl
      obtain ⟨hk, ⟨L, o, hf, hn, ho, hd⟩, hr⟩ := hl
      have hL : L ∈ X.fs := hs L (by unfold frs; rw [List.filterMap_cons, hf]; exact List.mem_cons_self)
      obtain ⟨sl, e⟩ := I.base.slot L o ho (I.ok.frf L hL) hL fun z => I.ok.exfs L z hL
      exact ⟨hk, ⟨L, _, hf, hn, e, hd⟩, ih (fun b hb => hs b (by unfold frs; rw [List.filterMap_cons, hf]; exact List.mem_cons_of_mem _ hb)) hr⟩
  exact all X.outer (fun _ hb => hb) I.ok.funs

/-- the frames that run, for a call -/
theorem Inv.stack (I : Inv X pins σ H s) : s.heap.FunFrames X.base X.stack := by
  rcases I.ok.stk with e | ⟨e, hf⟩
  · rw [e]; exact I.funs
  · rw [e]
    obtain ⟨m, hn, _⟩ := I.loc
    refine .cons (by rw [I.ok.kind]; decide) hf hn ?_ I.funs
    exact Heap.get?_none_of_le (Nat.le_trans I.ok.bsz I.ok.above)
theorem Inv.stkSub (I : Inv X pins σ H s) : ∀ b ∈ frs X.stack, b ∈ X.env.locals :: X.fs := fun b hb => by
  rcases I.ok.stk with e | ⟨e, hf⟩
  · rw [e] at hb; exact List.mem_cons_of_mem _ hb
  · rw [e] at hb
    unfold frs at hb
    rw [List.filterMap_cons, hf] at hb
    exact hb
theorem Inv.stkFree (I : Inv X pins σ H s) : ∀ b ∈ frs X.stack, H b = none := fun b hb => by
  rcases List.mem_cons.mp (I.stkSub b hb) with e | hb
  · rw [e]; exact I.free
  · obtain ⟨_, o, ho, _⟩ := I.ok.funs.mem hb
    exact I.base.free b o ho (I.ok.frf b hb) fun z => I.ok.exfs b z hb

/-- THE STEP: the untracked objects but the frame and the records at ch are kept (the callers' frames up to slots), the frame's map is kept, the new abstract heap is held -/
theorem Inv.step {g' : Array GenState} {t' : Nat} {d' : Drawn} {ch : List Addr} (I : Inv X pins σ H s)
    (hch : ∀ b ∈ ch, (b ∈ X.ex ∨ X.s₀.heap.objs.size ≤ b) ∧ b ≠ X.env.locals ∧ (∀ x c, X.env.cells.lookup x = some c → c ≠ b) ∧ ∀ p ∈ X.pn ++ pins, p.1 ≠ b)
    (keep : ∀ b o, b ≠ X.env.locals → b ∉ X.fs → b ∉ ch → s.heap.get? b = some o → H b = none → h'.get? b = some o)
    (slot : ∀ b o, b ≠ X.env.locals → b ∈ X.fs → b ∉ ch → s.heap.get? b = some o → H b = none → ∃ sl, h'.get? b = some { o with slots := sl }) (free : ∀ b o, b ∉ ch → s.heap.get? b = some o → H b = none → H' b = none)
    (there : ∀ b o, b ∉ ch → s.heap.get? b = some o → ∃ o', h'.get? b = some o')
    (tups : ∀ b xs, H b = some (.tup xs) → H' b = some (.tup xs)) (frzs : ∀ b o u, H b = some (.frz o u) → H' b = some (.frz o u)) (tbls : ∀ b ps, H b = some (.tbl ps) → ∃ more, H' b = some (.tbl (ps ++ more)))
    (ns : ∀ m, s.heap.Ns X.env.locals m → h'.Ns X.env.locals m) (hok : HOk X.prog X.w H' h') (hg : AllBare g') :
    Inv X pins σ H' { s with heap := h', gens := g', drawn := d', toks := t' } := by
  have neL : ∀ b o, X.s₀.heap.get? b = some o → b ≠ X.env.locals := fun b o e => Nat.ne_of_lt (Nat.lt_of_lt_of_le (Heap.lt_size e) I.ok.above)
  have neC : ∀ b o, X.s₀.heap.get? b = some o → b ∉ X.ex → b ∉ ch := fun b o e hx hb => by
    rcases (hch b hb).1 with z | z
    · exact hx z
    · exact absurd (Nat.lt_of_lt_of_le (Heap.lt_size e) z) (Nat.lt_irrefl _)
  have cellK : ∀ x c, X.env.cells.lookup x = some c → ∀ v, s.heap.IsCell c v → h'.IsCell c v := fun x c e v ⟨o, ho, hd⟩ => by
    have nch : c ∉ ch := fun z => (hch c z).2.2.1 x c e rfl
    by_cases hc : c ∈ X.fs
    · obtain ⟨sl, q⟩ := slot c o (I.cne x c e) hc nch ho (I.freeC x c e)
      exact ⟨_, q, hd⟩
    · exact ⟨o, keep c o (I.cne x c e) hc nch ho (I.freeC x c e), hd⟩
  refine ⟨I.ok, I.os, hg, ⟨fun b o e n hb hx => ?_, fun b o e n hb hx => ?_, fun b o e n hx => ?_, fun b o e hx => ?_, fun b xs e => tups b xs (I.base.tups b xs e), fun b o xs e => frzs b o xs (I.base.frzs b o xs e), fun b ps e => ?_⟩, ?_, fun x c e => ?_, ?_, fun x c e => ?_, fun p hp => ?_, hok, I.len⟩
  · exact keep b o (neL b o e) hb (neC b o e hx) (I.base.keep b o e n hb hx) (I.base.free b o e n hx)
  · obtain ⟨sl, e1⟩ := I.base.slot b o e n hb hx
    obtain ⟨sl', e2⟩ := slot b _ (neL b o e) hb (neC b o e hx) e1 (I.base.free b o e n hx)
    exact ⟨sl', e2⟩
  · obtain ⟨o', e1⟩ := I.base.there b o e hx
    exact free b o' (neC b o e hx) e1 (I.base.free b o e n hx)
  · obtain ⟨o', e1⟩ := I.base.there b o e hx
    exact there b o' (neC b o e hx) e1
  · obtain ⟨m1, e1⟩ := I.base.tbls b ps e
    obtain ⟨m2, e2⟩ := tbls b _ e1
    exact ⟨m1 ++ m2, by rw [e2, Array.append_assoc]⟩
  · obtain ⟨m, hn, hl⟩ := I.loc
    refine ⟨m, ns m hn, fun i x v e1 e2 e3 => ?_⟩
    obtain ⟨u, r, l⟩ := hl i x v e1 e2 e3
    refine ⟨u, r, ?_⟩
    rcases l with l | ⟨k, c, e, z⟩
    · exact .inl l
    · exact .inr ⟨k, c, e, cellK x c e _ z⟩
  · obtain ⟨v, z⟩ := I.cell x c e
    exact ⟨v, cellK x c e v z⟩
  · obtain ⟨m, ⟨o, _, _, ho, _⟩, _⟩ := I.loc
    exact free _ o (fun z => (hch _ z).2.1 rfl) ho I.free
  · obtain ⟨v, o, ho, hd⟩ := I.cell x c e
    exact free c o (fun z => (hch c z).2.2.1 x c e rfl) ho (I.freeC x c e)
  · obtain ⟨e, n, ne, nf, d⟩ := I.pin p hp
    have nch : p.1 ∉ ch := fun z => (hch p.1 z).2.2.2 p hp rfl
    exact ⟨keep p.1 p.2 ne nf nch e n, free p.1 p.2 nch e n, ne, nf, d⟩
/-- .. where the frame's own object is kept too -/
theorem Inv.un {t' : Nat} (I : Inv X pins σ H s) (u : Un X.fs [] H H' s.heap h') (hok : HOk X.prog X.w H' h') : Inv X pins σ H' { s with heap := h', toks := t' } := by
  obtain ⟨m, ⟨o, es, ep, ho, r⟩, _⟩ := id I.loc
  obtain ⟨sl, hL⟩ := u.any ho I.free (by simp)
  exact I.step (g' := s.gens) (d' := s.drawn) (ch := []) (fun _ z => nomatch z) (fun b o _ hb _ e n => u.keep b o e n hb (by simp)) (fun b o _ hb _ e n => u.slot b o e n hb (by simp)) (fun b o _ e n => u.free b o e n (by simp)) (fun b o _ e => u.there b o e (by simp)) u.tups u.frzs u.tbls (fun m' hm => by
    obtain ⟨o', es', ep', ho', r'⟩ := hm
    rw [ho] at ho'; cases ho'
    exact ⟨_, es', ep', hL, r'⟩) hok I.bare
/-- behind a call (or a comprehension's block): the slots of this frame may have changed too, the records at ch may have turned -/
theorem Inv.call {g' : Array GenState} {t' : Nat} {d' : Drawn} {ch : List Addr} (I : Inv X pins σ H s) (u : Un (frs X.stack) ch H H' s.heap h') (hok : HOk X.prog X.w H' h') (hg : AllBare g')
    (hch : ∀ b ∈ ch, (b ∈ X.ex ∨ X.s₀.heap.objs.size ≤ b) ∧ b ≠ X.env.locals ∧ (∀ x c, X.env.cells.lookup x = some c → c ≠ b) ∧ ∀ p ∈ X.pn ++ pins, p.1 ≠ b) :
    Inv X pins σ H' { s with heap := h', gens := g', drawn := d', toks := t' } := by
  obtain ⟨m, ⟨o, es, ep, ho, r⟩, _⟩ := id I.loc
  obtain ⟨sl, hL⟩ := u.any ho I.free fun z => (hch _ z).2.1 rfl
  exact I.step (ch := ch) hch (fun b o hL hb hc e n => u.keep b o e n (fun z => (List.mem_cons.mp (I.stkSub b z)).elim hL hb) hc) (fun b o _ _ hc e n => u.any e n hc) (fun b o hc e n => u.free b o e n hc) (fun b o hc e => u.there b o e hc) u.tups u.frzs u.tbls (fun m' hm => by
    obtain ⟨o', es', ep', ho', r'⟩ := hm
    rw [ho] at ho'; cases ho'
    exact ⟨_, es', ep', hL, r'⟩) hok hg
/-- an untracked record of ours (an iterator) has turned -/
theorem Inv.turned {t' : Nat} {it : Addr} (I : Inv X pins σ H s) (k : ∀ b o, b ≠ it → s.heap.get? b = some o → h'.get? b = some o) (hn : H it = none) (hL : it ≠ X.env.locals)
    (h1 : it ∈ X.ex ∨ X.s₀.heap.objs.size ≤ it) (h2 : ∀ x c, X.env.cells.lookup x = some c → c ≠ it) (h3 : ∀ p ∈ X.pn ++ pins, p.1 ≠ it) : Inv X pins σ H { s with heap := h', toks := t' } := by
  have nit : ∀ b u, H b = some u → b ≠ it := fun b u e z => by rw [z, hn] at e; cases e
  refine I.step (g' := s.gens) (d' := s.drawn) (ch := [it]) (fun b hb => ?_) (fun b o _ _ hc e _ => k b o (fun z => hc (by simp [z])) e) (fun b o _ _ hc e _ => ⟨o.slots, k b o (fun z => hc (by simp [z])) e⟩) (fun _ _ _ _ n => n)
    (fun b o hc e => ⟨o, k b o (fun z => hc (by simp [z])) e⟩) (fun _ _ e => e) (fun _ _ _ e => e) (fun b ps e => ⟨#[], by rw [e]; simp⟩) (fun m hm => ?_) (fun b u e => ?_) I.bare
  · have e : b = it := by simpa using hb
    subst e
    exact ⟨h1, hL, h2, h3⟩
  · obtain ⟨o, es, ep, ho, r⟩ := hm
    exact ⟨o, es, ep, k _ o (Ne.symm hL) ho, r⟩
  · refine (I.hok b u e).stay (fun c v hc q => k c v ?_ q) (fun _ q => q) fun _ _ q => q
    rcases hc with z | z
    · rw [z]; exact nit b u e
    · exact nit c _ z
theorem Inv.tok (I : Inv X pins σ H s) (t : Nat) : Inv X pins σ H { s with toks := t } := I.un (h' := s.heap) (t' := t) Un.refl I.hok
/-- all objects kept -/
theorem Inv.kept {t' : Nat} (I : Inv X pins σ H s) (k : ∀ b u, s.heap.get? b = some u → h'.get? b = some u) : Inv X pins σ H { s with heap := h', toks := t' } := I.un (Un.kept k) (I.hok.kept k)
/-- a new object laid and tracked -/
theorem Inv.laid {a : Addr} {o : HO} {t' : Nat} (I : Inv X pins σ H s) (k : ∀ b u, s.heap.get? b = some u → h'.get? b = some u) (hp : s.heap.objs.size ≤ a) (new : ObjOk X.prog X.w (upd H a o) h' a o) :
    Inv X pins σ (upd H a o) { s with heap := h', toks := t' } := I.un (Un.laid k hp (I.hok.fresh hp)) (I.hok.laid k hp new)
/-- an object written -/
theorem Inv.write {x e : Addr} {o : HO} {t' : Nat} (I : Inv X pins σ H s) (mu : Mut (H x)) (he : e = x ∨ H e = some (.own x)) (k : ∀ b u, b ≠ e → s.heap.get? b = some u → h'.get? b = some u) (heo : ∃ u, h'.get? e = some u)
    (new : ObjOk X.prog X.w (upd H x o) h' x o) : Inv X pins σ (upd H x o) { s with heap := h', toks := t' } := I.un (Un.write mu he k heo) (I.hok.write mu he k heo new)
theorem Inv.pins_of {pins' : List (Addr × Obj)} (I : Inv X pins σ H s) (h : ∀ p ∈ pins', s.heap.get? p.1 = some p.2 ∧ H p.1 = none ∧ p.1 ≠ X.env.locals ∧ p.1 ∉ X.fs ∧ ∀ v, p.2.data ≠ .cell v) : Inv X pins' σ H s :=
  ⟨I.ok, I.os, I.bare, I.base, I.loc, I.cell, I.free, I.freeC, fun p hp => (List.mem_append.mp hp).elim (fun z => I.pin p (List.mem_append_left _ z)) (h p), I.hok, I.len⟩

theorem nodup_ix {N : List Str} (hN : N.Nodup) {i j : Nat} {x : Str} (a : N[i]? = some x) (b : N[j]? = some x) : i = j := by
  obtain ⟨h1, e1⟩ := List.getElem?_eq_some_iff.mp a
  obtain ⟨h2, e2⟩ := List.getElem?_eq_some_iff.mp b
  exact (List.getElem_inj hN).mp (e1.trans e2.symm)

/-- a name is stored; what changed -/
theorem store_ok2 {M : Model} {A : Around} {E : Value → Shared → Prop} {i : Nat} {x : Str} {v : V} {u : Value} {Q : Unit → Shared → Prop} (I : Inv X pins σ H s) (hN : X.N.Nodup) (hi : X.N[i]? = some x) (hx : Loc X.env.scope x) (r : RelV v u)
    (h : ∀ s', Inv X pins (σ.set i (some v)) H s' → (∃ a, Heap.SameBut a s.heap s'.heap ∧ (a = X.env.locals ∨ X.env.cells.lookup x = some a)) → Q () s') (hf : X.fn x = true ∨ X.env.scope.names.lookup x = some .local := by first | exact .inl rfl | exact .inr rfl | assumption) : wpAny M A (storeName X.env x u) Q E s := by
  obtain ⟨m, hn, hl⟩ := id I.loc
  have hcls : (X.env.scope.kind == .class || (X.env.scope.kind == .module && X.env.locals != X.env.globals)) = false := by rw [I.ok.kind]; rfl
  have hiσ : i < σ.length := by rw [I.len]; exact (List.getElem?_eq_some_iff.mp hi).1
  have cne := I.cne
  have tracked : ∀ {a : Addr} {h' : Heap}, (∃ o, s.heap.get? a = some o ∧ H a = none) → Heap.SameBut a s.heap h' → HOk X.prog X.w H h' := fun {a h'} ha hs b ob e => by
    obtain ⟨_, _, hfree⟩ := ha
    refine (I.hok b ob e).stay (fun c w' hc q => (hs.2 c ?_).trans q) (fun _ q => q) fun _ _ q => q
    rintro rfl
    rcases hc with rfl | hc
    · rw [hfree] at e; cases e
    · rw [hfree] at hc; cases hc
  rcases hx with hk | hk
  · refine wpAny_storeName_local hk hn (fun h' hn' hs => ?_) hcls
    obtain ⟨oL, _, _, hoL, _⟩ := id hn
    refine h _ ⟨I.ok, I.os, I.bare, ⟨fun b o e n hb hx => ?_, fun b o e n hb hx => ?_, I.base.free, fun b o e hx => ?_, I.base.tups, I.base.frzs, I.base.tbls⟩, ⟨_, hn', fun j y v' e1 e2 e3 => ?_⟩, fun y c e => ?_, I.free, I.freeC, fun p hp => ?_, tracked ⟨oL, hoL, I.free⟩ hs, by simpa using I.len⟩ ⟨_, hs, .inl rfl⟩
    · exact (hs.2 b (Nat.ne_of_lt (Nat.lt_of_lt_of_le (Heap.lt_size e) I.ok.above))).trans (I.base.keep b o e n hb hx)
    · obtain ⟨sl, e1⟩ := I.base.slot b o e n hb hx
      exact ⟨sl, (hs.2 b (Nat.ne_of_lt (Nat.lt_of_lt_of_le (Heap.lt_size e) I.ok.above))).trans e1⟩
    · obtain ⟨o', e1⟩ := I.base.there b o e hx
      exact ⟨o', (hs.2 b (Nat.ne_of_lt (Nat.lt_of_lt_of_le (Heap.lt_size e) I.ok.above))).trans e1⟩
    · by_cases hj : j = i
      · subst hj
        rw [hi] at e1; cases e1
        rw [List.getElem?_set_self hiσ] at e2
        cases e2
        exact ⟨u, r, .inl ⟨hk, by simp⟩⟩
      · rw [List.getElem?_set_ne (Ne.symm hj)] at e2
        obtain ⟨u', r', q⟩ := hl j y v' e1 e2 e3
        refine ⟨u', r', ?_⟩
        rcases q with ⟨k, e⟩ | ⟨k, c, e, z⟩
        · refine .inl ⟨k, ?_⟩
          have : y ≠ x := fun e => hj (nodup_ix hN e1 (e ▸ hi))
          simp [this, e]
        · exact .inr ⟨k, c, e, z.sameBut hs (cne y c e)⟩
    · obtain ⟨w', z⟩ := I.cell y c e
      exact ⟨w', z.sameBut hs (cne y c e)⟩
    · obtain ⟨e, n, ne, nf, d⟩ := I.pin p hp
      exact ⟨(hs.2 p.1 ne).trans e, n, ne, nf, d⟩
  · have hfn : X.fn x = true := by
      rcases hf with z | z
      · exact z
      · rw [z] at hk; cases hk
    obtain ⟨c, hc⟩ := I.ok.has x (.inl hk)
    obtain ⟨w', z⟩ := I.cell x c hc
    refine wpAny_storeName_cell I.ok.kind hk hc z (fun h' hc' hs => ?_)
    obtain ⟨oc, hoc, hocd⟩ := id z
    refine h { s with heap := h' } ⟨I.ok, I.os, I.bare, ⟨fun b o e n hb hx => ?_, fun b o e n hb hx => ?_, I.base.free, fun b o e hx => ?_, I.base.tups, I.base.frzs, I.base.tbls⟩, ⟨m, hn.sameBut hs (Ne.symm (cne x c hc)), fun j y v' e1 e2 e3 => ?_⟩, fun y c' e => ?_, I.free, I.freeC, fun p hp => ?_, tracked ⟨oc, hoc, I.freeC x c hc⟩ hs, by simpa using I.len⟩ ⟨c, hs, .inr hc⟩
    · exact (hs.2 b (Nat.ne_of_lt (Nat.lt_of_lt_of_le (Heap.lt_size e) (I.ok.cab x c hfn hc)))).trans (I.base.keep b o e n hb hx)
    · obtain ⟨sl, e1⟩ := I.base.slot b o e n hb hx
      exact ⟨sl, (hs.2 b (Nat.ne_of_lt (Nat.lt_of_lt_of_le (Heap.lt_size e) (I.ok.cab x c hfn hc)))).trans e1⟩
    · obtain ⟨o', e1⟩ := I.base.there b o e hx
      exact ⟨o', (hs.2 b (Nat.ne_of_lt (Nat.lt_of_lt_of_le (Heap.lt_size e) (I.ok.cab x c hfn hc)))).trans e1⟩
    · by_cases hj : j = i
      · subst hj
        rw [hi] at e1; cases e1
        rw [List.getElem?_set_self hiσ] at e2
        cases e2
        exact ⟨u, r, .inr ⟨.inl hk, c, hc, hc'⟩⟩
      · rw [List.getElem?_set_ne (Ne.symm hj)] at e2
        obtain ⟨u', r', q⟩ := hl j y v' e1 e2 e3
        refine ⟨u', r', ?_⟩
        rcases q with q | ⟨k, c', e, z'⟩
        · exact .inl q
        · refine .inr ⟨k, c', e, z'.sameBut hs ?_⟩
          rintro rfl
          exact hj (nodup_ix hN e1 (I.ok.inj _ _ _ e hc ▸ hi))
    · by_cases hcc : c' = c
      · subst hcc; exact ⟨_, hc'⟩
      · obtain ⟨w2, z2⟩ := I.cell y c' e
        exact ⟨w2, z2.sameBut hs hcc⟩
    · obtain ⟨e, n, ne, nf, d⟩ := I.pin p hp
      refine ⟨(hs.2 p.1 ?_).trans e, n, ne, nf, d⟩
      intro q
      rw [q, hoc] at e
      have q' : oc = p.2 := Option.some.inj e
      exact d w' (by rw [← q']; exact hocd)
theorem store_ok {M : Model} {A : Around} {E : Value → Shared → Prop} {i : Nat} {x : Str} {v : V} {u : Value} {Q : Unit → Shared → Prop} (I : Inv X pins σ H s) (hN : X.N.Nodup) (hi : X.N[i]? = some x) (hx : Loc X.env.scope x) (r : RelV v u)
    (h : ∀ s', Inv X pins (σ.set i (some v)) H s' → Q () s') (hf : X.fn x = true ∨ X.env.scope.names.lookup x = some .local := by first | exact .inl rfl | exact .inr rfl | assumption) : wpAny M A (storeName X.env x u) Q E s :=
  store_ok2 I hN hi hx r (fun s' I' _ => h s' I') hf
/-- behind a call or a block, the state as it is -/
theorem Inv.call' {s' : Shared} {ch : List Addr} (I : Inv X pins σ H s) (ho : s'.os = s.os) (u : Un (frs X.stack) ch H H' s.heap s'.heap) (hok : HOk X.prog X.w H' s'.heap) (hg : AllBare s'.gens)
    (hch : ∀ b ∈ ch, (b ∈ X.ex ∨ X.s₀.heap.objs.size ≤ b) ∧ b ≠ X.env.locals ∧ (∀ x c, X.env.cells.lookup x = some c → c ≠ b) ∧ ∀ p ∈ X.pn ++ pins, p.1 ≠ b) : Inv X pins σ H' s' := by
  obtain ⟨h', g', d', t', o'⟩ := s'
  have e : o' = s.os := ho
  subst e
  exact I.call (g' := g') (t' := t') (d' := d') u hok hg hch
end

/-- an exception: its class, its own dict's address (where it has one), the abstract heap behind it -/
abbrev XK := Value → Option Addr → Hp → Prop
abbrev St := List (Option V)
abbrev VK := V → Hp → Prop
/-- an expression's reading; a test's; an argument list's -/
abbrev TE := St → Hp → VK → Prop
abbrev TT := St → Hp → (Bool → Hp → Prop) → Prop
abbrev TA := St → Hp → (List V → Hp → Prop) → Prop
/-- what is wanted behind a statement -/
structure Ends where
  nx : St → Hp → Prop
  rt : VK
  bk : St → Hp → Prop := fun _ _ => False
  ct : St → Hp → Prop := fun _ _ => False
abbrev TS := Ends → St → Hp → Prop

def EP (X : Cx) (pins : List (Addr × Obj)) (σ : St) (Q : VK) (u : Value) (s' : Shared) : Prop := ∃ v H', Inv X pins σ H' s' ∧ RelV v u ∧ Q v H'
def TP (X : Cx) (pins : List (Addr × Obj)) (σ : St) (Q : Bool → Hp → Prop) (b : Bool) (s' : Shared) : Prop := ∃ H', Inv X pins σ H' s' ∧ Q b H'
def AP (X : Cx) (pins : List (Addr × Obj)) (σ : St) (Q : List V → Hp → Prop) (us : List Value) (s' : Shared) : Prop := ∃ vs H', Inv X pins σ H' s' ∧ Vals vs us ∧ Q vs H'
def SP (X : Cx) (pins : List (Addr × Obj)) (D : Ends) (f : Flow) (s' : Shared) : Prop :=
  match f with
  | .next => ∃ σ' H', Inv X pins σ' H' s' ∧ D.nx σ' H'
  | .brk => ∃ σ' H', Inv X pins σ' H' s' ∧ D.bk σ' H'
  | .cont => ∃ σ' H', Inv X pins σ' H' s' ∧ D.ct σ' H'
  | .ret u => ∃ v σ' H', Inv X pins σ' H' s' ∧ RelV v u ∧ D.rt v H'

def PE (X : Cx) (e : Expr) (t : TE) : Prop :=
  ∀ (pins : List (Addr × Obj)) (s : Shared) (σ : St) (H : Hp) (Q : VK), Inv X pins σ H s → t σ H Q → wpAny (model X.prog X.w) X.A (eval e X.env) (EP X pins σ Q) X.xe s
def PT (X : Cx) (e : Expr) (t : TT) : Prop :=
  ∀ (pins : List (Addr × Obj)) (s : Shared) (σ : St) (H : Hp) (Q : Bool → Hp → Prop), Inv X pins σ H s → t σ H Q → wpAny (model X.prog X.w) X.A (isTrue e X.env (eval e X.env)) (TP X pins σ Q) X.xe s
/-- a test whatever its 'whole' is (and, or) -/
def PW (X : Cx) (e : Expr) (t : TT) : Prop :=
  ∀ (whole : Sem Value) (pins : List (Addr × Obj)) (s : Shared) (σ : St) (H : Hp) (Q : Bool → Hp → Prop), Inv X pins σ H s → t σ H Q → wpAny (model X.prog X.w) X.A (isTrue e X.env whole) (TP X pins σ Q) X.xe s
theorem PW.pt {X : Cx} {e : Expr} {t : TT} (h : PW X e t) : PT X e t := h _
/-- an argument list (no star), from the left -/
def PA (X : Cx) (es : List Expr) (t : TA) : Prop :=
  ∀ (pos : Pos) (pins : List (Addr × Obj)) (s : Shared) (σ : St) (H : Hp) (Q : List V → Hp → Prop), Inv X pins σ H s → t σ H Q → wpAny (model X.prog X.w) X.A (spliced (backTo pos (starEach es X.env))) (AP X pins σ Q) X.xe s
def PS (X : Cx) (st : Stmt) (t : TS) : Prop :=
  ∀ (pins : List (Addr × Obj)) (s : Shared) (σ : St) (H : Hp) (D : Ends), Inv X pins σ H s → t D σ H → wpAny (model X.prog X.w) X.A (exec st X.env) (SP X pins D) X.xe s
def PSs (X : Cx) (st : List Stmt) (t : TS) : Prop :=
  ∀ (pins : List (Addr × Obj)) (s : Shared) (σ : St) (H : Hp) (D : Ends), Inv X pins σ H s → t D σ H → wpAny (model X.prog X.w) X.A (execs st X.env) (SP X pins D) X.xe s
/-- weaken the end -/
theorem thn {α : Type} {t : Sem α} {Q Q' : α → Shared → Prop} {M : Model} {A : Around} {E : Value → Shared → Prop} {s : Shared} (h : wpAny M A t Q E s) (hQ : ∀ a s, Q a s → Q' a s) : wpAny M A t Q' E s := wpAny_mono h hQ fun _ _ x => x
end L2

namespace L2
open PySem PySem.Spec PyProof.Rows
section
variable {X : Cx}

/-- two expressions in a row -/
theorem bin {a b : Expr} {ta tb : TE} (ha : PE X a ta) (hb : PE X b tb) {pins : List (Addr × Obj)} {s : Shared} {σ : St} {H : Hp} {R : V → V → Hp → Prop} (I : Inv X pins σ H s) (h : ta σ H fun x H1 => tb σ H1 fun y H2 => R x y H2)
    {α : Type} {Q : α → Shared → Prop} {f : Value → Value → Sem α}
    (hf : ∀ v u s2 x y H2, Inv X pins σ H2 s2 → RelV x v → RelV y u → R x y H2 → wpAny (model X.prog X.w) X.A (f v u) Q X.xe s2) :
    wpAny (model X.prog X.w) X.A (eval a X.env) (fun v s₁ => wpAny (model X.prog X.w) X.A (eval b X.env) (fun u s₂ => wpAny (model X.prog X.w) X.A (f v u) Q X.xe s₂) X.xe s₁) X.xe s := by
  refine thn (ha pins s σ H _ I h) fun v s1 hhx => ?_
  obtain ⟨x, H1, I1, r1, q1⟩ := hhx
  refine thn (hb pins s1 σ H1 _ I1 q1) fun u s2 hhx => ?_
  obtain ⟨y, H2, I2, r2, q2⟩ := hhx
  exact hf v u s2 x y H2 I2 r1 r2 q2

def tVar (i : Nat) : TE := fun σ H Q => ∃ v, σ[i]? = some (some v) ∧ Q v H
def tC (v : V) : TE := fun _ H Q => Q v H
theorem pe_var {i : Nat} {x : Str} {pos : Pos} (hN : X.N[i]? = some x) (hv : Vis X.env.scope x) (hd : (x == ("__debug__" : Str)) = false := by decide) (hcd : (x == ("__classdict__" : Str)) = false := by decide) : PE X (.Name x pos) (tVar i) := by
  intro pins s σ H Q I h
  obtain ⟨v, e, h⟩ := h
  obtain ⟨m, hn, hl⟩ := I.loc
  obtain ⟨u, r, l⟩ := hl i x v hN e hv
  have fin : EP X pins σ Q u s := ⟨v, H, I, r, h⟩
  rcases l with ⟨hk, hm⟩ | ⟨hk, c, hc, hcell⟩
  · exact wpAny_Name (wpAny_loadName_local I.ok.kind hk hn hm fin) hd
  · rcases hk with hk | hk
    · exact wpAny_Name (wpAny_loadName_cell I.ok.kind hk hc hcell fin) hd
    · exact wpAny_Name (wpAny_loadName_free I.ok.kind hk hc hcell fin hcd) hd
theorem pe_int {i j pos} : PE X (.Constant (.int i) j pos) (tC (.int i)) := fun _ _ _ H _ I h => wpAny_Constant_int ⟨.int i, H, I.tok _, ⟨_, rfl⟩, h⟩
theorem pe_bl {b j pos} : PE X (.Constant (.bool b) j pos) (tC (.bl b)) := fun _ _ _ H _ I h => Constant_bool ⟨.bl b, H, I, rfl, h⟩
theorem pe_non {j pos} : PE X (.Constant .none j pos) (tC .non) := fun _ _ _ H _ I h => Constant_none ⟨.non, H, I, rfl, h⟩
theorem pe_str {x j pos} : PE X (.Constant (.str x) j pos) (tC (.str x)) := fun _ _ _ H _ I h => Calls.Constant_str ⟨.str x, H, I.tok _, ⟨_, rfl⟩, h⟩

/-- a global name of the def -/
def Gl (X : Cx) (x : Str) : Prop := X.env.kindOf x = some .globalImplicit
theorem ld_glob {E : Value → Shared → Prop} {pins : List (Addr × Obj)} {s : Shared} {σ : St} {H : Hp} {x : Str} {u : Value} {pos : Pos} {Q : Value → Shared → Prop} (I : Inv X pins σ H s) (hg : Gl X x) (hm : X.mg x = some u) (h : Q u s)
    (hd : (x == ("__debug__" : Str)) = false := by decide) : wpAny (model X.prog X.w) X.A (eval (.Name x pos) X.env) Q E s :=
  Calls.Name_function_global I.ok.kind hg (Calls.loadGlobal_global (by rw [I.ok.glob]; exact I.mod.glob.keeps I.bk) hm h) hd
theorem ld_blt {E : Value → Shared → Prop} {pins : List (Addr × Obj)} {s : Shared} {σ : St} {H : Hp} {x : Str} {u : Value} {pos : Pos} {Q : Value → Shared → Prop} (I : Inv X pins σ H s) (hg : Gl X x) (hm : X.mg x = none) (hv : bootBuiltins x = some u) (h : Q u s)
    (hn : x ≠ "__name__" := by decide) (hd : (x == ("__debug__" : Str)) = false := by decide) : wpAny (model X.prog X.w) X.A (eval (.Name x pos) X.env) Q E s := by
  obtain ⟨mb, h1, h2⟩ := I.mod.blt
  exact Calls.Name_function_global I.ok.kind hg (Calls.loadGlobal_builtin (by rw [I.ok.glob]; exact I.mod.glob.keeps I.bk) hm (by rw [I.ok.blt]; exact h1.keeps I.bk) ((h2 x hn).trans hv) h) hd
theorem pe_bltn {x : Str} {v : V} {u : Value} {pos : Pos} (hg : Gl X x) (hm : X.mg x = none) (hv : bootBuiltins x = some u) (r : RelV v u) (hn : x ≠ "__name__" := by decide) (hd : (x == ("__debug__" : Str)) = false := by decide) : PE X (.Name x pos) (tC v) :=
  fun _ _ _ H _ I h => ld_blt I hg hm hv ⟨v, H, I, r, h⟩ hn hd

variable {a b : Expr} {ta tb : TE} {pos : Pos}
def PC (X : Cx) (op : CmpOp) (a b : Expr) (t : TE) : Prop :=
  ∀ (pins : List (Addr × Obj)) (s : Shared) (σ : St) (H : Hp) (Q : VK), Inv X pins σ H s → t σ H Q →
    wpAny (model X.prog X.w) X.A (eval a X.env) (fun v s₁ => wpAny (model X.prog X.w) X.A (eval b X.env) (fun u s₂ => wpAny (model X.prog X.w) X.A (compareOp op v u) (EP X pins σ Q) X.xe s₂) X.xe s₁) X.xe s
theorem nobehind (b : Expr) {op : CmpOp} (h : op ≠ .In) (h2 : op ≠ .NotIn) : behindInMarks op b = false := by
  have e1 : (op == CmpOp.In) = false := by cases op <;> first | rfl | exact absurd rfl h
  have e2 : (op == CmpOp.NotIn) = false := by cases op <;> first | rfl | exact absurd rfl h2
  cases b <;> simp [behindInMarks, e1, e2]
/-- a comparison as a value, as a test -/
def tB (t : TE) : TT := fun σ H Q => t σ H fun x H1 => ∃ c, x = .bl c ∧ Q c H1
theorem pt_cmp {op : CmpOp} {t : TE} (h : PC X op a b t) (h1 : behindInMarks op b = false := by first | exact nobehind _ (by decide) (by decide) | rfl) : PT X (.Compare a [op] [b] pos) (tB t) := by
  intro pins s σ H Q I hw
  refine wpAny_isTrue_Compare1 (thn (h pins s σ H _ I hw) fun v s1 h1 => thn h1 fun u s2 h2 => thn h2 fun c s3 hhx => ?_) h1
  obtain ⟨x, H1, I1, r1, q1⟩ := hhx
  obtain ⟨d, rfl, q⟩ := q1
  cases r1
  exact wpAny_truthy_bool ⟨H1, I1, q⟩
/-- an expression whose value is a bool, as a test -/
theorem pt_val {e : Expr} {t : TE} (h : PE X e t) (he : ∀ whole, isTrue e X.env whole = (do let v ← whole; standAt e.pos; holding [v] (truthy v)) := by intro _; rfl) : PT X e (tB t) := by
  intro pins s σ H Q I hw
  refine isTrue_plain (thn (h pins s σ H _ I hw) fun v s1 hhx => ?_) (he _)
  obtain ⟨x, H1, I1, r1, q1⟩ := hhx
  obtain ⟨d, rfl, q⟩ := q1
  cases r1
  exact wpAny_truthy_bool ⟨H1, I1, q⟩

variable {tA tB' : TT} {rest : List Expr}
def tAnd (t u : TT) : TT := fun σ H Q => t σ H fun c H1 => if c = true then u σ H1 Q else Q false H1
def tOr (t u : TT) : TT := fun σ H Q => t σ H fun c H1 => if c = true then Q true H1 else u σ H1 Q
def tNot (t : TT) : TT := fun σ H Q => t σ H fun c H1 => Q (!c) H1
theorem pw_and1 (ha : PT X a tA) : PW X (.BoolOp .And [a] pos) tA := by
  intro wh pins s σ H Q I h
  refine isTrue_and (thn (ha pins s σ H Q I h) fun c s1 e => ?_)
  cases c with
  | true => exact isTrue_and_nil e
  | false => exact e
theorem pw_or1 (ha : PT X a tA) : PW X (.BoolOp .Or [a] pos) tA := by
  intro wh pins s σ H Q I h
  refine isTrue_or (thn (ha pins s σ H Q I h) fun c s1 e => ?_)
  cases c with
  | false => exact isTrue_or_nil e
  | true => exact e
theorem pw_and (ha : PT X a tA) (hb : PW X (.BoolOp .And (b :: rest) pos) tB') : PW X (.BoolOp .And (a :: b :: rest) pos) (tAnd tA tB') := by
  intro wh pins s σ H Q I h
  refine isTrue_and (thn (ha pins s σ H _ I h) fun c s1 hhx => ?_)
  obtain ⟨H1, I1, q1⟩ := hhx
  cases c with
  | true => exact hb wh pins s1 σ H1 Q I1 q1
  | false => exact ⟨H1, I1, q1⟩
theorem pw_or (ha : PT X a tA) (hb : PW X (.BoolOp .Or (b :: rest) pos) tB') : PW X (.BoolOp .Or (a :: b :: rest) pos) (tOr tA tB') := by
  intro wh pins s σ H Q I h
  refine isTrue_or (thn (ha pins s σ H _ I h) fun c s1 hhx => ?_)
  obtain ⟨H1, I1, q1⟩ := hhx
  cases c with
  | true => exact ⟨H1, I1, q1⟩
  | false => exact hb wh pins s1 σ H1 Q I1 q1
theorem pt_not (ha : PT X a tA) : PT X (.UnaryOp .Not a pos) (tNot tA) := by
  intro pins s σ H Q I h
  exact isTrue_not (ha pins s σ H (fun c H1 => Q (!c) H1) I h)
/-- .. as values (bools) -/
def tAndV (ta tb : TE) : TE := fun σ H Q => ta σ H fun x H1 => ∃ c, x = .bl c ∧ if c = true then tb σ H1 Q else Q (.bl false) H1
def tOrV (ta tb : TE) : TE := fun σ H Q => ta σ H fun x H1 => ∃ c, x = .bl c ∧ if c = true then Q (.bl true) H1 else tb σ H1 Q
def tNotV (ta : TE) : TE := fun σ H Q => ta σ H fun x H1 => ∃ c, x = .bl c ∧ Q (.bl (!c)) H1
theorem pe_one {op} {t : TE} (h : PE X a t) : PE X (.BoolOp op [a] pos) t := fun pins s σ H Q I hw => BoolOp_one (h pins s σ H Q I hw)
theorem pe_and (ha : PE X a ta) (hb : PE X (.BoolOp .And (b :: rest) pos) tb) : PE X (.BoolOp .And (a :: b :: rest) pos) (tAndV ta tb) := by
  intro pins s σ H Q I h
  refine BoolOp_and (thn (ha pins s σ H _ I h) fun v s1 hhx => ?_)
  obtain ⟨x, H1, I1, r1, q1⟩ := hhx
  obtain ⟨c, rfl, q1⟩ := q1
  cases r1
  refine wpAny_truthy_bool ?_
  cases c with
  | true => exact hb pins s1 σ H1 Q I1 q1
  | false => exact ⟨.bl false, H1, I1, rfl, q1⟩
/-- a if t else b -/
def tIf (t : TT) (ta tb : TE) : TE := fun σ H Q => t σ H fun c H1 => if c = true then ta σ H1 Q else tb σ H1 Q
theorem pe_ifExp {c : Expr} (hc : PT X c tA) (ha : PE X a ta) (hb : PE X b tb) : PE X (.IfExp c a b pos) (tIf tA ta tb) := by
  intro pins s σ H Q I h
  refine wpAny_IfExp (thn (hc pins s σ H _ I h) fun d s1 hhx => ?_)
  obtain ⟨H1, I1, q1⟩ := hhx
  cases d with
  | true => exact ha pins s1 σ H1 Q I1 q1
  | false => exact hb pins s1 σ H1 Q I1 q1
end
end L2

namespace L2
open PySem PySem.Spec PyProof.Rows

def SqL (K : PySem.W.Frag) (H : Hp) (a : Addr) (xs : List V) : Prop :=
  Rd H a (.lst xs) ∨
    ∃ (o : Obj) (its : Array Value) (n : Nat), K.lookup a = some o ∧ o.cls = .type "list" ∧ o.dict = none ∧ o.data = .seq its n ∧ its.size ≤ sizeLine ∧ Vals xs its.toList
def SqT (K : PySem.W.Frag) (H : Hp) (a : Addr) (xs : List V) : Prop :=
  Rd H a (.tup xs) ∨
    ∃ (o : Obj) (its : Array Value) (n : Nat), K.lookup a = some o ∧ o.cls = .type "tuple" ∧ o.data = .seq its n ∧ its.size ≤ sizeLine ∧ Vals xs its.toList
def absV : Value → Option V
  | .none => some .non
  | .bool b => some (.bl b)
  | .int i _ => some (.int i)
  | .str x _ => some (.str x)
  | .bytes b _ => some (.byt b)
  | .float b _ => some (.flt b)
  | .ref a => some (.ref a)
  | .type n => some (.ty n)
  | _ => none
theorem RelV.abs {x : V} {u : Value} (r : RelV x u) : absV u = some x := by
  cases x with
  | non => cases r; rfl
  | bl _ => cases r; rfl
  | int _ => obtain ⟨t, rfl⟩ := r; rfl
  | str _ => obtain ⟨t, rfl⟩ := r; rfl
  | byt _ => obtain ⟨t, rfl⟩ := r; rfl
  | flt _ => obtain ⟨t, rfl⟩ := r; rfl
  | ref _ => cases r; rfl
  | ty _ => cases r; rfl
theorem RelV.inj {x y : V} {u : Value} (r : RelV x u) (q : RelV y u) : x = y := Option.some.inj (r.abs.symm.trans q.abs)
theorem Vals.inj : ∀ {xs ys : List V} {us : List Value}, Vals xs us → Vals ys us → xs = ys
  | _, _, _, .nil, .nil => rfl
  | _, _, _, .cons r t, .cons r' t' => by rw [r.inj r', Vals.inj t t']
section
variable {X : Cx} {pins : List (Addr × Obj)} {σ : St} {H : Hp} {s : Shared} {a : Addr} {xs ys : List V}
theorem SqL.of {K : PySem.W.Frag} (h : H a = some (.lst xs)) : SqL K H a xs := .inl (.inl h)
theorem SqT.of {K : PySem.W.Frag} (h : H a = some (.tup xs)) : SqT K H a xs := .inl (.inl h)
theorem Inv.list (I : Inv X pins σ H s) (h : SqL X.K H a xs) : ∃ its : List Value, Vals xs its ∧ PlainL s.heap a its.toArray ∧ xs.length ≤ sizeLine := by
  rcases h with h | ⟨o, its, n, hk, hc, hd, hs, hz, r⟩
  · obtain ⟨z, its, n, r, e⟩ := h.ok I.hok
    exact ⟨its, r, ⟨_, n, e, rfl, rfl, rfl⟩, z⟩
  · refine ⟨its.toList, r, ⟨o, n, I.kIn a o hk, hc, hd, by simpa using hs⟩, ?_⟩
    have e := r.length
    simp only [Array.length_toList] at e
    omega
theorem Inv.tuple (I : Inv X pins σ H s) (h : SqT X.K H a xs) : ∃ its : List Value, Vals xs its ∧ IsTup s.heap a its.toArray ∧ xs.length ≤ sizeLine := by
  rcases h with h | ⟨o, its, n, hk, hc, hs, hz, r⟩
  · obtain ⟨z, its, r, p⟩ := h.ok I.hok
    exact ⟨its, r, p, z⟩
  · refine ⟨its.toList, r, ⟨o, I.kIn a o hk, hc, n, by simpa using hs⟩, ?_⟩
    have e := r.length
    simp only [Array.length_toList] at e
    omega
theorem Inv.list_inj (I : Inv X pins σ H s) (h : SqL X.K H a xs) (h' : SqL X.K H a ys) : xs = ys := by
  obtain ⟨its, r, ⟨o, n, e, _, _, d⟩, _⟩ := I.list h
  obtain ⟨its', r', ⟨o', n', e', _, _, d'⟩, _⟩ := I.list h'
  rw [e] at e'; cases e'
  rw [d] at d'
  injection d' with d1 _
  have : its = its' := by simpa using congrArg Array.toList d1
  subst this
  exact r.inj r'
theorem Inv.tuple_inj (I : Inv X pins σ H s) (h : SqT X.K H a xs) (h' : SqT X.K H a ys) : xs = ys := by
  obtain ⟨its, r, ⟨o, e, _, n, d⟩, _⟩ := I.tuple h
  obtain ⟨its', r', ⟨o', e', _, n', d'⟩, _⟩ := I.tuple h'
  rw [e] at e'; cases e'
  rw [d] at d'
  injection d' with d1 _
  have : its = its' := by simpa using congrArg Array.toList d1
  subst this
  exact r.inj r'
end

abbrev Cx.wish (X : Cx) (E : Value → Shared → Prop) : Cx := { X with xe := E }
/-- no exception leaves -/
abbrev Cx.nox (X : Cx) : Cx := X.wish fun _ _ => False
theorem Cx.Ok.wish {X : Cx} (ok : X.Ok) (E : Value → Shared → Prop) : (X.wish E).Ok :=
  ⟨ok.mod, ok.kind, ok.glob, ok.blt, ok.above, ok.inj, ok.has, ok.cab, ok.hd, ok.frames, ok.stk, ok.exf, ok.bs, ok.bsz, ok.noex, ok.exfs, ok.funs, ok.frf⟩
theorem Cx.Ok.unwish {X : Cx} {E : Value → Shared → Prop} (ok : (X.wish E).Ok) : X.Ok :=
  ⟨ok.mod, ok.kind, ok.glob, ok.blt, ok.above, ok.inj, ok.has, ok.cab, ok.hd, ok.frames, ok.stk, ok.exf, ok.bs, ok.bsz, ok.noex, ok.exfs, ok.funs, ok.frf⟩
section
variable {X : Cx} {pins : List (Addr × Obj)} {σ : St} {H : Hp} {s : Shared} {E : Value → Shared → Prop}
theorem Inv.wish (I : Inv X pins σ H s) (E : Value → Shared → Prop) : Inv (X.wish E) pins σ H s := ⟨I.ok.wish E, I.os, I.bare, I.base, I.loc, I.cell, I.free, I.freeC, I.pin, I.hok, I.len⟩
theorem Inv.unwish (I : Inv (X.wish E) pins σ H s) : Inv X pins σ H s := ⟨I.ok.unwish, I.os, I.bare, I.base, I.loc, I.cell, I.free, I.freeC, I.pin, I.hok, I.len⟩
theorem SP.unwish {D : Ends} {f : Flow} {s' : Shared} (h : SP (X.wish E) pins D f s') : SP X pins D f s' := by
  cases f with
  | next => obtain ⟨σ', H', I, q⟩ := h; exact ⟨σ', H', I.unwish, q⟩
  | brk => obtain ⟨σ', H', I, q⟩ := h; exact ⟨σ', H', I.unwish, q⟩
  | cont => obtain ⟨σ', H', I, q⟩ := h; exact ⟨σ', H', I.unwish, q⟩
  | ret u => obtain ⟨v, σ', H', I, r, q⟩ := h; exact ⟨v, σ', H', I.unwish, r, q⟩
theorem PE.nox {e : Expr} {t : TE} (h : PE X.nox e t) : PE X e t := fun pins s σ H Q I hw =>
  wpAny_mono (h pins s σ H Q (I.wish _) hw) (fun _ _ ⟨v, H', I', r, q⟩ => ⟨v, H', I'.unwish, r, q⟩) fun _ _ z => False.elim z
theorem PT.nox {e : Expr} {t : TT} (h : PT X.nox e t) : PT X e t := fun pins s σ H Q I hw =>
  wpAny_mono (h pins s σ H Q (I.wish _) hw) (fun _ _ ⟨H', I', q⟩ => ⟨H', I'.unwish, q⟩) fun _ _ z => False.elim z
theorem PSs.nox {st : List Stmt} {t : TS} (h : PSs X.nox st t) : PSs X st t := fun pins s σ H D I hw =>
  wpAny_mono (h pins s σ H D (I.wish _) hw) (fun _ _ q => q.unwish) fun _ _ z => False.elim z
end

section
variable {X : Cx} {st : Stmt} {rest : List Stmt} {t u : TS} {e : Expr} {te : TE} {pos : Pos}
def tNext : TS := fun D σ H => D.nx σ H
def tSeq (t u : TS) : TS := fun D σ H => t { D with nx := u D } σ H
theorem pss_nil : PSs X [] tNext := fun _ _ σ H _ I h => wpAny_execs_nil ⟨σ, H, I, h⟩
theorem pss_cons (h1 : PS X st t) (h2 : PSs X rest u) : PSs X (st :: rest) (tSeq t u) := by
  intro pins s σ H D I h
  refine wpAny_execs_cons (thn (h1 pins s σ H { D with nx := u D } I h) fun f s1 q => ?_)
  cases f with
  | next =>
    obtain ⟨σ', H', I', q⟩ := q
    exact h2 pins s1 σ' H' D I' q
  | ret v => exact q
  | brk => exact q
  | cont => exact q
theorem pss_one (h1 : PS X st t) : PSs X [st] t := by
  intro pins s σ H D I h
  refine wpAny_execs_cons (thn (h1 pins s σ H D I h) fun f s1 q => ?_)
  cases f with
  | next => exact wpAny_execs_nil q
  | ret v => exact q
  | brk => exact q
  | cont => exact q
def tBreak : TS := fun D σ H => D.bk σ H
def tCont : TS := fun D σ H => D.ct σ H
/-- in a def's body nothing is shown -/
theorem Inv.quiet {pins : List (Addr × Obj)} {σ : St} {H : Hp} {s : Shared} (I : Inv X pins σ H s) : interactive X.env = false := by simp [interactive, I.ok.kind]
/-- an expression whose value is dropped -/
def tDrop (te : TE) : TS := fun D σ H => te σ H fun _ H1 => D.nx σ H1
theorem ps_expr (he : PE X e te) (hs : swapsWith e none pos.line X.env = pure false := by rfl) : PS X (.Expr e pos) (tDrop te) := by
  intro pins s σ H D I h
  exact wpAny_Expr_any (thn (he pins s σ H _ I h) fun v s1 ⟨x, H1, I1, r1, q1⟩ => ⟨σ, H1, I1, q1⟩) I.quiet hs
def tRet (te : TE) : TS := fun D σ H => te σ H D.rt
theorem ps_ret (he : PE X e te) : PS X (.Return (some e) pos) (tRet te) := by
  intro pins s σ H D I h
  exact wpAny_Return_some (thn (he pins s σ H _ I h) fun v s1 ⟨x, H1, I1, r1, q1⟩ => ⟨x, σ, H1, I1, r1, q1⟩)
def tRetN : TS := fun D _ H => D.rt .non H
def tIfS (c : TT) (t u : TS) : TS := fun D σ H => c σ H fun b H1 => if b = true then t D σ H1 else u D σ H1
theorem ps_if {c : Expr} {a b : List Stmt} {tc : TT} (hc : PT X c tc) (ha : PSs X a t) (hb : PSs X b u) : PS X (.If c a b pos) (tIfS tc t u) := by
  intro pins s σ H D I h
  refine wpAny_If (thn (hc pins s σ H _ I h) fun d s1 hhx => ?_)
  obtain ⟨H1, I1, q1⟩ := hhx
  cases d with
  | true => exact ha pins s1 σ H1 D I1 q1
  | false => exact hb pins s1 σ H1 D I1 q1
end

abbrev TG := V → St → Hp → (St → Hp → Prop) → Prop
abbrev TGs := List V → St → Hp → (St → Hp → Prop) → Prop
def PG (X : Cx) (target : Expr) (t : TG) : Prop :=
  ∀ (pins : List (Addr × Obj)) (s : Shared) (σ : St) (H : Hp) (v : V) (u : Value) (Q : St → Hp → Prop), Inv X pins σ H s → RelV v u → t v σ H Q →
    wpAny (model X.prog X.w) X.A (assign target X.env u) (fun _ s' => ∃ σ' H', Inv X pins σ' H' s' ∧ Q σ' H') X.xe s
/-- several targets, one after another -/
def PGs (X : Cx) (ts : List Expr) (t : TGs) : Prop :=
  ∀ (pins : List (Addr × Obj)) (s : Shared) (σ : St) (H : Hp) (vs : List V) (us : List Value) (Q : St → Hp → Prop), Inv X pins σ H s → Vals vs us → t vs σ H Q →
    wpAny (model X.prog X.w) X.A (assignInOrder ((assignEach ts X.env).map (·.2)) us) (fun _ s' => ∃ σ' H', Inv X pins σ' H' s' ∧ Q σ' H') X.xe s
/-- o[i] = v, by values -/
abbrev TSet := V → V → V → Hp → (Hp → Prop) → Prop
def PSet (X : Cx) (t : TSet) : Prop :=
  ∀ (pins : List (Addr × Obj)) (s : Shared) (σ : St) (H : Hp) (o i v : V) (ov iv u : Value) (Q : Hp → Prop), Inv X pins σ H s → RelV o ov → RelV i iv → RelV v u → t o i v H Q →
    wpAny (model X.prog X.w) X.A (setItem ov iv u) (fun _ s' => ∃ H', Inv X pins σ H' s' ∧ Q H') X.xe s
section
variable {X : Cx} {pos : Pos}
def gName (i : Nat) : TG := fun v σ H Q => Q (σ.set i (some v)) H
theorem pg_name {i : Nat} {x : Str} (hN : X.N.Nodup) (hi : X.N[i]? = some x) (hx : Loc X.env.scope x) (hf : X.fn x = true ∨ X.env.scope.names.lookup x = some .local := by first | exact .inl rfl | exact .inr rfl | assumption) : PG X (.Name x pos) (gName i) := by
  intro pins s σ H v u Q I r h
  exact wpAny_assign_Name (store_ok I hN hi hx r (fun s' I' => ⟨_, H, I', h⟩) hf)
def gNil : TGs := fun vs σ H Q => vs = [] ∧ Q σ H
def gCons (t : TG) (u : TGs) : TGs := fun vs σ H Q => ∃ v r, vs = v :: r ∧ t v σ H fun σ' H' => u r σ' H' Q
theorem pgs_nil : PGs X [] gNil := by
  intro pins s σ H vs us Q I r h
  obtain ⟨e, h⟩ := h
  subst e
  cases r
  exact assignInOrder_nil ⟨σ, H, I, h⟩
theorem pgs_cons {e : Expr} {es : List Expr} {t : TG} {u : TGs} (h1 : PG X e t) (h2 : PGs X es u)
    (hs : (assignEach (e :: es) X.env).map (·.2) = assign e X.env :: (assignEach es X.env).map (·.2) := by rfl) : PGs X (e :: es) (gCons t u) := by
  intro pins s σ H vs us Q I r h
  obtain ⟨v, vr, e1, h⟩ := h
  subst e1
  cases r with
  | cons r rr =>
    rw [hs]
    refine assignInOrder_cons (thn (h1 pins s σ H _ _ _ I r h) fun _ s1 hhx => ?_)
    obtain ⟨σ1, H1, I1, q1⟩ := hhx
    exact h2 pins s1 σ1 H1 _ _ Q I1 rr q1
/-- (a, b, ..) = a tuple of that length -/
def gTup (K : PySem.W.Frag) (n : Nat) (t : TGs) : TG := fun v σ H Q => ∃ a xs, v = .ref a ∧ SqT K H a xs ∧ xs.length = n ∧ t xs σ H Q
theorem pg_tup {es : List Expr} {k : Nat} {t : TGs} {n : Nat} (hc : X.calm = true) (h : PGs X es t)
    (hn : (assignEach es X.env).length = n := by rfl) (hst : (assignEach es X.env).findIdx? (·.1) = none := by rfl) : PG X (.Tuple es k pos) (gTup X.K n t) := by
  intro pins s σ H v u Q I r hw
  obtain ⟨a, xs, e1, hq, hl, hw⟩ := hw
  subst e1
  cases r
  obtain ⟨its, rv, ht, hz⟩ := I.tuple hq
  refine assign_Tuple_tuple (I.ok.hd hc) ht (by simp [hn, ← hl, rv.length]) hst fun h' hx => ?_
  have I1 : Inv X pins σ H { s with heap := h' } := I.kept (t' := s.toks) fun b o e => hx b o (Nat.ne_of_lt (Heap.lt_size e)) e
  exact h pins _ σ H xs _ Q I1 (by simpa using rv) hw
/-- o[i] = .. -/
def gSub (to ti : TE) (t : TSet) : TG := fun v σ H Q => to σ H fun o H1 => ti σ H1 fun i H2 => t o i v H2 fun H3 => Q σ H3
theorem pg_sub {o i : Expr} {to ti : TE} {t : TSet} (ho : PE X o to) (hi : PE X i ti) (hs : PSet X t)
    (ha : ∀ v, assign (.Subscript o i pos) X.env v = (do
      let ov ← holding [v] (eval o X.env)
      let iv ← holding [v, ov] (eval i X.env)
      standAt pos
      holding [v, ov, iv] (setItem ov iv v)
      release [v, ov, iv] []) := by intro _; rfl) : PG X (.Subscript o i pos) (gSub to ti t) := by
  intro pins s σ H v u Q I r h
  rw [ha]
  refine wpAny_bind (wpAny_holding (thn (ho pins s σ H _ I h) fun ov s1 hhx => ?_))
  obtain ⟨x, H1, I1, r1, q1⟩ := hhx
  refine wpAny_bind (wpAny_holding (thn (hi pins s1 σ H1 _ I1 q1) fun iv s2 hhx => ?_))
  obtain ⟨y, H2, I2, r2, q2⟩ := hhx
  refine wpAny_bind (wpAny_standAt (wpAny_bind (wpAny_holding (thn (hs pins s2 σ H2 x y v ov iv u _ I2 r1 r2 r q2) fun _ s3 hhx => ?_))))
  obtain ⟨H3, I3, q3⟩ := hhx
  exact wpAny_release ⟨σ, H3, I3, q3⟩
/-- target = value -/
def tAsg (te : TE) (g : TG) : TS := fun D σ H => te σ H fun x H1 => g x σ H1 D.nx
theorem ps_asg {tg e : Expr} {te : TE} {g : TG} (he : PE X e te) (hg : PG X tg g) (hs : swapsWithSole [tg] e pos.line X.env = pure false := by rfl) (hw : swappedStores [tg] e X.env = pure none := by rfl)
    (h1 : (assignEach [tg] X.env).map (·.2) = [assign tg X.env] := by rfl) : PS X (.Assign [tg] e pos) (tAsg te g) := by
  intro pins s σ H D I h
  refine wpAny_Assign_stores (thn (he pins s σ H _ I h) fun v s1 hhx => ?_) hs hw
  obtain ⟨x, H1, I1, r1, q1⟩ := hhx
  rw [h1]
  exact thn (hg pins s1 σ H1 x v _ I1 r1 q1) fun _ s2 q => q
/-- name = value -/
theorem ps_set {i : Nat} {x : Str} {e : Expr} {te : TE} {pos' : Pos} (hN : X.N.Nodup) (hi : X.N[i]? = some x) (hx : Loc X.env.scope x) (he : PE X e te) (hs : swapsWith e (some (.Name x pos')) pos.line X.env = pure false := by rfl) (hf : X.fn x = true ∨ X.env.scope.names.lookup x = some .local := by first | exact .inl rfl | exact .inr rfl | assumption) :
    PS X (.Assign [.Name x pos'] e pos) (tAsg te (gName i)) := by
  intro pins s σ H D I h
  refine wpAny_Assign_Name (thn (he pins s σ H _ I h) fun v s1 hhx => ?_) hs
  obtain ⟨y, H1, I1, r1, q1⟩ := hhx
  exact store_ok I1 hN hi hx r1 (fun s2 I2 => ⟨_, H1, I2, q1⟩) hf
end

section
variable {X : Cx} {pos : Pos}
end

/-- at turn i: it yields x (the heap may grow), or it stops -/
structure It where
  go : Nat → Hp → Prop
  yld : Nat → Hp → V → Hp → Prop
  stop : Nat → Hp → Prop
/-- the iterator's own objects may turn: they are not the frame's, not pinned, younger than the entry (or a comprehension's own) -/
def FpOk (X : Cx) (pins : List (Addr × Obj)) (H : Hp) (b : Addr) : Prop :=
  H b = none ∧ b ≠ X.env.locals ∧ b ∉ X.fs ∧ (b ∈ X.ex ∨ X.s₀.heap.objs.size ≤ b) ∧ (∀ x c, X.env.cells.lookup x = some c → c ≠ b) ∧ ∀ p ∈ X.pn ++ pins, p.1 ≠ b
theorem Inv.fpOk {X : Cx} {pins : List (Addr × Obj)} {σ : St} {H H' : Hp} {s : Shared} {b : Addr} (I : Inv X pins σ H s) (hb : s.heap.objs.size ≤ b) (hn : H' b = none) : FpOk X pins H' b := by
  refine ⟨hn, Nat.ne_of_gt (Nat.lt_of_lt_of_le I.lt hb), I.nofs hb, .inr (Nat.le_trans I.sz hb), fun x c e z => ?_, fun p hp z => ?_⟩
  · obtain ⟨v, q⟩ := I.cell x c e
    exact absurd (Nat.lt_of_lt_of_le q.lt (by rw [z]; exact hb)) (Nat.lt_irrefl _)
  · exact absurd (Nat.lt_of_lt_of_le (Heap.lt_size (I.pin p hp).1) (by rw [z]; exact hb)) (Nat.lt_irrefl _)
structure Turn (P : Program) (w : World) (K : PySem.W.Frag) (tg : Expr) (J : It) (fp : List Addr) (it : Addr) (tn : Nat → Heap → Prop) : Prop where
  mem : it ∈ fp
  obj : ∀ i h, tn i h → ∀ b ∈ fp, ∃ o, h.get? b = some o ∧ ∀ v, o.data ≠ .cell v
  keep : ∀ i h h', tn i h → (∀ b ∈ fp, ∀ o, h.get? b = some o → h'.get? b = some o) → tn i h'
  item : ∀ (X : Cx), X.prog = P → X.w = w → X.K = K → X.calm = true → ∀ (i : Nat) (pins : List (Addr × Obj)) (s : Shared) (σ : St) (H : Hp) (E : Value → Shared → Prop), Inv X pins σ H s → (∀ b ∈ fp, FpOk X pins H b) → tn i s.heap → J.go i H →
    wpAny (model P w) X.A (pyNext (.ref it)) (fun r s1 => ∃ u, r = some u ∧
      wpAny (model P w) X.A (letOwnedTupleGo tg (.ref it) u) (fun _ s2 => ∃ x H', Inv X pins σ H' s2 ∧ RelV x u ∧ J.yld i H x H' ∧ tn (i + 1) s2.heap ∧ ∀ b ∈ fp, H' b = none) E s1) E s
  done : ∀ (X : Cx), X.prog = P → X.w = w → X.K = K → X.calm = true → ∀ (i : Nat) (pins : List (Addr × Obj)) (s : Shared) (σ : St) (H : Hp) (E : Value → Shared → Prop), Inv X pins σ H s → (∀ b ∈ fp, FpOk X pins H b) → tn i s.heap → J.stop i H →
    wpAny (model P w) X.A (pyNext (.ref it)) (fun r s1 => r = none ∧ Inv X pins σ H s1) E s
  self : ∀ (A : Around) (i : Nat) (s : Shared) (Q : Value → Shared → Prop) (E : Value → Shared → Prop), tn i s.heap → Q (.ref it) s → wpAny (model P w) A (pyIter (.ref it)) Q E s
abbrev TI := St → Hp → (It → Hp → Prop) → Prop
/-- an iterator has come -/
def PIE (X : Cx) (pins : List (Addr × Obj)) (σ : St) (tg : Expr) (R : It → Hp → Prop) (itv : Value) (s2 : Shared) : Prop :=
  ∃ (it : Addr) (fp : List Addr) (tn : Nat → Heap → Prop) (J : It) (H' : Hp), itv = .ref it ∧ Inv X pins σ H' s2 ∧ Turn X.prog X.w X.K tg J fp it tn ∧ tn 0 s2.heap ∧ (∀ b ∈ fp, FpOk X pins H' b) ∧ R J H'
def PI (X : Cx) (tg iter : Expr) (wi : TI) : Prop :=
  ∀ (pins : List (Addr × Obj)) (s : Shared) (σ : St) (H : Hp) (R : It → Hp → Prop), Inv X pins σ H s → wi σ H R →
    wpAny (model X.prog X.w) X.A (eval iter X.env) (fun v s1 => wpAny (model X.prog X.w) X.A (pyIter v) (PIE X pins σ tg R) X.xe s1) X.xe s

/-- the step ahead of the store is nothing for an iterator that keeps no tuple -/
theorem go_of {M : Model} {A : Around} {E : Value → Shared → Prop} {s : Shared} {tg : Expr} {it : Addr} {u : Value} {o : Obj} {n : String} {vs : Array Value} {Q : Unit → Shared → Prop} (ho : s.heap.get? it = some o) (hc : o.cls = .type n) (hd : o.data = .fields vs)
    (hn : ["enumerate", "zip", "dict_itemiterator", "dict_reverseitemiterator", "odict_iterator", "itertools.zip_longest", "itertools.pairwise"].contains n = false) (hQ : Q () s) : wpAny M A (letOwnedTupleGo tg (.ref it) u) Q E s := by
  unfold letOwnedTupleGo
  cases tg <;> first
    | exact wpAny_pure hQ
    | (cases u <;> first
        | exact wpAny_pure hQ
        | (refine wpAny_bind (wpAny_load ho ?_)
           rw [hc, hd]
           show wpAny M A (if (["enumerate", "zip", "dict_itemiterator", "dict_reverseitemiterator", "odict_iterator", "itertools.zip_longest", "itertools.pairwise"].contains n && vs[0]? == some (rawInt _)) = true then _ else _) Q E s
           rw [if_neg (by intro h; rw [hn, Bool.false_and] at h; cases h)]
           exact wpAny_pure hQ))

/-- the list at a, as it stands at each turn (a loop may append to it) -/
def Itl (K : PySem.W.Frag) (a : Addr) : It :=
  ⟨fun i H => ∃ xs x, SqL K H a xs ∧ xs[i]? = some x, fun i H x H' => H' = H ∧ ∀ xs, SqL K H a xs → xs[i]? = some x, fun i H => ∃ xs, SqL K H a xs ∧ xs.length ≤ i⟩
def Itt (K : PySem.W.Frag) (a : Addr) : It :=
  ⟨fun i H => ∃ xs x, SqT K H a xs ∧ xs[i]? = some x, fun i H x H' => H' = H ∧ ∀ xs, SqT K H a xs → xs[i]? = some x, fun i H => ∃ xs, SqT K H a xs ∧ xs.length ≤ i⟩
/-- lo, lo + 1, .. (n of them) -/
def Itr (lo : Int) (n : Nat) : It := ⟨fun i _ => i < n, fun i H x H' => H' = H ∧ x = .int (lo + i), fun i _ => n ≤ i⟩
theorem turn_list {P : Program} {w : World} {K : PySem.W.Frag} {tg : Expr} (a it : Addr) : Turn P w K tg (Itl K a) [it] it (fun i h => h.IsListIter it a i) where
  mem := by simp
  obj := fun i h st b hb => by
    have e : b = it := by simpa using hb
    subst e
    obtain ⟨o, e, c, d⟩ := st
    exact ⟨o, e, fun v z => by rw [d] at z; cases z⟩
  keep := fun i h h' st k => st.at fun o e => k it (by simp) o e
  item := by
    intro X hP hw hK hc i pins s σ H E I hf st hg
    subst hP hw hK
    obtain ⟨xs, x, hq, hx⟩ := hg
    obtain ⟨its, rv, p, hz⟩ := I.list hq
    obtain ⟨u, hu, ru⟩ := rv.get hx
    obtain ⟨f0, f1, f2, f3, f4, f5⟩ := hf it (by simp)
    refine wpAny_pyNext_list_item st p.isList (x := u) (by simpa using hu) fun h' st' sb => ?_
    have I1 : Inv X pins σ H { s with heap := h' } := I.turned (t' := s.toks) (fun b o hb e => (sb.2 b hb).trans e) f0 f1 f3 f4 f5
    obtain ⟨o, e, c, d⟩ := id st'
    exact ⟨u, rfl, go_of (s := { s with heap := h' }) e c d (by decide) ⟨x, H, I1, ru, ⟨rfl, fun ys hy => by rw [I.list_inj hy hq]; exact hx⟩, st', fun b hb => (hf b hb).1⟩⟩
  done := by
    intro X hP hw hK hc i pins s σ H E I hf st hg
    subst hP hw hK
    obtain ⟨xs, hq, hx⟩ := hg
    obtain ⟨its, rv, p, hz⟩ := I.list hq
    obtain ⟨f0, f1, f2, f3, f4, f5⟩ := hf it (by simp)
    have hl := rv.length
    exact wpAny_pyNext_list_end (I.ok.hd hc) st p.isList (by simp; omega) fun h' eb => ⟨rfl, I.turned (t' := s.toks) (fun b o hb e => eb b o hb e) f0 f1 f3 f4 f5⟩
  self := fun _ _ _ _ _ st h => wpAny_pyIter_listiter st h
theorem turn_tuple {P : Program} {w : World} {K : PySem.W.Frag} {tg : Expr} (a it : Addr) : Turn P w K tg (Itt K a) [it] it (fun i h => h.IsTupleIter it a i) where
  mem := by simp
  obj := fun i h st b hb => by
    have e : b = it := by simpa using hb
    subst e
    obtain ⟨o, e, c, d⟩ := st
    exact ⟨o, e, fun v z => by rw [d] at z; cases z⟩
  keep := fun i h h' st k => st.at fun o e => k it (by simp) o e
  item := by
    intro X hP hw hK hc i pins s σ H E I hf st hg
    subst hP hw hK
    obtain ⟨xs, x, hq, hx⟩ := hg
    obtain ⟨its, rv, p, hz⟩ := I.tuple hq
    obtain ⟨u, hu, ru⟩ := rv.get hx
    obtain ⟨f0, f1, f2, f3, f4, f5⟩ := hf it (by simp)
    refine wpAny_pyNext_tuple_item st (show s.heap.IsTuple a its.toArray from p) (x := u) (by simpa using hu) fun h' st' sb => ?_
    have I1 : Inv X pins σ H { s with heap := h' } := I.turned (t' := s.toks) (fun b o hb e => (sb.2 b hb).trans e) f0 f1 f3 f4 f5
    obtain ⟨o, e, c, d⟩ := id st'
    exact ⟨u, rfl, go_of (s := { s with heap := h' }) e c d (by decide) ⟨x, H, I1, ru, ⟨rfl, fun ys hy => by rw [I.tuple_inj hy hq]; exact hx⟩, st', fun b hb => (hf b hb).1⟩⟩
  done := by
    intro X hP hw hK hc i pins s σ H E I hf st hg
    subst hP hw hK
    obtain ⟨xs, hq, hx⟩ := hg
    obtain ⟨its, rv, p, hz⟩ := I.tuple hq
    obtain ⟨f0, f1, f2, f3, f4, f5⟩ := hf it (by simp)
    have hl := rv.length
    exact wpAny_pyNext_tuple_end (I.ok.hd hc) st (show s.heap.IsTuple a its.toArray from p) (by simp; omega) fun h' eb => ⟨rfl, I.turned (t' := s.toks) (fun b o hb e => eb b o hb e) f0 f1 f3 f4 f5⟩
  self := fun _ _ _ _ _ st h => wpAny_pyIter_tupleiter st h
theorem turn_range {P : Program} {w : World} {K : PySem.W.Frag} {tg : Expr} (it : Addr) (lo : Int) (n : Nat) : Turn P w K tg (Itr lo n) [it] it (fun i h => IsRangeIter h it (lo + (i : Nat) * 1) ((n : Int) - (i : Nat)) 1) where
  mem := by simp
  obj := fun i h st b hb => by
    have e : b = it := by simpa using hb
    subst e
    exact ⟨_, st, fun v z => by
      have z' : Data.fields _ = Data.cell v := z
      cases z'⟩
  keep := fun i h h' st k => k it (by simp) _ st
  item := by
    intro X hP hw hK hc i pins s σ H E I hf st hg
    subst hP hw hK
    obtain ⟨f0, f1, f2, f3, f4, f5⟩ := hf it (by simp)
    have W := Walks.range (prog := X.prog) (w := X.w) (I.ok.hd hc) it lo 1 n
    refine W.item i s _ _ hg st fun v h' tk hv st' kk => ?_
    obtain ⟨t, rfl⟩ := hv
    have I1 : Inv X pins σ H { s with heap := h', toks := tk } := I.turned (fun b o hb e => kk b o (by simpa using hb) e) f0 f1 f3 f4 f5
    refine ⟨_, rfl, go_of (s := { s with heap := h', toks := tk }) (n := "range_iterator") st' rfl rfl (by decide) ⟨.int (lo + i), H, I1, ⟨t, ?_⟩, ⟨rfl, rfl⟩, st', fun b hb => (hf b hb).1⟩⟩
    rw [Int.mul_one]
  done := by
    intro X hP hw hK hc i pins s σ H E I hf st hg
    subst hP hw hK
    obtain ⟨f0, f1, f2, f3, f4, f5⟩ := hf it (by simp)
    exact wpAny_pyNext_range_end (I.ok.hd hc) st (by have : n ≤ i := hg; omega) fun h' eb => ⟨rfl, I.turned (t' := s.toks) (fun b o hb e => eb b o hb e) f0 f1 f3 f4 f5⟩
  self := fun _ _ _ _ _ st h => wpAny_pyIter_rangeiter st h
end L2

namespace L2
open PySem PySem.Spec PyProof.Rows
section
variable {X : Cx} {tg : Expr}
def iList (K : PySem.W.Frag) (tl : TE) : TI := fun σ H R => tl σ H fun x H1 => ∃ a, x = .ref a ∧ (∃ xs, SqL K H1 a xs) ∧ R (Itl K a) H1
def iTup (K : PySem.W.Frag) (tl : TE) : TI := fun σ H R => tl σ H fun x H1 => ∃ a, x = .ref a ∧ (∃ xs, SqT K H1 a xs) ∧ R (Itt K a) H1
theorem pi_list {l : Expr} {tl : TE} (hl : PE X l tl) : PI X tg l (iList X.K tl) := by
  intro pins s σ H R I h
  refine thn (hl pins s σ H _ I h) fun v s1 hhx => ?_
  obtain ⟨x, H1, I1, r1, q1⟩ := hhx
  obtain ⟨a, e, ⟨xs, hq⟩, q⟩ := q1
  subst e
  cases r1
  obtain ⟨its, rv, p, hz⟩ := I1.list hq
  refine wpAny_pyIter_list p.isList ?_
  refine ⟨s1.heap.objs.size, [s1.heap.objs.size], _, _, H1, rfl, I1.kept (t' := s1.toks) fun b o e => Heap.get?_push_of_some _ e, turn_list a _, ⟨_, Heap.get?_push_size _ rfl, rfl, rfl⟩, fun b hb => ?_, q⟩
  have e : b = s1.heap.objs.size := by simpa using hb
  subst e
  exact I1.fpOk (Nat.le_refl _) (I1.hok.fresh (Nat.le_refl _))
theorem pi_tup {l : Expr} {tl : TE} (hl : PE X l tl) : PI X tg l (iTup X.K tl) := by
  intro pins s σ H R I h
  refine thn (hl pins s σ H _ I h) fun v s1 hhx => ?_
  obtain ⟨x, H1, I1, r1, q1⟩ := hhx
  obtain ⟨a, e, ⟨xs, hq⟩, q⟩ := q1
  subst e
  cases r1
  obtain ⟨its, rv, p, hz⟩ := I1.tuple hq
  refine wpAny_pyIter_tuple (show s1.heap.IsTuple a its.toArray from p) ?_
  refine ⟨s1.heap.objs.size, [s1.heap.objs.size], _, _, H1, rfl, I1.kept (t' := s1.toks) fun b o e => Heap.get?_push_of_some _ e, turn_tuple a _, ⟨_, Heap.get?_push_size _ rfl, rfl, rfl⟩, fun b hb => ?_, q⟩
  have e : b = s1.heap.objs.size := by simpa using hb
  subst e
  exact I1.fpOk (Nat.le_refl _) (I1.hok.fresh (Nat.le_refl _))
/-- a range object just made, walked -/
theorem range_it {pins : List (Addr × Obj)} {σ : St} {H : Hp} {s : Shared} {R : It → Hp → Prop} {E : Value → Shared → Prop} {lo hi : Int} {t u v : Tok} {tk : Nat} (I : Inv X pins σ H s) (h1 : -(2 ^ 62) ≤ lo) (h2 : lo < 2 ^ 62) (h3 : -(2 ^ 62) ≤ hi) (h4 : hi < 2 ^ 62)
    (q : R (Itr lo (hi - lo).toNat) H) : wpAny (model X.prog X.w) X.A (pyIter (.ref s.heap.objs.size)) (PIE X pins σ tg R) E { s with heap := s.heap.push { cls := .type "range", data := .fields #[.int lo t, .int hi u, .int 1 v] }, toks := tk } := by
  refine wpAny_pyIter_range (IsRange.new ..) (small_one h1 h2 h3 h4) ?_
  have I1 : Inv X pins σ H { s with heap := s.heap.push { cls := .type "range", data := .fields #[.int lo t, .int hi u, .int 1 v] }, toks := tk } := I.kept fun b o e => Heap.get?_push_of_some _ e
  refine ⟨(s.heap.push { cls := .type "range", data := .fields #[.int lo t, .int hi u, .int 1 v] }).objs.size, [(s.heap.push { cls := .type "range", data := .fields #[.int lo t, .int hi u, .int 1 v] }).objs.size], _, _, H, rfl,
    I1.kept (t' := tk) fun b o e => Heap.get?_push_of_some _ e, turn_range _ lo (hi - lo).toNat, ?_, fun b hb => ?_, q⟩
  · have e1 : lo + ((0 : Nat) : Int) * 1 = lo := by simp
    have e2 : (((hi - lo).toNat : Nat) : Int) - ((0 : Nat) : Int) = Builtin.Range.rangeSize lo hi 1 := by rw [rangeSize_one]; split <;> omega
    show IsRangeIter _ _ (lo + ((0 : Nat) : Int) * 1) ((((hi - lo).toNat : Nat) : Int) - ((0 : Nat) : Int)) 1
    rw [e1, e2]
    exact Heap.get?_push_size _ rfl
  · have e : b = (s.heap.push { cls := .type "range", data := .fields #[.int lo t, .int hi u, .int 1 v] }).objs.size := by simpa using hb
    subst e
    exact I1.fpOk (Nat.le_refl _) (I1.hok.fresh (Nat.le_refl _))
def iRng1 (ta : TA) : TI := fun σ H R => ta σ H fun vs H1 => ∃ j : Int, vs = [.int j] ∧ -(2 ^ 62) ≤ j ∧ j < 2 ^ 62 ∧ R (Itr 0 j.toNat) H1
def iRng2 (ta : TA) : TI := fun σ H R => ta σ H fun vs H1 => ∃ i j : Int, vs = [.int i, .int j] ∧ (-(2 ^ 62) ≤ i ∧ i < 2 ^ 62 ∧ -(2 ^ 62) ≤ j ∧ j < 2 ^ 62) ∧ R (Itr i (j - i).toNat) H1
theorem pi_range1 {a : Expr} {ta : TA} {p pos : Pos} (hg : Gl X "range") (hm : X.mg "range" = none) (ha : PA X [a] ta) (hs : starEach [a] X.env = [(false, eval a X.env)] := by rfl) : PI X tg (.Call (.Name "range" p) [a] [] pos) (iRng1 ta) := by
  intro pins s σ H R I h
  refine Call_ (ld_blt I hg hm boot_range (PyProof.Rows.callWith_type1 (thn (ha pos pins s σ H _ I h) fun us s1 hhx => ?_) hs rfl))
  obtain ⟨vs, H1, I1, r1, q1⟩ := hhx
  obtain ⟨j, e, q1, q2, q⟩ := q1
  subst e
  cases r1 with
  | cons r rr =>
    cases rr
    obtain ⟨t, rfl⟩ := r
    exact call_range_1 (range_it I1 (by omega) (by omega) q1 q2 (by simpa using q))
/-- W: the invariant by the turn and a measure; N: what the body is to reach -/
def tFor (wi : TI) (g : TG) (tb : TS) : TS := fun D σ H => wi σ H fun J H1 => ∃ W : Nat → Nat → St → Hp → Prop, (∃ m, W 0 m σ H1) ∧ ∀ i m σ H, W i m σ H →
  (J.stop i H ∧ D.nx σ H) ∨ (J.go i H ∧ ∃ N : St → Hp → Prop, (∀ σ' H', N σ' H' → ∃ m', m' < m ∧ W (i + 1) m' σ' H') ∧ ∀ x H', J.yld i H x H' → g x σ H' fun σ2 H2 => tb { D with nx := N, ct := N, bk := D.nx } σ2 H2)
/-- the records at fp as they stand -/
def pinsAt (fp : List Addr) (h : Heap) : List (Addr × Obj) := fp.filterMap fun b => (h.get? b).map fun o => (b, o)
theorem mem_pinsAt {fp : List Addr} {h : Heap} {b : Addr} {o : Obj} (hb : b ∈ fp) (e : h.get? b = some o) : (b, o) ∈ pinsAt fp h := List.mem_filterMap.mpr ⟨b, hb, by rw [e]; rfl⟩
theorem of_pinsAt {fp : List Addr} {h : Heap} {p : Addr × Obj} (hp : p ∈ pinsAt fp h) : p.1 ∈ fp ∧ h.get? p.1 = some p.2 := by
  obtain ⟨b, hb, e⟩ := List.mem_filterMap.mp hp
  cases q : h.get? b with
  | none => rw [q] at e; cases e
  | some o =>
    rw [q] at e
    have e' : (b, o) = p := Option.some.inj e
    subst e'
    exact ⟨hb, q⟩
theorem Inv.pinned {pins : List (Addr × Obj)} {σ : St} {H : Hp} {s : Shared} {fp : List Addr} (I : Inv X pins σ H s) (hf : ∀ b ∈ fp, FpOk X pins H b) (ho : ∀ b ∈ fp, ∃ o, s.heap.get? b = some o ∧ ∀ v, o.data ≠ .cell v) : Inv X (pins ++ pinsAt fp s.heap) σ H s :=
  I.pins_of fun p hp => (List.mem_append.mp hp).elim (fun z => I.pin p (List.mem_append_right _ z)) fun z => by
    obtain ⟨hb, e⟩ := of_pinsAt z
    obtain ⟨f0, f1, f2, _⟩ := hf p.1 hb
    obtain ⟨o, e', d⟩ := ho p.1 hb
    rw [e] at e'; cases e'
    exact ⟨e, f0, f1, f2, d⟩
theorem Inv.unpinned {pins pl : List (Addr × Obj)} {σ : St} {H : Hp} {s : Shared} (I : Inv X (pins ++ pl) σ H s) : Inv X pins σ H s := I.pins_of fun p hp => I.pin p (List.mem_append_right _ (List.mem_append_left _ hp))
theorem ps_for {iter : Expr} {body : List Stmt} {wi : TI} {g : TG} {tb : TS} {pos : Pos} (hp : PassesOwn (model X.prog X.w) X.A X.env X.xe) (hc : X.calm = true) (hi : PI X tg iter wi) (hg : PG X tg g) (hb : PSs X body tb)
    (hs : ∀ x, foldedSetIterable iter X.env x = pure x := by intro _; rfl) : PS X (.For tg iter body [] pos) (tFor wi g tb) := by
  intro pins s σ H D I h
  refine wpAny_For (thn (hi pins s σ H _ I h) fun v s1 h1 => thn h1 fun itv s2 h2 => ?_) hs
  obtain ⟨it, fp, tn, J, H2, e, I2, T, st2, f2, W, ⟨m0, w0⟩, turn⟩ := h2
  subst e
  -- what stays true of the iterator's objects through the loop
  have stat : ∀ {H' : Hp}, (∀ b ∈ fp, H' b = none) → ∀ b ∈ fp, FpOk X pins H' b := fun hn b hb => ⟨hn b hb, (f2 b hb).2⟩
  refine codeAny_forLoop_any (fun n s' => ∃ i σ' H', Inv X pins σ' H' s' ∧ tn i s'.heap ∧ (∀ b ∈ fp, H' b = none) ∧ W i n σ' H') ?_ m0 ⟨0, σ, H2, I2, st2, fun b hb => (f2 b hb).1, w0⟩
  rintro n s3 ⟨i, σ3, H3, I3, st3, fr3, w3⟩
  rcases turn i n σ3 H3 w3 with ⟨stop, qn⟩ | ⟨go, N, hN, step⟩
  · refine wpAny_passesOwn hp (thn (T.done X rfl rfl rfl hc i pins s3 σ3 H3 X.xe I3 (stat fr3) st3 stop) fun r s4 ⟨hr, I4⟩ => ?_)
    subst hr
    exact wpAny_execs_nil ⟨σ3, H3, I4, qn⟩
  · refine wpAny_passesOwn hp (thn (T.item X rfl rfl rfl hc i pins s3 σ3 H3 X.xe I3 (stat fr3) st3 go) fun r s4 ⟨u, hr, h4⟩ => ?_)
    subst hr
    refine wpAny_passesOwn hp (thn h4 fun _ s5 hhx => ?_)
    obtain ⟨x, H5, I5, r5, y5, st5, fr5⟩ := hhx
    have I5' := I5.pinned (stat fr5) (T.obj _ _ st5)
    refine wpAny_passesOwn hp (thn (hg _ s5 σ3 H5 x u _ I5' r5 (step x H5 y5)) fun _ s6 hhx => ?_)
    obtain ⟨σ6, H6, I6, q6⟩ := hhx
    refine wpAny_passesOwn hp (thn (hb _ s6 σ6 H6 _ I6 q6) fun f s7 q7 => ?_)
    have again : ∀ {σ7 : St} {H7 : Hp}, Inv X (pins ++ pinsAt fp s5.heap) σ7 H7 s7 → N σ7 H7 → ∃ m, m < n ∧ ∃ i σ' H', Inv X pins σ' H' s7 ∧ tn i s7.heap ∧ (∀ b ∈ fp, H' b = none) ∧ W i m σ' H' := fun {σ7 H7} I7 n7 => by
      obtain ⟨m', hm, w7⟩ := hN σ7 H7 n7
      refine ⟨m', hm, i + 1, σ7, H7, I7.unpinned, T.keep _ _ _ st5 fun b hb o e => (I7.pin (b, o) (List.mem_append_right _ (List.mem_append_right _ (mem_pinsAt hb e)))).1, fun b hb => ?_, w7⟩
      obtain ⟨o, e, d⟩ := T.obj _ _ st5 b hb
      exact (I7.pin (b, o) (List.mem_append_right _ (List.mem_append_right _ (mem_pinsAt hb e)))).2.1
    cases f with
    | next => obtain ⟨σ7, H7, I7, n7⟩ := q7; exact again I7 n7
    | cont => obtain ⟨σ7, H7, I7, n7⟩ := q7; exact again I7 n7
    | brk => obtain ⟨σ7, H7, I7, q7⟩ := q7; exact ⟨σ7, H7, I7.unpinned, q7⟩
    | ret v => obtain ⟨x7, σ7, H7, I7, r7, q7⟩ := q7; exact ⟨x7, σ7, H7, I7.unpinned, r7, q7⟩
end

/-- over a list that the body leaves as it is -/
theorem for_list {K : PySem.W.Frag} {a : Addr} {xs : List V} {g : TG} {tb : TS} {D : Ends} {σ : St} {H : Hp} (Pv : Nat → St → Hp → Prop) (h0 : Pv 0 σ H) (hl : ∀ i σ H, i ≤ xs.length → Pv i σ H → SqL K H a xs)
    (hs : ∀ i x σ H, xs[i]? = some x → Pv i σ H → g x σ H fun σ2 H2 => tb { D with nx := Pv (i + 1), ct := Pv (i + 1), bk := D.nx } σ2 H2) (hd : ∀ σ H, Pv xs.length σ H → D.nx σ H) :
    ∃ W : Nat → Nat → St → Hp → Prop, (∃ m, W 0 m σ H) ∧ ∀ i m σ H, W i m σ H →
      ((Itl K a).stop i H ∧ D.nx σ H) ∨ ((Itl K a).go i H ∧ ∃ N : St → Hp → Prop, (∀ σ' H', N σ' H' → ∃ m', m' < m ∧ W (i + 1) m' σ' H') ∧ ∀ x H', (Itl K a).yld i H x H' → g x σ H' fun σ2 H2 => tb { D with nx := N, ct := N, bk := D.nx } σ2 H2) := by
  refine ⟨fun i m σ H => m = xs.length - i ∧ i ≤ xs.length ∧ Pv i σ H, ⟨xs.length, by simp, Nat.zero_le _, h0⟩, ?_⟩
  rintro i m σ H ⟨rfl, hi, p⟩
  have q := hl i σ H hi p
  by_cases hlt : i < xs.length
  · refine .inr ⟨⟨xs, xs[i], q, by simp [hlt]⟩, Pv (i + 1), fun σ' H' p' => ⟨xs.length - (i + 1), by omega, rfl, hlt, p'⟩, fun x H' y => ?_⟩
    obtain ⟨e, y⟩ := y
    subst e
    exact hs i x σ _ (y xs q) p
  · have e : i = xs.length := by omega
    subst e
    exact .inl ⟨⟨xs, q, Nat.le_refl _⟩, hd σ H p⟩
theorem for_range {lo : Int} {n : Nat} {g : TG} {tb : TS} {D : Ends} {σ : St} {H : Hp} (Pv : Nat → St → Hp → Prop) (h0 : Pv 0 σ H)
    (hs : ∀ i σ H, i < n → Pv i σ H → g (.int (lo + i)) σ H fun σ2 H2 => tb { D with nx := Pv (i + 1), ct := Pv (i + 1), bk := D.nx } σ2 H2) (hd : ∀ σ H, Pv n σ H → D.nx σ H) :
    ∃ W : Nat → Nat → St → Hp → Prop, (∃ m, W 0 m σ H) ∧ ∀ i m σ H, W i m σ H →
      ((Itr lo n).stop i H ∧ D.nx σ H) ∨ ((Itr lo n).go i H ∧ ∃ N : St → Hp → Prop, (∀ σ' H', N σ' H' → ∃ m', m' < m ∧ W (i + 1) m' σ' H') ∧ ∀ x H', (Itr lo n).yld i H x H' → g x σ H' fun σ2 H2 => tb { D with nx := N, ct := N, bk := D.nx } σ2 H2) := by
  refine ⟨fun i m σ H => m = n - i ∧ i ≤ n ∧ Pv i σ H, ⟨n, by simp, Nat.zero_le _, h0⟩, ?_⟩
  rintro i m σ H ⟨rfl, hi, p⟩
  by_cases hlt : i < n
  · refine .inr ⟨hlt, Pv (i + 1), fun σ' H' p' => ⟨n - (i + 1), by omega, rfl, hlt, p'⟩, fun x H' y => ?_⟩
    obtain ⟨e, y⟩ := y
    subst e y
    exact hs i σ _ hlt p
  · have e : i = n := by omega
    subst e
    exact .inl ⟨Nat.le_refl _, hd σ H p⟩
end L2

namespace L2
open PySem PySem.Spec PyProof.Rows

abbrev R2 := V → V → Hp → VK → Prop
/-- a two-place operation on values: f is binaryOp op, inplaceOp op or compareOp op -/
def OpR (X : Cx) (f : Value → Value → Sem Value) (r : R2) : Prop :=
  ∀ (pins : List (Addr × Obj)) (s : Shared) (σ : St) (H : Hp) (x y : V) (v u : Value) (Q : VK), Inv X pins σ H s → RelV x v → RelV y u → r x y H Q →
    wpAny (model X.prog X.w) X.A (f v u) (EP X pins σ Q) X.xe s
/-- a one-place operation -/
def UnR (X : Cx) (f : Value → Sem Value) (r : V → Hp → VK → Prop) : Prop :=
  ∀ (pins : List (Addr × Obj)) (s : Shared) (σ : St) (H : Hp) (x : V) (v : Value) (Q : VK), Inv X pins σ H s → RelV x v → r x H Q →
    wpAny (model X.prog X.w) X.A (f v) (EP X pins σ Q) X.xe s
/-- a call of a value that is known (a builtin, a type) with values -/
def CallR (X : Cx) (f : Value) (r : List V → Hp → VK → Prop) : Prop :=
  ∀ (pins : List (Addr × Obj)) (s : Shared) (σ : St) (H : Hp) (xs : List V) (us : List Value) (Q : VK), Inv X pins σ H s → Vals xs us → r xs H Q →
    wpAny (model X.prog X.w) X.A (call f us) (EP X pins σ Q) X.xe s
def tOp (r : R2) (ta tb : TE) : TE := fun σ H Q => ta σ H fun x H1 => tb σ H1 fun y H2 => r x y H2 Q
def tUn (r : V → Hp → VK → Prop) (ta : TE) : TE := fun σ H Q => ta σ H fun x H1 => r x H1 Q
/-- ints in, under C, and a value out -/
def rI (C : Int → Int → Prop) (g : Int → Int → V) : R2 := fun x y H Q => ∃ i j, x = .int i ∧ y = .int j ∧ C i j ∧ Q (g i j) H
def rI0 (g : Int → Int → V) : R2 := fun x y H Q => ∃ i j, x = .int i ∧ y = .int j ∧ Q (g i j) H
def rU (g : Int → V) : V → Hp → VK → Prop := fun x H Q => ∃ i, x = .int i ∧ Q (g i) H

section
variable {X : Cx} {a b c : Expr} {ta tb tc : TE} {pos : Pos}

theorem binT (ha : PE X a ta) (hb : PE X b tb) {pins : List (Addr × Obj)} {s : Shared} {σ : St} {H : Hp} {R : V → V → Hp → Prop} (I : Inv X pins σ H s)
    (h : ta σ H fun x H1 => tb σ H1 fun y H2 => R x y H2) {Q : Value → Shared → Prop} {f : Value → Value → Sem Value}
    (hf : ∀ v u s2 x y H2, Inv X pins σ H2 s2 → RelV x v → RelV y u → R x y H2 → wpAny (model X.prog X.w) X.A (f v u) Q X.xe s2) :
    wpAny (model X.prog X.w) X.A (eval a X.env) (fun v s₁ => wpAny (model X.prog X.w) X.A (eval b X.env) (fun u s₂ => wpAny (model X.prog X.w) X.A (f v u) Q X.xe s₂) X.xe s₁) X.xe s := by
  refine thn (ha pins s σ H _ I h) fun v s1 hhx => ?_
  obtain ⟨x, H1, I1, r1, q1⟩ := hhx
  refine thn (hb pins s1 σ H1 _ I1 q1) fun u s2 hhx => ?_
  obtain ⟨y, H2, I2, r2, q2⟩ := hhx
  exact hf v u s2 x y H2 I2 r1 r2 q2

theorem pe_op {op : Operator} {r : R2} (ho : OpR X (binaryOp op) r) (ha : PE X a ta) (hb : PE X b tb) : PE X (.BinOp a op b pos) (tOp r ta tb) := by
  intro pins s σ H Q I h
  exact wpAny_BinOp (binT ha hb I h fun v u s2 x y H2 I2 rx ry q => ho pins s2 σ H2 x y v u Q I2 rx ry q)
theorem pe_un {op : UnaryOp} {r : V → Hp → VK → Prop} (ho : UnR X (unaryOp op) r) (ha : PE X a ta) : PE X (.UnaryOp op a pos) (tUn r ta) := by
  intro pins s σ H Q I h
  exact UnaryOp_ (thn (ha pins s σ H _ I h) fun v s1 ⟨x, H1, I1, r1, q1⟩ => ho pins s1 σ H1 x v Q I1 r1 q1)
theorem opI {f : Value → Value → Sem Value} {C : Int → Int → Prop} {g : Int → Int → Int}
    (rule : ∀ (i j : Int) (t u : Tok) (s : Shared) (Q : Value → Shared → Prop) (E : Value → Shared → Prop), C i j → Q (.int (g i j) s.toks) { s with toks := s.toks + 1 } → wpAny (model X.prog X.w) X.A (f (.int i t) (.int j u)) Q E s) :
    OpR X f (rI C fun i j => .int (g i j)) := by
  intro pins s σ H x y v u Q I rx ry h
  obtain ⟨i, j, rfl, rfl, hc, q⟩ := h
  obtain ⟨t, rfl⟩ := rx
  obtain ⟨t', rfl⟩ := ry
  exact rule i j t t' s _ _ hc ⟨.int (g i j), H, I.tok _, ⟨_, rfl⟩, q⟩
theorem opI0 {f : Value → Value → Sem Value} {g : Int → Int → Int}
    (rule : ∀ (i j : Int) (t u : Tok) (s : Shared) (Q : Value → Shared → Prop) (E : Value → Shared → Prop), Q (.int (g i j) s.toks) { s with toks := s.toks + 1 } → wpAny (model X.prog X.w) X.A (f (.int i t) (.int j u)) Q E s) :
    OpR X f (rI0 fun i j => .int (g i j)) := by
  intro pins s σ H x y v u Q I rx ry h
  obtain ⟨i, j, rfl, rfl, q⟩ := h
  obtain ⟨t, rfl⟩ := rx
  obtain ⟨t', rfl⟩ := ry
  exact rule i j t t' s _ _ ⟨.int (g i j), H, I.tok _, ⟨_, rfl⟩, q⟩
theorem opB0 {f : Value → Value → Sem Value} {g : Int → Int → Bool}
    (rule : ∀ (i j : Int) (t u : Tok) (s : Shared) (Q : Value → Shared → Prop) (E : Value → Shared → Prop), Q (.bool (g i j)) s → wpAny (model X.prog X.w) X.A (f (.int i t) (.int j u)) Q E s) :
    OpR X f (rI0 fun i j => .bl (g i j)) := by
  intro pins s σ H x y v u Q I rx ry h
  obtain ⟨i, j, rfl, rfl, q⟩ := h
  obtain ⟨t, rfl⟩ := rx
  obtain ⟨t', rfl⟩ := ry
  exact rule i j t t' s _ _ ⟨.bl (g i j), H, I, rfl, q⟩

def CPow (i j : Int) : Prop := 0 ≤ j ∧ j ≤ 1000000 ∧ i.natAbs < 2 ^ 64
def CMul (i j : Int) : Prop := (-(2 ^ 64) < i ∧ i < 2 ^ 64) ∨ (-(2 ^ 64) < j ∧ j < 2 ^ 64)
theorem CMul.ok {i j : Int} (h : CMul i j) : IntMulOk i j := by
  rcases h with ⟨h1, h2⟩ | ⟨h1, h2⟩
  · exact .of_left (intBits_le_64 h1 h2)
  · exact .of_right (intBits_le_64 h1 h2)
theorem op_add : OpR X (binaryOp .Add) (rI0 fun i j => .int (i + j)) := opI0 fun _ _ _ _ _ _ _ q => add_int q
theorem op_sub : OpR X (binaryOp .Sub) (rI0 fun i j => .int (i - j)) := opI0 fun _ _ _ _ _ _ _ q => sub_int q
theorem op_mul : OpR X (binaryOp .Mult) (rI CMul fun i j => .int (i * j)) := opI fun _ _ _ _ _ _ _ hc q => mul_int q hc.ok
/-- % by a positive divisor of any size -/
theorem op_mod : OpR X (binaryOp .Mod) (rI (fun _ j => 0 < j) fun i j => .int (i % j)) := opI fun i j _ _ _ _ _ hc q => by
  have h1 : (0 : Int) < j := hc
  exact mod_int' (by omega) (by rw [Int.fmod_eq_emod_of_nonneg i (by omega)]; exact q)
theorem op_pow : OpR X (binaryOp .Pow) (rI CPow fun i j => .int (i ^ j.toNat)) := opI fun _ _ _ _ _ _ _ hc q => pow_int_small hc.1 hc.2.1 hc.2.2 q
theorem op_shl : OpR X (binaryOp .LShift) (rI CPow fun i j => .int (i * 2 ^ j.toNat)) := opI fun _ _ _ _ _ _ _ hc q => lshift_int_small hc.1 hc.2.1 hc.2.2 q
theorem unI {f : Value → Sem Value} {g : Int → Int}
    (rule : ∀ (i : Int) (t : Tok) (s : Shared) (Q : Value → Shared → Prop) (E : Value → Shared → Prop), Q (.int (g i) s.toks) { s with toks := s.toks + 1 } → wpAny (model X.prog X.w) X.A (f (.int i t)) Q E s) :
    UnR X f (rU fun i => .int (g i)) := by
  intro pins s σ H x v Q I rx h
  obtain ⟨i, rfl, q⟩ := h
  obtain ⟨t, rfl⟩ := rx
  exact rule i t s _ _ ⟨.int (g i), H, I.tok _, ⟨_, rfl⟩, q⟩
theorem un_neg : UnR X (unaryOp .USub) (rU fun i => .int (-i)) := unI fun _ _ _ _ _ q => neg_int q
end

/-- the scalars that == tells apart as data does -/
def scal : V → V → Bool
  | .non, .non => true | .non, .int _ => true | .int _, .non => true | .non, .bl _ => true | .bl _, .non => true | .non, .str _ => true | .str _, .non => true
  | .int _, .int _ => true | .bl _, .bl _ => true | .str _, .str _ => true | .byt _, .byt _ => true
  | .int _, .str _ => true | .str _, .int _ => true | .bl _, .str _ => true | .str _, .bl _ => true
  | _, _ => false
def rEq : R2 := fun x y H Q => scal x y = true ∧ Q (.bl (decide (x = y))) H
def rNe : R2 := fun x y H Q => scal x y = true ∧ Q (.bl (!decide (x = y))) H

theorem dec_int {i j : Int} : decide (V.int i = V.int j) = (i == j) := by
  rw [Bool.eq_iff_iff]
  simp
theorem dec_bl {i j : Bool} : decide (V.bl i = V.bl j) = (i == j) := by
  rw [Bool.eq_iff_iff]
  simp
theorem dec_str {i j : Str} : decide (V.str i = V.str j) = (i == j) := by
  rw [Bool.eq_iff_iff]
  simp
theorem dec_byt {i j : Array UInt8} : decide (V.byt i = V.byt j) = (i.toList == j.toList) := by
  rw [Bool.eq_iff_iff]
  cases i
  cases j
  simp

section
variable {X : Cx} {a b c : Expr} {ta tb tc : TE} {pos : Pos}
theorem fin_bl {pins : List (Addr × Obj)} {σ : St} {H : Hp} {s : Shared} {Q : VK} {k k' : Bool} (I : Inv X pins σ H s) (q : Q (.bl k) H) (e : k = k') : EP X pins σ Q (.bool k') s := by
  subst e
  exact ⟨.bl k, H, I, rfl, q⟩
theorem op_eq : OpR X (compareOp .Eq) rEq := by
  intro pins s σ H x y v u Q I rx ry h
  obtain ⟨hs, q⟩ := h
  cases x with
  | non =>
    cases rx
    cases y with
    | non => cases ry; exact PySem.EqNone.eq_none_none (fin_bl I q (by simp))
    | bl j => cases ry; exact PySem.EqNone.eq_none_bool (fin_bl I q (by simp))
    | int j => obtain ⟨t', rfl⟩ := ry; exact PySem.EqNone.eq_none_int (fin_bl I q (by simp))
    | str j => obtain ⟨t', rfl⟩ := ry; exact PySem.EqNone.eq_none_str (fin_bl I q (by simp))
    | _ => exact absurd (show false = true from hs) Bool.false_ne_true
  | bl i =>
    cases rx
    cases y with
    | non => cases ry; exact PySem.EqNone.eq_bool_none (fin_bl I q (by simp))
    | bl j => cases ry; exact eq_bool (fin_bl I q dec_bl)
    | str j => obtain ⟨t', rfl⟩ := ry; exact PySem.EqMixed.eq_bool_str (fin_bl I q (by simp))
    | _ => exact absurd (show false = true from hs) Bool.false_ne_true
  | int i =>
    obtain ⟨t, rfl⟩ := rx
    cases y with
    | non => cases ry; exact PySem.EqNone.eq_int_none (fin_bl I q (by simp))
    | int j => obtain ⟨t', rfl⟩ := ry; exact eq_int (fin_bl I q dec_int)
    | str j => obtain ⟨t', rfl⟩ := ry; exact PySem.EqMixed.eq_int_str (fin_bl I q (by simp))
    | _ => exact absurd (show false = true from hs) Bool.false_ne_true
  | str i =>
    obtain ⟨t, rfl⟩ := rx
    cases y with
    | non => cases ry; exact PySem.EqNone.eq_str_none (fin_bl I q (by simp))
    | bl j => cases ry; exact PySem.EqMixed.eq_str_bool (fin_bl I q (by simp))
    | int j => obtain ⟨t', rfl⟩ := ry; exact PySem.EqMixed.eq_str_int (fin_bl I q (by simp))
    | str j => obtain ⟨t', rfl⟩ := ry; exact eq_str (fin_bl I q dec_str)
    | _ => exact absurd (show false = true from hs) Bool.false_ne_true
  | byt i =>
    obtain ⟨t, rfl⟩ := rx
    cases y with
    | byt j => obtain ⟨t', rfl⟩ := ry; exact PySem.W.eq_bytes (fin_bl I q dec_byt)
    | _ => exact absurd (show false = true from hs) Bool.false_ne_true
  | _ => cases y <;> exact absurd (show false = true from hs) Bool.false_ne_true
theorem op_ne : OpR X (compareOp .NotEq) rNe := by
  intro pins s σ H x y v u Q I rx ry h
  obtain ⟨hs, q⟩ := h
  cases x with
  | non =>
    cases rx
    cases y with
    | non => cases ry; exact PySem.EqNone.ne_none_none (fin_bl I q (by simp))
    | bl j => cases ry; exact PySem.EqNone.ne_none_bool (fin_bl I q (by simp))
    | int j => obtain ⟨t', rfl⟩ := ry; exact PySem.EqNone.ne_none_int (fin_bl I q (by simp))
    | str j => obtain ⟨t', rfl⟩ := ry; exact PySem.EqNone.ne_none_str (fin_bl I q (by simp))
    | _ => exact absurd (show false = true from hs) Bool.false_ne_true
  | bl i =>
    cases rx
    cases y with
    | non => cases ry; exact PySem.EqNone.ne_bool_none (fin_bl I q (by simp))
    | bl j => cases ry; exact ne_bool (fin_bl I q (congrArg not dec_bl))
    | str j => obtain ⟨t', rfl⟩ := ry; exact PySem.EqMixed.ne_bool_str (fin_bl I q (by simp))
    | _ => exact absurd (show false = true from hs) Bool.false_ne_true
  | int i =>
    obtain ⟨t, rfl⟩ := rx
    cases y with
    | non => cases ry; exact PySem.EqNone.ne_int_none (fin_bl I q (by simp))
    | int j => obtain ⟨t', rfl⟩ := ry; exact ne_int (fin_bl I q (congrArg not dec_int))
    | str j => obtain ⟨t', rfl⟩ := ry; exact PySem.EqMixed.ne_int_str (fin_bl I q (by simp))
    | _ => exact absurd (show false = true from hs) Bool.false_ne_true
  | str i =>
    obtain ⟨t, rfl⟩ := rx
    cases y with
    | non => cases ry; exact PySem.EqNone.ne_str_none (fin_bl I q (by simp))
    | bl j => cases ry; exact PySem.EqMixed.ne_str_bool (fin_bl I q (by simp))
    | int j => obtain ⟨t', rfl⟩ := ry; exact PySem.EqMixed.ne_str_int (fin_bl I q (by simp))
    | str j => obtain ⟨t', rfl⟩ := ry; exact ne_str (fin_bl I q (congrArg not dec_str))
    | _ => exact absurd (show false = true from hs) Bool.false_ne_true
  | byt i =>
    obtain ⟨t, rfl⟩ := rx
    cases y with
    | byt j => obtain ⟨t', rfl⟩ := ry; exact PySem.W.ne_bytes (fin_bl I q (congrArg not dec_byt))
    | _ => exact absurd (show false = true from hs) Bool.false_ne_true
  | _ => cases y <;> exact absurd (show false = true from hs) Bool.false_ne_true

theorem op_lt : OpR X (compareOp .Lt) (rI0 fun i j => .bl (decide (i < j))) := opB0 fun _ _ _ _ _ _ _ q => lt_int q
theorem op_le : OpR X (compareOp .LtE) (rI0 fun i j => .bl (decide (i ≤ j))) := opB0 fun _ _ _ _ _ _ _ q => le_int q
theorem op_gt : OpR X (compareOp .Gt) (rI0 fun i j => .bl (decide (j < i))) := opB0 fun _ _ _ _ _ _ _ q => gt_int q
theorem op_ge : OpR X (compareOp .GtE) (rI0 fun i j => .bl (decide (j ≤ i))) := opB0 fun _ _ _ _ _ _ _ q => ge_int q
theorem op_notN : OpR X (compareOp .IsNot) (fun x y H Q => y = .non ∧ Q (.bl (!decide (x = .non))) H) := by
  intro pins s σ H x y v u Q I rx ry h
  obtain ⟨rfl, q⟩ := h
  cases ry
  refine isnot_none_gen (fin_bl I q ?_)
  cases x <;> first
    | (cases rx; rfl)
    | (obtain ⟨t, rfl⟩ := rx; rfl)

/-- two rules for one operation: by cases -/
theorem OpR.or {f : Value → Value → Sem Value} {r r' : R2} (h : OpR X f r) (h' : OpR X f r') : OpR X f (fun x y H Q => r x y H Q ∨ r' x y H Q) := by
  intro pins s σ H x y v u Q I rx ry q
  rcases q with q | q
  · exact h pins s σ H x y v u Q I rx ry q
  · exact h' pins s σ H x y v u Q I rx ry q

theorem nomark (b : Expr) {op : CmpOp} (h : op ≠ .In := by decide) (h2 : op ≠ .NotIn := by decide) : behindInMarks op b = false := by
  have e1 : (op == CmpOp.In) = false := by cases op <;> first | rfl | exact absurd rfl h
  have e2 : (op == CmpOp.NotIn) = false := by cases op <;> first | rfl | exact absurd rfl h2
  cases b <;> simp [behindInMarks, e1, e2]
/-- a comparison as a value; hm: nomark b, or (for in, not in) by with_unfolding_all rfl -/
theorem pe_cmpR {op : CmpOp} {r : R2} (ho : OpR X (compareOp op) r) (ha : PE X a ta) (hb : PE X b tb) (hm : behindInMarks op b = false) : PE X (.Compare a [op] [b] pos) (tOp r ta tb) := by
  intro pins s σ H Q I h
  exact wpAny_Compare1 (binT ha hb I h fun v u s2 x y H2 I2 rx ry q => ho pins s2 σ H2 x y v u Q I2 rx ry q) hm
/-- a reading of a value as a test -/
def tTest (t : TE) : TT := fun σ H Q => t σ H fun x H' => ∃ k, x = .bl k ∧ Q k H'
theorem pt_cmpR {op : CmpOp} {r : R2} (ho : OpR X (compareOp op) r) (ha : PE X a ta) (hb : PE X b tb) (hm : behindInMarks op b = false) : PT X (.Compare a [op] [b] pos) (tTest (tOp r ta tb)) := by
  intro pins s σ H Q I h
  refine wpAny_isTrue_Compare1 (thn (ha pins s σ H _ I h) fun v s1 ⟨x, H1, I1, r1, q1⟩ => thn (hb pins s1 σ H1 _ I1 q1) fun u s2 ⟨y, H2, I2, r2, q2⟩ =>
    thn (ho pins s2 σ H2 x y v u _ I2 r1 r2 q2) fun c s3 ⟨z, H3, I3, r3, k, e, q3⟩ => ?_) hm
  subst e
  cases r3
  exact wpAny_truthy_bool ⟨H3, I3, q3⟩
theorem line63 : (sizeLine : Nat) < 2 ^ 63 := by rw [sizeLine_eq]; decide
theorem vals1 {x : V} {us : List Value} (r : Vals [x] us) : ∃ u, us = [u] ∧ RelV x u := by
  cases r with
  | cons r1 r2 => cases r2; exact ⟨_, rfl, r1⟩
theorem vals2 {x y : V} {us : List Value} (r : Vals [x, y] us) : ∃ u w', us = [u, w'] ∧ RelV x u ∧ RelV y w' := by
  cases r with
  | cons r1 r2 =>
    cases r2 with
    | cons r3 r4 => cases r4; exact ⟨_, _, rfl, r1, r3⟩
theorem call_max2 (hc : X.calm = true) : CallR X (.builtin "max") (fun xs H Q => ∃ i j, xs = [.int i, .int j] ∧ Q (.int (if j > i then j else i)) H) := by
  intro pins s σ H xs us Q I r h
  obtain ⟨i, j, rfl, q⟩ := h
  obtain ⟨u, w', rfl, ⟨t, rfl⟩, ⟨t', rfl⟩⟩ := vals2 r
  refine max_two_ints (I.ok.hd hc) fun h' tk k => ⟨_, H, I.kept k, ?_, q⟩
  by_cases hj : j > i
  · rw [if_pos hj, if_pos hj]; exact ⟨_, rfl⟩
  · rw [if_neg hj, if_neg hj]; exact ⟨_, rfl⟩
end
end L2

namespace L2
open PySem PySem.Spec PyProof.Rows

structure ObjM (h : Heap) (x dx C : Addr) (mA : Str → Option Value) : Prop where
  obj : h.get? x = some (PySem.W.instObj C dx)
  ns : h.Ns1 dx mA
  ne : dx ≠ x

section
variable {prog : Program} {w : World} {A : Around} {E : Value → Shared → Prop} {s : Shared} {K : PySem.W.Frag} {x dx C f : Addr} {mA : Str → Option Value} {name : Str} {v : Value}

end

def putF (f : Str) (v : V) : List (Str × V) → List (Str × V)
  | [] => [(f, v)]
  | (g, x) :: r => if g = f then (g, v) :: r else (g, x) :: putF f v r
theorem RelO.some_of {v : V} {o : Option Value} (r : RelO (some v) o) : ∃ u, o = some u ∧ RelV v u := by
  cases o with
  | none => exact (show False from r).elim
  | some u => exact ⟨u, rfl, r⟩
section
variable {P : Program} {w : World} {H H' : Hp} {h h' : Heap} {a C dx : Addr} {fs fs' : List (Str × V)}
end

structure Cls (K : PySem.W.Frag) (C : Addr) : Prop where
  pg : PySem.W.plainGet K C Str.empty = true
  hd : PySem.W.hasDictIn K C = true
  po : PySem.W.plainOver K C = true
  sa : PySem.W.findIn K (.ref C) "__setattr__" = some (some (.builtin "object.__setattr__"))
theorem Cls.get {K : PySem.W.Frag} {C : Addr} (c : Cls K C) (f : Str) : PySem.W.plainGet K C f = true := c.pg
/-- no class of it has the name -/
def NoAttr (K : PySem.W.Frag) (C : Addr) (f : Str) : Prop := PySem.W.findIn K (.ref C) f = some none
/-- a constant of the class -/
structure Con (K : PySem.W.Frag) (C : Addr) (f : Str) (v : V) (u : Value) : Prop where
  at_ : PySem.W.findIn K (.ref C) f = some (some u)
  rel : RelV v u
  get : PySem.W.specialIn K u "__get__" = some none
  cp : PySem.W.copiedNames.contains f = false
/-- a method: a plain def of the class or of one above it -/
structure Meth (K : PySem.W.Frag) (C : Addr) (m : Str) (f : Addr) : Prop where
  at_ : PySem.W.findIn K (.ref C) m = some (some (.ref f))
  fn : PySem.W.isFn K (.ref f) = true
  kp : PySem.W.keepIn K (.ref f) = true

section
variable {X : Cx} {pins : List (Addr × Obj)} {σ : St} {H : Hp} {s : Shared} {a C dx : Addr} {fs : List (Str × V)} {f : Str} {v : V} {A : Around} {E : Value → Shared → Prop}

end

/-- e.f, an attribute of the instance -/
def tFld (K : PySem.W.Frag) (ta : TE) (f : Str) : TE := fun σ H Q => ta σ H fun x H1 => ∃ a C dx fs v, x = .ref a ∧ H1 a = some (.ins C dx fs) ∧ Cls K C ∧ NoAttr K C f ∧ fs.lookup f = some v ∧ Q v H1
/-- e.f = value -/
def sFld (K : PySem.W.Frag) (ta tv : TE) (f : Str) : TS := fun D σ H => tv σ H fun y H1 => ta σ H1 fun x H2 => ∃ a C dx fs, x = .ref a ∧ H2 a = some (.ins C dx fs) ∧ Cls K C ∧ NoAttr K C f ∧ fs.length < 1000 ∧
  D.nx σ (upd H2 a (.ins C dx (putF f y fs)))
section
variable {X : Cx} {o e value : Expr} {f : Str} {pos pos' tpos : Pos} {ta tv : TE}
end

section
variable {X : Cx} {pins : List (Addr × Obj)} {σ : St} {H : Hp} {s : Shared} {A : Around} {E : Value → Shared → Prop} {Q : Value → Shared → Prop} {c : Value} {b : Bool}
/-- the type of a value, as the fragment's deciders take it; for an instance its class -/
inductive TyOf (K : PySem.W.Frag) (H : Hp) : V → Value → Prop where
  | non : TyOf K H .non (.type "NoneType")
  | bl (x : Bool) : TyOf K H (.bl x) (.type "bool")
  | int (i : Int) : TyOf K H (.int i) (.type "int")
  | str (x : Str) : TyOf K H (.str x) (.type "str")
  | flt (x : UInt64) : TyOf K H (.flt x) (.type "float")
  | lst {a : Addr} {xs : List V} (e : H a = some (.lst xs)) : TyOf K H (.ref a) (.type "list")
  | frz {a : Addr} {o : Obj} {xs : List V} (e : H a = some (.frz o (.lst xs))) : TyOf K H (.ref a) (.type "list")
  | tup {a : Addr} {xs : List V} (e : H a = some (.tup xs)) : TyOf K H (.ref a) (.type "tuple")
  | dK {a : Addr} {kvs : List (Key × V)} (e : H a = some (.dK kvs)) : TyOf K H (.ref a) (.type "dict")
  | dT {a : Addr} {kvs : List (List Key × V)} (e : H a = some (.dT kvs)) : TyOf K H (.ref a) (.type "dict")
  | ins {a C dx : Addr} {fs : List (Str × V)} (e : H a = some (.ins C dx fs)) (cl : Cls K C) (ha : PySem.W.findIn K (.ref C) "__class__" = some (some (.builtin "object.__class__")))
      (hn : PySem.W.specialIn K (.builtin "object.__class__") "__get__" = some (some (.builtin "getset_descriptor.__get__"))) (htk : PySem.W.takesIn K (.builtin "object.__class__") = some true)
      (hm : PySem.W.mroIn K C (.type "object") = some true) : TyOf K H (.ref a) (.ref C)
end
end L2

namespace L2
open PySem PySem.Spec PyProof.Rows

structure Room (k : Nat) (A : Around) : Prop where
  hd : A.handled = none
  dp : A.depth + 3 * k + 5 < recursionLimit
  un : A.units + 16 * k + 200 < cLine
theorem Room.mono {j k : Nat} {A : Around} (r : Room k A) (h : j ≤ k) : Room j A := ⟨r.hd, by have := r.dp; omega, by have := r.un; omega⟩
theorem Room.deeper {k : Nat} {A : Around} (r : Room (k + 1) A) (env : Env) : Room k (A.deeper env) :=
  ⟨r.hd, by have := r.dp; show A.depth + 1 + 3 * k + 5 < _; omega, by have := r.un; show A.units + 3 + 16 * k + 200 < _; omega⟩
theorem Room.depth {k : Nat} {A : Around} (r : Room k A) : A.depth < recursionLimit := by have := r.dp; omega
theorem Room.units {k : Nat} {A : Around} (r : Room k A) : A.units + 64 < cLine := by have := r.un; omega
def tNil : TA := fun _ H Q => Q [] H
def tCons (ta : TE) (tr : TA) : TA := fun σ H Q => ta σ H fun x H1 => tr σ H1 fun xs H2 => Q (x :: xs) H2
section
variable {X : Cx} {e : Expr} {es : List Expr} {te : TE} {t : TA} {pos : Pos}
theorem pa_nil : PA X [] tNil := fun _ _ _ _ H Q I h => Calls.spliced_nil ⟨[], H, I, .nil, h⟩
theorem pa_cons (ha : PE X e te) (hr : PA X es t) (hs : starEach (e :: es) X.env = (false, eval e X.env) :: starEach es X.env := by rfl) : PA X (e :: es) (tCons te t) := by
  intro pos pins s σ H Q I h
  rw [hs]
  show wpAny _ _ (spliced ((false, eval e X.env) :: backTo pos (starEach es X.env))) _ _ s
  refine Calls.spliced_cons (thn (ha pins s σ H _ I h) fun u s1 hhx => ?_)
  obtain ⟨x, H1, I1, r1, q1⟩ := hhx
  exact thn (hr pos pins s1 σ H1 _ I1 q1) fun us s2 ⟨xs, H2, I2, r2, q2⟩ => ⟨x :: xs, H2, I2, .cons r1 r2, q2⟩

/-- a tuple, a list of written items -/
def tTup (t : TA) : TE := fun σ H Q => t σ H fun xs H1 => xs.length ≤ sizeLine ∧ ∀ p, H1 p = none → Q (.ref p) (upd H1 p (.tup xs))
def tLst (t : TA) : TE := fun σ H Q => t σ H fun xs H1 => xs.length ≤ sizeLine ∧ ∀ p, H1 p = none → Q (.ref p) (upd H1 p (.lst xs))
theorem pe_tup {x1} (h : PA X es t) : PE X (.Tuple es x1 pos) (tTup t) := by
  intro pins s σ H Q I hq
  refine wpAny_Tuple_spliced (thn (h pos pins s σ H _ I hq) fun us s1 ⟨xs, H1, I1, r, z, q⟩ => ⟨by rw [← r.length]; exact z, ?_⟩)
  have hf : H1 s1.heap.objs.size = none := I1.hok.fresh (Nat.le_refl _)
  refine ⟨.ref s1.heap.objs.size, upd H1 s1.heap.objs.size (.tup xs), I1.laid (t' := s1.toks) (fun b u e => Heap.get?_push_of_some _ e) (Nat.le_refl _) ?_, rfl, q _ hf⟩
  exact ⟨z, us, r, ⟨_, Heap.get?_push_size _ rfl, rfl, _, rfl⟩⟩
theorem pe_lst (h : PA X es t) : PE X (.List es pos) (tLst t) := by
  intro pins s σ H Q I hq
  refine wpAny_List_spliced (thn (h pos pins s σ H _ I hq) fun us s1 ⟨xs, H1, I1, r, z, q⟩ => ⟨by rw [← r.length]; exact z, ?_⟩)
  have hf : H1 s1.heap.objs.size = none := I1.hok.fresh (Nat.le_refl _)
  refine ⟨.ref s1.heap.objs.size, upd H1 s1.heap.objs.size (.lst xs), I1.laid (t' := s1.toks) (fun b u e => Heap.get?_push_of_some _ e) (Nat.le_refl _) ?_, rfl, q _ hf⟩
  exact ⟨z, us, 0, r, Heap.get?_push_size _ rfl⟩
end

/-- a def's promise: the bound arguments in the parameters' order, the heap, the wanted end, the wanted exception -/
abbrev Sp := List V → Hp → VK → XK → Prop
/-- how an exception lies behind a call (file 08 gives it): the callers' frames, abstract heap and state ahead of the call, the wish, the exception, the state -/
abbrev CXT := List Env → Hp → Shared → XK → Value → Shared → Prop

/-- the state at a call -/
structure Env0 (P : Program) (w : World) (K : PySem.W.Frag) (mg : Str → Option Value) (base : Heap) (A : Around) (outer : List Env) (s : Shared) (H : Hp) : Prop where
  frames : A.frames = some outer
  mod : Mod K mg base
  bs : ∀ b o, base.get? b = some o → s.heap.get? b = some o ∧ H b = none
  bsz : base.objs.size ≤ s.heap.objs.size
  funs : s.heap.FunFrames base outer
  frf : ∀ b ∈ frs outer, H b = none
  hok : HOk P w H s.heap
  bare : AllBare s.gens
/-- a call's end -/
def CE (outer : List Env) (P : Program) (w : World) (H : Hp) (s : Shared) (Q : VK) (u : Value) (s' : Shared) : Prop :=
  ∃ v H', s'.os = s.os ∧ AllBare s'.gens ∧ Un (frs outer) [] H H' s.heap s'.heap ∧ HOk P w H' s'.heap ∧ RelV v u ∧ Q v H'
def CR (CX : CXT) (outer : List Env) (P : Program) (w : World) (H : Hp) (s : Shared) (Q : VK) (E : XK) (r : Result) (s' : Shared) : Prop :=
  match r with
  | .ok (.ret u) => CE outer P w H s Q u s'
  | .ok _ => False
  | .error e => CX outer H s E e s'
structure FnOk (P : Program) (w : World) (K : PySem.W.Frag) (mg : Str → Option Value) (base : Heap) (CX : CXT) (k : Nat) (f : Addr) (fd : FuncData) (ps : List Str) (sp : Sp) : Prop where
  len : ∀ vs H Q E, sp vs H Q E → vs.length = ps.length
  run : ∀ (A : Around) (outer : List Env) (s : Shared) (H : Hp) (args : Args) (us : List Value) (vs : List V) (Q : VK) (E : XK), Room k A → Env0 P w K mg base A outer s H → BindsTo s fd args (ps.zip us) → Vals vs us → sp vs H Q E →
    codeAny (model P w) A (.call (.ref f) args) (CR CX outer P w H s Q E) s
theorem FnOk.mono {P : Program} {w : World} {K : PySem.W.Frag} {mg : Str → Option Value} {base : Heap} {CX : CXT} {j k : Nat} {f : Addr} {fd : FuncData} {ps : List Str} {sp : Sp} (F : FnOk P w K mg base CX j f fd ps sp) (h : j ≤ k) :
    FnOk P w K mg base CX k f fd ps sp := ⟨F.len, fun A outer s H args us vs Q E hr => F.run A outer s H args us vs Q E (hr.mono h)⟩
/-- a weaker promise -/
theorem FnOk.imp {P : Program} {w : World} {K : PySem.W.Frag} {mg : Str → Option Value} {base : Heap} {CX : CXT} {k : Nat} {f : Addr} {fd : FuncData} {ps : List Str} {sp sp' : Sp} (F : FnOk P w K mg base CX k f fd ps sp)
    (h : ∀ vs H Q E, sp' vs H Q E → sp vs H Q E) : FnOk P w K mg base CX k f fd ps sp' :=
  ⟨fun vs H Q E q => F.len vs H Q E (h _ _ _ _ q), fun A outer s H args us vs Q E hr he hb hv hs => F.run A outer s H args us vs Q E hr he hb hv (h _ _ _ _ hs)⟩

section
variable {X : Cx} {pins : List (Addr × Obj)} {σ : St} {H : Hp} {s s' : Shared}
/-- from a body: what a callee wants -/
theorem Inv.env0 (I : Inv X pins σ H s) : Env0 X.prog X.w X.K X.mg X.base X.A X.stack s H :=
  ⟨I.ok.frames, I.ok.mod, I.bs, Nat.le_trans I.ok.bsz I.sz, I.stack, I.stkFree, I.hok, I.bare⟩
/-- behind a call -/
theorem Inv.after {Q : VK} {u : Value} (I : Inv X pins σ H s) (h : CE X.stack X.prog X.w H s Q u s') : EP X pins σ Q u s' := by
  obtain ⟨v, H', os, bare, un, hok, r, q⟩ := h
  obtain ⟨hh, g, d, t, os'⟩ := s'
  obtain rfl : os' = s.os := os
  exact ⟨v, H', I.call (h' := hh) (g' := g) (d' := d) (t' := t) (ch := []) un hok bare (fun b z => absurd z (by simp)), r, q⟩
end

/-- f(..): the written arguments, then the defaults dvs; E: what is wanted of an exception -/
def tCall (sp : Sp) (dvs : List V) (E : XK) (t : TA) : TE := fun σ H Q => t σ H fun vs H1 => sp (vs ++ dvs) H1 Q E
/-- how the parameters are bound: us the positional arguments, kw the keywords' values by name, ds the defaults that fill up -/
def Binds (K : PySem.W.Frag) (fd : FuncData) (ps : List Str) (ds : List Value) : Prop :=
  ∀ (s : Shared) (us : List Value), K.In s.heap → (us ++ ds).length = ps.length → BindsTo s fd ⟨us, []⟩ (ps.zip (us ++ ds))
/-- every parameter is given -/
theorem Binds.all {K : PySem.W.Frag} {fd : FuncData} {ps : List Str} (h : ∀ us : List Value, us.length = ps.length → bindArgs fd ⟨us, []⟩ = pure (ps.zip us)) : Binds K fd ps [] := fun s us _ hl => by
  rw [List.append_nil] at hl ⊢
  exact .of_eq (h us hl)

/-- an exception of a callee reaches what this body wants of exceptions -/
def Passes (CX : CXT) (X : Cx) (E : XK) : Prop := ∀ (pins : List (Addr × Obj)) (σ : St) (H : Hp) (s : Shared) (e : Value) (s' : Shared), Inv X pins σ H s → CX X.stack H s E e s' → X.xe e s'

section
variable {X : Cx} {CX : CXT} {k : Nat} {f C : Addr} {fd : FuncData} {ps : List Str} {sp : Sp} {dvs : List V} {ds : List Value} {E : XK} {x m : Str} {p pos apos : Pos} {e o : Expr} {es : List Expr} {ta : TE} {t : TA}

/-- the callee runs -/
theorem run_fn {pins : List (Addr × Obj)} {σ : St} {H : Hp} {s : Shared} {Q : VK} {us : List Value} {vs : List V} (F : FnOk X.prog X.w X.K X.mg X.base CX k f fd ps sp) (hr : Room k X.A) (hb : Binds X.K fd ps ds) (hd : Vals dvs ds) (hx : Passes CX X E)
    (I : Inv X pins σ H s) (r : Vals vs us) (h : sp (vs ++ dvs) H Q E) : wpAny (model X.prog X.w) X.A (call (.ref f) us) (EP X pins σ Q) X.xe s := by
  have r2 : Vals (vs ++ dvs) (us ++ ds) := r.append hd
  have hl : (us ++ ds).length = ps.length := by rw [← r2.length]; exact F.len _ _ _ _ h
  refine wpAny_call (codeAny_mono (F.run X.A X.stack s H ⟨us, []⟩ (us ++ ds) (vs ++ dvs) Q E hr I.env0 (hb s us I.kIn hl) r2 h) fun r s' hq => ?_)
  cases r with
  | error e => exact hx pins σ H s e s' I hq
  | ok fl =>
    cases fl with
    | ret u => exact I.after hq
    | next => exact False.elim hq
    | brk => exact False.elim hq
    | cont => exact False.elim hq

theorem pe_call (F : FnOk X.prog X.w X.K X.mg X.base CX k f fd ps sp) (hr : Room k X.A) (hg : Gl X x) (hm : X.mg x = some (.ref f)) (hk : PySem.W.keepIn X.K (.ref f) = true) (hb : Binds X.K fd ps ds) (hd : Vals dvs ds) (hx : Passes CX X E)
    (ha : PA X (e :: es) t) (hdb : (x == ("__debug__" : Str)) = false := by decide) (he : starEach (e :: es) X.env = (false, eval e X.env) :: starEach es X.env := by rfl) (hpl : (backTo pos (starEach es X.env)).any (·.1) = false := by rfl) :
    PE X (.Call (.Name x p) (e :: es) [] pos) (tCall sp dvs E t) := by
  intro pins s σ H Q I h
  refine wpAny_Call_Name_kw (ld_glob I hg hm ?_ hdb)
  refine PySem.W.callWith_K (h₀ := X.base) I.ok.mod.kin hk (thn (ha pos pins s σ H _ I h) fun us s1 ⟨vs, H1, I1, r, q⟩ => ⟨I1.kIn, ?_⟩) he hpl
  exact run_fn F hr hb hd hx I1 r q
/-- what a class must have to be made -/
structure Mk (K : PySem.W.Frag) (C f : Addr) : Prop where
  makes : PySem.W.makesIn K C = true
  init : PySem.W.findIn K (.ref C) "__init__" = some (some (.ref f))
  fn : PySem.W.isFn K (.ref f) = true
  kp : PySem.W.keepIn K (.ref C) = true

end

section
variable {X : Cx} {CX : CXT} {k : Nat} {f C : Addr} {fd : FuncData} {ps ks : List Str} {sp : Sp} {E : XK} {x m : Str} {p pos apos kpos : Pos} {e o : Expr} {es : List Expr} {kws : List Keyword} {te ta : TE} {t tk : TA} {nm : Option Str}
/-- how a call with keywords binds: g puts the positional values us and the keywords' values ws (names ks) in the parameters' order, defaults among them -/
structure KBinds (K : PySem.W.Frag) (fd : FuncData) (ps ks : List Str) (g : List Value → List Value → List Value) (gV : List V → List V → List V) : Prop where
  to : ∀ (s : Shared) (us ws : List Value), K.In s.heap → (g us ws).length = ps.length → BindsTo s fd ⟨us, ks.zip ws⟩ (ps.zip (g us ws))
  rel : ∀ {vs : List V} {us : List Value} {zs : List V} {ws : List Value}, Vals vs us → Vals zs ws → Vals (gV vs zs) (g us ws)
variable {g : List Value → List Value → List Value} {gV : List V → List V → List V}
end

/-- names: the parameters first -/
structure FnScope (N P : List Str) (sc : Scope) : Prop where
  kind : sc.kind = .function
  co : sc.isCoroutine = false
  gen : sc.isGenerator = false
  nd : N.Nodup
  pre : N.take P.length = P
  par : ∀ x ∈ P, sc.names.lookup x = some .local ∨ sc.names.lookup x = some .cell
  nofree : ∀ y ∈ sc.names, y.2 ≠ .free

theorem bindL_out {kindOf : Str → Option NameKind} {x : Str} : ∀ {binds : List (Str × Value)} {m : Str → Option Value}, (∀ v, (x, v) ∉ binds) → bindL kindOf binds m x = m x
  | [], _, _ => rfl
  | (n, v) :: r, m, h => by
    unfold bindL
    rw [bindL_out fun w hw => h w (List.mem_cons_of_mem _ hw)]
    split
    · have : x ≠ n := by rintro rfl; exact h v List.mem_cons_self
      simp [this]
    · rfl
theorem bindC_out {kindOf : Str → Option NameKind} {x : Str} : ∀ {binds : List (Str × Value)} {m : Str → Option Value}, (∀ v, (x, v) ∉ binds) → bindC kindOf binds m x = m x
  | [], _, _ => rfl
  | (n, v) :: r, m, h => by
    unfold bindC
    rw [bindC_out fun w hw => h w (List.mem_cons_of_mem _ hw)]
    split
    · rfl
    · have : x ≠ n := by rintro rfl; exact h v List.mem_cons_self
      simp [this]
theorem bindL_get {kindOf : Str → Option NameKind} {x : Str} {v : Value} : ∀ {P : List Str} {vs : List Value} {i : Nat} {m : Str → Option Value}, P.Nodup → P[i]? = some x → vs[i]? = some v → kindOf x = some .local →
    bindL kindOf (P.zip vs) m x = some v
  | [], _, _, _, _, h, _, _ => by simp at h
  | _ :: _, [], _, _, _, _, h, _ => by simp at h
  | p :: P, w :: vs, 0, m, nd, h1, h2, hk => by
    simp at h1 h2; subst h1; subst h2
    show bindL kindOf ((p, w) :: P.zip vs) m p = _
    unfold bindL
    rw [bindL_out fun v hv => (List.nodup_cons.mp nd).1 (List.of_mem_zip hv).1, if_pos hk]
    simp
  | p :: P, w :: vs, i + 1, m, nd, h1, h2, hk => by
    show bindL kindOf ((p, w) :: P.zip vs) m x = _
    unfold bindL
    exact bindL_get (i := i) (List.nodup_cons.mp nd).2 (by simpa using h1) (by simpa using h2) hk
theorem bindC_get {kindOf : Str → Option NameKind} {x : Str} {v : Value} : ∀ {P : List Str} {vs : List Value} {i : Nat} {m : Str → Option Value}, P.Nodup → P[i]? = some x → vs[i]? = some v → kindOf x ≠ some .local →
    bindC kindOf (P.zip vs) m x = some v
  | [], _, _, _, _, h, _, _ => by simp at h
  | _ :: _, [], _, _, _, _, h, _ => by simp at h
  | p :: P, w :: vs, 0, m, nd, h1, h2, hk => by
    simp at h1 h2; subst h1; subst h2
    show bindC kindOf ((p, w) :: P.zip vs) m p = _
    unfold bindC
    rw [bindC_out fun v hv => (List.nodup_cons.mp nd).1 (List.of_mem_zip hv).1, if_neg hk]
    simp
  | p :: P, w :: vs, i + 1, m, nd, h1, h2, hk => by
    show bindC kindOf ((p, w) :: P.zip vs) m x = _
    unfold bindC
    exact bindC_get (i := i) (List.nodup_cons.mp nd).2 (by simpa using h1) (by simpa using h2) hk

/-- the names' values at the entry -/
def start (N : List Str) (vs : List V) : St := vs.map some ++ List.replicate (N.length - vs.length) none

/-- the context of a def's body, at its entry; an exception leaves the frame, then lies as CX says -/
def cxOf (CX : CXT) (P : Program) (w : World) (K : PySem.W.Frag) (mg : Str → Option Value) (base : Heap) (N : List Str) (qual : Str) (scope : Scope) (f : Addr) (cd : Value) (A : Around) (outer : List Env) (s : Shared) (H : Hp) (E : XK) : Cx where
  prog := P
  w := w
  K := K
  mg := mg
  base := base
  A := A.deeper (envOfC qual scope s.heap.objs.size f cd)
  N := N
  s₀ := s
  H₀ := H
  env := envOfC qual scope s.heap.objs.size f cd
  outer := outer
  stack := envOfC qual scope s.heap.objs.size f cd :: outer
  ex := []
  calm := true
  fn := fun _ => true
  pn := []
  xe := fun e s' => wpAny (model P w) (A.deeper (envOfC qual scope s.heap.objs.size f cd)) (leaving (envOfC qual scope s.heap.objs.size f cd) e) (fun _ s'' => CX outer H s E e s'') (fun e' s'' => CX outer H s E e' s'') s'

theorem cell_has {sc : Scope} {n : Nat} {x : Str} (h : sc.names.lookup x = some .cell) : ∃ c, (cellsFrom n sc.names []).lookup x = some c := by
  have q := PySem.W.cellsFrom_some sc.names n [] (.inl h)
  exact Option.isSome_iff_exists.mp q

theorem inv_start {CX : CXT} {P : Program} {w : World} {K : PySem.W.Frag} {mg : Str → Option Value} {base : Heap} {N ps : List Str} {qual : Str} {scope : Scope} {f : Addr} {cd : Value} {A : Around} {outer : List Env} {s s1 : Shared} {H : Hp} {E : XK} {us : List Value} {vs : List V}
    (S : FnScope N ps scope) (hd : A.handled = none) (e0 : Env0 P w K mg base A outer s H) (hl : vs.length = ps.length) (r : Vals vs us)
    (x : InCallC s s.heap.objs.size (bindL (envOfC qual scope s.heap.objs.size f cd).kindOf (ps.zip us) fun _ => none) (cellsFrom (s.heap.objs.size + 1) scope.names []) (bindC (envOfC qual scope s.heap.objs.size f cd).kindOf (ps.zip us) fun _ => none) s1) :
    Inv (cxOf CX P w K mg base N qual scope f cd A outer s H E) [] (start N vs) H s1 := by
  have hpl : ps.length ≤ N.length := by have := congrArg List.length S.pre; rw [List.length_take] at this; omega
  obtain ⟨h1, tk, rfl, hk⟩ := x.done
  have noA : ∀ b : Addr, b ∉ (cxOf CX P w K mg base N qual scope f cd A outer s H E).ex := fun b z => absurd (show b ∈ ([] : List Addr) from z) (by simp)
  refine ⟨⟨e0.mod, S.kind, rfl, rfl, Nat.le_refl _, fun y z c h1 h2 => ?_, fun y hy => ?_, fun y c _ h => ?_, fun _ => hd, Around.frames_deeper e0.frames, .inr ⟨rfl, rfl⟩, fun b z => absurd z (noA b), e0.bs, e0.bsz, fun b _ _ => noA b, fun b z => absurd z (noA b), e0.funs, e0.frf⟩,
    rfl, e0.bare, Un.kept hk, ⟨_, x.toInCall.ns, fun i y v h1 h2 h3 => ?_⟩, fun y c h => ⟨_, x.cell y c h⟩, e0.hok.fresh (Nat.le_refl _), fun y c h => ?_, fun p hp => absurd (show p ∈ ([] : List (Addr × Obj)) from hp) (by simp), e0.hok.kept hk, ?_⟩
  · exact name_of_addr x.apart (PySem.mem_of_lookup h1) (PySem.mem_of_lookup h2)
  · have hy : scope.names.lookup y = some .cell ∨ scope.names.lookup y = some .free := hy
    rcases hy with hy | hy
    · exact cell_has hy
    · exact absurd rfl (S.nofree _ (PySem.mem_of_lookup hy))
  · exact Nat.le_of_lt (x.above y c (PySem.mem_of_lookup h))
  · have hi : i < vs.length := by
      unfold start at h2
      by_cases hi : i < vs.length
      · exact hi
      · rw [List.getElem?_append_right (by simpa using hi)] at h2
        rw [List.getElem?_replicate] at h2
        split at h2 <;> cases h2
    have ha : vs[i]? = some v := by
      unfold start at h2
      rw [List.getElem?_append_left (by simpa using hi), List.getElem?_map] at h2
      cases e : vs[i]? with
      | none => rw [e] at h2; cases h2
      | some a => rw [e] at h2; cases h2; rfl
    obtain ⟨u, hu, rv⟩ := r.get ha
    have hp : ps[i]? = some y := by
      rw [← S.pre, List.getElem?_take_of_lt (by omega)]; exact h1
    have ndP : ps.Nodup := by rw [← S.pre]; exact S.nd.sublist (List.take_sublist _ _)
    refine ⟨u, rv, ?_⟩
    rcases S.par y (List.mem_of_getElem? hp) with k | k
    · exact .inl ⟨k, bindL_get ndP hp hu k⟩
    · obtain ⟨c, e⟩ := cell_has (n := s.heap.objs.size + 1) k
      refine .inr ⟨.inl k, c, e, ?_⟩
      have q := x.cell y c e
      rw [bindC_get ndP hp hu (by show scope.names.lookup y ≠ _; rw [k]; decide)] at q
      exact q
  · exact e0.hok.fresh (Nat.le_of_lt (x.above y c (PySem.mem_of_lookup h)))
  · unfold start
    show _ = N.length
    rw [List.length_append, List.length_map, List.length_replicate]
    omega

/-- THE RULE: a def (or a method) of the text, by its body. The body's reading t is chosen for each entry; it is run at the parameters' values -/
theorem fn_of {CX : CXT} {P : Program} {w : World} {K : PySem.W.Frag} {mg : Str → Option Value} {base : Heap} {k : Nat} {f : Addr} {name qual : Str} {params : Arguments} {body : List Stmt} {scope : Scope} {dV kV doc pm cdv ct oc : Value} {an od : Option Addr}
    {osl : Array (Option Value)} {N ps : List Str} {sp : Sp} (lk : K.lookup f = some ⟨oc, od, .func (PySem.W.fnOf name qual params body scope dV kV doc pm an cdv ct), osl⟩) (hcd : PySem.W.codeIn K cdv qual = true) (S : FnScope N ps scope)
    (len : ∀ vs H Q E, sp vs H Q E → vs.length = ps.length)
    (hbody : ∀ (A : Around) (outer : List Env) (s : Shared) (H : Hp) (vs : List V) (Q : VK) (E : XK), Room k (A.deeper (envOfC qual scope s.heap.objs.size f cdv)) → sp vs H Q E →
      ∃ t, PSs (cxOf CX P w K mg base N qual scope f cdv A outer s H E) body t ∧ t { nx := fun _ H' => Q .non H', rt := Q } (start N vs) H) :
    FnOk P w K mg base CX (k + 1) f (PySem.W.fnOf name qual params body scope dV kV doc pm an cdv ct) ps sp := by
  refine ⟨len, fun A outer s H args us vs Q E hr e0 hb r hsp => ?_⟩
  have hl := len _ _ _ _ hsp
  have KX : K.In s.heap := e0.mod.kin.keeps fun b o e => (e0.bs b o e).1
  have lim : s.heap.NoLimit := e0.mod.nolimit.keeps fun b o e => (e0.bs b o e).1
  have hkind : ∀ y ∈ ps.zip us, scope.names.lookup y.1 = some .local ∨ (scope.names.lookup y.1 = some .cell ∧ ((cellsFrom (s.heap.objs.size + 1) scope.names []).lookup y.1).isSome = true) := fun ⟨n, v⟩ hy => by
    rcases S.par n (List.of_mem_zip hy).1 with q | q
    · exact .inl q
    · exact .inr ⟨q, PySem.W.cellsFrom_some _ _ _ (.inl q)⟩
  refine codeAny_call_function hr.depth (KX _ _ lk) rfl S.co S.gen rfl (PySem.W.codeRec_of KX hcd) (hb _ _ _ _ ?_)
  refine wpAny_newFunctionEnv_cells S.kind hkind fun env he s1 x => ?_
  subst he
  refine ⟨lim.keeps x.toInCall.keep, codeAny_func ?_⟩
  obtain ⟨t, ht, hq⟩ := hbody A outer s H vs Q E (hr.deeper _) hsp
  have I : Inv (cxOf CX P w K mg base N qual scope f cdv A outer s H E) [] (start N vs) H s1 := inv_start S hr.hd e0 hl r x
  refine wpAny_mono (ht [] s1 (start N vs) H _ I hq) (fun fl s' hs => ?_) fun e s' hs => hs
  have fin : ∀ {σ' : St} {H' : Hp} {v : V} {u : Value}, Inv (cxOf CX P w K mg base N qual scope f cdv A outer s H E) [] σ' H' s' → RelV v u → Q v H' → CE outer P w H s Q u s' :=
    fun {σ' H' v u} J rv q => ⟨v, H', J.os, J.bare, J.base, J.hok, rv, q⟩
  cases fl with
  | ret u =>
    obtain ⟨v, σ', H', J, rv, q⟩ := hs
    exact fin J rv q
  | next =>
    obtain ⟨σ', H', J, q⟩ := hs
    exact fin (v := V.non) (u := Value.none) J rfl q
  | brk =>
    obtain ⟨_, _, _, q⟩ := hs
    exact False.elim q
  | cont =>
    obtain ⟨_, _, _, q⟩ := hs
    exact False.elim q
end L2

namespace L2
open PySem PySem.Spec PyProof.Rows
section
variable {X : Cx} {x : Str} {p pos : Pos} {e : Expr} {es : List Expr} {t : TA} {id T : String} {r : List V → Hp → VK → Prop}

def tCB (r : List V → Hp → VK → Prop) (t : TA) : TE := fun σ H Q => t σ H fun vs H1 => r vs H1 Q
/-- f(e, ..), f a built-in function -/
theorem pe_callB (hc : CallR X (.builtin id) r) (hg : Gl X x) (hm : X.mg x = none) (hv : bootBuiltins x = some (.builtin id)) (ha : PA X (e :: es) t) (hn : x ≠ "__name__" := by decide) (hdb : (x == ("__debug__" : Str)) = false := by decide)
    (he : starEach (e :: es) X.env = (false, eval e X.env) :: starEach es X.env := by rfl) (hpl : (backTo pos (starEach es X.env)).any (·.1) = false := by rfl) : PE X (.Call (.Name x p) (e :: es) [] pos) (tCB r t) := by
  intro pins s σ H Q I h
  refine wpAny_Call_Name_kw (ld_blt I hg hm hv ?_ hn hdb)
  exact PyProof.Rows.callWith_builtin1 (thn (ha pos pins s σ H _ I h) fun us s1 ⟨vs, H1, I1, r1, q1⟩ => hc pins s1 σ H1 vs us Q I1 r1 q1) he hpl
/-- T(e, ..), T a built-in type -/
theorem pe_callTy (hc : CallR X (.type T) r) (hg : Gl X x) (hm : X.mg x = none) (hv : bootBuiltins x = some (.type T)) (ha : PA X (e :: es) t) (hn : x ≠ "__name__" := by decide) (hdb : (x == ("__debug__" : Str)) = false := by decide)
    (he : starEach (e :: es) X.env = (false, eval e X.env) :: starEach es X.env := by rfl) (hpl : (backTo pos (starEach es X.env)).any (·.1) = false := by rfl) : PE X (.Call (.Name x p) (e :: es) [] pos) (tCB r t) := by
  intro pins s σ H Q I h
  refine wpAny_Call_Name_kw (ld_blt I hg hm hv ?_ hn hdb)
  exact PyProof.Rows.callWith_type1 (thn (ha pos pins s σ H _ I h) fun us s1 ⟨vs, H1, I1, r1, q1⟩ => hc pins s1 σ H1 vs us Q I1 r1 q1) he hpl
end
end L2

namespace HT
open PySem PyProof.Rows

section
open PySem.SeqAt
open PySem.AutoSeq1 (wpAny_loadPart')
open PySem.MeetsSeq PySem.MeetsSeq2 PySem.MeetsSeq3

end

section
variable {prog : Program} {w : World} {A : Around} {E : Value → Shared → Prop} {s : Shared}

/-- a slice's bound as a place among n (d where it is left out) -/
def sIx (n d : Nat) : Option Int → Nat
  | none => d
  | some v => if v < 0 then (v + (n : Int)).toNat else min v.toNat n
theorem sIx_none (n d : Nat) : sIx n d none = d := rfl
theorem sIx_nat (n d k : Nat) : sIx n d (some (k : Int)) = min k n := by
  show (if (k : Int) < 0 then ((k : Int) + (n : Int)).toNat else min (k : Int).toNat n) = min k n
  rw [if_neg (by omega), Int.toNat_natCast]
theorem sIx_le (n d : Nat) (hd : d ≤ n) (o : Option Int) : sIx n d o ≤ n := by
  cases o with
  | none => exact hd
  | some v =>
    show (if v < 0 then (v + (n : Int)).toNat else min v.toNat n) ≤ n
    by_cases hv : v < 0
    · rw [if_pos hv]; omega
    · rw [if_neg hv]; exact Nat.min_le_right _ _
theorem clip_eq (v : Int) (n d : Nat) : (if v < 0 then max (v + (n : Int)) 0 else min v (n : Int)) = ((sIx n d (some v) : Nat) : Int) := by
  show (if v < 0 then max (v + (n : Int)) 0 else min v (n : Int)) = (((if v < 0 then (v + (n : Int)).toNat else min v.toNat n) : Nat) : Int)
  by_cases hv : v < 0
  · simp only [if_pos hv]; omega
  · simp only [if_neg hv]; omega
theorem adjust_gen (lo hi : Option Int) (n : Nat) : Builtin.Slice.sliceAdjust lo hi 1 (n : Int) = (((sIx n 0 lo : Nat) : Int), ((sIx n n hi : Nat) : Int)) := by
  have h1 : ¬ ((1 : Int) < 0) := by omega
  unfold Builtin.Slice.sliceAdjust
  simp only [h1, if_false]
  refine Prod.ext ?_ ?_
  · cases lo with
    | none => rfl
    | some v => exact clip_eq v n 0
  · cases hi with
    | none => rfl
    | some v => exact clip_eq v n n
theorem places_gen (i j : Nat) : Builtin.Slice.slicePlaces (i : Int) (j : Int) 1 = j - i := by
  unfold Builtin.Slice.slicePlaces
  have h1 : (1 : Int) > 0 := by omega
  simp only [h1, if_true, Int.ediv_one]
  split <;> omega
theorem slicePart_ {v : Value} {o : Option Int} {Q : Option Int → Shared → Prop} (p : IsPart v o) (h : Q o s) : wpAny (model prog w) A (Builtin.Slice.slicePartIndex v) Q E s := by
  cases p with
  | none => exact slicePart_none h
  | int i t => exact slicePart_int h
theorem sliceApplied_gen {sl : Addr} {vl vu : Value} {lo hi : Option Int} {n : Nat} {Q : Int × Int × Nat → Shared → Prop} (hs : s.heap.IsSliceOf sl vl vu .none) (pl : IsPart vl lo) (pu : IsPart vu hi)
    (h : Q (((sIx n 0 lo : Nat) : Int), 1, sIx n n hi - sIx n 0 lo) s) : wpAny (model prog w) A (Builtin.Slice.sliceApplied (.ref sl) (pure (n : Int))) Q E s := by
  obtain ⟨os, hos, hcs, hds⟩ := id hs
  unfold Builtin.Slice.sliceApplied Builtin.Slice.sliceFields
  refine wpAny_bind (wpAny_bind (wpAny_field hos hds (x := vl) rfl (wpAny_bind (wpAny_field hos hds (x := vu) rfl (wpAny_bind (wpAny_field hos hds (x := .none) rfl (wpAny_pure ?_)))))))
  refine wpAny_bind (slicePart_none ?_)
  show wpAny _ _ (if ((1 : Int) == 0) = true then _ else _) _ _ s
  rw [if_neg (by decide)]
  refine wpAny_bind (slicePart_ pl (wpAny_bind (slicePart_ pu (wpAny_bind (wpAny_pure ?_)))))
  show wpAny _ _ (match Builtin.Slice.sliceAdjust lo hi 1 (n : Int) with | (lo, hi) => pure (lo, (1 : Int), Builtin.Slice.slicePlaces lo hi 1)) _ _ s
  rw [adjust_gen lo hi n]
  show wpAny _ _ (pure (((sIx n 0 lo : Nat) : Int), (1 : Int), Builtin.Slice.slicePlaces ((sIx n 0 lo : Nat) : Int) ((sIx n n hi : Nat) : Int) 1)) _ _ s
  rw [places_gen]
  exact wpAny_pure h
theorem pick_gen (xs : Array Value) (i k : Nat) : ((List.range k).filterMap fun (m : Nat) => xs[((i : Int) + (m : Int) * 1).toNat]?).toArray = ((xs.toList.drop i).take k).toArray := by
  have e : (fun (m : Nat) => xs[((i : Int) + (m : Int) * 1).toNat]?) = fun m => xs[i + m]? := by
    funext m
    have : ((i : Int) + (m : Int) * 1).toNat = i + m := by omega
    rw [this]
  rw [e]
  have := pick_run xs i k
  rw [List.filterMap_map] at this
  have e2 : ((fun x => xs[x]?) ∘ fun x => i + x) = fun m => xs[i + m]? := rfl
  rw [e2] at this
  rw [this]

theorem getItem_tuple_cut {t sl : Addr} {items : Array Value} {vl vu : Value} {lo hi : Option Int} {Q : Value → Shared → Prop} (ht : IsTup s.heap t items) (hs : s.heap.IsSliceOf sl vl vu .none) (pl : IsPart vl lo) (pu : IsPart vu hi)
    (hw : ¬ (sIx items.size 0 lo = 0 ∧ sIx items.size items.size hi = items.size))
    (h : Q (.ref s.heap.objs.size) { s with heap := s.heap.push { cls := .type "tuple", data := .seq ((items.toList.drop (sIx items.size 0 lo)).take (sIx items.size items.size hi - sIx items.size 0 lo)).toArray } })
    (hsz : items.size ≤ sizeLine) : wpAny (model prog w) A (getItem (.ref t) (.ref sl)) Q E s := by
  have htake : sizeOk (.seq ((items.toList.drop (sIx items.size 0 lo)).take (sIx items.size items.size hi - sIx items.size 0 lo)).toArray) := by
    show ((items.toList.drop (sIx items.size 0 lo)).take (sIx items.size items.size hi - sIx items.size 0 lo)).toArray.size ≤ sizeLine
    rw [List.size_toArray, List.length_take, List.length_drop, Array.length_toList]
    omega
  have hj : sIx items.size items.size hi ≤ items.size := sIx_le _ _ (Nat.le_refl _) hi
  obtain ⟨os, hos, hcs, hds⟩ := id hs
  have hTs : s.TypeIs (.ref sl) "slice" := ⟨os, hos, hcs⟩
  unfold getItem
  try with_reducible refine wpAny_holding ?_
  first | refine wpAny_bind (wpAny_pure ?_) | skip
  refine wpAny_bind (wpAny_sequenceKey ht.typeIs (by decide) ?_)
  refine wpAny_bind (wpAny_callSpecial?_slot (name := Str.ofString "__getitem__") ht.typeIs PyProof.Rows.slot_tuple_getitem
    (wpAny_call_entry PyProof.Rows.slot_tuple_getitem ht.typeIs entry_tuple_getitem ?_ (args_tuple_getitem _ _)))
  show wpAny _ _ (Builtin.Tuple.tupleItemsOf (.ref t) >>= _) _ _ s
  refine wpAny_bind (tupleItemsOf_ ht ?_)
  refine wpAny_bind (wpAny_typeOf hTs ?_)
  rw [if_pos (by decide)]
  refine wpAny_bind (sliceApplied_gen hs pl pu ?_)
  have hno : ¬ ((((sIx items.size 0 lo : Nat) : Int) == 0 && (1 : Int) == 1 && (sIx items.size items.size hi - sIx items.size 0 lo) == items.size) = true) := by
    intro q
    rw [Bool.and_eq_true, Bool.and_eq_true] at q
    have q1 : ((sIx items.size 0 lo : Nat) : Int) = 0 := eq_of_beq q.1.1
    have q2 : sIx items.size items.size hi - sIx items.size 0 lo = items.size := eq_of_beq q.2
    exact hw ⟨by omega, by omega⟩
  show wpAny _ _ (if (((sIx items.size 0 lo : Nat) : Int) == 0 && (1 : Int) == 1 && (sIx items.size items.size hi - sIx items.size 0 lo) == items.size) = true then _ else _) _ _ s
  rw [if_neg hno, pick_gen]
  first
    | exact wpAny_bind (m := Builtin.Tuple.tupleExact _) (wpAny_newObj_type (wpAny_pure ⟨_, rfl, wpAny_pure h⟩) htake)
    | exact wpAny_bind (m := Builtin.Tuple.tupleExact _) (wpAny_newObj_type (wpAny_bind (wpAny_pure (wpAny_pure ⟨_, rfl, wpAny_pure h⟩))) htake)
    | exact wpAny_bind (wpAny_bind (m := Builtin.Tuple.tupleExact _) (wpAny_newObj_type (wpAny_pure (wpAny_pure ⟨_, rfl, wpAny_pure h⟩)) htake))
    | exact wpAny_bind (wpAny_bind (m := Builtin.Tuple.tupleExact _) (wpAny_newObj_type (wpAny_pure ⟨_, rfl, wpAny_pure h⟩) htake))
end
end HT

namespace L2
open PySem PySem.Spec PyProof.Rows

abbrev TO := St → Hp → (Option Int → Hp → Prop) → Prop
/-- a slice's part (left out, or an int) -/
def PO (X : Cx) (e : Option Expr) (t : TO) : Prop :=
  ∀ (pins : List (Addr × Obj)) (s : Shared) (σ : St) (H : Hp) (Q : Option Int → Hp → Prop), Inv X pins σ H s → t σ H Q →
    wpAny (model X.prog X.w) X.A (evalPart e X.env) (fun u s' => ∃ o H', Inv X pins σ H' s' ∧ IsPart u o ∧ Q o H') X.xe s
def tNoPart : TO := fun _ H Q => Q none H
def tPart (t : TE) : TO := fun σ H Q => t σ H fun x H1 => ∃ i, x = .int i ∧ Q (some i) H1

section
variable {X : Cx} {e : Expr} {te : TE} {lo hi : Option Expr} {tl th : TO} {pos p2 : Pos}

theorem po_none : PO X none tNoPart := by
  intro pins s σ H Q I h
  rw [evalPart_none]
  exact wpAny_pure ⟨none, H, I, .none, h⟩
theorem po_some (h : PE X e te) : PO X (some e) (tPart te) := by
  intro pins s σ H Q I hw
  rw [evalPart_some]
  refine thn (h pins s σ H _ I hw) fun u s1 hhx => ?_
  obtain ⟨x, H1, I1, r1, q1⟩ := hhx
  obtain ⟨i, rfl, q⟩ := q1
  obtain ⟨t, rfl⟩ := r1
  exact ⟨some i, H1, I1, .int i t, q⟩

/-- what a slice of a value is, by values: the slice object stands at sl -/
def SlR (X : Cx) (r : V → Option Int → Option Int → Hp → VK → Prop) : Prop :=
  ∀ (pins : List (Addr × Obj)) (s : Shared) (σ : St) (H : Hp) (x : V) (v vl vu : Value) (lo hi : Option Int) (sl : Addr) (Q : VK), Inv X pins σ H s → RelV x v → s.heap.IsSliceOf sl vl vu .none → IsPart vl lo → IsPart vu hi → r x lo hi H Q →
    ∃ T id, typeLookup (.type T) "__getitem__" = pure (some (.builtin id)) ∧ s.TypeIs v T ∧ wpAny (model X.prog X.w) X.A (getItem v (.ref sl)) (EP X pins σ Q) X.xe s
theorem SlR.or {r r' : V → Option Int → Option Int → Hp → VK → Prop} (h : SlR X r) (h' : SlR X r') : SlR X (fun x lo hi H Q => r x lo hi H Q ∨ r' x lo hi H Q) := by
  intro pins s σ H x v vl vu lo hi sl Q I rx hs pl pu q
  rcases q with q | q
  · exact h pins s σ H x v vl vu lo hi sl Q I rx hs pl pu q
  · exact h' pins s σ H x v vl vu lo hi sl Q I rx hs pl pu q
def tSl (r : V → Option Int → Option Int → Hp → VK → Prop) (te : TE) (tl th : TO) : TE := fun σ H Q => te σ H fun x H1 => tl σ H1 fun l H2 => th σ H2 fun u H3 => r x l u H3 Q
/-- a[lo:hi], any a -/
theorem pe_slice {r : V → Option Int → Option Int → Hp → VK → Prop} (hr : SlR X r) (he : PE X e te) (hl : PO X lo tl) (hu : PO X hi th) : PE X (.Subscript e (.Slice lo hi none p2) pos) (tSl r te tl th) := by
  intro pins s σ H Q I h
  refine Subscript_ (thn (he pins s σ H _ I h) fun v s1 hhx => ?_)
  obtain ⟨x, H1, I1, r1, q1⟩ := hhx
  refine wpAny_Slice (thn (hl pins s1 σ H1 _ I1 q1) fun vl s2 ⟨l, H2, I2, pl, q2⟩ => thn (hu pins s2 σ H2 _ I2 q2) fun vu s3 hhx => ?_)
  obtain ⟨u, H3, I3, pu, q3⟩ := hhx
  rw [evalPart_none]
  refine wpAny_pure ?_
  have I4 : Inv X pins σ H3 { s3 with heap := s3.heap.push { cls := .type "slice", data := .fields #[vl, vu, .none] } } := I3.kept (t' := s3.toks) fun b ob q => Heap.get?_push_of_some _ q
  obtain ⟨T, id, hT, ht, hg⟩ := hr pins { s3 with heap := s3.heap.push { cls := .type "slice", data := .fields #[vl, vu, .none] } } σ H3 x v vl vu l u s3.heap.objs.size Q I4 r1 (Heap.IsSliceOf.new ..) pl pu q3
  show wpAny (model X.prog X.w) X.A (subscriptTail e (.Slice lo hi none p2) v (.ref s3.heap.objs.size)) (EP X pins σ Q) X.xe { s3 with heap := s3.heap.push { cls := .type "slice", data := .fields #[vl, vu, .none] } }
  exact tail_any (ops := [.ref s3.heap.objs.size, v]) ht hT hg (by with_unfolding_all rfl)

/-- the items of xs[lo:hi] -/
def cutV (xs : List V) (lo hi : Option Int) : List V := (xs.drop (HT.sIx xs.length 0 lo)).take (HT.sIx xs.length xs.length hi - HT.sIx xs.length 0 lo)
theorem cutV_length (xs : List V) (lo hi : Option Int) : (cutV xs lo hi).length ≤ xs.length := by
  unfold cutV
  rw [List.length_take, List.length_drop]
  omega
/-- t[lo:hi], not the whole of it (the whole would be t itself) -/
def rSlT (K : PySem.W.Frag) : V → Option Int → Option Int → Hp → VK → Prop := fun x lo hi H Q => ∃ a xs, x = .ref a ∧ SqT K H a xs ∧
  ¬ (HT.sIx xs.length 0 lo = 0 ∧ HT.sIx xs.length xs.length hi = xs.length) ∧ ∀ p, H p = none → Q (.ref p) (upd H p (.tup (cutV xs lo hi)))
theorem sl_tup : SlR X (rSlT X.K) := by
  intro pins s σ H x v vl vu lo hi sl Q I rx hs pl pu h
  obtain ⟨a, xs, rfl, hx, hw, q⟩ := h
  cases rx
  obtain ⟨its, r, ht, hz⟩ := I.tuple hx
  have hlen : its.toArray.size = xs.length := by rw [List.size_toArray]; exact r.length.symm
  refine ⟨"tuple", _, PyProof.Rows.slot_tuple_getitem.lookup, ht.typeIs, ?_⟩
  refine HT.getItem_tuple_cut ht hs pl pu (by rw [hlen]; exact hw) ?_ (by rw [hlen]; exact hz)
  rw [hlen]
  refine ⟨.ref s.heap.objs.size, _, I.laid (t' := s.toks) (o := .tup (cutV xs lo hi)) (fun b ob q => Heap.get?_push_of_some _ q) (Nat.le_refl _) ?_, rfl, q _ (I.hok.fresh (Nat.le_refl _))⟩
  exact ⟨Nat.le_trans (cutV_length xs lo hi) hz, _, (r.drop (HT.sIx xs.length 0 lo)).take (HT.sIx xs.length xs.length hi - HT.sIx xs.length 0 lo), IsTup.new _ _⟩

end
end L2

namespace L2
open PySem PySem.Spec PyProof.Rows

/-- the place that an index of any sign means -/
def ixN (n : Nat) (i : Int) : Option Nat := if 0 ≤ i then (if i < n then some i.toNat else none) else if -(n : Int) ≤ i then some (i + n).toNat else none
def atI {α : Type} (xs : List α) (i : Int) : Option α := (ixN xs.length i).bind fun j => xs[j]?
theorem ixN_seq {n : Nat} {i : Int} {j : Nat} (h : ixN n i = some j) : seqIndex? i n = some j ∧ j < n ∧ -(n : Int) ≤ i ∧ i < n := by
  unfold ixN at h
  by_cases h0 : 0 ≤ i
  · rw [if_pos h0] at h
    by_cases h1 : i < n
    · rw [if_pos h1] at h
      have e : i.toNat = j := Option.some.inj h
      exact ⟨by rw [seqIndex_of h0 h1, e], by omega, by omega, h1⟩
    · rw [if_neg h1] at h; cases h
  · rw [if_neg h0] at h
    by_cases h1 : -(n : Int) ≤ i
    · rw [if_pos h1] at h
      have e : (i + n).toNat = j := Option.some.inj h
      exact ⟨by rw [seqIndex_neg (by omega) h1, e], by omega, h1, by omega⟩
    · rw [if_neg h1] at h; cases h
theorem atI_get {α : Type} {xs : List α} {i : Int} {v : α} (h : atI xs i = some v) : ∃ j, seqIndex? i xs.length = some j ∧ xs[j]? = some v ∧ j < xs.length ∧ -(xs.length : Int) ≤ i ∧ i < xs.length := by
  unfold atI at h
  cases e : ixN xs.length i with
  | none => rw [e] at h; cases h
  | some j =>
    rw [e] at h
    obtain ⟨h1, h2, h3, h4⟩ := ixN_seq e
    exact ⟨j, h1, h, h2, h3, h4⟩
theorem atI_nat {α : Type} {xs : List α} {j : Nat} {v : α} (h : xs[j]? = some v) : atI xs (j : Int) = some v := by
  have hj : j < xs.length := (List.getElem?_eq_some_iff.mp h).1
  have e : ixN xs.length (j : Int) = some j := by
    unfold ixN
    rw [if_pos (by omega), if_pos (by omega)]; simp
  unfold atI; rw [e]; exact h
/-- what stands as an index of a plain subscript -/
def PlainIx (b : Expr) : Prop := ∀ o i, subscripted b false o i = operate [o, i] (getItem o i)
/-- a subscript by values -/
def IxR (X : Cx) (r : R2) : Prop :=
  ∀ (value slice : Expr) (pins : List (Addr × Obj)) (s : Shared) (σ : St) (H : Hp) (x y : V) (v u : Value) (Q : VK), Inv X pins σ H s → RelV x v → RelV y u → r x y H Q →
    subscripted slice false v u = operate [v, u] (getItem v u) → wpAny (model X.prog X.w) X.A (subscriptTail value slice v u) (EP X pins σ Q) X.xe s
/-- a call of a builtin's method by values: the receiver, the arguments -/
def MtR (X : Cx) (id : String) (r : V → List V → Hp → VK → Prop) : Prop :=
  ∀ (pins : List (Addr × Obj)) (s : Shared) (σ : St) (H : Hp) (x : V) (xs : List V) (v : Value) (us : List Value) (Q : VK), Inv X pins σ H s → RelV x v → Vals xs us → r x xs H Q →
    wpAny (model X.prog X.w) X.A (call (.builtin id) (v :: us)) (EP X pins σ Q) X.xe s
section
variable {X : Cx} {a b : Expr} {ta tb : TE} {pos : Pos}
theorem IxR.or {r r' : R2} (h : IxR X r) (h' : IxR X r') : IxR X (fun x y H Q => r x y H Q ∨ r' x y H Q) := by
  intro value slice pins s σ H x y v u Q I rx ry q hs
  rcases q with q | q
  · exact h value slice pins s σ H x y v u Q I rx ry q hs
  · exact h' value slice pins s σ H x y v u Q I rx ry q hs
theorem MtR.or {id : String} {r r' : V → List V → Hp → VK → Prop} (h : MtR X id r) (h' : MtR X id r') : MtR X id (fun x xs H Q => r x xs H Q ∨ r' x xs H Q) := by
  intro pins s σ H x xs v us Q I rx rs q
  rcases q with q | q
  · exact h pins s σ H x xs v us Q I rx rs q
  · exact h' pins s σ H x xs v us Q I rx rs q
/-- a[b] -/
theorem pe_ix {r : R2} (hr : IxR X r) (ha : PE X a ta) (hb : PE X b tb) (hs : PlainIx b) : PE X (.Subscript a b pos) (tOp r ta tb) := by
  intro pins s σ H Q I h
  exact Subscript_ (binT ha hb I h fun v u s2 x y H2 I2 rx ry q => hr a b pins s2 σ H2 x y v u Q I2 rx ry q (hs _ _))

def rIxL (K : PySem.W.Frag) : R2 := fun x y H Q => ∃ p xs i v, x = .ref p ∧ y = .int i ∧ SqL K H p xs ∧ atI xs i = some v ∧ Q v H
def rIxT (K : PySem.W.Frag) : R2 := fun x y H Q => ∃ p xs i v, x = .ref p ∧ y = .int i ∧ SqT K H p xs ∧ atI xs i = some v ∧ Q v H
theorem ix_list : IxR X (rIxL X.K) := by
  intro value slice pins s σ H x y v u Q I rx ry h hs
  obtain ⟨p, xs, i, z, rfl, rfl, hq, he, q⟩ := h
  cases rx
  obtain ⟨t, rfl⟩ := ry
  obtain ⟨its, r, pl, hz⟩ := I.list hq
  obtain ⟨j, h1, h2, h3, h4, h5⟩ := atI_get he
  obtain ⟨w, ew, rw'⟩ := r.get h2
  have hl := r.length
  have hn := line63
  have fin : EP X pins σ Q w s := ⟨z, H, I, rw', q⟩
  by_cases h0 : 0 ≤ i
  · have hj : i.toNat = j := by
      rw [seqIndex_of h0 h5] at h1
      exact Option.some.inj h1
    exact item_listR pl.isList h0 (by omega) (by rw [hj]; simpa using ew) fin hs
  · have hj : (i + (its.toArray.size : Int)).toNat = j := by
      rw [seqIndex_neg (by omega) h4] at h1
      rw [List.size_toArray, ← hl]
      exact Option.some.inj h1
    exact subscriptTail_builtinR (x := w) pl.isList.typeIs slot_list_getitem.lookup
      (wpAny_getItem_list_neg (Q := fun r s' => r = w ∧ EP X pins σ Q r s') pl.isList (by omega) (by rw [List.size_toArray] <;> omega) (by omega) (by rw [hj]; simpa using ew) ⟨rfl, fin⟩) hs
theorem ix_tup : IxR X (rIxT X.K) := by
  intro value slice pins s σ H x y v u Q I rx ry h hs
  obtain ⟨p, xs, i, z, rfl, rfl, hq, he, q⟩ := h
  cases rx
  obtain ⟨t, rfl⟩ := ry
  obtain ⟨its, r, pl, hz⟩ := I.tuple hq
  obtain ⟨j, h1, h2, h3, h4, h5⟩ := atI_get he
  obtain ⟨w, ew, rw'⟩ := r.get h2
  have hl := r.length
  have hn := line63
  have fin : EP X pins σ Q w s := ⟨z, H, I, rw', q⟩
  exact subscriptTail_builtinR (x := w) pl.typeIs slot_tuple_getitem.lookup
    (getItem_tuple (j := j) (Q := fun r s' => r = w ∧ EP X pins σ Q r s') pl (by omega) (by omega) (by rw [List.size_toArray, ← hl]; exact h1) (by simpa using ew) ⟨rfl, fin⟩) hs
/-- the list's object behind a store -/
theorem mapSeq_set (its : List Value) (n j : Nat) (u : Value) : Obj.mapSeq (·.setIfInBounds j u) { cls := .type "list", data := .seq its.toArray n } = { cls := .type "list", data := .seq (its.set j u).toArray n } := by
  simp [Obj.mapSeq]
theorem Inv.lst {pins : List (Addr × Obj)} {σ : St} {H : Hp} {s : Shared} {p : Addr} {xs : List V} (I : Inv X pins σ H s) (h : H p = some (.lst xs)) :
    ∃ (its : List Value) (n : Nat), Vals xs its ∧ s.heap.get? p = some { cls := .type "list", data := .seq its.toArray n } ∧ xs.length ≤ sizeLine := by
  obtain ⟨z, its, n, r, e⟩ := I.hok p _ h
  exact ⟨its, n, r, e, z⟩
/-- the list at p is written by an update of its object -/
theorem Inv.lstUpd {pins : List (Addr × Obj)} {σ : St} {H : Hp} {s : Shared} {p : Addr} {xs ys : List V} {its its' : List Value} {n n' : Nat} {f : Obj → Obj} (I : Inv X pins σ H s) (h : H p = some (.lst xs))
    (ho : s.heap.get? p = some { cls := .type "list", data := .seq its.toArray n }) (hf : f { cls := .type "list", data := .seq its.toArray n } = { cls := .type "list", data := .seq its'.toArray n' }) (r : Vals ys its') (hz : ys.length ≤ sizeLine) (t : Nat) :
    Inv X pins σ (upd H p (.lst ys)) { s with heap := s.heap.update p f, toks := t } := by
  have e : (s.heap.update p f).get? p = some { cls := .type "list", data := .seq its'.toArray n' } := by
    rw [Heap.get?_update_self f ho (by rw [hf] <;> rfl), hf]
  refine I.write (x := p) (e := p) (by rw [h]; trivial) (.inl rfl) (fun b u hb q => (Heap.get?_update_other _ _ (Ne.symm hb)).trans q) ⟨_, e⟩ ?_
  exact ⟨hz, its', n', r, e⟩
def rSetL : V → V → V → Hp → (Hp → Prop) → Prop := fun o i v H Q => ∃ p xs k j, o = .ref p ∧ i = .int k ∧ H p = some (.lst xs) ∧ ixN xs.length k = some j ∧ Q (upd H p (.lst (xs.set j v)))
theorem set_list : PSet X rSetL := by
  intro pins s σ H o i v ov iv u Q I ro ri rv h
  obtain ⟨p, xs, k, j, rfl, rfl, hp, hj, q⟩ := h
  cases ro
  obtain ⟨t, rfl⟩ := ri
  obtain ⟨its, n, r, ho, hz⟩ := I.lst hp
  obtain ⟨h1, h2, h3, h4⟩ := ixN_seq hj
  have hl := r.length
  have hn := line63
  have I' : Inv X pins σ (upd H p (.lst (xs.set j v))) { s with heap := s.heap.update p (Obj.mapSeq (·.setIfInBounds j u)) } :=
    I.lstUpd hp ho (mapSeq_set its n j u) (r.set rv j) (by rw [List.length_set]; exact hz) s.toks
  by_cases h0 : 0 ≤ k
  · have hk : k.toNat = j := by
      rw [seqIndex_of h0 h4] at h1
      exact Option.some.inj h1
    exact PySem.W.ki_setAt ho h0 (by omega) (by rw [List.size_toArray, ← hl]; exact h4) (by rw [hk]; exact ⟨_, I', q⟩)
  · have hk : (k + (its.toArray.size : Int)).toNat = j := by
      rw [seqIndex_neg (by omega) h3] at h1
      rw [List.size_toArray, ← hl]
      exact Option.some.inj h1
    exact PySem.W.ki_setBack ho (by omega) (by rw [List.size_toArray, ← hl]; exact h3) (by omega) (by rw [hk]; exact ⟨_, I', q⟩)

theorem slice_bounds (lo hi : Option Int) (n : Nat) : (sliceBounds lo hi none n).1 = ((HT.sIx n 0 lo : Nat) : Int) ∧ (sliceBounds lo hi none n).2.1 = ((HT.sIx n n hi : Nat) : Int) ∧ (sliceBounds lo hi none n).2.2 = 1 := by
  refine ⟨?_, ?_, rfl⟩
  · cases lo with
    | none => simp [sliceBounds, HT.sIx]
    | some i =>
      simp only [sliceBounds, HT.sIx, Option.getD_none, show (1 : Int) > 0 by decide, if_true]
      by_cases h : i < 0
      · simp only [h, if_true] <;> omega
      · simp only [h, if_false] <;> omega
  · cases hi with
    | none => simp [sliceBounds, HT.sIx]
    | some i =>
      simp only [sliceBounds, HT.sIx, Option.getD_none, show (1 : Int) > 0 by decide, if_true]
      by_cases h : i < 0
      · simp only [h, if_true] <;> omega
      · simp only [h, if_false] <;> omega
theorem slicePick_cut (its : List Value) (lo hi : Option Int) : slicePick its.toArray lo hi none = ((its.drop (HT.sIx its.length 0 lo)).take (HT.sIx its.length its.length hi - HT.sIx its.length 0 lo)).toArray := by
  obtain ⟨h1, h2, h3⟩ := slice_bounds lo hi its.toArray.size
  unfold slicePick
  rw [h1, h2, h3]
  simp only [sliceRange_one, pick_run, List.size_toArray] <;> rfl
/-- xs[lo:hi] of a list: a new list -/
def rSlL (K : PySem.W.Frag) : V → Option Int → Option Int → Hp → VK → Prop := fun x lo hi H Q => ∃ a xs, x = .ref a ∧ SqL K H a xs ∧ ∀ p, H p = none → Q (.ref p) (upd H p (.lst (cutV xs lo hi)))
theorem sl_list : SlR X (rSlL X.K) := by
  intro pins s σ H x v vl vu lo hi sl Q I rx hs pl pu h
  obtain ⟨a, xs, rfl, hx, q⟩ := h
  cases rx
  obtain ⟨its, r, ht, hz⟩ := I.list hx
  have hlen := r.length
  refine ⟨"list", _, slot_list_getitem.lookup, ht.isList.typeIs, ?_⟩
  refine wpAny_getItem_list_slice ht.isList hs pl pu .none (by simp) ?_ (by rw [List.size_toArray] <;> omega)
  rw [slicePick_cut, ← hlen]
  refine ⟨.ref s.heap.objs.size, _, I.laid (t' := s.toks) (o := .lst (cutV xs lo hi)) (fun b ob q => Heap.get?_push_of_some _ q) (Nat.le_refl _) ?_, rfl, q _ (I.hok.fresh (Nat.le_refl _))⟩
  exact ⟨Nat.le_trans (cutV_length xs lo hi) hz, _, 0, (r.drop (HT.sIx xs.length 0 lo)).take (HT.sIx xs.length xs.length hi - HT.sIx xs.length 0 lo), Heap.get?_push_size _ rfl⟩

def flatV : V → Bool
  | .non => true
  | .bl _ => true
  | .int _ => true
  | .str _ => true
  | _ => false
/-- == of flat values -/
def eqV : V → V → Bool
  | .non, .non => true
  | .bl a, .bl b => a == b
  | .bl a, .int b => (if a then 1 else 0) == b
  | .int a, .bl b => a == (if b then 1 else 0)
  | .int a, .int b => a == b
  | .str a, .str b => a == b
  | _, _ => false
theorem eqAt_V {A : Around} {s : Shared} {y x : V} {u v : Value} (ry : RelV y u) (rx : RelV x v) (fy : flatV y = true) (fx : flatV x = true) : SeqAt.EqAt A s u v (eqV y x) := by
  cases y with
  | non =>
    cases ry
    cases x with
    | non => cases rx; exact SeqAt.EqAt.same _
    | bl b => cases rx; exact SeqAt.EqAt.none_bool b
    | int b => obtain ⟨t, rfl⟩ := rx; exact SeqAt.EqAt.none_int b t
    | str b => obtain ⟨t, rfl⟩ := rx; exact SeqAt.EqAt.none_str b t
    | _ => exact absurd (show false = true from fx) Bool.false_ne_true
  | bl a =>
    cases ry
    cases x with
    | non => cases rx; exact SeqAt.EqAt.bool_none a
    | bl b => cases rx; exact SeqAt.EqAt.bool_bool a b
    | int b => obtain ⟨t, rfl⟩ := rx; exact SeqAt.EqAt.bool_int a b t
    | str b => obtain ⟨t, rfl⟩ := rx; exact SeqAt.EqAt.bool_str a b t
    | _ => exact absurd (show false = true from fx) Bool.false_ne_true
  | int a =>
    obtain ⟨t', rfl⟩ := ry
    cases x with
    | non => cases rx; exact SeqAt.EqAt.int_none a t'
    | bl b => cases rx; exact SeqAt.EqAt.int_bool a t' b
    | int b => obtain ⟨t, rfl⟩ := rx; exact SeqAt.EqAt.int_int a t' b t
    | str b => obtain ⟨t, rfl⟩ := rx; exact SeqAt.EqAt.int_str a t' b t
    | _ => exact absurd (show false = true from fx) Bool.false_ne_true
  | str a =>
    obtain ⟨t', rfl⟩ := ry
    cases x with
    | non => cases rx; exact SeqAt.EqAt.str_none a t'
    | bl b => cases rx; exact SeqAt.EqAt.str_bool a t' b
    | int b => obtain ⟨t, rfl⟩ := rx; exact SeqAt.EqAt.str_int a t' b t
    | str b => obtain ⟨t, rfl⟩ := rx; exact SeqAt.EqAt.str_str a t' b t
    | _ => exact absurd (show false = true from fx) Bool.false_ne_true
  | _ => exact absurd (show false = true from fy) Bool.false_ne_true
/-- the items' answers, read off the values (a value's own answer does not lean on its token) -/
def eqU (x : V) (u : Value) : Bool := match u with
  | .none => eqV .non x
  | .bool b => eqV (.bl b) x
  | .int i _ => eqV (.int i) x
  | .str z _ => eqV (.str z) x
  | _ => false
theorem eqU_of {x y : V} {u : Value} (r : RelV y u) (f : flatV y = true) : eqU x u = eqV y x := by
  cases y with
  | non => cases r; rfl
  | bl b => cases r; rfl
  | int i => obtain ⟨t, rfl⟩ := r; rfl
  | str z => obtain ⟨t, rfl⟩ := r; rfl
  | _ => exact absurd (show false = true from f) Bool.false_ne_true
theorem any_eqU {x : V} : ∀ {xs : List V} {us : List Value}, Vals xs us → xs.all flatV = true → us.any (eqU x) = xs.any fun y => eqV y x
  | _, _, .nil, _ => rfl
  | y :: xs, u :: us, .cons r t, f => by
    rw [List.all_cons, Bool.and_eq_true] at f
    rw [List.any_cons, List.any_cons, eqU_of r f.1, any_eqU t f.2]
theorem mem_eqAt {A : Around} {s : Shared} {x : V} {v : Value} (rx : RelV x v) (fx : flatV x = true) : ∀ {xs : List V} {us : List Value}, Vals xs us → xs.all flatV = true → ∀ u ∈ us, SeqAt.EqAt A s u v (eqU x u)
  | _, _, .nil, _ => fun u hu => by cases hu
  | y :: xs, u :: us, .cons r t, f => fun u' hu => by
    rw [List.all_cons, Bool.and_eq_true] at f
    rcases List.mem_cons.mp hu with rfl | hu
    · rw [eqU_of r f.1]; exact eqAt_V r rx f.1 fx
    · exact mem_eqAt rx fx t f.2 u' hu
def inV (x : V) (xs : List V) : Bool := xs.any fun y => eqV y x
/-- x in a list or tuple of flat items -/
def rIn (K : PySem.W.Frag) (neg : Bool) : R2 := fun x y H Q => ∃ p xs, y = .ref p ∧ (SqL K H p xs ∨ SqT K H p xs) ∧ flatV x = true ∧ xs.all flatV = true ∧ Q (.bl (if neg then !inV x xs else inV x xs)) H
theorem op_in_seq : OpR X (compareOp .In) (rIn X.K false) := by
  intro pins s σ H x y v u Q I rx ry h
  obtain ⟨p, xs, rfl, hq, fx, fs, q⟩ := h
  cases ry
  rcases hq with hq | hq
  · obtain ⟨its, r, pl, hz⟩ := I.list hq
    refine SeqAt.in_listAt (eqU x) pl.isList (fun w hw => mem_eqAt rx fx r fs w (by simpa using hw)) ⟨.bl _, H, I, rfl, ?_⟩
    rw [show its.toArray.any (eqU x) = its.any (eqU x) by simp, any_eqU r fs]
    exact q
  · obtain ⟨its, r, pl, hz⟩ := I.tuple hq
    refine SeqAt.in_tupleAt (eqU x) pl (fun w hw => mem_eqAt rx fx r fs w (by simpa using hw)) ⟨.bl _, H, I, rfl, ?_⟩
    rw [show its.toArray.any (eqU x) = its.any (eqU x) by simp, any_eqU r fs]
    exact q
theorem call_len_seq : CallR X (.builtin "len") (fun xs H Q => ∃ p ys, xs = [.ref p] ∧ (SqL X.K H p ys ∨ SqT X.K H p ys) ∧ Q (.int ys.length) H) := by
  intro pins s σ H xs us Q I r h
  obtain ⟨p, ys, rfl, hq, q⟩ := h
  obtain ⟨u, rfl, rx⟩ := vals1 r
  cases rx
  have hn := line63
  rcases hq with hq | hq
  · obtain ⟨its, r', pl, hz⟩ := I.list hq
    have hlen := r'.length
    exact Calls.call_len_list pl.isList (by simp only [List.size_toArray] <;> omega) ⟨.int ys.length, H, I.tok _, ⟨s.toks + 1, by rw [List.size_toArray, hlen]⟩, q⟩
  · obtain ⟨its, r', pl, hz⟩ := I.tuple hq
    have hlen := r'.length
    exact len_tuple pl (by simp only [List.size_toArray] <;> omega) ⟨.int ys.length, H, I.tok _, ⟨s.toks + 1, by rw [List.size_toArray, hlen]⟩, q⟩
theorem CallR.or {f : Value} {r r' : List V → Hp → VK → Prop} (h : CallR X f r) (h' : CallR X f r') : CallR X f (fun xs H Q => r xs H Q ∨ r' xs H Q) := by
  intro pins s σ H xs us Q I rs q
  rcases q with q | q
  · exact h pins s σ H xs us Q I rs q
  · exact h' pins s σ H xs us Q I rs q
theorem call_list_of : CallR X (.type "list") (fun xs H Q => ∃ p ys, xs = [.ref p] ∧ (SqL X.K H p ys ∨ SqT X.K H p ys) ∧ ∀ l, H l = none → Q (.ref l) (upd H l (.lst ys))) := by
  intro pins s σ H xs us Q I r h
  obtain ⟨p, ys, rfl, hq, q⟩ := h
  obtain ⟨u, rfl, rx⟩ := vals1 r
  cases rx
  have fin : ∀ (its : List Value), Vals ys its → ys.length ≤ sizeLine → ∀ (h' : Heap) (c' : Nat), (∀ b o', s.heap.get? b = some o' → h'.get? b = some o') →
      h'.get? s.heap.objs.size = some { cls := .type "list", dict := none, data := .seq its.toArray c', slots := #[] } → EP X pins σ Q (.ref s.heap.objs.size) { s with heap := h' } := fun its r' hz h' c' kp e =>
    ⟨.ref s.heap.objs.size, _, I.laid (t' := s.toks) kp (Nat.le_refl _) (show ObjOk X.prog X.w _ h' _ (.lst ys) from ⟨hz, its, c', r', e⟩), rfl, q _ (I.hok.fresh (Nat.le_refl _))⟩
  rcases hq with hq | hq
  · obtain ⟨its, r', pl, hz⟩ := I.list hq
    have hlen := r'.length
    obtain ⟨o, ho, hc, n, hd⟩ := pl.isList
    exact call_list_seq p (.inl rfl) ho hc hd (fun h' c' kp e => fin its r' hz h' c' kp e) (by simp only [List.size_toArray] <;> omega)
  · obtain ⟨its, r', pl, hz⟩ := I.tuple hq
    have hlen := r'.length
    obtain ⟨o, ho, hc, n, hd⟩ := pl
    exact call_list_seq p (.inr rfl) ho hc hd (fun h' c' kp e => fin its r' hz h' c' kp e) (by simp only [List.size_toArray] <;> omega)
/-- the value is of that builtin type -/
def tyV (K : PySem.W.Frag) (T : String) (x : V) (H : Hp) : Prop := match x with
  | .str _ => T = "str"
  | .int _ => T = "int"
  | .ref p => (T = "list" ∧ ∃ xs, SqL K H p xs) ∨ (T = "tuple" ∧ ∃ o, K.lookup p = some o ∧ o.cls = .type "tuple" ∧ o.dict = none) ∨
      (T = "dict" ∧ ((∃ kvs, H p = some (.dK kvs)) ∨ ∃ kvs, H p = some (.dT kvs))) ∨ (T = "set" ∧ ∃ S n, H p = some (.set S n))
  | _ => False
theorem tyV_is {pins : List (Addr × Obj)} {σ : St} {H : Hp} {s : Shared} {T : String} {x : V} {v : Value} (I : Inv X pins σ H s) (r : RelV x v) (ty : tyV X.K T x H) :
    s.TypeIs v T ∧ ∀ a, v = .ref a → ∃ ob, s.heap.get? a = some ob ∧ ob.dict = none := by
  cases x with
  | str z =>
    obtain ⟨t, rfl⟩ := r
    cases (show T = "str" from ty)
    exact ⟨typeIs_str s z t, fun _ e => nomatch e⟩
  | int i =>
    obtain ⟨t, rfl⟩ := r
    cases (show T = "int" from ty)
    exact ⟨typeIs_int s i t, fun _ e => nomatch e⟩
  | ref p =>
    cases r
    rcases ty with ⟨rfl, xs, hq⟩ | ⟨rfl, o, hk, hc, hd⟩ | ⟨rfl, hk⟩ | ⟨rfl, S, n, hk⟩
    · obtain ⟨its, _, pl, _⟩ := I.list hq
      refine ⟨pl.isList.typeIs, fun a e => ?_⟩
      cases e
      obtain ⟨o, n, e, c, hd, _⟩ := pl
      exact ⟨o, e, hd⟩
    · refine ⟨⟨o, I.kIn p o hk, hc⟩, fun a e => ?_⟩
      cases e
      exact ⟨o, I.kIn _ o hk, hd⟩
    · have z : ∃ o, s.heap.get? p = some o ∧ o.ExactDict := by
        rcases hk with ⟨kvs, hk⟩ | ⟨kvs, hk⟩
        · obtain ⟨_, _, _, _, o, _, _, e, ex, _⟩ := I.hok p _ hk
          exact ⟨o, e, ex⟩
        · obtain ⟨_, _, _, _, o, _, _, e, ex, _⟩ := I.hok p _ hk
          exact ⟨o, e, ex⟩
      obtain ⟨o, e, ex⟩ := z
      refine ⟨⟨o, e, ex.1⟩, fun a e2 => ?_⟩
      cases e2
      exact ⟨o, e, ex.2.1⟩
    · obtain ⟨o, _, _, _, e, ex, _⟩ := I.hok p _ hk
      refine ⟨⟨o, e, ex.1⟩, fun a e2 => ?_⟩
      cases e2
      exact ⟨o, e, ex.2.1⟩
  | _ => exact False.elim ty
def tBM0 (K : PySem.W.Frag) (T : String) (r : V → List V → Hp → VK → Prop) (to : TE) : TE := fun σ H Q => to σ H fun x H1 => tyV K T x H1 ∧ r x [] H1 Q
def tBM (K : PySem.W.Frag) (T : String) (r : V → List V → Hp → VK → Prop) (to : TE) (t : TA) : TE := fun σ H Q => to σ H fun x H1 => tyV K T x H1 ∧ t σ H1 fun xs H2 => r x xs H2 Q
variable {o e : Expr} {es : List Expr} {to : TE} {t : TA} {name : Str} {apos cpos : Pos} {T id : String} {r : V → List V → Hp → VK → Prop}
theorem pe_bm0 (pa : PlainAttrs T) (slot : Slot T name id) (hty : typeOf (.builtin id) = pure (.type "method_descriptor")) (hm : MtR X id r) (ho : PE X o to)
    (hbase : attributeBase o name X.env (eval o X.env) = eval o X.env := by rfl) (hline : (apos.endLine == cpos.line) = true := by rfl) : PE X (.Call (.Attribute o name apos) [] [] cpos) (tBM0 X.K T r to) := by
  intro pins s σ H Q I h
  refine wpAny_Call_method0_late hbase hline (thn (ho pins s σ H _ I h) fun v s1 hhx => ?_)
  obtain ⟨x, H1, I1, r1, ty, q1⟩ := hhx
  obtain ⟨h1, h2⟩ := tyV_is I1 r1 ty
  exact ⟨T, id, pa, slot, hty, h1, h2, Calls.callWith_builtin rfl (PySem.evalArgs_none (hm pins s1 σ H1 x [] v [] Q I1 r1 .nil q1))⟩
theorem pe_bm (pa : PlainAttrs T) (slot : Slot T name id) (hty : typeOf (.builtin id) = pure (.type "method_descriptor")) (hm : MtR X id r) (ho : PE X o to) (ha : PA X (e :: es) t)
    (hbase : attributeBase o name X.env (eval o X.env) = eval o X.env := by rfl)
    (hfew : ((backTo cpos (starEach (e :: es) X.env)).all (fun x => !x.1) && (backToKw cpos (keywordEach [] X.env)).all (fun x => x.1.isSome)
      && decide ((e :: es).length + ([] : List Keyword).length + (if ([] : List Keyword).isEmpty then 0 else 1) < 30)) = true := by rfl)
    (hline : (apos.endLine == cpos.line) = true := by rfl) (hs : starEach (e :: es) X.env = (false, eval e X.env) :: starEach es X.env := by rfl) (hplain : (backTo cpos (starEach es X.env)).any (·.1) = false := by rfl) :
    PE X (.Call (.Attribute o name apos) (e :: es) [] cpos) (tBM X.K T r to t) := by
  intro pins s σ H Q I h
  refine wpAny_Call_method_late hbase hfew hline rfl (thn (ho pins s σ H _ I h) fun v s1 hhx => ?_)
  obtain ⟨x, H1, I1, r1, ty, q1⟩ := hhx
  obtain ⟨h1, h2⟩ := tyV_is I1 r1 ty
  refine ⟨T, id, pa, slot, hty, h1, h2, ?_⟩
  have hA := ha cpos pins s1 σ H1 _ I1 q1
  rw [hs] at hA ⊢
  refine Calls.callWith_builtin (by show (false || (backTo cpos (starEach es X.env)).any (·.1)) = false; rw [hplain] <;> rfl) (Calls.evalArgs_plain ?_)
  exact thn hA fun us s2 ⟨vs, H2, I2, r2, q2⟩ => hm pins s2 σ H2 x vs v us Q I2 r1 r2 q2
/- xs.append(e), list.index on a module's tuple .. are MtR facts of 06m -/
end
end L2

namespace L2
open PySem PySem.Spec PyProof.Rows

def MtM (X : Cx) (id : String) (r : V → List V → Hp → VK → Prop) : Prop :=
  ∀ (pins : List (Addr × Obj)) (s : Shared) (σ : St) (H : Hp) (x : V) (xs : List V) (v : Value) (us : List Value) (Q : VK), Inv X pins σ H s → RelV x v → Vals xs us → r x xs H Q →
    wpAny (model X.prog X.w) X.A (call (.builtin id) (v :: us)) (EP X pins σ Q) X.xe s

theorem Vals.one : ∀ {x : V} {us : List Value}, Vals [x] us → ∃ u, us = [u] ∧ RelV x u
  | _, _, .cons r .nil => ⟨_, rfl, r⟩
theorem Vals.zero : ∀ {us : List Value}, Vals [] us → us = []
  | _, .nil => rfl
theorem Vals.dropLast {xs : List V} {us : List Value} (h : Vals xs us) : Vals xs.dropLast us.dropLast := by
  induction h with
  | nil => exact .nil
  | cons r t ih =>
    cases t with
    | nil => exact .nil
    | cons q t' => exact .cons r ih
theorem Vals.eraseIdx : ∀ {xs : List V} {us : List Value} (i : Nat), Vals xs us → Vals (xs.eraseIdx i) (us.eraseIdx i)
  | _, _, _, .nil => .nil
  | _, _, 0, .cons _ t => t
  | _, _, i + 1, .cons r t => .cons r (Vals.eraseIdx i t)
theorem Vals.reverse {xs : List V} {us : List Value} (h : Vals xs us) : Vals xs.reverse us.reverse := by
  induction h with
  | nil => exact .nil
  | cons r t ih => rw [List.reverse_cons, List.reverse_cons]; exact Vals.append ih (.cons r .nil)
theorem erase_last {α : Type} (l : List α) : l.eraseIdx (l.length - 1) = l.dropLast := by
  induction l with
  | nil => rfl
  | cons a r ih =>
    cases r with
    | nil => rfl
    | cons b r =>
      have e : (a :: b :: r).length - 1 = ((b :: r).length - 1) + 1 := by
        have h1 : (a :: b :: r).length = r.length + 2 := rfl
        have h2 : (b :: r).length = r.length + 1 := rfl
        omega
      rw [e, List.eraseIdx_cons_succ, ih]
      all_goals rfl
theorem len_erase {α : Type} : ∀ (l : List α) (i : Nat), (l.eraseIdx i).length ≤ l.length
  | [], _ => Nat.le_refl _
  | _ :: _, 0 => Nat.le_succ _
  | _ :: r, i + 1 => Nat.succ_le_succ (len_erase r i)
section
variable {X : Cx} {pins : List (Addr × Obj)} {σ : St} {H : Hp} {s : Shared} {l b : Addr} {xs ys zs : List V}

theorem Inv.lset {its its' : List Value} {n : Nat} {f : Array Value → Array Value} {t' : Nat} (I : Inv X pins σ H s) (hH : H l = some (.lst xs))
    (e : s.heap.get? l = some { cls := .type "list", data := .seq its.toArray n }) (hf : f its.toArray = its'.toArray) (hv : Vals ys its') (hz : ys.length ≤ sizeLine) :
    Inv X pins σ (upd H l (.lst ys)) { s with heap := s.heap.update l (Obj.mapSeq f), toks := t' } := by
  have q := PySem.IsL.update e f
  rw [hf] at q
  refine I.write (x := l) (e := l) (by rw [hH]; exact trivial) (.inl rfl) (fun b' u hb hu => (Heap.get?_update_other s.heap (Obj.mapSeq f) (Ne.symm hb)).trans hu) ⟨_, q⟩ ?_
  exact ⟨hz, its', _, hv, q⟩
theorem Inv.lnew {its : List Value} {t' : Nat} (I : Inv X pins σ H s) (hv : Vals ys its) (hz : ys.length ≤ sizeLine) :
    Inv X pins σ (upd H s.heap.objs.size (.lst ys)) { s with heap := s.heap.push { cls := .type "list", data := .seq its.toArray }, toks := t' } :=
  I.laid (fun _ _ q => Heap.get?_push_of_some _ q) (Nat.le_refl _) ⟨hz, its, 0, hv, Heap.get?_push_size _ rfl⟩
theorem Inv.fresh (I : Inv X pins σ H s) : H s.heap.objs.size = none := I.hok.fresh (Nat.le_refl _)
theorem Inv.lstM (I : Inv X pins σ H s) (hH : H l = some (.lst xs)) : xs.length ≤ sizeLine ∧ ∃ (its : List Value) (n : Nat), Vals xs its ∧ xs.length = its.length ∧ s.heap.get? l = some { cls := .type "list", data := .seq its.toArray n } := by
  obtain ⟨z, its, n, r, e⟩ := I.hok l _ hH
  exact ⟨z, its, n, r, r.length, e⟩

theorem notLongL {n : Nat} (h : n ≤ sizeLine) : Builtin.List.listTooLong n = false := by
  unfold Builtin.List.listTooLong
  exact decide_eq_false (by omega)
end

section
variable {X : Cx}

def rAppend : V → List V → Hp → VK → Prop := fun x vs H Q => ∃ l xs y, x = .ref l ∧ vs = [y] ∧ H l = some (.lst xs) ∧ xs.length < sizeLine ∧ Q .non (upd H l (.lst (xs ++ [y])))
theorem mt_append : MtM X "list.append" rAppend := by
  intro pins s σ H x vs v us Q I rx rv h
  obtain ⟨l, xs, y, rfl, rfl, hH, hz, q⟩ := h
  cases rx
  obtain ⟨u, rfl, ru⟩ := rv.one
  obtain ⟨z, its, n, r, hl, e⟩ := I.lstM hH
  refine call_meets F.slot_list_append ⟨_, e, rfl⟩ F.entry_list_append (F.args_list_append_2 _ _) (PySem.list_append l its.toArray n u (by rw [List.size_toArray]; omega)) ⟨e, ?_⟩
  refine ⟨.non, _, I.lset (its' := its ++ [u]) hH e (by simp) (r.append (.cons ru .nil)) ?_, rfl, q⟩
  rw [List.length_append, List.length_singleton]
  omega

def rExtend : V → List V → Hp → VK → Prop := fun x vs H Q => ∃ l b xs zs, x = .ref l ∧ vs = [.ref b] ∧ H l = some (.lst xs) ∧ H b = some (.lst zs) ∧ xs.length + zs.length ≤ sizeLine ∧ Q .non (upd H l (.lst (xs ++ zs)))
theorem mt_extend : MtM X "list.extend" rExtend := by
  intro pins s σ H x vs v us Q I rx rv h
  obtain ⟨l, b, xs, zs, rfl, rfl, hH, hB, hz, q⟩ := h
  cases rx
  obtain ⟨u, rfl, ru⟩ := rv.one
  cases ru
  obtain ⟨z, its, n, r, hl, e⟩ := I.lstM hH
  obtain ⟨z2, its2, n2, r2, hl2, e2⟩ := I.lstM hB
  have hsz : its.toArray.size + its2.toArray.size ≤ sizeLine := by rw [List.size_toArray, List.size_toArray]; omega
  have hlong : ¬ (!its.toArray.isEmpty && Builtin.List.listTooLong (its.toArray.size + its2.toArray.size)) = true := by
    rw [notLongL hsz, Bool.and_false]
    exact Bool.false_ne_true
  refine call_meets F.slot_list_extend ⟨_, e, rfl⟩ F.entry_list_extend (F.args_list_extend_2 _ _)
    (AutoSeq1.list_extend_list_list_0 l its.toArray n b its2.toArray n2 hlong (by rw [List.size_toArray]; omega) (by omega)) ⟨e, e2, ?_⟩
  refine ⟨.non, _, I.lset (its' := its ++ its2) hH e (by simp) (r.append r2) ?_, rfl, q⟩
  rw [List.length_append]
  omega

def rPop : V → List V → Hp → VK → Prop := fun x vs H Q => ∃ l xs y, x = .ref l ∧ vs = [] ∧ H l = some (.lst xs) ∧ xs[xs.length - 1]? = some y ∧ Q y (upd H l (.lst xs.dropLast))
theorem mt_pop : MtM X "list.pop" rPop := by
  intro pins s σ H x vs v us Q I rx rv h
  obtain ⟨l, xs, y, rfl, rfl, hH, hy, q⟩ := h
  cases rx
  have hus := rv.zero
  subst hus
  obtain ⟨z, its, n, r, hl, e⟩ := I.lstM hH
  obtain ⟨u, hu, ru⟩ := r.get hy
  have hy' : its.toArray[its.toArray.size - 1]? = some u := by
    show its.toArray[its.length - 1]? = some u
    rw [← Array.getElem?_toList, ← hl]
    exact hu
  refine call_meets F.slot_list_pop ⟨_, e, rfl⟩ F.entry_list_pop (F.args_list_pop_1 _) (MeetsSeq.list_pop_last l its.toArray n u hy' (by rw [List.size_toArray]; omega)) ⟨e, ?_⟩
  refine ⟨y, _, I.lset (its' := its.dropLast) hH e ?_ r.dropLast ?_, ru, q⟩
  · show its.toArray.eraseIdxIfInBounds (its.toArray.size - 1) = its.dropLast.toArray
    rw [List.size_toArray, List.eraseIdxIfInBounds_toArray, erase_last]
  · rw [List.length_dropLast]
    omega

def rPopAt : V → List V → Hp → VK → Prop := fun x vs H Q => ∃ l xs i k y, x = .ref l ∧ vs = [.int i] ∧ H l = some (.lst xs) ∧ -(2 ^ 63) ≤ i ∧ i < 2 ^ 63 ∧ seqIndex? i xs.length = some k ∧ xs[k]? = some y ∧ Q y (upd H l (.lst (xs.eraseIdx k)))
theorem mt_popAt : MtM X "list.pop" rPopAt := by
  intro pins s σ H x vs v us Q I rx rv h
  obtain ⟨l, xs, i, k, y, rfl, rfl, hH, h1, h2, hk, hy, q⟩ := h
  cases rx
  obtain ⟨u, rfl, ru⟩ := rv.one
  obtain ⟨t, rfl⟩ := ru
  obtain ⟨z, its, n, r, hl, e⟩ := I.lstM hH
  obtain ⟨w, hw, rw'⟩ := r.get hy
  refine call_meets F.slot_list_pop ⟨_, e, rfl⟩ F.entry_list_pop (F.args_list_pop_2 _ _)
    (MeetsSeq.list_pop_at l its.toArray n i t k w (fitsIndex_both h1 h2) (by rw [List.size_toArray, ← hl]; exact hk) (by rw [← Array.getElem?_toList]; exact hw) (by rw [List.size_toArray]; omega)) ⟨e, ?_⟩
  refine ⟨y, _, I.lset (its' := its.eraseIdx k) hH e ?_ (r.eraseIdx k) ?_, rw', q⟩
  · show its.toArray.eraseIdxIfInBounds k = (its.eraseIdx k).toArray
    rw [List.eraseIdxIfInBounds_toArray]
  · have := len_erase xs k
    omega

def rReverse : V → List V → Hp → VK → Prop := fun x vs H Q => ∃ l xs, x = .ref l ∧ vs = [] ∧ H l = some (.lst xs) ∧ Q .non (upd H l (.lst xs.reverse))
theorem mt_reverse : MtM X "list.reverse" rReverse := by
  intro pins s σ H x vs v us Q I rx rv h
  obtain ⟨l, xs, rfl, rfl, hH, q⟩ := h
  cases rx
  have hus := rv.zero
  subst hus
  obtain ⟨z, its, n, r, hl, e⟩ := I.lstM hH
  refine call_meets F.slot_list_reverse ⟨_, e, rfl⟩ F.entry_list_reverse (F.args_list_reverse_1 _) (AutoSeq1.list_reverse_list_0 l its.toArray n (by rw [List.size_toArray]; omega)) ⟨e, ?_⟩
  refine ⟨.non, _, I.lset (its' := its.reverse) hH e (by simp) r.reverse ?_, rfl, q⟩
  rw [List.length_reverse]
  omega

def rCat : R2 := fun x y H Q => ∃ l b xs zs, x = .ref l ∧ y = .ref b ∧ H l = some (.lst xs) ∧ H b = some (.lst zs) ∧ xs.length + zs.length ≤ sizeLine ∧ ∀ p, H p = none → Q (.ref p) (upd H p (.lst (xs ++ zs)))
theorem op_cat : OpR X (binaryOp .Add) rCat := by
  intro pins s σ H x y v u Q I rx ry h
  obtain ⟨l, b, xs, zs, rfl, rfl, hH, hB, hz, q⟩ := h
  cases rx
  cases ry
  obtain ⟨z, its, n, r, hl, e⟩ := I.lstM hH
  obtain ⟨z2, its2, n2, r2, hl2, e2⟩ := I.lstM hB
  refine PySem.P.add_list e e2 ?_ (by rw [List.size_toArray, List.size_toArray]; omega)
  have ea : its.toArray ++ its2.toArray = (its ++ its2).toArray := by simp
  rw [ea]
  exact ⟨.ref _, _, I.lnew (t' := s.toks) (r.append r2) (by rw [List.length_append]; omega), rfl, q _ I.fresh⟩
end

section
variable {prog : Program} {w : World} {A : Around} {E : Value → Shared → Prop} {s : Shared}
end

section
variable {X : Cx}
end
end L2
namespace L2
open PySem PySem.Spec PyProof.Rows

section
variable {κ : Type} [DecidableEq κ]
def valV (kvs : List (κ × V)) (k : κ) : Option V := (kvs.find? fun kv => decide (kv.1 = k)).map (·.2)
/-- in its place, or at the end -/
def putK (kvs : List (κ × V)) (k : κ) (v : V) : List (κ × V) :=
  if (kvs.any fun kv => decide (kv.1 = k)) = true then kvs.map (fun kv => if kv.1 = k then (kv.1, v) else kv) else kvs ++ [(k, v)]
theorem valV_pos {p : κ × V} {r : List (κ × V)} {k : κ} (e : p.1 = k) : valV (p :: r) k = some p.2 := by simp [valV, List.find?_cons, e]
theorem valV_neg {p : κ × V} {r : List (κ × V)} {k : κ} (e : ¬ p.1 = k) : valV (p :: r) k = valV r k := by simp [valV, List.find?_cons, e]
theorem valV_any (k : κ) : ∀ kvs : List (κ × V), (kvs.any fun kv => decide (kv.1 = k)) = (valV kvs k).isSome
  | [] => rfl
  | p :: r => by
    rw [List.any_cons]
    by_cases e : p.1 = k
    · simp only [valV_pos e, decide_eq_true e, Bool.true_or, Option.isSome_some]
    · rw [valV_neg e, decide_eq_false e, Bool.false_or]; exact valV_any k r
theorem length_putK (kvs : List (κ × V)) (k : κ) (v : V) : (putK kvs k v).length ≤ kvs.length + 1 := by
  unfold putK
  split
  · rw [List.length_map]; omega
  · rw [List.length_append, List.length_cons, List.length_nil]; omega
theorem RelO.isSome_eq {o : Option V} {u : Option Value} (r : RelO o u) : o.isSome = u.isSome := by
  cases o with
  | none => cases u with
    | none => rfl
    | some _ => exact (show False from r).elim
  | some _ => cases u with
    | none => exact (show False from r).elim
    | some _ => rfl
theorem RelO.getD {o : Option V} {u : Option Value} {d : V} {d' : Value} (r : RelO o u) (rd : RelV d d') : RelV (o.getD d) (u.getD d') := by
  cases o with
  | none => cases u with
    | none => exact rd
    | some _ => exact (show False from r).elim
  | some _ => cases u with
    | none => exact (show False from r).elim
    | some _ => exact r

/-- raw tables of the same keys -/
theorem KV.val {kvs : List (κ × V)} {vs : List (κ × Value)} (r : KV kvs vs) (k : κ) : RelO (valV kvs k) (valueAt vs k) := by
  unfold KV at r
  induction r with
  | nil => exact True.intro
  | @cons p q ps qs h t ih =>
    obtain ⟨h1, h2⟩ := h
    by_cases e : p.1 = k
    · have e' : q.1 = k := h1.symm.trans e
      have b : valueAt (q :: qs) k = some q.2 := by simp [valueAt, List.find?_cons, e']
      rw [valV_pos e, b]; exact h2
    · have e' : ¬ q.1 = k := fun z => e (h1.trans z)
      have b : valueAt (q :: qs) k = valueAt qs k := by simp [valueAt, List.find?_cons, e']
      rw [valV_neg e, b]; exact ih
theorem KV.any {kvs : List (κ × V)} {vs : List (κ × Value)} (r : KV kvs vs) (k : κ) : (kvs.any fun kv => decide (kv.1 = k)) = vs.any fun kv => decide (kv.1 = k) := by
  unfold KV at r
  induction r with
  | nil => rfl
  | cons h t ih => rw [List.any_cons, List.any_cons, ih, h.1]
theorem KV.repl {kvs : List (κ × V)} {vs : List (κ × Value)} (r : KV kvs vs) (k : κ) {y : V} {u : Value} (ry : RelV y u) :
    KV (kvs.map fun kv => if kv.1 = k then (kv.1, y) else kv) (vs.map fun kv => if kv.1 = k then (kv.1, u) else kv) := by
  unfold KV at r ⊢
  induction r with
  | nil => exact .nil
  | @cons p q ps qs h t ih =>
    rw [List.map_cons, List.map_cons]
    refine .cons ?_ ih
    obtain ⟨h1, h2⟩ := h
    by_cases e : p.1 = k
    · rw [if_pos e, if_pos (h1.symm.trans e)]; exact ⟨h1, ry⟩
    · rw [if_neg e, if_neg (fun z => e (h1.trans z))]; exact ⟨h1, h2⟩
theorem KV.put {kvs : List (κ × V)} {vs : List (κ × Value)} (r : KV kvs vs) (k : κ) {y : V} {u : Value} (ry : RelV y u) : KV (putK kvs k y) (stored vs k u) := by
  unfold putK stored
  rw [r.any k]
  by_cases e : (vs.any fun kv => decide (kv.1 = k)) = true
  · rw [if_pos e, if_pos e]; exact r.repl k ry
  · rw [if_neg e, if_neg e]; exact Paired.snoc r ⟨rfl, ry⟩
theorem KV.keys {kvs : List (κ × V)} {vs : List (κ × Value)} (r : KV kvs vs) : kvs.map (·.1) = vs.map (·.1) := by
  unfold KV at r
  induction r with
  | nil => rfl
  | cons h t ih => rw [List.map_cons, List.map_cons, ih, h.1]
theorem KV.length {kvs : List (κ × V)} {vs : List (κ × Value)} (r : KV kvs vs) : kvs.length = vs.length := Paired.length r
end


theorem kV_is {P : Program} {w : World} {k : Key} {u : Value} (r : RelV (kV k) u) : (mixKind P w).is k u = true := by
  cases k with
  | inl i => obtain ⟨t, e⟩ := (show ∃ t, u = Value.int i t from r); subst e; exact mixKind_int P w i t
  | inr x => obtain ⟨t, e⟩ := (show ∃ t, u = Value.str x t from r); subst e; exact mixKind_str P w x t
theorem items_are {P : Program} {w : World} : ∀ {ks : List Key} {us : List Value}, Vals (ks.map kV) us → ItemsAre (mixKind P w) ks us
  | [], _, r => by rw [List.map_nil] at r; cases r; exact .nil
  | k :: ks, _, r => by
    rw [List.map_cons] at r
    cases r with
    | cons h t => exact .cons (kV_is h) (items_are t)

/-- raw entries of a dict with tuple keys -/
abbrev KT (H : Hp) : List (List Key × V) → List (List Key × Addr × Value) → Prop := Paired fun p q => p.1 = q.1 ∧ H q.2.1 = some (.tup (p.1.map kV)) ∧ RelV p.2 q.2.2
theorem KT.val {H : Hp} {kvs : List (List Key × V)} {xs : List (List Key × Addr × Value)} (r : KT H kvs xs) (k : List Key) : RelO (valV kvs k) ((atKey xs k).map (·.2)) := by
  induction r with
  | nil => exact True.intro
  | @cons p q ps qs h t ih =>
    obtain ⟨h1, _, h2⟩ := h
    by_cases e : p.1 = k
    · have e' : q.1 = k := h1.symm.trans e
      have b : atKey (q :: qs) k = some q.2 := by simp [atKey, List.find?_cons, e']
      rw [valV_pos e, b]; exact h2
    · have e' : ¬ q.1 = k := fun z => e (h1.trans z)
      have b : atKey (q :: qs) k = atKey qs k := by simp [atKey, List.find?_cons, e']
      rw [valV_neg e, b]; exact ih
theorem KT.repl {H : Hp} {kvs : List (List Key × V)} {xs : List (List Key × Addr × Value)} (r : KT H kvs xs) (k : List Key) {y : V} {u : Value} (ry : RelV y u) :
    KT H (kvs.map fun kv => if kv.1 = k then (kv.1, y) else kv) (xs.map (putAt k u)) := by
  induction r with
  | nil => exact .nil
  | @cons p q ps qs h t ih =>
    rw [List.map_cons, List.map_cons]
    refine .cons ?_ ih
    obtain ⟨h1, h2, h3⟩ := h
    unfold putAt
    by_cases e : p.1 = k
    · rw [if_pos e, if_pos (h1.symm.trans e)]; exact ⟨h1, h2, ry⟩
    · rw [if_neg e, if_neg (fun z => e (h1.trans z))]; exact ⟨h1, h2, h3⟩
theorem KT.put {H : Hp} {kvs : List (List Key × V)} {xs : List (List Key × Addr × Value)} (r : KT H kvs xs) (k : List Key) {b : Addr} {y : V} {u : Value} (hb : H b = some (.tup (k.map kV))) (ry : RelV y u) :
    KT H (putK kvs k y) (storedH xs k b u) := by
  have e : (kvs.any fun kv => decide (kv.1 = k)) = (atKey xs k).isSome := by
    rw [valV_any, (r.val k).isSome_eq, Option.isSome_map]
  unfold putK storedH
  rw [e]
  by_cases q : (atKey xs k).isSome = true
  · rw [if_pos q, if_pos q]; exact r.repl k ry
  · rw [if_neg q, if_neg q]; exact Paired.snoc r ⟨rfl, hb, ry⟩
theorem KT.keeps {H H' : Hp} {kvs : List (List Key × V)} {xs : List (List Key × Addr × Value)} (r : KT H kvs xs) (ht : ∀ b ys, H b = some (.tup ys) → H' b = some (.tup ys)) : KT H' kvs xs :=
  Paired.mapP r fun _ _ z => ⟨z.1, ht _ _ z.2.1, z.2.2⟩

section
variable {P : Program} {w : World} {H : Hp} {h : Heap} {a : Addr}
theorem rd_of {u : HO} (ok : HOk P w H h) (e : Rd H a u) : ObjOk P w H h a u := e.ok ok
theorem dk_rd {kvs : List (Key × V)} (ok : HOk P w H h) (e : Rd H a (.dK kvs)) : kvs.length ≤ sizeLine ∧ (a == sysModules) = false ∧ ∃ vs, KV kvs vs ∧ h.DictOf (mixKind P w) a vs :=
  show ObjOk P w H h a (.dK kvs) from rd_of ok e
theorem dk_of {kvs : List (Key × V)} (ok : HOk P w H h) (e : H a = some (.dK kvs)) : kvs.length ≤ sizeLine ∧ (a == sysModules) = false ∧ ∃ vs, KV kvs vs ∧ h.DictOf (mixKind P w) a vs := dk_rd ok (.inl e)
/-- a tracked tuple of ints and texts is a key -/
theorem key_of {ks : List Key} (ok : HOk P w H h) (e : H a = some (.tup (ks.map kV))) : (tupleKind (mixKind P w)).is h ks a := by
  obtain ⟨_, its, r, o, h1, h2, n, h3⟩ := (show ObjOk P w H h a (.tup (ks.map kV)) from ok a _ e)
  exact ⟨o, its.toArray, n, h1, h2, h3, by simpa using items_are r⟩
theorem dt_rd {kvs : List (List Key × V)} (ok : HOk P w H h) (e : Rd H a (.dT kvs)) : kvs.length ≤ sizeLine ∧ (a == sysModules) = false ∧
    ∃ xs, KT H kvs xs ∧ h.DictOfH (tupleKind (mixKind P w)) a xs := by
  obtain ⟨z, y, xs, r, o, es, ep, h1, h2, h3, h4, h5⟩ := (show ObjOk P w H h a (.dT kvs) from rd_of ok e)
  refine ⟨z, y, xs, r, o, es, ep, h1, h2, h3, h4, fun x hx => ?_, h5⟩
  have all : ∀ {l : List (List Key × V)} {m : List (List Key × Addr × Value)}, KT H l m → ∀ x ∈ m, (tupleKind (mixKind P w)).is h x.1 x.2.1 := by
    intro l m q
    induction q with
    | nil => intro x hx; exact nomatch hx
    | @cons p q ps qs hq t ih =>
      intro x hx
      rcases List.mem_cons.mp hx with e | hx
      · subst e
        exact key_of ok (by rw [← hq.1]; exact hq.2.1)
      · exact ih x hx
  exact all r x hx
theorem dt_of {kvs : List (List Key × V)} (ok : HOk P w H h) (e : H a = some (.dT kvs)) : kvs.length ≤ sizeLine ∧ (a == sysModules) = false ∧
    ∃ xs, KT H kvs xs ∧ h.DictOfH (tupleKind (mixKind P w)) a xs := dt_rd ok (.inl e)
end

/-- what the dict at a holds at the key y -/
def DGet (H : Hp) (a : Addr) (y : V) (r : Option V) : Prop :=
  (∃ kvs k, Rd H a (.dK kvs) ∧ y = kV k ∧ r = valV kvs k) ∨ ∃ kvs k b, Rd H a (.dT kvs) ∧ y = .ref b ∧ H b = some (.tup (k.map kV)) ∧ r = valV kvs k
/-- the heap behind a[y] = v -/
def DPut (H : Hp) (a : Addr) (y v : V) (H' : Hp) : Prop :=
  (∃ kvs k, H a = some (.dK kvs) ∧ y = kV k ∧ kvs.length < sizeLine ∧ H' = upd H a (.dK (putK kvs k v))) ∨
  ∃ kvs k b, H a = some (.dT kvs) ∧ y = .ref b ∧ H b = some (.tup (k.map kV)) ∧ kvs.length < sizeLine ∧ H' = upd H a (.dT (putK kvs k v))
theorem DGet.k {H : Hp} {a : Addr} {kvs : List (Key × V)} {k : Key} (e : H a = some (.dK kvs)) : DGet H a (kV k) (valV kvs k) := .inl ⟨kvs, k, .inl e, rfl, rfl⟩
theorem DGet.t {H : Hp} {a b : Addr} {kvs : List (List Key × V)} {k : List Key} (e : H a = some (.dT kvs)) (eb : H b = some (.tup (k.map kV))) : DGet H a (.ref b) (valV kvs k) := .inr ⟨kvs, k, b, .inl e, rfl, eb, rfl⟩
theorem DPut.k {H : Hp} {a : Addr} {kvs : List (Key × V)} {k : Key} {v : V} (e : H a = some (.dK kvs)) (hl : kvs.length < sizeLine) : DPut H a (kV k) v (upd H a (.dK (putK kvs k v))) := .inl ⟨kvs, k, e, rfl, hl, rfl⟩
theorem DPut.t {H : Hp} {a b : Addr} {kvs : List (List Key × V)} {k : List Key} {v : V} (e : H a = some (.dT kvs)) (eb : H b = some (.tup (k.map kV))) (hl : kvs.length < sizeLine) :
    DPut H a (.ref b) v (upd H a (.dT (putK kvs k v))) := .inr ⟨kvs, k, b, e, rfl, eb, hl, rfl⟩


section
variable {X : Cx} {pins : List (Addr × Obj)} {σ : St} {H : Hp} {s : Shared} {a : Addr} {y v : V} {u r : Value} {o : Option V} {A : Around} {E : Value → Shared → Prop}

theorem Inv.big (I : Inv X pins σ H s) : sysModules < s.heap.objs.size := by
  have h : mainGlobals < s.heap.objs.size := (I.mod.glob.keeps I.bk).lt
  exact Nat.lt_trans (by decide) h

/-- d[y], there -/
theorem d_getItem {Q : Value → Shared → Prop} (hu : A.units + 1 < cLine) (I : Inv X pins σ H s) (g : DGet H a y (some v)) (ry : RelV y u) (h : ∀ w' s', Inv X pins σ H s' → RelV v w' → Q w' s') :
    wpAny (model X.prog X.w) A (getItem (.ref a) u) Q E s := by
  rcases g with ⟨kvs, k, e, ey, l⟩ | ⟨kvs, k, b, e, ey, eb, l⟩
  · subst ey
    obtain ⟨z, hd, vs, rel, dd⟩ := dk_rd I.hok e
    obtain ⟨w', hw, rw'⟩ := RelO.some_of (v := v) (o := valueAt vs k) (by rw [l]; exact rel.val k)
    exact wpAny_getItem_of (kV_is ry) dd.mapOf hw (h w' _ (I.tok _) rw')
  · subst ey
    cases (show u = Value.ref b from ry)
    obtain ⟨z, hd, xs, rel, dd⟩ := dt_rd I.hok e
    obtain ⟨w', hw, rw'⟩ := RelO.some_of (v := v) (o := (atKey xs k).map (·.2)) (by rw [l]; exact rel.val k)
    obtain ⟨p, hp, hp2⟩ := Option.map_eq_some_iff.mp hw
    refine wpAny_getItem_heap (tupleKind_room_in1 hu) (key_of I.hok eb) dd hp ?_
    rw [hp2]
    exact h w' _ (I.tok _) rw'
/-- y in d -/
theorem d_in {Q : Value → Shared → Prop} (hu : A.units + 1 < cLine) (I : Inv X pins σ H s) (g : DGet H a y o) (ry : RelV y u) (h : ∀ s', Inv X pins σ H s' → Q (.bool o.isSome) s') :
    wpAny (model X.prog X.w) A (compareOp .In u (.ref a)) Q E s := by
  rcases g with ⟨kvs, k, e, ey, l⟩ | ⟨kvs, k, b, e, ey, eb, l⟩
  · subst ey
    obtain ⟨z, hd, vs, rel, dd⟩ := dk_rd I.hok e
    refine wpAny_in_of (kV_is ry) hd dd.mapOf ?_
    rw [← (rel.val k).isSome_eq, ← l]
    exact h _ (I.tok _)
  · subst ey
    cases (show u = Value.ref b from ry)
    obtain ⟨z, hd, xs, rel, dd⟩ := dt_rd I.hok e
    refine wpAny_in_heap (tupleKind_room_in1 hu) (key_of I.hok eb) hd dd ?_
    have q := (rel.val k).isSome_eq
    rw [Option.isSome_map] at q
    rw [← q, ← l]
    exact h _ (I.tok _)
/-- a dict's object is replaced -/
theorem d_write {h' : Heap} {t' : Nat} {ob : HO} (I : Inv X pins σ H s) (mu : Mut (H a)) (hs : Heap.SameBut a s.heap h') (he : ∃ q, h'.get? a = some q) (new : ObjOk X.prog X.w (upd H a ob) h' a ob) :
    Inv X pins σ (upd H a ob) { s with heap := h', toks := t' } :=
  I.write (x := a) (e := a) mu (.inl rfl) (fun b q hb z => (hs.2 b hb).trans z) he new
theorem dk_new {P : Program} {w : World} {H' : Hp} {h' : Heap} {kvs : List (Key × V)} {vs : List (Key × Value)} (z : kvs.length ≤ sizeLine) (hd : (a == sysModules) = false) (rel : KV kvs vs) (dd : h'.DictOf (mixKind P w) a vs) :
    ObjOk P w H' h' a (.dK kvs) := ⟨z, hd, vs, rel, dd⟩
/-- d[y] = v -/
theorem d_setItem {H' : Hp} {Q : Unit → Shared → Prop} (hu : A.units + 1 < cLine) (I : Inv X pins σ H s) (g : DPut H a y v H') (ry : RelV y u) (rv : RelV v r) (h : ∀ s', Inv X pins σ H' s' → Q () s') :
    wpAny (model X.prog X.w) A (setItem (.ref a) u r) Q E s := by
  rcases g with ⟨kvs, k, e, ey, l, eH⟩ | ⟨kvs, k, b, e, ey, eb, l, eH⟩
  · subst ey eH
    obtain ⟨z, hd, vs, rel, dd⟩ := dk_of I.hok e
    have hz : vs.length ≤ sizeLine := by rw [← rel.length]; exact z
    have hl : (putK kvs k v).length ≤ sizeLine := by have := length_putK kvs k v; omega
    refine wpAny_setItem_pairs (hsz := hz) (kV_is ry) dd fun h' dd' hs => h _ ?_
    have he : ∃ q, h'.get? a = some q := let ⟨q, _, _, hq, _⟩ := dd'; ⟨q, hq⟩
    exact d_write I (by rw [e]; exact True.intro) hs he (dk_new hl hd (rel.put k rv) dd')
  · subst ey eH
    cases (show u = Value.ref b from ry)
    obtain ⟨z, hd, xs, rel, dd⟩ := dt_of I.hok e
    have hz : xs.length ≤ sizeLine := by rw [← Paired.length rel]; exact z
    have hl : (putK kvs k v).length ≤ sizeLine := by have := length_putK kvs k v; omega
    refine wpAny_setItem_heap (hsz := hz) (tupleKind_room_in1 hu) (key_of I.hok eb) dd fun h' dd' hs => h _ ?_
    obtain ⟨q, es, ep, hq, h2, h3, h4, _, h5⟩ := dd'
    refine d_write I (by rw [e]; exact True.intro) hs ⟨q, hq⟩ ⟨hl, hd, _, (rel.put k eb rv).keeps fun c ys ec => ?_, q, es, ep, hq, h2, h3, h4, h5⟩
    rw [upd_ne (ne_of ec e (fun z => nomatch z))]
    exact ec
end

section
variable {X : Cx} {pins : List (Addr × Obj)} {σ : St} {H : Hp} {s : Shared} {a : Addr} {kvs : List (Key × V)} {k : Key} {u : Value} {A : Around} {E : Value → Shared → Prop}
/-- len(d) -/
theorem d_len {Q : Value → Shared → Prop} (I : Inv X pins σ H s) (e : Rd H a (.dK kvs)) (h : ∀ t s', Inv X pins σ H s' → Q (.int kvs.length t) s') : wpAny (model X.prog X.w) A (call (.builtin "len") [.ref a]) Q E s := by
  obtain ⟨z, hd, vs, rel, dd⟩ := dk_rd I.hok e
  refine call_len_dict hd dd (by rw [← rel.length]; rw [sizeLine_eq] at z; omega) ?_
  rw [← rel.length]
  exact h _ _ (I.tok _)
end


/-- the element of a subscription, not a slice -/
def NoSl (i : Expr) : Prop := ∀ ov iv, subscripted i false ov iv = operate [ov, iv] (getItem ov iv)
theorem subD_of {prog : Program} {w : World} {A : Around} {E : Value → Shared → Prop} {s : Shared} {env : Env} {value slice : Expr} {pos : Pos} {T id : String} {Q : Value → Shared → Prop}
    (hl : typeLookup (.type T) "__getitem__" = pure (some (.builtin id))) (hs : NoSl slice)
    (h : wpAny (model prog w) A (eval value env) (fun o s₁ => wpAny (model prog w) A (eval slice env) (fun i s₂ => s₂.TypeIs o T ∧ wpAny (model prog w) A (getItem o i) Q E s₂) E s₁) E s) :
    wpAny (model prog w) A (eval (.Subscript value slice pos) env) Q E s := by
  refine Subscript_ (wpAny_mono h (fun o s₁ h₁ => wpAny_mono h₁ (fun i s₂ h₂ => ?_) fun _ _ x => x) fun _ _ x => x)
  obtain ⟨hT, h₂⟩ := h₂
  unfold subscriptTail
  refine wpAny_bind ?_
  rw [getitemInPython_of_ne hT.not_modules]
  refine wpAny_bind (wpAny_specialOf hT hl ?_)
  have fin : wpAny (model prog w) A (subscripted slice false o i) (fun r s₃ => wpAny (model prog w) A (letTemporaryGo value o r >>= fun _ => pure r) Q E s₃) E s₂ := by
    rw [hs o i]
    exact wpAny_operating (wpAny_mono h₂ (fun r s₃ h₃ => wpAny_bind (wpAny_letTemporaryGo (wpAny_pure h₃))) fun _ _ x => x)
  first
    | exact wpAny_pure (wpAny_bind fin)
    | exact wpAny_bind (wpAny_pure (wpAny_bind fin))
    | exact wpAny_bind fin

theorem dict_typeIs {X : Cx} {pins : List (Addr × Obj)} {σ : St} {H : Hp} {s : Shared} {a : Addr} {y : V} {o : Option V} (I : Inv X pins σ H s) (g : DGet H a y o) : s.TypeIs (.ref a) "dict" := by
  rcases g with ⟨kvs, k, e, _, _⟩ | ⟨kvs, k, b, e, _, _, _⟩
  · obtain ⟨_, _, vs, _, dd⟩ := dk_rd I.hok e
    exact dd.typeIs
  · obtain ⟨_, _, xs, _, dd⟩ := dt_rd I.hok e
    exact dd.typeIs
/-- d[y] -/
def tDGet (td ty : TE) : TE := fun σ H Q => td σ H fun x H1 => ty σ H1 fun y H2 => ∃ a v, x = .ref a ∧ DGet H2 a y (some v) ∧ Q v H2
/-- y in d, y not in d -/
def tDIn (ty td : TE) : TE := fun σ H Q => ty σ H fun y H1 => td σ H1 fun x H2 => ∃ a o, x = .ref a ∧ DGet H2 a y o ∧ Q (.bl o.isSome) H2
/-- d[y] = v -/
def sDPut (td ty tv : TE) : TS := fun D σ H => tv σ H fun v H1 => td σ H1 fun x H2 => ty σ H2 fun y H3 => ∃ a H4, x = .ref a ∧ DPut H3 a y v H4 ∧ D.nx σ H4
section
variable {X : Cx} {o i e value : Expr} {pos pos' tpos : Pos} {td ty tv : TE}
theorem pe_dget (hu : X.A.units + 1 < cLine) (ho : PE X o td) (hi : PE X i ty) (hs : NoSl i) : PE X (.Subscript o i pos) (tDGet td ty) := by
  intro pins s σ H Q I h
  refine subD_of PySem.F.slot_dict_getitem.lookup hs (thn (ho pins s σ H _ I h) fun u s1 ⟨x, H1, I1, rx, q1⟩ => thn (hi pins s1 σ H1 _ I1 q1) fun iv s2 hhx => ?_)
  obtain ⟨y, H2, I2, ry, a, v, ex, g, q2⟩ := hhx
  subst ex
  obtain rfl : u = Value.ref a := rx
  exact ⟨dict_typeIs I2 g, d_getItem hu I2 g ry fun w' s3 I3 rw' => ⟨v, H2, I3, rw', q2⟩⟩
theorem pc_din (hu : X.A.units + 1 < cLine) (hi : PE X i ty) (ho : PE X o td) : PC X .In i o (tDIn ty td) := by
  intro pins s σ H Q I h
  refine thn (hi pins s σ H _ I h) fun iv s1 ⟨y, H1, I1, ry, q1⟩ => thn (ho pins s1 σ H1 _ I1 q1) fun u s2 hhx => ?_
  obtain ⟨x, H2, I2, rx, a, ov, ex, g, q2⟩ := hhx
  subst ex
  obtain rfl : u = Value.ref a := rx
  exact d_in hu I2 g ry fun s3 I3 => ⟨.bl ov.isSome, H2, I3, rfl, q2⟩
theorem ps_dput (hu : X.A.units + 1 < cLine) (ho : PE X o td) (hi : PE X i ty) (hv : PE X value tv) (hs : swapsWith value (some (.Subscript o i pos')) pos.line X.env = pure false) :
    PS X (.Assign [.Subscript o i pos'] value pos) (sDPut td ty tv) := by
  intro pins s σ H D I h
  refine wpAny_Assign_Subscript (thn (hv pins s σ H _ I h) fun r s1 ⟨v, H1, I1, rv, q1⟩ => thn (ho pins s1 σ H1 _ I1 q1) fun u s2 ⟨x, H2, I2, rx, q2⟩ => thn (hi pins s2 σ H2 _ I2 q2) fun iv s3 hhx => ?_) hs
  obtain ⟨y, H3, I3, ry, a, H4, ex, g, q3⟩ := hhx
  subst ex
  obtain rfl : u = Value.ref a := rx
  exact d_setItem hu I3 g ry rv fun s4 I4 => ⟨σ, H4, I4, q3⟩
end


theorem dk_empty {P : Program} {w : World} {H : Hp} (h : Heap) (hb : sysModules < h.objs.size) : ObjOk P w H (h.push { cls := .type "dict", data := .dict #[] }) h.objs.size (.dK []) :=
  ⟨Nat.zero_le _, beq_eq_false_iff_ne.mpr (Ne.symm (Nat.ne_of_lt hb)), [], .nil, Heap.DictOf.new h⟩
/-- {}, to be a dict of the kind that is wanted -/
def tDNewK : TE := fun _ H Q => ∀ p, H p = none → Q (.ref p) (upd H p (.dK []))
section
variable {X : Cx} {pos : Pos}
theorem pe_dnewK : PE X (.Dict [] [] pos) tDNewK := fun pins s σ H Q I h =>
  wpAny_Dict_empty ⟨.ref s.heap.objs.size, _, I.laid (a := s.heap.objs.size) (o := .dK []) (t' := s.toks) (fun _ _ q => Heap.get?_push_of_some _ q) (Nat.le_refl _) (dk_empty s.heap I.big), rfl, h _ (I.hok.fresh (Nat.le_refl _))⟩
end

/-- the pairs of a display, from the left -/
def tPairs : List (TE × TE) → St → Hp → (List (V × V) → Hp → Prop) → Prop
  | [], _, H, Q => Q [] H
  | (tk, tv) :: r, σ, H, Q => tk σ H fun x H1 => tv σ H1 fun y H2 => tPairs r σ H2 fun ps H3 => Q ((x, y) :: ps) H3
def mergeK (kvs more : List (Key × V)) : List (Key × V) := more.foldl (fun acc kv => putK acc kv.1 kv.2) kvs
/-- {k: v, ..} with keys ints and texts; the new dict stands empty while the pairs are made -/
def tDisp (trs : List (TE × TE)) : TE := fun σ H Q => ∀ p, H p = none → tPairs trs σ (upd H p (.dK [])) fun ps H2 => H2 p = some (.dK []) ∧ ∃ kvs : List (Key × V), ps = kvs.map (fun kv => (kV kv.1, kv.2)) ∧ kvs.length ≤ 15 ∧ Q (.ref p) (upd H2 p (.dK (mergeK [] kvs)))
/-- a method call o.m(e) of a built-in, with one argument: what must be seen of the text -/
structure M1 (X : Cx) (o : Expr) (m : Str) (apos : Pos) (e : Expr) (cpos : Pos) : Prop where
  base : attributeBase o m X.env (eval o X.env) = eval o X.env
  few : ((backTo cpos (starEach [e] X.env)).all (fun x => !x.1) && (backToKw cpos (keywordEach [] X.env)).all (fun x => x.1.isSome)
    && decide (([e] : List Expr).length + ([] : List Keyword).length + (if ([] : List Keyword).isEmpty then 0 else 1) < 30)) = true
  line : (apos.endLine == cpos.line) = true
  trees : backTo cpos (starEach [e] X.env) = [(false, eval e X.env)]
structure M2 (X : Cx) (o : Expr) (m : Str) (apos : Pos) (e f : Expr) (cpos : Pos) : Prop where
  base : attributeBase o m X.env (eval o X.env) = eval o X.env
  few : ((backTo cpos (starEach [e, f] X.env)).all (fun x => !x.1) && (backToKw cpos (keywordEach [] X.env)).all (fun x => x.1.isSome)
    && decide (([e, f] : List Expr).length + ([] : List Keyword).length + (if ([] : List Keyword).isEmpty then 0 else 1) < 30)) = true
  line : (apos.endLine == cpos.line) = true
  trees : backTo cpos (starEach [e, f] X.env) = [(false, eval e X.env), (false, eval f X.env)]

/-- a is a dict, whatever its keys -/
def IsD (H : Hp) (a : Addr) : Prop := (∃ kvs, Rd H a (.dK kvs)) ∨ ∃ kvs, Rd H a (.dT kvs)
theorem isD_at {X : Cx} {pins : List (Addr × Obj)} {σ : St} {H : Hp} {s : Shared} {a : Addr} (I : Inv X pins σ H s) (d : IsD H a) :
    s.TypeIs (.ref a) "dict" ∧ (∀ b, Value.ref a = .ref b → ∃ ob, s.heap.get? b = some ob ∧ ob.dict = none) ∧ (a == sysModules) = false := by
  rcases d with ⟨kvs, e⟩ | ⟨kvs, e⟩
  · obtain ⟨_, hd, vs, _, dd⟩ := dk_rd I.hok e
    refine ⟨dd.typeIs, fun b q => ?_, hd⟩
    cases q
    obtain ⟨ob, _, _, h1, h2, _⟩ := dd
    exact ⟨ob, h1, h2.2.1⟩
  · obtain ⟨_, hd, xs, _, dd⟩ := dt_rd I.hok e
    refine ⟨dd.typeIs, fun b q => ?_, hd⟩
    cases q
    obtain ⟨ob, _, _, h1, h2, _⟩ := dd
    exact ⟨ob, h1, h2.2.1⟩

section
variable {X : Cx} {pins : List (Addr × Obj)} {σ : St} {H : Hp} {s : Shared} {a : Addr} {y d : V} {u r : Value} {o : Option V} {A : Around} {E : Value → Shared → Prop}
end

section
variable {X : Cx} {o e f : Expr} {apos cpos : Pos} {td ty tx : TE}
end

section
variable {X : Cx} {pins : List (Addr × Obj)} {σ : St} {H : Hp} {s : Shared} {a : Addr} {kvs : List (Key × V)} {A : Around} {E : Value → Shared → Prop}
end


section
variable {X : Cx} {pins : List (Addr × Obj)} {σ : St} {H : Hp} {s : Shared} {a : Addr} {y : V} {u : Value} {A : Around} {E : Value → Shared → Prop}
end
end L2

namespace Att
open PySem PySem.W PySem.Calls PyProof.Rows

theorem ints_of_wellAll {P : Params} {h : Heap} : ∀ (ns : List Int) (vs : List Value), WellAll P h vs (ns.map WData.int) → IntsAre vs ns := by
  intro ns
  induction ns with
  | nil =>
    intro vs w
    rw [List.map_nil] at w
    cases w
    exact .nil
  | cons n ns ih =>
    intro vs w
    rw [List.map_cons] at w
    cases w with
    | cons a b =>
      cases a
      exact .cons _ _ (ih _ b)

theorem script_of {l : OpenLaw} {n : Nat} (hn : l.most = some n) {P : Params} {h : Heap} {args : List WData} {vals : List Value}
    (hpre : l.row.toRowW.claim.pre args = true) (hwl : WellAll P h vals args) :
    ∃ a vs ns, vals = [Value.ref a] ∧ args = [WData.list (ns.map WData.int)] ∧ h.get? a = some { cls := .type "list", data := .seq vs.toArray } ∧ IntsAre vs ns ∧ ns.length ≤ n := by
  have hsh : WShape.hasAll [] args [.list .int] = true := (pre_splitW hpre).1
  have hc : l.pre.holds [] { args := args } = true := (pre_splitW hpre).2
  obtain ⟨d, r, rfl, h1, h2⟩ := hasAllW_cons hsh
  obtain rfl := hasAllW_nil h2
  obtain ⟨xs, rfl, h3⟩ := hasW_list h1
  obtain ⟨ns, rfl⟩ := items_int h3
  have hlen : ns.length ≤ n := by
    unfold OpenLaw.pre at hc
    have h4 : (WTm.not (.lt (.lit (.int (n : Int))) (.len (.arg 0)))).holds [] { args := [.list (ns.map .int)] } = true := by
      have h4 := (holds_andW hc).1
      rw [hn] at h4
      exact h4
    have h5 := condW_of h4 (w_not (w_lt w_lit (w_len_list (w_arg rfl))))
    rw [List.length_map] at h5
    refine Nat.le_of_not_lt fun q => ?_
    have q' : (n : Int) < ((ns.length : Nat) : Int) := by omega
    first
      | (rw [decide_eq_true q'] at h5; exact absurd h5 (by decide))
      | (simp at h5; omega)
  cases hwl with
  | cons w1 w2 =>
    cases w2
    cases w1 with
    | list ho hall => exact ⟨_, _, ns, rfl, rfl, ho, ints_of_wellAll ns _ hall, hlen⟩

theorem post_true (l : OpenLaw) (args : List WData) : l.row.toRowW.claim.post args (.bool true) args = true :=
  postW_of (r := l.row.toRowW) (X := (true == true))
    (show WShape.has [] (.bool true) .bool = true by first | rfl | decide | simp [WShape.has, WShape.arms, WShape.armsAll])
    (show (WTm.eq .res (.lit (.bool true))).value [] { args := args, res := some (.bool true), after := args } = some (.bool (true == true)) from w_eq_bool (w_res rfl) w_lit) rfl

section
variable {prog : Program} {w : World} {A : Around} {E : Value → Shared → Prop} {s : Shared} {K : Frag}

end
end Att

namespace L2
open PySem PySem.Spec PyProof.Rows

theorem vals_ints : ∀ {vs : List Value} {ns : List Int}, IntsAre vs ns → Vals (ns.map V.int) vs
  | _, _, .nil => .nil
  | _, _, .cons n t h => .cons ⟨t, rfl⟩ (vals_ints h)

/-- nothing is tracked but the script, known to the object (or it is an object of the module) -/
def Only (H : Hp) : Prop := ∀ b, H b = none ∨ ∃ o xs, H b = some (.frz o (.lst xs))

/-- THE HEAD: the law's promise, at the heap behind the top. F, the promise of the law's def, may use that base is part of the heap (so K.In base, base.Ns mainGlobals mg stand in Mod) -/
theorem law_call {P : Program} {w : World} {K : PySem.W.Frag} {mg mb : Str → Option Value} {CX : CXT} {k : Nat} {fa a : Addr} {fd : FuncData} {x : Str} {sp : Sp} {s₁ : Shared} {vs : List Value} {ns : List Int}
    (KX : K.In s₁.heap) (hns : s₁.heap.Ns mainGlobals mg) (hb : s₁.heap.Ns builtinsNs mb) (hbb : ∀ x : Str, x ≠ "__name__" → mb x = bootBuiltins x) (hlim : s₁.heap.NoLimit) (hg : s₁.gens = #[])
    (ha : s₁.heap.get? a = some { cls := .type "list", data := .seq vs.toArray }) (hi : IntsAre vs ns) (hl : ns.length ≤ sizeLine) (hr : Room k callerA)
    (F : ∀ base : Heap, K.In base → base.Ns mainGlobals mg → FnOk P w K mg base CX k fa fd [x] sp) (hbind : ∀ (s : Shared) (u : Value), BindsTo s fd ⟨[u], []⟩ [(x, u)])
    (hsp : ∀ H : Hp, Only H → SqL K H a (ns.map V.int) → sp [.ref a] H (fun v _ => v = .bl true) fun _ _ _ => False)
    (hCX : ∀ H e s', CX [] H s₁ (fun _ _ _ => False) e s' → False) :
    codeAny (model P w) callerA (.call (.ref fa) ⟨[.ref a], []⟩) (fun r s' => r = .ok (.ret (.bool true)) ∧ OldK s₁.heap s'.heap ∧ s'.os = s₁.os ∧ AllBare s'.gens) s₁ := by
  have rv := vals_ints hi
  have lenV := hi.length
  -- from an abstract heap in which nothing but the script may be tracked
  have core : ∀ H : Hp, Only H → SqL K H a (ns.map V.int) → HOk P w H s₁.heap → (∀ b, H b ≠ none → b = a) → (H a ≠ none → K.lookup a = none) →
      codeAny (model P w) callerA (.call (.ref fa) ⟨[.ref a], []⟩) (fun r s' => r = .ok (.ret (.bool true)) ∧ OldK s₁.heap s'.heap ∧ s'.os = s₁.os ∧ AllBare s'.gens) s₁ := by
    intro H hO hS hok hA hK
    have base_of : ∀ {b : Addr} {o : Obj}, s₁.heap.get? b = some o → H b = none → (hidT s₁.heap H).get? b = some o := fun e n => hidT_get e n
    have noA : ∀ {b : Addr} {o : Obj} {es : Array DictEntry} {ep : Nat}, s₁.heap.get? b = some o → o.data = .dict es ep → H b = none := fun {b o es ep} e d => by
      cases q : H b with
      | none => rfl
      | some u =>
        have e' : b = a := hA b (by rw [q]; simp)
        subst e'
        rw [ha] at e; cases e
        have d' : Data.seq vs.toArray _ = Data.dict es ep := d
        cases d'
    have nsK : ∀ {b : Addr} {m : Str → Option Value}, s₁.heap.Ns b m → (hidT s₁.heap H).Ns b m := fun {b m} ⟨o, es, ep, e, d, r⟩ => ⟨o, es, ep, base_of e (noA e d), d, r⟩
    have hKb : K.In (hidT s₁.heap H) := fun b o e => base_of (KX b o e) (by
      cases q : H b with
      | none => rfl
      | some u =>
        have e' : b = a := hA b (by rw [q]; simp)
        subst e'
        rw [hK (by rw [q]; simp)] at e; cases e)
    have hM : Mod K mg (hidT s₁.heap H) := ⟨hKb, nsK hns, ⟨mb, nsK hb, hbb⟩, let ⟨mc, h1, h2⟩ := hlim; ⟨mc, nsK h1, h2⟩⟩
    have e0 : Env0 P w K mg (hidT s₁.heap H) callerA [] s₁ H := ⟨rfl, hM, fun b o e => of_hidT e, Nat.le_of_eq (hidT_size _ _), trivial, fun b hb => absurd (show b ∈ ([] : List Addr) from hb) (by simp), hok, .of_eq hg⟩
    refine codeAny_mono ((F _ hKb (nsK hns)).run callerA [] s₁ H ⟨[.ref a], []⟩ [.ref a] [.ref a] _ _ hr e0 (hbind s₁ (.ref a)) (.cons rfl .nil) (hsp H hO hS)) fun r s' h => ?_
    cases r with
    | error e => exact (hCX H e s' h).elim
    | ok fl =>
      cases fl with
      | next => exact False.elim h
      | brk => exact False.elim h
      | cont => exact False.elim h
      | ret u =>
        obtain ⟨v, H', os, bare, un, hok', r', q⟩ := h
        have q' : v = .bl true := q
        subst q'
        obtain rfl : u = Value.bool true := r'
        refine ⟨rfl, OldK.of_keep fun b o e => ?_, os, bare⟩
        cases q : H b with
        | none => exact un.keep b o e q (by intro z; exact absurd (show b ∈ ([] : List Addr) from z) (by simp)) (by simp)
        | some u =>
          rcases hO b with z | ⟨ob, xs, z⟩
          · rw [q] at z; cases z
          · have z2 := un.frzs b ob _ z
            obtain ⟨e1, _⟩ := hok b _ z
            obtain ⟨e2, _⟩ := hok' b _ z2
            rw [e] at e1; cases e1
            exact e2
  cases hk : K.lookup a with
  | some o =>
    -- the script is one of the module's own objects
    have e := KX a o hk
    rw [ha] at e
    cases e
    refine core (fun _ => none) (fun _ => .inl rfl) (.inr ⟨_, vs.toArray, _, hk, rfl, rfl, rfl, by rw [List.size_toArray, lenV]; exact hl, by simpa using rv⟩) (fun b u z => by have z' : (none : Option HO) = some u := z; cases z') (fun b z => absurd rfl z) fun z => absurd rfl z
  | none =>
    refine core (fun b => if b = a then some (.frz { cls := .type "list", data := .seq vs.toArray } (.lst (ns.map V.int))) else none) (fun b => ?_) (.inl (.inr ⟨{ cls := .type "list", data := .seq vs.toArray }, if_pos rfl⟩)) (fun b u z => ?_) (fun b z => ?_) fun _ => hk
    · by_cases hb : b = a
      · exact .inr ⟨_, _, if_pos hb⟩
      · exact .inl (if_neg hb)
    · by_cases hb : b = a
      · have z' := (if_pos hb).symm.trans z
        cases z'
        subst hb
        exact ⟨ha, by rw [List.length_map]; exact hl, vs, _, rv, ha⟩
      · have z' := (if_neg hb).symm.trans z
        cases z'
    · by_cases hb : b = a
      · exact hb
      · exact absurd (if_neg hb) z
end L2

namespace L2
open PySem PySem.Spec PyProof.Rows

end L2

/- THE LAST THEOREM (shape; LID, My.* are yours):
   My.Adr: a structure of the addresses that your layer names (classes, functions); My.Txt K t: a structure (Prop) of the equations over K;
   My.txt_mk : {K} {implicit addresses ..} (e1 : nsIn K mainGlobals "law" = some (some (.ref f))) (e2 : K.lookup f = some ⟨oc, od, .func (fnOf "law" "law" params body scope dV kV doc pm an cdv ct), sl⟩) (e3 : codeIn K cdv "law" = true) .. : ∃ t, My.Txt K t

set_option maxRecDepth 100000 in
set_option maxHeartbeats 0 in
theorem PySem.Challenge.cw_LID_holds : PySem.Challenge.rw_LID.Holds := by
  w_on; o_law; k_head; (case hw => w_witness2)
  k_fill
  refine L2.walk_of (l := PySem.Challenge.rw_LID) (n := 63) (k := 40) (x := "script") (CX := fun w => ..) (sp := fun _ => My.sp_law) rfl (by decide) rfl ⟨rfl, by decide, by decide⟩ (fun w h Y => PySem.W.kIn_of Y) ?F ?S ?C
  case F =>
    intro w mg fa h KX G hmg
    have T : ∃ t, My.Txt (L2.KOf KX) t := by
      dsimp only [L2.KOf]                          -- K must stand as «<heap const> w.params» for k_is
      refine' My.txt_mk ?e1 ?e2 ?e3 ..
      (case e1 => PySem.W.k_is)                    -- in the order: a name -> its address -> its object -> its parts
      (case e2 => PySem.W.k_is)
      ..
    obtain ⟨t, T⟩ := T
    have e0 := hmg.symm.trans (PySem.W.mg_of KX G T.law)
    cases e0                                       -- fa is the law's own address
    exact ⟨_, fun s u => .of_eq rfl, fun base kb nb => My.law_fn T kb nb⟩     -- if «.of_eq rfl» comes too early: refine' ⟨_, ?b, fun base kb nb => My.law_fn T kb nb⟩; exact fun s u => .of_eq rfl
  case S => exact fun w H a ns hl hO hS => ..
  case C => exact ..
(the tactic k_is has no namespace: write k_is) -/

namespace L2
open PySem PySem.Spec PyProof.Rows

def defArgs (s : Stmt) : Arguments := match s with
  | .FunctionDef _ a _ _ _ _ _ _ _ _ => a
  | _ => { posonlyargs := [], args := [], vararg := none, kwonlyargs := [], kw_defaults := [], kwarg := none, defaults := [] }
def defBody (s : Stmt) : List Stmt := match s with
  | .FunctionDef _ _ b _ _ _ _ _ _ _ => b
  | _ => []
def defScope (s : Stmt) : Scope := match s with
  | .FunctionDef _ _ _ _ _ _ sc _ _ _ => sc
  | _ => { kind := .function, names := [], isGenerator := false, isCoroutine := false }

abbrev CX0 : CXT := fun _ _ _ _ _ _ => False
abbrev E0 : XK := fun _ _ _ => False
theorem pass0 {X : Cx} : Passes CX0 X E0 := fun _ _ _ _ _ _ _ h => h.elim

structure Fun (K : PySem.W.Frag) (x qual : Str) (st : Stmt) (f : Addr) (fd : FuncData) : Prop where
  ex : ∃ (oc : Value) (od : Option Addr) (kV doc pm : Value) (an : Option Addr) (cdv ct : Value) (osl : Array (Option Value)),
    fd = PySem.W.fnOf x qual (defArgs st) (defBody st) (defScope st) .none kV doc pm an cdv ct ∧ K.lookup f = some ⟨oc, od, .func fd, osl⟩ ∧ PySem.W.codeIn K cdv qual = true
  kp : PySem.W.keepIn K (.ref f) = true
section
variable {P : Program} {w : World} {K : PySem.W.Frag} {mg : Str → Option Value} {base : Heap}
/-- THE RULE for a def: its body as a term of rules, and the reading of that term -/
theorem Fun.ok {x qual : Str} {st : Stmt} {f : Addr} {fd : FuncData} {N ps : List Str} {k : Nat} {sp : Sp} (F : Fun K x qual st f fd) (S : FnScope N ps (defScope st)) (len : ∀ vs H Q E, sp vs H Q E → vs.length = ps.length)
    (hbody : ∀ (cdv : Value) (A : Around) (outer : List Env) (s : Shared) (H : Hp) (vs : List V) (Q : VK) (E : XK), Room k (A.deeper (envOfC qual (defScope st) s.heap.objs.size f cdv)) → sp vs H Q E →
      ∃ t, PSs (cxOf CX0 P w K mg base N qual (defScope st) f cdv A outer s H E).nox (defBody st) t ∧ t { nx := fun _ H' => Q .non H', rt := Q } (start N vs) H) : FnOk P w K mg base CX0 (k + 1) f fd ps sp := by
  obtain ⟨oc, od, kV, doc, pm, an, cdv, ct, osl, rfl, lk, hcd⟩ := F.ex
  refine fn_of lk hcd S len fun A outer s H vs Q E hr hsp => ?_
  obtain ⟨t, h, q⟩ := hbody cdv A outer s H vs Q E hr hsp
  exact ⟨t, h.nox, q⟩
/-- how its arguments bind (no defaults): h is «fun _ _ _ _ _ _ us hl => match us, hl with | [_, _], _ => rfl», one _ a parameter -/
theorem Fun.binds {x qual : Str} {st : Stmt} {f : Addr} {fd : FuncData} {ps : List Str} (F : Fun K x qual st f fd)
    (h : ∀ (kV doc pm : Value) (an : Option Addr) (cdv ct : Value) (us : List Value), us.length = ps.length → bindArgs (PySem.W.fnOf x qual (defArgs st) (defBody st) (defScope st) .none kV doc pm an cdv ct) ⟨us, []⟩ = pure (ps.zip us)) : Binds K fd ps [] := by
  obtain ⟨oc, od, kV, doc, pm, an, cdv, ct, osl, rfl, lk, hcd⟩ := F.ex
  exact .all (h kV doc pm an cdv ct)
theorem fun_mk {x qual : Str} {st : Stmt} {f : Addr} {oc : Value} {od an : Option Addr} {osl : Array (Option Value)} {kV doc pm cdv ct : Value} (l : K.lookup f = some ⟨oc, od, .func (PySem.W.fnOf x qual (defArgs st) (defBody st) (defScope st) .none kV doc pm an cdv ct), osl⟩)
    (c : PySem.W.codeIn K cdv qual = true) (k : PySem.W.keepIn K (.ref f) = true) : Fun K x qual st f (PySem.W.fnOf x qual (defArgs st) (defBody st) (defScope st) .none kV doc pm an cdv ct) := ⟨⟨oc, od, kV, doc, pm, an, cdv, ct, osl, rfl, l, c⟩, k⟩
end
theorem hu_of {A : Around} {k : Nat} (hr : Room k A) : A.units + 1 < cLine := Nat.lt_of_le_of_lt (Nat.add_le_add_left (by decide : 1 ≤ 64) _) hr.units
section
variable {X : Cx}
end

theorem iteF {A B : Prop} (h : B) : if false = true then A else B := by
  rw [if_neg Bool.false_ne_true]
  exact h
theorem iteT {A B : Prop} (h : A) : if true = true then A else B := by
  rw [if_pos rfl]
  exact h
/-- all that was tracked is as it was -/
def Same (H H' : Hp) : Prop := ∀ b o, H b = some o → H' b = some o
theorem Same.refl (H : Hp) : Same H H := fun _ _ h => h
theorem Same.trans {H H1 H2 : Hp} (a : Same H H1) (b : Same H1 H2) : Same H H2 := fun c o h => b c o (a c o h)
theorem Same.free {H H' : Hp} (e : Same H H') {l : Addr} (h : H' l = Option.none) : H l = Option.none := by
  cases q : H l with
  | none => rfl
  | some o =>
    rw [e l o q] at h
    cases h
theorem Same.seq {K : PySem.W.Frag} {H H' : Hp} {a : Addr} {xs : List V} (e : Same H H') (h : SqL K H a xs) : SqL K H' a xs := by
  rcases h with (h | ⟨o, h⟩) | h
  · exact .inl (.inl (e _ _ h))
  · exact .inl (.inr ⟨o, e _ _ h⟩)
  · exact .inr h

end L2

namespace L2
open PySem PySem.Spec PyProof.Rows
section
variable {X : Cx}
/-- len of a dict -/
theorem call_lenD : CallR X (.builtin "len") (fun xs H Q => ∃ a kvs, xs = [V.ref a] ∧ H a = some (.dK kvs) ∧ Q (.int kvs.length) H) := by
  intro pins s σ H xs us Q I r h
  obtain ⟨a, kvs, rfl, ha, q⟩ := h
  obtain ⟨u, rfl, ru⟩ := vals1 r
  cases ru
  exact d_len I (.inl ha) fun t s' I' => ⟨.int kvs.length, H, I', ⟨t, rfl⟩, q⟩
end
section
variable {κ : Type} [DecidableEq κ]
end
end L2
set_option Elab.async false
set_option linter.all false
set_option maxRecDepth 100000
namespace L2
open PySem PySem.Spec PyProof.Rows

section
variable {X : Cx}
def CDivB (i j : Int) : Prop := 0 < j ∧ j.natAbs.log2 < 9000
theorem op_fdivB : OpR X (binaryOp .FloorDiv) (rI CDivB fun i j => .int (i / j)) := opI fun i j _ _ _ _ _ hc q => by
  have h1 : (0 : Int) < j := hc.1
  exact floordiv_int (by omega) (by rw [Int.fdiv_eq_ediv_of_nonneg i (by omega)]; exact q) (.inl (PyProof.noPylong_of_log2 hc.2))
theorem op_mulB : OpR X (binaryOp .Mult) (rI IntMulOk fun i j => .int (i * j)) := opI fun _ _ _ _ _ _ _ hc q => mul_int q hc
theorem CDivB.small {i j : Int} (h : 0 < j) (h2 : j < 1073741824) : CDivB i j := ⟨h, by
  have h3 : j.natAbs.log2 < 30 := (Nat.log2_lt (by omega)).mpr (by omega)
  omega⟩

end

theorem ite_dec {c A B : Prop} [Decidable c] (h1 : c → A) (h2 : ¬ c → B) : if decide c = true then A else B := by
  by_cases h : c
  · rw [if_pos (decide_eq_true h)]; exact h1 h
  · rw [if_neg (fun q => h (of_decide_eq_true q))]; exact h2 h
theorem ite_ndec {c A B : Prop} [Decidable c] (h1 : ¬ c → A) (h2 : c → B) : if (!decide c) = true then A else B := by
  by_cases h : c
  · rw [decide_eq_true h]; exact iteF (h2 h)
  · rw [decide_eq_false h]; exact iteT (h1 h)

structure DefAt (K : PySem.W.Frag) (mg : Str → Option Value) (x : Str) (st : Stmt) (ps : List Str) (f : Addr) (fd : FuncData) : Prop where
  F : Fun K x x st f fd
  B : Binds K fd ps []
  M : mg x = some (.ref f)
theorem pe_callD {X : Cx} {k : Nat} {f : Addr} {fd : FuncData} {ps : List Str} {sp : Sp} {x : Str} {st : Stmt} {p pos : Pos} {e : Expr} {es : List Expr} {t : TA} (D : DefAt X.K X.mg x st ps f fd) (G : FnOk X.prog X.w X.K X.mg X.base CX0 k f fd ps sp) (hr : Room k X.A)
    (ha : PA X (e :: es) t) (hg : Gl X x := by rfl) (hdb : (x == ("__debug__" : Str)) = false := by decide) (he : starEach (e :: es) X.env = (false, eval e X.env) :: starEach es X.env := by rfl) (hpl : (backTo pos (starEach es X.env)).any (·.1) = false := by rfl) :
    PE X (.Call (.Name x p) (e :: es) [] pos) (tCall sp [] E0 t) := pe_call G hr hg D.M D.F.kp D.B .nil pass0 ha hdb he hpl

/-- (0, first), (1, second), ..: a new pair at each turn -/
def Ite (K : PySem.W.Frag) (a : Addr) : It :=
  ⟨fun i H => ∃ xs x, SqL K H a xs ∧ xs[i]? = some x,
   fun i H x H' => ∃ p y, x = .ref p ∧ H p = none ∧ H' = upd H p (.tup [.int i, y]) ∧ ∀ xs, SqL K H a xs → xs[i]? = some y,
   fun i H => ∃ xs, SqL K H a xs ∧ xs.length ≤ i⟩
theorem turn_enum {P : Program} {w : World} {K : PySem.W.Frag} {elts : List Expr} {k0 : Nat} {pos0 : Pos} (a e it : Addr) (hei : e ≠ it) :
    Turn P w K (.Tuple elts k0 pos0) (Ite K a) [e, it] e (fun i h => (∃ old, IsEnum h e it i old) ∧ h.IsListIter it a i) where
  mem := by simp
  obj := fun i h ⟨⟨old, he⟩, hit⟩ b hb => by
    rcases List.mem_cons.mp hb with rfl | hb
    · exact ⟨_, he, fun v z => by
        have z' : Data.fields _ = Data.cell v := z
        cases z'⟩
    · have e' : b = it := by simpa using hb
      subst e'
      obtain ⟨o, q, c, d⟩ := hit
      exact ⟨o, q, fun v z => by rw [d] at z; cases z⟩
  keep := fun i h h' ⟨⟨old, he⟩, hit⟩ k => ⟨⟨old, k e (by simp) _ he⟩, hit.at fun o q => k it (by simp) o q⟩
  item := by
    intro X hP hw hK hc i pins s σ H E I hf st hg
    subst hP hw hK
    obtain ⟨xs, x, hq, hx⟩ := hg
    obtain ⟨its, rv, p, hz⟩ := I.list hq
    obtain ⟨u, hu, ru⟩ := rv.get hx
    obtain ⟨⟨old, he⟩, hit⟩ := st
    obtain ⟨f0, f1, f2, f3, f4, f5⟩ := hf e (by simp)
    obtain ⟨g0, g1, g2, g3, g4, g5⟩ := hf it (by simp)
    refine wpAny_pyNext_enum_item he hit p.isList (x := u) (by simpa using hu) hei fun h1 ho hit1 hT hsz hk => ?_
    refine ⟨_, rfl, wpAny_letOwnedTupleGo_enum ho fun h2 he2 hs2 => ?_⟩
    replace hs2 : Heap.SameBut e h1 h2 := hs2
    have helt : e < s.heap.objs.size := Heap.lt_size he
    have hk2 : ∀ b o, b ≠ e → b ≠ it → s.heap.get? b = some o → h2.get? b = some o := fun b o b1 b2 q => (hs2.2 b b1).trans (hk b o b1 b2 q)
    have hT2 : h2.get? s.heap.objs.size = some { cls := .type "tuple", data := .seq #[.int i s.toks, u] } := (hs2.2 _ (Nat.ne_of_gt helt)).trans hT
    have hn : H s.heap.objs.size = none := I.hok.fresh (Nat.le_refl _)
    have nE : ∀ b v, H b = some v → b ≠ e := fun b v q z => by rw [z, f0] at q; cases q
    have nI : ∀ b v, H b = some v → b ≠ it := fun b v q z => by rw [z, g0] at q; cases q
    have ok2 : HOk X.prog X.w H h2 := fun b v q => (I.hok b v q).stay (fun c v' hc r => by
      rcases hc with z | z
      · exact hk2 c v' (by rw [z]; exact nE b v q) (by rw [z]; exact nI b v q) r
      · exact hk2 c v' (nE c _ z) (nI c _ z) r) (fun _ r => r) fun _ _ r => r
    have ok3 : HOk X.prog X.w (upd H s.heap.objs.size (.tup [.int i, x])) h2 := fun b v q => by
      by_cases hb : b = s.heap.objs.size
      · subst hb
        rw [upd_same] at q
        cases q
        exact ⟨by show 2 ≤ sizeLine; decide, [.int i s.toks, u], .cons ⟨_, rfl⟩ (.cons ru .nil), ⟨_, hT2, rfl, _, rfl⟩⟩
      · rw [upd_ne hb] at q
        exact (ok2 b v q).stay (fun c v' _ r => r) (fun c r => by rw [upd_ne (ne_of_none r hn)]; exact r) fun c ys r => by rw [upd_ne (ne_of_none r hn)]; exact r
    have nlt : ∀ {b : Addr} {o : Obj}, s.heap.get? b = some o → b ≠ s.heap.objs.size := fun q => Nat.ne_of_lt (Heap.lt_size q)
    have I2 : Inv X pins σ (upd H s.heap.objs.size (.tup [.int i, x])) { s with heap := h2, toks := s.toks + 1 } :=
      I.step (g' := s.gens) (d' := s.drawn) (ch := [e, it]) (fun b hb => by
          rcases List.mem_cons.mp hb with rfl | hb
          · exact ⟨f3, f1, f4, f5⟩
          · have e' : b = it := by simpa using hb
            subst e'
            exact ⟨g3, g1, g4, g5⟩)
        (fun b o _ _ hc q _ => hk2 b o (fun z => hc (by simp [z])) (fun z => hc (by simp [z])) q)
        (fun b o _ _ hc q _ => ⟨o.slots, hk2 b o (fun z => hc (by simp [z])) (fun z => hc (by simp [z])) q⟩)
        (fun b o _ q n => by rw [upd_ne (nlt q)]; exact n)
        (fun b o hc q => ⟨o, hk2 b o (fun z => hc (by simp [z])) (fun z => hc (by simp [z])) q⟩)
        (fun b ys q => by rw [upd_ne (ne_of_none q hn)]; exact q) (fun b o v q => by rw [upd_ne (ne_of_none q hn)]; exact q) (fun b ps q => ⟨#[], by rw [upd_ne (ne_of_none q hn), q]; simp⟩)
        (fun m ⟨o, es, ep, hm, r⟩ => ⟨o, es, ep, hk2 _ o (Ne.symm f1) (Ne.symm g1) hm, r⟩) ok3 I.bare
    refine ⟨.ref s.heap.objs.size, _, I2, rfl, ⟨_, x, rfl, hn, rfl, fun ys hy => by rw [I.list_inj hy hq]; exact hx⟩, ⟨⟨_, by simpa using he2⟩, hit1.at fun o y => (hs2.2 it hei.symm).trans y⟩, fun b hb => ?_⟩
    rcases List.mem_cons.mp hb with rfl | hb
    · rw [upd_ne (Nat.ne_of_lt helt)]; exact f0
    · have e' : b = it := by simpa using hb
      subst e'
      obtain ⟨o, q, _⟩ := hit
      rw [upd_ne (nlt q)]; exact g0
  done := by
    intro X hP hw hK hc i pins s σ H E I hf st hg
    subst hP hw hK
    obtain ⟨xs, hq, hx⟩ := hg
    obtain ⟨its, rv, p, hz⟩ := I.list hq
    obtain ⟨⟨old, he⟩, hit⟩ := st
    obtain ⟨g0, g1, g2, g3, g4, g5⟩ := hf it (by simp)
    have hl := rv.length
    exact wpAny_pyNext_enum_end (I.ok.hd hc) he hit p.isList (by simp; omega) fun h' eb => ⟨rfl, I.turned (t' := s.toks) (it := it) (fun b o hb q => eb b o hb q) g0 g1 g3 g4 g5⟩
  self := fun _ _ _ _ _ ⟨⟨_, he⟩, _⟩ h => wpAny_pyIter_enum he h
def iEnum (K : PySem.W.Frag) (ta : TA) : TI := fun σ H R => ta σ H fun vs H1 => ∃ a, vs = [.ref a] ∧ (∃ xs, SqL K H1 a xs) ∧ R (Ite K a) H1
theorem pi_enum {X : Cx} {a : Expr} {ta : TA} {p pos pos0 : Pos} {elts : List Expr} {k0 : Nat} (hm : X.mg "enumerate" = none) (ha : PA X [a] ta) (hg : Gl X "enumerate" := by rfl) (hs : starEach [a] X.env = [(false, eval a X.env)] := by rfl) :
    PI X (.Tuple elts k0 pos0) (.Call (.Name "enumerate" p) [a] [] pos) (iEnum X.K ta) := by
  intro pins s σ H R I h
  refine Call_ (ld_blt I hg hm boot_enumerate (PyProof.Rows.callWith_type1 (thn (ha pos pins s σ H _ I h) fun us s1 hhx => ?_) hs rfl))
  obtain ⟨vs, H1, I1, r1, q1⟩ := hhx
  obtain ⟨l, e, ⟨xs, hq⟩, q⟩ := q1
  subst e
  cases r1 with
  | cons r rr =>
    cases rr
    cases r
    obtain ⟨its, rv, pl, hz⟩ := I1.list hq
    refine call_enumerate_list pl.isList fun h' he hit hsz hk => ?_
    refine wpAny_pyIter_enum he ?_
    have I2 : Inv X pins σ H1 { s1 with heap := h' } := I1.kept (t' := s1.toks) hk
    refine ⟨s1.heap.objs.size + 1, [s1.heap.objs.size + 1, s1.heap.objs.size], _, _, H1, rfl, I2, turn_enum l _ _ (Nat.succ_ne_self _), ⟨⟨_, he⟩, hit⟩, fun b hb => ?_, q⟩
    have hle : s1.heap.objs.size ≤ b := by
      rcases List.mem_cons.mp hb with rfl | hb
      · exact Nat.le_succ _
      · rw [List.mem_singleton.mp hb]; exact Nat.le_refl _
    exact I1.fpOk hle (I1.hok.fresh hle)
theorem for_enum {K : PySem.W.Frag} {a : Addr} {xs : List V} {g : TG} {tb : TS} {D : Ends} {σ : St} {H : Hp} (Pv : Nat → St → Hp → Prop) (h0 : Pv 0 σ H) (hl : ∀ i σ H, i ≤ xs.length → Pv i σ H → SqL K H a xs)
    (hs : ∀ (i : Nat) x σ H p, xs[i]? = some x → H p = none → Pv i σ H → g (.ref p) σ (upd H p (.tup [.int i, x])) fun σ2 H2 => tb { D with nx := Pv (i + 1), ct := Pv (i + 1), bk := D.nx } σ2 H2) (hd : ∀ σ H, Pv xs.length σ H → D.nx σ H) :
    ∃ W : Nat → Nat → St → Hp → Prop, (∃ m, W 0 m σ H) ∧ ∀ i m σ H, W i m σ H →
      ((Ite K a).stop i H ∧ D.nx σ H) ∨ ((Ite K a).go i H ∧ ∃ N : St → Hp → Prop, (∀ σ' H', N σ' H' → ∃ m', m' < m ∧ W (i + 1) m' σ' H') ∧ ∀ x H', (Ite K a).yld i H x H' → g x σ H' fun σ2 H2 => tb { D with nx := N, ct := N, bk := D.nx } σ2 H2) := by
  refine ⟨fun i m σ H => m = xs.length - i ∧ i ≤ xs.length ∧ Pv i σ H, ⟨xs.length, by simp, Nat.zero_le _, h0⟩, ?_⟩
  rintro i m σ H ⟨rfl, hi, p⟩
  have q := hl i σ H hi p
  by_cases hlt : i < xs.length
  · refine .inr ⟨⟨xs, xs[i], q, by simp [hlt]⟩, Pv (i + 1), fun σ' H' p' => ⟨xs.length - (i + 1), by omega, rfl, hlt, p'⟩, fun x H' y => ?_⟩
    obtain ⟨pp, z, ex, hn, eH, y⟩ := y
    subst ex eH
    exact hs i z σ H pp (y xs q) hn p
  · have e : i = xs.length := by omega
    subst e
    exact .inl ⟨⟨xs, q, Nat.le_refl _⟩, hd σ H p⟩

theorem bits_of_lay {ns : List Int} (h : PySem.W.WData.layableAll [PySem.W.WData.list (ns.map PySem.W.WData.int)] = true) : ∀ n ∈ ns, Builtin.Int.intBits n ≤ 2 ^ 20 := fun n hn => by
  have h1 := (PySem.W.layW_cons h).1
  have h2 := PySem.W.layableW_item h1 (PySem.W.WData.int n) (List.mem_map.mpr ⟨n, hn, rfl⟩)
  exact PyData.bits_of_layable (PySem.W.layable0_of_all (PySem.W.lay0_int h2))

section
open PySem.W PySem.Calls
theorem walk_ofL {l : PySem.W.OpenLaw} {n k : Nat} {q : Program} {loose : List Str} {XP : (Str → Option Value) → Heap → Prop} {YP : World → Heap → Prop} {d : DefRec} {K : Params → PySem.W.Frag} {CX : World → CXT} {sp : World → Sp} {x : Str}
    (hn : l.most = some n) (hn2 : n ≤ sizeLine) (hdf : d.params.defaults = []) (hr : Room k callerA)
    (hY : ∀ (w : World) (h : Heap), YP w h → (K w.params).In h)
    (F : ∀ (w : World) (mg : Str → Option Value) (fa : Addr) (h : Heap), (K w.params).In h → h.Ns mainGlobals mg → mg d.name = some (.ref fa) →
      ∃ fd : FuncData, (∀ (s : Shared) (u : Value), BindsTo s fd ⟨[u], []⟩ [(x, u)]) ∧
        ∀ base : Heap, (K w.params).In base → base.Ns mainGlobals mg → FnOk l.prog w (K w.params) mg base (CX w) k fa fd [x] (sp w))
    (hsp : ∀ (w : World) (H : Hp) (a : Addr) (ns : List Int), ns.length ≤ n → (∀ z ∈ ns, Builtin.Int.intBits z ≤ 2 ^ 20) → Only H → SqL (K w.params) H a (ns.map V.int) → sp w [.ref a] H (fun v _ => v = .bl true) fun _ _ _ => False)
    (hCX : ∀ (w : World) (H : Hp) (s : Shared) (e : Value) (s' : Shared), CX w [] H s (fun _ _ _ => False) e s' → False) :
    PySem.W.WalkO q loose XP YP l.row.toRowW d [] (fun f vs => PySem.call f vs) := by
  intro w s₀ s₁ mg mb G Y fa o pm cd doc dV kV ho hd hcd hD hmg hg args vals as hpre hlay hrd hwl hlo
  obtain rfl : dV = .none := Dflts.none hD hdf
  obtain rfl : kV = .none := Dflts.noKw hD
  obtain ⟨a, vs, ns, rfl, rfl, hobj, hints, hlen⟩ := Att.script_of hn hpre hwl
  have KX := hY w _ Y
  obtain ⟨fd, hb, hF⟩ := F w mg fa _ KX G.T.g hmg
  refine enter_call (codeAny_mono (law_call KX G.T.g G.T.b G.T.builtins G.T.nolimit hg hobj hints (Nat.le_trans hlen hn2) hr hF hb (fun H hO hS => hsp w H a ns hlen (bits_of_lay hlay) hO hS) fun H e s' => hCX w H s₁ e s') fun r s' hq => ?_)
  obtain ⟨rfl, h2, h3, h4⟩ := hq
  exact ⟨.inl ⟨.bool true, .bool true, [], rfl, fun _ => rfl, .bool true, Att.post_true l _, fun _ => ⟨List.Pairwise.nil, fun _ hm => (nomatch hm)⟩⟩, h2, h3, h4⟩
end
end L2
set_option Elab.async false
set_option linter.all false
set_option maxRecDepth 100000
namespace L2
open PySem PySem.Spec PyProof.Rows
section
variable {H : Hp} {Q : VK} {σ : St} {D : Ends}
theorem r_v0 {v : V} {r : St}  : tVar 0 (some v :: r) H Q = Q v H := propext ⟨by rintro ⟨_, e, q⟩; cases e; exact q, by intro q; exact ⟨v, rfl, q⟩⟩
theorem r_g0 {v : V} {b : Option V} {r : St} {Z : St → Hp → Prop}  : gName 0 v (b :: r) H Z = Z (some v :: r) H := rfl
theorem r_v1 {v : V} {r : St} {a0 : Option V} : tVar 1 (a0 :: some v :: r) H Q = Q v H := propext ⟨by rintro ⟨_, e, q⟩; cases e; exact q, by intro q; exact ⟨v, rfl, q⟩⟩
theorem r_g1 {v : V} {b : Option V} {r : St} {Z : St → Hp → Prop} {a0 : Option V} : gName 1 v (a0 :: b :: r) H Z = Z (a0 :: some v :: r) H := rfl
theorem r_v2 {v : V} {r : St} {a0 : Option V} {a1 : Option V} : tVar 2 (a0 :: a1 :: some v :: r) H Q = Q v H := propext ⟨by rintro ⟨_, e, q⟩; cases e; exact q, by intro q; exact ⟨v, rfl, q⟩⟩
theorem r_g2 {v : V} {b : Option V} {r : St} {Z : St → Hp → Prop} {a0 : Option V} {a1 : Option V} : gName 2 v (a0 :: a1 :: b :: r) H Z = Z (a0 :: a1 :: some v :: r) H := rfl
theorem r_v3 {v : V} {r : St} {a0 : Option V} {a1 : Option V} {a2 : Option V} : tVar 3 (a0 :: a1 :: a2 :: some v :: r) H Q = Q v H := propext ⟨by rintro ⟨_, e, q⟩; cases e; exact q, by intro q; exact ⟨v, rfl, q⟩⟩
theorem r_g3 {v : V} {b : Option V} {r : St} {Z : St → Hp → Prop} {a0 : Option V} {a1 : Option V} {a2 : Option V} : gName 3 v (a0 :: a1 :: a2 :: b :: r) H Z = Z (a0 :: a1 :: a2 :: some v :: r) H := rfl
theorem r_v4 {v : V} {r : St} {a0 : Option V} {a1 : Option V} {a2 : Option V} {a3 : Option V} : tVar 4 (a0 :: a1 :: a2 :: a3 :: some v :: r) H Q = Q v H := propext ⟨by rintro ⟨_, e, q⟩; cases e; exact q, by intro q; exact ⟨v, rfl, q⟩⟩
theorem r_g4 {v : V} {b : Option V} {r : St} {Z : St → Hp → Prop} {a0 : Option V} {a1 : Option V} {a2 : Option V} {a3 : Option V} : gName 4 v (a0 :: a1 :: a2 :: a3 :: b :: r) H Z = Z (a0 :: a1 :: a2 :: a3 :: some v :: r) H := rfl
theorem r_v5 {v : V} {r : St} {a0 : Option V} {a1 : Option V} {a2 : Option V} {a3 : Option V} {a4 : Option V} : tVar 5 (a0 :: a1 :: a2 :: a3 :: a4 :: some v :: r) H Q = Q v H := propext ⟨by rintro ⟨_, e, q⟩; cases e; exact q, by intro q; exact ⟨v, rfl, q⟩⟩
theorem r_g5 {v : V} {b : Option V} {r : St} {Z : St → Hp → Prop} {a0 : Option V} {a1 : Option V} {a2 : Option V} {a3 : Option V} {a4 : Option V} : gName 5 v (a0 :: a1 :: a2 :: a3 :: a4 :: b :: r) H Z = Z (a0 :: a1 :: a2 :: a3 :: a4 :: some v :: r) H := rfl
theorem r_v6 {v : V} {r : St} {a0 : Option V} {a1 : Option V} {a2 : Option V} {a3 : Option V} {a4 : Option V} {a5 : Option V} : tVar 6 (a0 :: a1 :: a2 :: a3 :: a4 :: a5 :: some v :: r) H Q = Q v H := propext ⟨by rintro ⟨_, e, q⟩; cases e; exact q, by intro q; exact ⟨v, rfl, q⟩⟩
theorem r_g6 {v : V} {b : Option V} {r : St} {Z : St → Hp → Prop} {a0 : Option V} {a1 : Option V} {a2 : Option V} {a3 : Option V} {a4 : Option V} {a5 : Option V} : gName 6 v (a0 :: a1 :: a2 :: a3 :: a4 :: a5 :: b :: r) H Z = Z (a0 :: a1 :: a2 :: a3 :: a4 :: a5 :: some v :: r) H := rfl
theorem r_v7 {v : V} {r : St} {a0 : Option V} {a1 : Option V} {a2 : Option V} {a3 : Option V} {a4 : Option V} {a5 : Option V} {a6 : Option V} : tVar 7 (a0 :: a1 :: a2 :: a3 :: a4 :: a5 :: a6 :: some v :: r) H Q = Q v H := propext ⟨by rintro ⟨_, e, q⟩; cases e; exact q, by intro q; exact ⟨v, rfl, q⟩⟩
theorem r_g7 {v : V} {b : Option V} {r : St} {Z : St → Hp → Prop} {a0 : Option V} {a1 : Option V} {a2 : Option V} {a3 : Option V} {a4 : Option V} {a5 : Option V} {a6 : Option V} : gName 7 v (a0 :: a1 :: a2 :: a3 :: a4 :: a5 :: a6 :: b :: r) H Z = Z (a0 :: a1 :: a2 :: a3 :: a4 :: a5 :: a6 :: some v :: r) H := rfl
theorem r_v8 {v : V} {r : St} {a0 : Option V} {a1 : Option V} {a2 : Option V} {a3 : Option V} {a4 : Option V} {a5 : Option V} {a6 : Option V} {a7 : Option V} : tVar 8 (a0 :: a1 :: a2 :: a3 :: a4 :: a5 :: a6 :: a7 :: some v :: r) H Q = Q v H := propext ⟨by rintro ⟨_, e, q⟩; cases e; exact q, by intro q; exact ⟨v, rfl, q⟩⟩
theorem r_g8 {v : V} {b : Option V} {r : St} {Z : St → Hp → Prop} {a0 : Option V} {a1 : Option V} {a2 : Option V} {a3 : Option V} {a4 : Option V} {a5 : Option V} {a6 : Option V} {a7 : Option V} : gName 8 v (a0 :: a1 :: a2 :: a3 :: a4 :: a5 :: a6 :: a7 :: b :: r) H Z = Z (a0 :: a1 :: a2 :: a3 :: a4 :: a5 :: a6 :: a7 :: some v :: r) H := rfl
theorem r_g9 {v : V} {b : Option V} {r : St} {Z : St → Hp → Prop} {a0 : Option V} {a1 : Option V} {a2 : Option V} {a3 : Option V} {a4 : Option V} {a5 : Option V} {a6 : Option V} {a7 : Option V} {a8 : Option V} : gName 9 v (a0 :: a1 :: a2 :: a3 :: a4 :: a5 :: a6 :: a7 :: a8 :: b :: r) H Z = Z (a0 :: a1 :: a2 :: a3 :: a4 :: a5 :: a6 :: a7 :: a8 :: some v :: r) H := rfl
theorem r_g10 {v : V} {b : Option V} {r : St} {Z : St → Hp → Prop} {a0 : Option V} {a1 : Option V} {a2 : Option V} {a3 : Option V} {a4 : Option V} {a5 : Option V} {a6 : Option V} {a7 : Option V} {a8 : Option V} {a9 : Option V} : gName 10 v (a0 :: a1 :: a2 :: a3 :: a4 :: a5 :: a6 :: a7 :: a8 :: a9 :: b :: r) H Z = Z (a0 :: a1 :: a2 :: a3 :: a4 :: a5 :: a6 :: a7 :: a8 :: a9 :: some v :: r) H := rfl
theorem r_g11 {v : V} {b : Option V} {r : St} {Z : St → Hp → Prop} {a0 : Option V} {a1 : Option V} {a2 : Option V} {a3 : Option V} {a4 : Option V} {a5 : Option V} {a6 : Option V} {a7 : Option V} {a8 : Option V} {a9 : Option V} {a10 : Option V} : gName 11 v (a0 :: a1 :: a2 :: a3 :: a4 :: a5 :: a6 :: a7 :: a8 :: a9 :: a10 :: b :: r) H Z = Z (a0 :: a1 :: a2 :: a3 :: a4 :: a5 :: a6 :: a7 :: a8 :: a9 :: a10 :: some v :: r) H := rfl
theorem r_g12 {v : V} {b : Option V} {r : St} {Z : St → Hp → Prop} {a0 : Option V} {a1 : Option V} {a2 : Option V} {a3 : Option V} {a4 : Option V} {a5 : Option V} {a6 : Option V} {a7 : Option V} {a8 : Option V} {a9 : Option V} {a10 : Option V} {a11 : Option V} : gName 12 v (a0 :: a1 :: a2 :: a3 :: a4 :: a5 :: a6 :: a7 :: a8 :: a9 :: a10 :: a11 :: b :: r) H Z = Z (a0 :: a1 :: a2 :: a3 :: a4 :: a5 :: a6 :: a7 :: a8 :: a9 :: a10 :: a11 :: some v :: r) H := rfl
theorem r_g13 {v : V} {b : Option V} {r : St} {Z : St → Hp → Prop} {a0 : Option V} {a1 : Option V} {a2 : Option V} {a3 : Option V} {a4 : Option V} {a5 : Option V} {a6 : Option V} {a7 : Option V} {a8 : Option V} {a9 : Option V} {a10 : Option V} {a11 : Option V} {a12 : Option V} : gName 13 v (a0 :: a1 :: a2 :: a3 :: a4 :: a5 :: a6 :: a7 :: a8 :: a9 :: a10 :: a11 :: a12 :: b :: r) H Z = Z (a0 :: a1 :: a2 :: a3 :: a4 :: a5 :: a6 :: a7 :: a8 :: a9 :: a10 :: a11 :: a12 :: some v :: r) H := rfl
theorem r_g14 {v : V} {b : Option V} {r : St} {Z : St → Hp → Prop} {a0 : Option V} {a1 : Option V} {a2 : Option V} {a3 : Option V} {a4 : Option V} {a5 : Option V} {a6 : Option V} {a7 : Option V} {a8 : Option V} {a9 : Option V} {a10 : Option V} {a11 : Option V} {a12 : Option V} {a13 : Option V} : gName 14 v (a0 :: a1 :: a2 :: a3 :: a4 :: a5 :: a6 :: a7 :: a8 :: a9 :: a10 :: a11 :: a12 :: a13 :: b :: r) H Z = Z (a0 :: a1 :: a2 :: a3 :: a4 :: a5 :: a6 :: a7 :: a8 :: a9 :: a10 :: a11 :: a12 :: a13 :: some v :: r) H := rfl
theorem r_g15 {v : V} {b : Option V} {r : St} {Z : St → Hp → Prop} {a0 : Option V} {a1 : Option V} {a2 : Option V} {a3 : Option V} {a4 : Option V} {a5 : Option V} {a6 : Option V} {a7 : Option V} {a8 : Option V} {a9 : Option V} {a10 : Option V} {a11 : Option V} {a12 : Option V} {a13 : Option V} {a14 : Option V} : gName 15 v (a0 :: a1 :: a2 :: a3 :: a4 :: a5 :: a6 :: a7 :: a8 :: a9 :: a10 :: a11 :: a12 :: a13 :: a14 :: b :: r) H Z = Z (a0 :: a1 :: a2 :: a3 :: a4 :: a5 :: a6 :: a7 :: a8 :: a9 :: a10 :: a11 :: a12 :: a13 :: a14 :: some v :: r) H := rfl
theorem r_g16 {v : V} {b : Option V} {r : St} {Z : St → Hp → Prop} {a0 : Option V} {a1 : Option V} {a2 : Option V} {a3 : Option V} {a4 : Option V} {a5 : Option V} {a6 : Option V} {a7 : Option V} {a8 : Option V} {a9 : Option V} {a10 : Option V} {a11 : Option V} {a12 : Option V} {a13 : Option V} {a14 : Option V} {a15 : Option V} : gName 16 v (a0 :: a1 :: a2 :: a3 :: a4 :: a5 :: a6 :: a7 :: a8 :: a9 :: a10 :: a11 :: a12 :: a13 :: a14 :: a15 :: b :: r) H Z = Z (a0 :: a1 :: a2 :: a3 :: a4 :: a5 :: a6 :: a7 :: a8 :: a9 :: a10 :: a11 :: a12 :: a13 :: a14 :: a15 :: some v :: r) H := rfl
theorem r_g17 {v : V} {b : Option V} {r : St} {Z : St → Hp → Prop} {a0 : Option V} {a1 : Option V} {a2 : Option V} {a3 : Option V} {a4 : Option V} {a5 : Option V} {a6 : Option V} {a7 : Option V} {a8 : Option V} {a9 : Option V} {a10 : Option V} {a11 : Option V} {a12 : Option V} {a13 : Option V} {a14 : Option V} {a15 : Option V} {a16 : Option V} : gName 17 v (a0 :: a1 :: a2 :: a3 :: a4 :: a5 :: a6 :: a7 :: a8 :: a9 :: a10 :: a11 :: a12 :: a13 :: a14 :: a15 :: a16 :: b :: r) H Z = Z (a0 :: a1 :: a2 :: a3 :: a4 :: a5 :: a6 :: a7 :: a8 :: a9 :: a10 :: a11 :: a12 :: a13 :: a14 :: a15 :: a16 :: some v :: r) H := rfl
theorem r_g18 {v : V} {b : Option V} {r : St} {Z : St → Hp → Prop} {a0 : Option V} {a1 : Option V} {a2 : Option V} {a3 : Option V} {a4 : Option V} {a5 : Option V} {a6 : Option V} {a7 : Option V} {a8 : Option V} {a9 : Option V} {a10 : Option V} {a11 : Option V} {a12 : Option V} {a13 : Option V} {a14 : Option V} {a15 : Option V} {a16 : Option V} {a17 : Option V} : gName 18 v (a0 :: a1 :: a2 :: a3 :: a4 :: a5 :: a6 :: a7 :: a8 :: a9 :: a10 :: a11 :: a12 :: a13 :: a14 :: a15 :: a16 :: a17 :: b :: r) H Z = Z (a0 :: a1 :: a2 :: a3 :: a4 :: a5 :: a6 :: a7 :: a8 :: a9 :: a10 :: a11 :: a12 :: a13 :: a14 :: a15 :: a16 :: a17 :: some v :: r) H := rfl
theorem r_g19 {v : V} {b : Option V} {r : St} {Z : St → Hp → Prop} {a0 : Option V} {a1 : Option V} {a2 : Option V} {a3 : Option V} {a4 : Option V} {a5 : Option V} {a6 : Option V} {a7 : Option V} {a8 : Option V} {a9 : Option V} {a10 : Option V} {a11 : Option V} {a12 : Option V} {a13 : Option V} {a14 : Option V} {a15 : Option V} {a16 : Option V} {a17 : Option V} {a18 : Option V} : gName 19 v (a0 :: a1 :: a2 :: a3 :: a4 :: a5 :: a6 :: a7 :: a8 :: a9 :: a10 :: a11 :: a12 :: a13 :: a14 :: a15 :: a16 :: a17 :: a18 :: b :: r) H Z = Z (a0 :: a1 :: a2 :: a3 :: a4 :: a5 :: a6 :: a7 :: a8 :: a9 :: a10 :: a11 :: a12 :: a13 :: a14 :: a15 :: a16 :: a17 :: a18 :: some v :: r) H := rfl
theorem r_g20 {v : V} {b : Option V} {r : St} {Z : St → Hp → Prop} {a0 : Option V} {a1 : Option V} {a2 : Option V} {a3 : Option V} {a4 : Option V} {a5 : Option V} {a6 : Option V} {a7 : Option V} {a8 : Option V} {a9 : Option V} {a10 : Option V} {a11 : Option V} {a12 : Option V} {a13 : Option V} {a14 : Option V} {a15 : Option V} {a16 : Option V} {a17 : Option V} {a18 : Option V} {a19 : Option V} : gName 20 v (a0 :: a1 :: a2 :: a3 :: a4 :: a5 :: a6 :: a7 :: a8 :: a9 :: a10 :: a11 :: a12 :: a13 :: a14 :: a15 :: a16 :: a17 :: a18 :: a19 :: b :: r) H Z = Z (a0 :: a1 :: a2 :: a3 :: a4 :: a5 :: a6 :: a7 :: a8 :: a9 :: a10 :: a11 :: a12 :: a13 :: a14 :: a15 :: a16 :: a17 :: a18 :: a19 :: some v :: r) H := rfl
theorem r_g21 {v : V} {b : Option V} {r : St} {Z : St → Hp → Prop} {a0 : Option V} {a1 : Option V} {a2 : Option V} {a3 : Option V} {a4 : Option V} {a5 : Option V} {a6 : Option V} {a7 : Option V} {a8 : Option V} {a9 : Option V} {a10 : Option V} {a11 : Option V} {a12 : Option V} {a13 : Option V} {a14 : Option V} {a15 : Option V} {a16 : Option V} {a17 : Option V} {a18 : Option V} {a19 : Option V} {a20 : Option V} : gName 21 v (a0 :: a1 :: a2 :: a3 :: a4 :: a5 :: a6 :: a7 :: a8 :: a9 :: a10 :: a11 :: a12 :: a13 :: a14 :: a15 :: a16 :: a17 :: a18 :: a19 :: a20 :: b :: r) H Z = Z (a0 :: a1 :: a2 :: a3 :: a4 :: a5 :: a6 :: a7 :: a8 :: a9 :: a10 :: a11 :: a12 :: a13 :: a14 :: a15 :: a16 :: a17 :: a18 :: a19 :: a20 :: some v :: r) H := rfl
theorem r_g22 {v : V} {b : Option V} {r : St} {Z : St → Hp → Prop} {a0 : Option V} {a1 : Option V} {a2 : Option V} {a3 : Option V} {a4 : Option V} {a5 : Option V} {a6 : Option V} {a7 : Option V} {a8 : Option V} {a9 : Option V} {a10 : Option V} {a11 : Option V} {a12 : Option V} {a13 : Option V} {a14 : Option V} {a15 : Option V} {a16 : Option V} {a17 : Option V} {a18 : Option V} {a19 : Option V} {a20 : Option V} {a21 : Option V} : gName 22 v (a0 :: a1 :: a2 :: a3 :: a4 :: a5 :: a6 :: a7 :: a8 :: a9 :: a10 :: a11 :: a12 :: a13 :: a14 :: a15 :: a16 :: a17 :: a18 :: a19 :: a20 :: a21 :: b :: r) H Z = Z (a0 :: a1 :: a2 :: a3 :: a4 :: a5 :: a6 :: a7 :: a8 :: a9 :: a10 :: a11 :: a12 :: a13 :: a14 :: a15 :: a16 :: a17 :: a18 :: a19 :: a20 :: a21 :: some v :: r) H := rfl
theorem r_g23 {v : V} {b : Option V} {r : St} {Z : St → Hp → Prop} {a0 : Option V} {a1 : Option V} {a2 : Option V} {a3 : Option V} {a4 : Option V} {a5 : Option V} {a6 : Option V} {a7 : Option V} {a8 : Option V} {a9 : Option V} {a10 : Option V} {a11 : Option V} {a12 : Option V} {a13 : Option V} {a14 : Option V} {a15 : Option V} {a16 : Option V} {a17 : Option V} {a18 : Option V} {a19 : Option V} {a20 : Option V} {a21 : Option V} {a22 : Option V} : gName 23 v (a0 :: a1 :: a2 :: a3 :: a4 :: a5 :: a6 :: a7 :: a8 :: a9 :: a10 :: a11 :: a12 :: a13 :: a14 :: a15 :: a16 :: a17 :: a18 :: a19 :: a20 :: a21 :: a22 :: b :: r) H Z = Z (a0 :: a1 :: a2 :: a3 :: a4 :: a5 :: a6 :: a7 :: a8 :: a9 :: a10 :: a11 :: a12 :: a13 :: a14 :: a15 :: a16 :: a17 :: a18 :: a19 :: a20 :: a21 :: a22 :: some v :: r) H := rfl
theorem r_c {v : V} : tC v σ H Q = Q v H := rfl
theorem r_op {r : R2} {ta tb : TE} : tOp r ta tb σ H Q = ta σ H fun x H1 => tb σ H1 fun y H2 => r x y H2 Q := rfl
theorem r_un {r : V → Hp → VK → Prop} {ta : TE} : tUn r ta σ H Q = ta σ H fun x H1 => r x H1 Q := rfl
theorem r_I0 {g : Int → Int → V} {i j : Int} : rI0 g (.int i) (.int j) H Q = Q (g i j) H := propext ⟨by rintro ⟨_, _, e1, e2, q⟩; cases e1; cases e2; exact q, by intro q; exact ⟨i, j, rfl, rfl, q⟩⟩
theorem r_I {C : Int → Int → Prop} {g : Int → Int → V} {i j : Int} : rI C g (.int i) (.int j) H Q = (C i j ∧ Q (g i j) H) := propext ⟨by rintro ⟨_, _, e1, e2, q⟩; cases e1; cases e2; exact q, by intro q; exact ⟨i, j, rfl, rfl, q⟩⟩
theorem r_U {g : Int → V} {i : Int} : rU g (.int i) H Q = Q (g i) H := propext ⟨by rintro ⟨_, e1, q⟩; cases e1; exact q, by intro q; exact ⟨i, rfl, q⟩⟩
theorem decq_int {i j : Int} : decide (V.int i = V.int j) = decide (i = j) := by
  by_cases h : i = j
  · rw [decide_eq_true h, decide_eq_true (congrArg V.int h)]
  · rw [decide_eq_false h, decide_eq_false fun q => h (V.int.inj q)]
theorem decq_str {i j : Str} : decide (V.str i = V.str j) = decide (i = j) := by
  by_cases h : i = j
  · rw [decide_eq_true h, decide_eq_true (congrArg V.str h)]
  · rw [decide_eq_false h, decide_eq_false fun q => h (V.str.inj q)]
theorem decq_bl {i j : Bool} : decide (V.bl i = V.bl j) = decide (i = j) := by
  by_cases h : i = j
  · rw [decide_eq_true h, decide_eq_true (congrArg V.bl h)]
  · rw [decide_eq_false h, decide_eq_false fun q => h (V.bl.inj q)]
theorem r_eqI {i j : Int} : rEq (.int i) (.int j) H Q = Q (.bl (decide (i = j))) H := by
  show (scal (.int i) (.int j) = true ∧ Q (.bl (decide (V.int i = V.int j))) H) = _
  rw [decq_int]; exact propext ⟨fun h => h.2, fun h => ⟨rfl, h⟩⟩
theorem r_eqS {i j : Str} : rEq (.str i) (.str j) H Q = Q (.bl (decide (i = j))) H := by
  show (scal (.str i) (.str j) = true ∧ Q (.bl (decide (V.str i = V.str j))) H) = _
  rw [decq_str]; exact propext ⟨fun h => h.2, fun h => ⟨rfl, h⟩⟩
theorem r_eqB {i j : Bool} : rEq (.bl i) (.bl j) H Q = Q (.bl (decide (i = j))) H := by
  show (scal (.bl i) (.bl j) = true ∧ Q (.bl (decide (V.bl i = V.bl j))) H) = _
  rw [decq_bl]; exact propext ⟨fun h => h.2, fun h => ⟨rfl, h⟩⟩
theorem r_neI {i j : Int} : rNe (.int i) (.int j) H Q = Q (.bl (!decide (i = j))) H := by
  show (scal (.int i) (.int j) = true ∧ Q (.bl (!decide (V.int i = V.int j))) H) = _
  rw [decq_int]; exact propext ⟨fun h => h.2, fun h => ⟨rfl, h⟩⟩
theorem r_exbl {c : Bool} {Z : Bool → Prop} : (∃ k, V.bl c = V.bl k ∧ Z k) = Z c := propext ⟨by rintro ⟨_, e, q⟩; cases e; exact q, by intro q; exact ⟨c, rfl, q⟩⟩
theorem r_exint {c : Int} {Z : Int → Prop} : (∃ k, V.int c = V.int k ∧ Z k) = Z c := propext ⟨by rintro ⟨_, e, q⟩; cases e; exact q, by intro q; exact ⟨c, rfl, q⟩⟩
theorem r_test {t : TE} {Z : Bool → Hp → Prop} : tTest t σ H Z = t σ H fun x H' => ∃ k, x = .bl k ∧ Z k H' := rfl
theorem r_B {t : TE} {Z : Bool → Hp → Prop} : tB t σ H Z = t σ H fun x H' => ∃ k, x = .bl k ∧ Z k H' := rfl
theorem r_and {t u : TT} {Z : Bool → Hp → Prop} : tAnd t u σ H Z = t σ H fun c H1 => if c = true then u σ H1 Z else Z false H1 := rfl
theorem r_or {t u : TT} {Z : Bool → Hp → Prop} : tOr t u σ H Z = t σ H fun c H1 => if c = true then Z true H1 else u σ H1 Z := rfl
theorem r_not {t : TT} {Z : Bool → Hp → Prop} : tNot t σ H Z = t σ H fun c H1 => Z (!c) H1 := rfl
theorem r_andV {ta tb : TE} : tAndV ta tb σ H Q = ta σ H fun x H1 => ∃ c, x = .bl c ∧ if c = true then tb σ H1 Q else Q (.bl false) H1 := rfl
theorem r_orV {ta tb : TE} : tOrV ta tb σ H Q = ta σ H fun x H1 => ∃ c, x = .bl c ∧ if c = true then Q (.bl true) H1 else tb σ H1 Q := rfl
theorem r_notV {ta : TE} : tNotV ta σ H Q = ta σ H fun x H1 => ∃ c, x = .bl c ∧ Q (.bl (!c)) H1 := rfl
theorem r_if {t : TT} {ta tb : TE} : tIf t ta tb σ H Q = t σ H fun c H1 => if c = true then ta σ H1 Q else tb σ H1 Q := rfl
theorem r_next : tNext D σ H = D.nx σ H := rfl
theorem r_seq {t u : TS} : tSeq t u D σ H = t { D with nx := u D } σ H := rfl
theorem r_brk : tBreak D σ H = D.bk σ H := rfl
theorem r_cont : tCont D σ H = D.ct σ H := rfl
theorem r_drop {te : TE} : tDrop te D σ H = te σ H fun _ H1 => D.nx σ H1 := rfl
theorem r_ret {te : TE} : tRet te D σ H = te σ H D.rt := rfl
theorem r_retN : tRetN D σ H = D.rt .non H := rfl
theorem r_ifS {c : TT} {t u : TS} : tIfS c t u D σ H = c σ H fun b H1 => if b = true then t D σ H1 else u D σ H1 := rfl
theorem r_asg {te : TE} {g : TG} : tAsg te g D σ H = te σ H fun x H1 => g x σ H1 D.nx := rfl
theorem r_CB {r : List V → Hp → VK → Prop} {t : TA} : tCB r t σ H Q = t σ H fun vs H1 => r vs H1 Q := rfl
theorem r_nil {Z : List V → Hp → Prop} : tNil σ H Z = Z [] H := rfl
theorem r_cons {ta : TE} {tr : TA} {Z : List V → Hp → Prop} : tCons ta tr σ H Z = ta σ H fun x H1 => tr σ H1 fun xs H2 => Z (x :: xs) H2 := rfl
theorem r_call {sp : Sp} {E : XK} {t : TA} : tCall sp [] E t σ H Q = t σ H fun vs H1 => sp vs H1 Q E := by
  show (t σ H fun vs H1 => sp (vs ++ []) H1 Q E) = _
  simp only [List.append_nil]
theorem r_tup {t : TA} : tTup t σ H Q = t σ H fun xs H1 => xs.length ≤ sizeLine ∧ ∀ p, H1 p = none → Q (.ref p) (upd H1 p (.tup xs)) := rfl
theorem r_lst {t : TA} : tLst t σ H Q = t σ H fun xs H1 => xs.length ≤ sizeLine ∧ ∀ p, H1 p = none → Q (.ref p) (upd H1 p (.lst xs)) := rfl
theorem r_p0 {Z : List (V × V) → Hp → Prop} : tPairs [] σ H Z = Z [] H := rfl
theorem r_pS {tk tv : TE} {r : List (TE × TE)} {Z : List (V × V) → Hp → Prop} : tPairs ((tk, tv) :: r) σ H Z = tk σ H fun x H1 => tv σ H1 fun y H2 => tPairs r σ H2 fun ps H3 => Z ((x, y) :: ps) H3 := rfl
theorem r_disp {trs : List (TE × TE)} : tDisp trs σ H Q = ∀ p, H p = none → tPairs trs σ (upd H p (.dK [])) fun ps H2 => H2 p = some (.dK []) ∧ ∃ kvs : List (Key × V), ps = kvs.map (fun kv => (kV kv.1, kv.2)) ∧ kvs.length ≤ 15 ∧ Q (.ref p) (upd H2 p (.dK (mergeK [] kvs))) := rfl
theorem r_dget {td ty : TE} : tDGet td ty σ H Q = td σ H fun x H1 => ty σ H1 fun y H2 => ∃ a v, x = .ref a ∧ DGet H2 a y (some v) ∧ Q v H2 := rfl
theorem r_sl {r : V → Option Int → Option Int → Hp → VK → Prop} {te : TE} {tl th : TO} : tSl r te tl th σ H Q = te σ H fun x H1 => tl σ H1 fun l H2 => th σ H2 fun u H3 => r x l u H3 Q := rfl
theorem r_noPart {Z : Option Int → Hp → Prop} : tNoPart σ H Z = Z none H := rfl
theorem r_part {te : TE} {Z : Option Int → Hp → Prop} : tPart te σ H Z = te σ H fun x H1 => ∃ i, x = .int i ∧ Z (some i) H1 := rfl
theorem r_gNil {Z : St → Hp → Prop} : gNil [] σ H Z = Z σ H := propext ⟨fun h => h.2, fun h => ⟨rfl, h⟩⟩
theorem r_gCons {t : TG} {u : TGs} {v : V} {r : List V} {Z : St → Hp → Prop} : gCons t u (v :: r) σ H Z = t v σ H fun σ' H' => u r σ' H' Z := propext ⟨by rintro ⟨_, _, e, q⟩; cases e; exact q, by intro q; exact ⟨v, r, rfl, q⟩⟩
theorem r_itF {A B : Prop} : (if false = true then A else B) = B := if_neg Bool.false_ne_true
theorem r_nT : (!true) = false := rfl
theorem r_nF : (!false) = true := rfl
theorem r_len0 : (([] : List V).length ≤ sizeLine) = True := eq_true (by show 0 ≤ sizeLine; decide)
theorem r_len1 {a0 : V} : (([a0] : List V).length ≤ sizeLine) = True := eq_true (by show 1 ≤ sizeLine; decide)
theorem r_len2 {a0 a1 : V} : (([a0, a1] : List V).length ≤ sizeLine) = True := eq_true (by show 2 ≤ sizeLine; decide)
theorem r_len3 {a0 a1 a2 : V} : (([a0, a1, a2] : List V).length ≤ sizeLine) = True := eq_true (by show 3 ≤ sizeLine; decide)
theorem r_len4 {a0 a1 a2 a3 : V} : (([a0, a1, a2, a3] : List V).length ≤ sizeLine) = True := eq_true (by show 4 ≤ sizeLine; decide)
theorem r_len5 {a0 a1 a2 a3 a4 : V} : (([a0, a1, a2, a3, a4] : List V).length ≤ sizeLine) = True := eq_true (by show 5 ≤ sizeLine; decide)
theorem r_len6 {a0 a1 a2 a3 a4 a5 : V} : (([a0, a1, a2, a3, a4, a5] : List V).length ≤ sizeLine) = True := eq_true (by show 6 ≤ sizeLine; decide)
theorem r_len7 {a0 a1 a2 a3 a4 a5 a6 : V} : (([a0, a1, a2, a3, a4, a5, a6] : List V).length ≤ sizeLine) = True := eq_true (by show 7 ≤ sizeLine; decide)
end

def ForW (J : It) (g : TG) (tb : TS) (D : Ends) (σ : St) (H1 : Hp) : Prop := ∃ W : Nat → Nat → St → Hp → Prop, (∃ m, W 0 m σ H1) ∧ ∀ i m σ H, W i m σ H →
  (J.stop i H ∧ D.nx σ H) ∨ (J.go i H ∧ ∃ N : St → Hp → Prop, (∀ σ' H', N σ' H' → ∃ m', m' < m ∧ W (i + 1) m' σ' H') ∧ ∀ x H', J.yld i H x H' → g x σ H' fun σ2 H2 => tb { D with nx := N, ct := N, bk := D.nx } σ2 H2)
section
variable {g : TG} {tb : TS} {D : Ends} {σ : St} {H : Hp}
theorem r_for {wi : TI} : tFor wi g tb D σ H = wi σ H fun J H1 => ForW J g tb D σ H1 := rfl
theorem r_iEnum {K : PySem.W.Frag} {ta : TA} {R : It → Hp → Prop} : iEnum K ta σ H R = ta σ H fun vs H1 => ∃ a, vs = [.ref a] ∧ (∃ xs, SqL K H1 a xs) ∧ R (Ite K a) H1 := rfl
theorem r_iList {K : PySem.W.Frag} {tl : TE} {R : It → Hp → Prop} : iList K tl σ H R = tl σ H fun x H1 => ∃ a, x = .ref a ∧ (∃ xs, SqL K H1 a xs) ∧ R (Itl K a) H1 := rfl
theorem r_iTup {K : PySem.W.Frag} {tl : TE} {R : It → Hp → Prop} : iTup K tl σ H R = tl σ H fun x H1 => ∃ a, x = .ref a ∧ (∃ xs, SqT K H1 a xs) ∧ R (Itt K a) H1 := rfl
theorem r_iRng1 {ta : TA} {R : It → Hp → Prop} : iRng1 ta σ H R = ta σ H fun vs H1 => ∃ j : Int, vs = [.int j] ∧ -(2 ^ 62) ≤ j ∧ j < 2 ^ 62 ∧ R (Itr 0 j.toNat) H1 := rfl
theorem r_iRng2 {ta : TA} {R : It → Hp → Prop} : iRng2 ta σ H R = ta σ H fun vs H1 => ∃ i j : Int, vs = [.int i, .int j] ∧ (-(2 ^ 62) ≤ i ∧ i < 2 ^ 62 ∧ -(2 ^ 62) ≤ j ∧ j < 2 ^ 62) ∧ R (Itr i (j - i).toNat) H1 := rfl
theorem r_exI1 {c : Int} {Z : Int → Prop} : (∃ k, [V.int c] = [V.int k] ∧ Z k) = Z c := propext ⟨by rintro ⟨_, e, q⟩; cases e; exact q, by intro q; exact ⟨c, rfl, q⟩⟩
theorem r_exI2 {c d : Int} {Z : Int → Int → Prop} : (∃ k l, [V.int c, V.int d] = [V.int k, V.int l] ∧ Z k l) = Z c d := propext ⟨by rintro ⟨_, _, e, q⟩; cases e; exact q, by intro q; exact ⟨c, d, rfl, q⟩⟩
theorem r_exR1 {c : Addr} {Z : Addr → Prop} : (∃ k, [V.ref c] = [V.ref k] ∧ Z k) = Z c := propext ⟨by rintro ⟨_, e, q⟩; cases e; exact q, by intro q; exact ⟨c, rfl, q⟩⟩
theorem r_exR {c : Addr} {Z : Addr → Prop} : (∃ k, V.ref c = V.ref k ∧ Z k) = Z c := propext ⟨by rintro ⟨_, e, q⟩; cases e; exact q, by intro q; exact ⟨c, rfl, q⟩⟩
theorem fw_range {lo : Int} {n : Nat} (Pv : Nat → St → Hp → Prop) (h0 : Pv 0 σ H)
    (hs : ∀ (i : Nat) σ H, i < n → Pv i σ H → g (.int (lo + i)) σ H fun σ2 H2 => tb { D with nx := Pv (i + 1), ct := Pv (i + 1), bk := D.nx } σ2 H2) (hd : ∀ σ H, Pv n σ H → D.nx σ H) : ForW (Itr lo n) g tb D σ H := for_range Pv h0 hs hd
theorem fw_range0 {n : Nat} (Pv : Nat → St → Hp → Prop) (h0 : Pv 0 σ H)
    (hs : ∀ (i : Nat) σ H, i < n → Pv i σ H → g (.int (i : Int)) σ H fun σ2 H2 => tb { D with nx := Pv (i + 1), ct := Pv (i + 1), bk := D.nx } σ2 H2) (hd : ∀ σ H, Pv n σ H → D.nx σ H) : ForW (Itr 0 n) g tb D σ H :=
  fw_range Pv h0 (fun i σ H hi p => by rw [Int.zero_add]; exact hs i σ H hi p) hd
theorem fw_enum {K : PySem.W.Frag} {a : Addr} {xs : List V} (Pv : Nat → St → Hp → Prop) (h0 : Pv 0 σ H) (hl : ∀ i σ H, i ≤ xs.length → Pv i σ H → SqL K H a xs)
    (hs : ∀ (i : Nat) x σ H p, xs[i]? = some x → H p = none → Pv i σ H → g (.ref p) σ (upd H p (.tup [.int i, x])) fun σ2 H2 => tb { D with nx := Pv (i + 1), ct := Pv (i + 1), bk := D.nx } σ2 H2) (hd : ∀ σ H, Pv xs.length σ H → D.nx σ H) : ForW (Ite K a) g tb D σ H := for_enum Pv h0 hl hs hd
theorem fw_list {K : PySem.W.Frag} {a : Addr} {xs : List V} (Pv : Nat → St → Hp → Prop) (h0 : Pv 0 σ H) (hl : ∀ i σ H, i ≤ xs.length → Pv i σ H → SqL K H a xs)
    (hs : ∀ (i : Nat) x σ H, xs[i]? = some x → Pv i σ H → g x σ H fun σ2 H2 => tb { D with nx := Pv (i + 1), ct := Pv (i + 1), bk := D.nx } σ2 H2) (hd : ∀ σ H, Pv xs.length σ H → D.nx σ H) : ForW (Itl K a) g tb D σ H := for_list Pv h0 hl hs hd
/-- lists of the abstract heap behind a store -/
theorem Same.upd {H : Hp} {p : Addr} {o : HO} (h : H p = none) : Same H (upd H p o) := fun b u e => by rw [upd_ne (ne_of_none e h)]; exact e
theorem Same.seqT {K : PySem.W.Frag} {H H' : Hp} {a : Addr} {xs : List V} (e : Same H H') (h : SqT K H a xs) : SqT K H' a xs := by
  rcases h with (h | ⟨o, h⟩) | h
  · exact .inl (.inl (e _ _ h))
  · exact .inl (.inr ⟨o, e _ _ h⟩)
  · exact .inr h
end


section
variable {H : Hp} {Q : VK} {σ : St} {D : Ends} {K : PySem.W.Frag}
theorem r_bm {T : String} {r : V → List V → Hp → VK → Prop} {to : TE} {t : TA} : tBM K T r to t σ H Q = to σ H fun x H1 => tyV K T x H1 ∧ t σ H1 fun xs H2 => r x xs H2 Q := rfl
theorem r_bm0 {T : String} {r : V → List V → Hp → VK → Prop} {to : TE} : tBM0 K T r to σ H Q = to σ H fun x H1 => tyV K T x H1 ∧ r x [] H1 Q := rfl
theorem r_ixL {p : Addr} {i : Int} : rIxL K (.ref p) (.int i) H Q = ∃ xs v, SqL K H p xs ∧ atI xs i = some v ∧ Q v H := propext ⟨by rintro ⟨_, xs, _, v, e1, e2, h1, h2, q⟩; cases e1; cases e2; exact ⟨xs, v, h1, h2, q⟩, by rintro ⟨xs, v, h1, h2, q⟩; exact ⟨_, xs, _, v, rfl, rfl, h1, h2, q⟩⟩
theorem r_ixT {p : Addr} {i : Int} : rIxT K (.ref p) (.int i) H Q = ∃ xs v, SqT K H p xs ∧ atI xs i = some v ∧ Q v H := propext ⟨by rintro ⟨_, xs, _, v, e1, e2, h1, h2, q⟩; cases e1; cases e2; exact ⟨xs, v, h1, h2, q⟩, by rintro ⟨xs, v, h1, h2, q⟩; exact ⟨_, xs, _, v, rfl, rfl, h1, h2, q⟩⟩
theorem r_cat {a b : Addr} : rCat (.ref a) (.ref b) H Q = ∃ xs zs, H a = some (.lst xs) ∧ H b = some (.lst zs) ∧ xs.length + zs.length ≤ sizeLine ∧ ∀ p, H p = none → Q (.ref p) (upd H p (.lst (xs ++ zs))) := propext ⟨by rintro ⟨_, _, xs, zs, e1, e2, h⟩; cases e1; cases e2; exact ⟨xs, zs, h⟩, by rintro ⟨xs, zs, h⟩; exact ⟨_, _, xs, zs, rfl, rfl, h⟩⟩
theorem r_slL {a : Addr} {lo hi : Option Int} : rSlL K (.ref a) lo hi H Q = ∃ xs, SqL K H a xs ∧ ∀ p, H p = none → Q (.ref p) (upd H p (.lst (cutV xs lo hi))) := propext ⟨by rintro ⟨_, xs, e1, h⟩; cases e1; exact ⟨xs, h⟩, by rintro ⟨xs, h⟩; exact ⟨_, xs, rfl, h⟩⟩
theorem r_append {a : Addr} {y : V} : rAppend (.ref a) [y] H Q = ∃ xs, H a = some (.lst xs) ∧ xs.length < sizeLine ∧ Q .non (upd H a (.lst (xs ++ [y]))) := propext ⟨by rintro ⟨_, xs, _, e1, e2, h⟩; cases e1; cases e2; exact ⟨xs, h⟩, by rintro ⟨xs, h⟩; exact ⟨_, xs, _, rfl, rfl, h⟩⟩
theorem r_exRl {a : Addr} {Z : Addr → List V → Prop} : (∃ p ys, [V.ref a] = [V.ref p] ∧ Z p ys) = ∃ ys, Z a ys := propext ⟨by rintro ⟨_, ys, e1, q⟩; cases e1; exact ⟨ys, q⟩, by rintro ⟨ys, q⟩; exact ⟨a, ys, rfl, q⟩⟩
theorem r_gTup {n : Nat} {t : TGs} {a : Addr} {Z : St → Hp → Prop} : gTup K n t (.ref a) σ H Z = ∃ xs, SqT K H a xs ∧ xs.length = n ∧ t xs σ H Z := propext ⟨by rintro ⟨_, xs, e, h⟩; cases e; exact ⟨xs, h⟩, by rintro ⟨xs, h⟩; exact ⟨a, xs, rfl, h⟩⟩
end
end L2
set_option Elab.async false
set_option linter.all false
set_option maxRecDepth 100000
namespace L2
open PySem PySem.Spec PyProof.Rows

section
variable {prog : Program} {w : World} {A : Around} {R : Result → Shared → Prop} {s : Shared}
end

end L2
set_option Elab.async false
set_option linter.all false
set_option maxRecDepth 100000
namespace L2
open PySem PySem.Spec PyProof.Rows

inductive Dq (K : PySem.W.Frag) (H : Hp) : Nat → V → V → Bool → Prop where
  | flat {n : Nat} {x y : V} (fx : flatV x = true) (fy : flatV y = true) : Dq K H n x y (eqV x y)
  | same {n : Nat} {a : Addr} : Dq K H n (.ref a) (.ref a) true
  | lists {n : Nat} {a b : Addr} {xs ys : List V} (e : Nat → Bool) (ne : a ≠ b) (ha : SqL K H a xs) (hb : SqL K H b ys) (hl : xs.length = ys.length)
      (he : ∀ (j : Nat) x y, xs[j]? = some x → ys[j]? = some y → Dq K H n x y (e j)) : Dq K H (n + 1) (.ref a) (.ref b) ((List.range xs.length).all e)
  | lens {n : Nat} {a b : Addr} {xs ys : List V} (ne : a ≠ b) (ha : SqL K H a xs) (hb : SqL K H b ys) (hl : ¬ xs.length = ys.length) : Dq K H (n + 1) (.ref a) (.ref b) false
  | tups {n : Nat} {a b : Addr} {xs ys : List V} (e : Nat → Bool) (ne : a ≠ b) (ha : SqT K H a xs) (hb : SqT K H b ys)
      (he : ∀ (j : Nat) x y, xs[j]? = some x → ys[j]? = some y → Dq K H n x y (e j)) : Dq K H (n + 1) (.ref a) (.ref b) ((List.range (min xs.length ys.length)).all e && xs.length == ys.length)
section
variable {X : Cx} {pins : List (Addr × Obj)} {σ : St} {H : Hp} {s : Shared}
theorem el_of {xs : List V} {its : List Value} (r : Vals xs its) {j : Nat} (h : j < its.toArray.size) : ∃ x, xs[j]? = some x ∧ RelV x its.toArray[j] := by
  have hl := r.length
  have hj : j < xs.length := by simpa [hl] using h
  obtain ⟨u, hu, ru⟩ := r.get (List.getElem?_eq_getElem hj)
  have e : its.toArray[j] = u := by
    have h2 : its[j]? = some u := hu
    have h3 : j < its.length := by simpa using h
    rw [List.getElem?_eq_getElem h3] at h2
    simpa using h2
  exact ⟨xs[j], List.getElem?_eq_getElem hj, by rw [e]; exact ru⟩
theorem Dq.at (I : Inv X pins σ H s) {n : Nat} {x y : V} {b : Bool} (d : Dq X.K H n x y b) : ∀ {A : Around} {v u : Value}, RelV x v → RelV y u → A.units + n < cLine → SeqAt.EqAt A s v u b := by
  induction d with
  | flat fx fy => intro A v u rv ru _; exact eqAt_V rv ru fx fy
  | same => intro A v u rv ru _; cases rv; cases ru; exact SeqAt.EqAt.same _
  | @lists n a b xs ys e ne ha hb hl he ih =>
    intro A v u rv ru hu
    cases rv; cases ru
    obtain ⟨its, r, p, _⟩ := I.list ha
    obtain ⟨its2, r2, p2, _⟩ := I.list hb
    have e1 := r.length
    have e2 := r2.length
    have z := SeqAt.RcAt.lists (A := A) (e := e) p.isList p2.isList (by simp; omega) (by omega) fun j h1 h2 => by
      obtain ⟨x, hx, rx⟩ := el_of r h1
      obtain ⟨y, hy, ry⟩ := el_of r2 h2
      exact ih j x y hx hy rx ry (by show A.units + 1 + n < cLine; omega)
    have e3 : its.toArray.size = xs.length := by simp [e1]
    rw [e3] at z
    exact SeqAt.EqAt.of_refs ne z
  | @lens n a b xs ys ne ha hb hl =>
    intro A v u rv ru hu
    cases rv; cases ru
    obtain ⟨its, r, p, _⟩ := I.list ha
    obtain ⟨its2, r2, p2, _⟩ := I.list hb
    have e1 := r.length
    have e2 := r2.length
    exact SeqAt.EqAt.of_refs ne (SeqAt.RcAt.lists_lengths (A := A) p.isList p2.isList (by simp; omega) (by omega))
  | @tups n a b xs ys e ne ha hb he ih =>
    intro A v u rv ru hu
    cases rv; cases ru
    obtain ⟨its, r, p, _⟩ := I.tuple ha
    obtain ⟨its2, r2, p2, _⟩ := I.tuple hb
    have e1 := r.length
    have e2 := r2.length
    have z := SeqAt.RcAt.tuples (A := A) (e := e) (show s.heap.IsTuple a its.toArray from p) (show s.heap.IsTuple b its2.toArray from p2) (by omega) fun j h1 h2 => by
      obtain ⟨x, hx, rx⟩ := el_of r h1
      obtain ⟨y, hy, ry⟩ := el_of r2 h2
      exact ih j x y hx hy rx ry (by show A.units + 1 + n < cLine; omega)
    have e3 : its.toArray.size = xs.length := by simp [e1]
    have e4 : its2.toArray.size = ys.length := by simp [e2]
    rw [e3, e4] at z
    exact SeqAt.EqAt.of_refs ne z
end
/-- the operator itself: no look at whether both are one object -/
inductive Rq (K : PySem.W.Frag) (H : Hp) (n : Nat) : V → V → Bool → Prop where
  | lists {a b : Addr} {xs ys : List V} (e : Nat → Bool) (ha : SqL K H a xs) (hb : SqL K H b ys) (hl : xs.length = ys.length)
      (he : ∀ (j : Nat) x y, xs[j]? = some x → ys[j]? = some y → Dq K H n x y (e j)) : Rq K H n (.ref a) (.ref b) ((List.range xs.length).all e)
  | lens {a b : Addr} {xs ys : List V} (ha : SqL K H a xs) (hb : SqL K H b ys) (hl : ¬ xs.length = ys.length) : Rq K H n (.ref a) (.ref b) false
  | tups {a b : Addr} {xs ys : List V} (e : Nat → Bool) (ha : SqT K H a xs) (hb : SqT K H b ys)
      (he : ∀ (j : Nat) x y, xs[j]? = some x → ys[j]? = some y → Dq K H n x y (e j)) : Rq K H n (.ref a) (.ref b) ((List.range (min xs.length ys.length)).all e && xs.length == ys.length)
def rEqD (K : PySem.W.Frag) (n : Nat) : R2 := fun x y H Q => ∃ b, Rq K H n x y b ∧ Q (.bl b) H
def rNeD (K : PySem.W.Frag) (n : Nat) : R2 := fun x y H Q => ∃ b, Rq K H n x y b ∧ Q (.bl (!b)) H
section
variable {X : Cx}
theorem op_eqD {n : Nat} (hu : X.A.units + (n + 1) < cLine) : OpR X (compareOp .Eq) (rEqD X.K n) := by
  intro pins s σ H x y v u Q I rx ry h
  obtain ⟨b, d, q⟩ := h
  cases d with
  | @lists a c xs ys e ha hb hl he =>
    cases rx; cases ry
    obtain ⟨its, r, p, _⟩ := I.list ha
    obtain ⟨its2, r2, p2, _⟩ := I.list hb
    have e1 := r.length
    have e2 := r2.length
    have e3 : its.toArray.size = xs.length := by simp [e1]
    refine SeqAt.eq_listAt (e := e) p.isList p2.isList (by simp; omega) (by omega) (fun j h1 h2 => ?_) ⟨.bl _, H, I, rfl, by rw [e3]; exact q⟩
    obtain ⟨x, hx, rx⟩ := el_of r h1
    obtain ⟨y, hy, ry⟩ := el_of r2 h2
    exact (he j x y hx hy).at I rx ry (by show X.A.units + 1 + n < cLine; omega)
  | @lens a c xs ys ha hb hl =>
    cases rx; cases ry
    obtain ⟨its, r, p, _⟩ := I.list ha
    obtain ⟨its2, r2, p2, _⟩ := I.list hb
    have e1 := r.length
    have e2 := r2.length
    exact SeqAt.eq_list_lengthsAt p.isList p2.isList (by simp; omega) (by omega) ⟨.bl _, H, I, rfl, q⟩
  | @tups a c xs ys e ha hb he =>
    cases rx; cases ry
    obtain ⟨its, r, p, _⟩ := I.tuple ha
    obtain ⟨its2, r2, p2, _⟩ := I.tuple hb
    have e1 := r.length
    have e2 := r2.length
    have e3 : its.toArray.size = xs.length := by simp [e1]
    have e4 : its2.toArray.size = ys.length := by simp [e2]
    refine SeqAt.eq_tupleAt (e := e) (show s.heap.IsTuple a its.toArray from p) (show s.heap.IsTuple c its2.toArray from p2) (by omega) (fun j h1 h2 => ?_) ⟨.bl _, H, I, rfl, by rw [e3, e4]; exact q⟩
    obtain ⟨x, hx, rx⟩ := el_of r h1
    obtain ⟨y, hy, ry⟩ := el_of r2 h2
    exact (he j x y hx hy).at I rx ry (by show X.A.units + 1 + n < cLine; omega)
theorem op_neD {n : Nat} (hu : X.A.units + (n + 1) < cLine) : OpR X (compareOp .NotEq) (rNeD X.K n) := by
  intro pins s σ H x y v u Q I rx ry h
  obtain ⟨b, d, q⟩ := h
  cases d with
  | @lists a c xs ys e ha hb hl he =>
    cases rx; cases ry
    obtain ⟨its, r, p, _⟩ := I.list ha
    obtain ⟨its2, r2, p2, _⟩ := I.list hb
    have e1 := r.length
    have e2 := r2.length
    have e3 : its.toArray.size = xs.length := by simp [e1]
    refine SeqAt.RcNeAt.lists (A := X.A) (e := e) p.isList p2.isList (by simp; omega) (by omega) (fun j h1 h2 => ?_) X.prog X.w X.xe _ ⟨.bl _, H, I, rfl, by rw [e3]; exact q⟩
    obtain ⟨x, hx, rx⟩ := el_of r h1
    obtain ⟨y, hy, ry⟩ := el_of r2 h2
    exact (he j x y hx hy).at I rx ry (by show X.A.units + 1 + n < cLine; omega)
  | @lens a c xs ys ha hb hl =>
    cases rx; cases ry
    obtain ⟨its, r, p, _⟩ := I.list ha
    obtain ⟨its2, r2, p2, _⟩ := I.list hb
    have e1 := r.length
    have e2 := r2.length
    exact SeqAt.RcNeAt.lists_lengths (A := X.A) p.isList p2.isList (by simp; omega) (by omega) X.prog X.w X.xe _ ⟨.bl _, H, I, rfl, q⟩
  | @tups a c xs ys e ha hb he =>
    cases rx; cases ry
    obtain ⟨its, r, p, _⟩ := I.tuple ha
    obtain ⟨its2, r2, p2, _⟩ := I.tuple hb
    have e1 := r.length
    have e2 := r2.length
    have e3 : its.toArray.size = xs.length := by simp [e1]
    have e4 : its2.toArray.size = ys.length := by simp [e2]
    refine SeqAt.RcNeAt.tuples (A := X.A) (e := e) (show s.heap.IsTuple a its.toArray from p) (show s.heap.IsTuple c its2.toArray from p2) (by omega) (fun j h1 h2 => ?_) X.prog X.w X.xe _ ⟨.bl _, H, I, rfl, by rw [e3, e4]; exact q⟩
    obtain ⟨x, hx, rx⟩ := el_of r h1
    obtain ⟨y, hy, ry⟩ := el_of r2 h2
    exact (he j x y hx hy).at I rx ry (by show X.A.units + 1 + n < cLine; omega)
end
theorem all_true (n : Nat) : (List.range n).all (fun _ => true) = true := by simp
end L2
set_option Elab.async false
set_option linter.all false
set_option maxRecDepth 100000
namespace L2
open PySem PySem.Spec PyProof.Rows

def clOf (cells : List (Str × Addr)) : List (Str × NameKind) → List (Str × Addr) → List (Str × Addr)
  | [], acc => acc
  | (n, k) :: r, acc => if k == .free then clOf cells r ((n, (cells.lookup n).getD 0) :: acc) else clOf cells r acc
theorem closureFor_cl {scope : Scope} {env : Env} (h : ∀ y ∈ scope.names, y.2 = .free → ∃ c, env.cells.lookup y.1 = some c) : closureFor scope env = pure (clOf env.cells scope.names []) := by
  have key : ∀ (names : List (Str × NameKind)) (acc : List (Str × Addr)), (∀ y ∈ names, y.2 = .free → ∃ c, env.cells.lookup y.1 = some c) →
      (forIn names acc fun x (r : List (Str × Addr)) => match x with
        | (name, kind) => if (kind == .free) = true then do let c ← cellOf env name; pure (ForInStep.yield ((name, c) :: r)) else pure (ForInStep.yield r)) = (pure (clOf env.cells names acc) : Sem (List (Str × Addr))) := by
    intro names
    induction names with
    | nil => intro acc _; rfl
    | cons y r ih =>
      intro acc hy
      obtain ⟨n, k⟩ := y
      rw [List.forIn_cons]
      cases hk : (k == NameKind.free) with
      | true =>
        have hk' : k = .free := by simpa using hk
        obtain ⟨c, hc⟩ := hy (n, k) List.mem_cons_self hk'
        have e : cellOf env n = pure c := by unfold cellOf; rw [show env.cells.lookup n = some c from hc]
        simp only [hk, if_true, e, pure_bind]
        rw [ih _ fun z hz => hy z (List.mem_cons_of_mem _ hz)]
        simp only [clOf, hk, if_true]
        rw [show env.cells.lookup n = some c from hc]
        rfl
      | false =>
        simp only [hk, Bool.false_eq_true, if_false, pure_bind]
        rw [ih _ fun z hz => hy z (List.mem_cons_of_mem _ hz)]
        simp only [clOf, hk, Bool.false_eq_true, if_false]
  refine (show closureFor scope env = ((forIn scope.names [] fun x (r : List (Str × Addr)) => match x with
        | (name, kind) => if (kind == .free) = true then do let c ← cellOf env name; pure (ForInStep.yield ((name, c) :: r)) else pure (ForInStep.yield r)) >>= fun cs => pure cs) from rfl).trans ?_
  rw [key scope.names [] h]
  rfl
theorem clOf_sub {cells : List (Str × Addr)} : ∀ {names : List (Str × NameKind)} {acc : List (Str × Addr)}, (∀ y ∈ names, y.2 = .free → ∃ c, cells.lookup y.1 = some c) → (∀ y c, acc.lookup y = some c → cells.lookup y = some c) →
    ∀ y c, (clOf cells names acc).lookup y = some c → cells.lookup y = some c
  | [], _, _, ha => ha
  | (n, k) :: r, acc, hn, ha => by
    intro y c
    unfold clOf
    split
    · next hk =>
      refine clOf_sub (fun z hz => hn z (List.mem_cons_of_mem _ hz)) (fun z d hz => ?_) y c
      obtain ⟨e, he⟩ := hn (n, k) List.mem_cons_self (by simpa using hk)
      rw [List.lookup_cons] at hz
      split at hz
      · next hq =>
        have : z = n := by simpa using hq
        subst this
        have he' : cells.lookup z = some e := he
        rw [he'] at hz ⊢
        exact hz
      · exact ha z d hz
    · exact clOf_sub (fun z hz => hn z (List.mem_cons_of_mem _ hz)) ha y c
theorem clOf_acc {cells : List (Str × Addr)} {y : Str} : ∀ {names : List (Str × NameKind)} {acc : List (Str × Addr)}, (∃ c, acc.lookup y = some c) → ∃ c, (clOf cells names acc).lookup y = some c
  | [], _, h => h
  | (n, k) :: r, acc, h => by
    unfold clOf
    split
    · refine clOf_acc ?_
      rw [List.lookup_cons]
      split
      · exact ⟨_, rfl⟩
      · exact h
    · exact clOf_acc h
theorem clOf_has {cells : List (Str × Addr)} {y : Str} : ∀ {names : List (Str × NameKind)} {acc : List (Str × Addr)}, (y, NameKind.free) ∈ names → ∃ c, (clOf cells names acc).lookup y = some c
  | (n, k) :: r, acc, h => by
    unfold clOf
    rcases List.mem_cons.mp h with e | e
    · cases e
      rw [if_pos (by rfl)]
      exact clOf_acc ⟨(cells.lookup y).getD 0, by rw [List.lookup_cons, beq_self_eq_true]⟩
    · split
      · exact clOf_has e
      · exact clOf_has e

/-- a block's run -/
structure Bk where
  C : Addr
  fp : List Addr
  s₂ : Shared
  H₂ : Hp
def Cx.blk (X : Cx) (N' : List Str) (scope : Scope) (b : Bk) : Cx :=
  { prog := X.prog, w := X.w, K := X.K, mg := X.mg, base := X.base, A := X.A, N := N', s₀ := b.s₂, H₀ := b.H₂, env := compEnvC scope (clOf X.env.cells scope.names []) b.C X.env, outer := X.stack, stack := X.stack, ex := b.fp, fn := fun _ => false, calm := X.calm, pn := [], xe := fun _ _ => False }
/-- what the block sees: .0, its targets, the names of the def around it -/
def blkSt (os : List (Option V)) (ci : List Nat) (σ : St) : St := none :: (os ++ ci.map fun i => (σ[i]?).join)
def CompGW (J : It) (g : TG) (tt : TT) (te : TE) (nt : Nat) (ci : List Nat) (σ : St) (acc : Addr) (Q : Hp → Prop) (H0 : Hp) : Prop := ∃ W : Nat → Nat → List V → Hp → Prop, (∃ m, W 0 m [] H0) ∧ ∀ i m ys H, W i m ys H →
  (J.stop i H ∧ Q H) ∨ (J.go i H ∧ ∃ N : List V → Hp → Prop, (∀ zs H', N zs H' → ∃ m', m' < m ∧ W (i + 1) m' zs H') ∧ ∀ y H' os, os.length = nt → J.yld i H y H' → g y (blkSt os ci σ) H' fun σ1 H1 => (∃ os', os'.length = nt ∧ σ1 = blkSt os' ci σ) ∧ tt σ1 H1 fun b H2 =>
    if b = true then te σ1 H2 fun z H3 => H3 acc = some (.lst ys) ∧ ys.length < sizeLine ∧ N (ys ++ [z]) (upd H3 acc (.lst (ys ++ [z]))) else N ys H2)
def tCompG (wi : TI) (g : Bk → TG) (tt : Bk → TT) (te : Bk → TE) (nt : Nat) (ci : List Nat) : TE := fun σ H Q => wi σ H fun J H1 => ∀ acc, H1 acc = none → ∀ bk : Bk, CompGW J (g bk) (tt bk) (te bk) nt ci σ acc (fun H' => Q (.ref acc) H') (upd H1 acc (.lst []))
/-- the tests -/
def PIfs (X : Cx) (ifs : List Expr) (t : TT) : Prop :=
  ∀ (pins : List (Addr × Obj)) (s : Shared) (σ : St) (H : Hp) (Q : Bool → Hp → Prop), Inv X pins σ H s → t σ H Q →
    wpAny (model X.prog X.w) X.A (forIn ifs true fun c r => if r = true then do let ok ← isTrue c X.env (eval c X.env); pure (ForInStep.yield ok) else pure (ForInStep.yield r)) (TP X pins σ Q) X.xe s
def tYes : TT := fun _ H Q => Q true H
theorem pf_nil {X : Cx} : PIfs X [] tYes := fun pins s σ H Q I h => wpAny_tests_nil ⟨H, I, h⟩
theorem pf_one {X : Cx} {c : Expr} {t : TT} (h : PT X c t) : PIfs X [c] t := fun pins s σ H Q I q => wpAny_tests_one (h pins s σ H Q I q)

/-- what the text's scope says of a comprehension -/
structure CompSc (X : Cx) (scope : Scope) (cns : List Str) (ci : List Nat) : Prop where
  kind : scope.kind = .function
  cell : ∀ y ∈ scope.names, y.2 ≠ .cell
  names : ∀ y ∈ scope.names, y.2 = .local → scope.names.lookup y.1 = some .local
  free : ∀ y ∈ scope.names, y.2 = .free → X.env.kindOf y.1 = some .cell ∨ X.env.kindOf y.1 = some .free
  cap : ∀ (j : Nat) x, cns[j]? = some x → ∃ i, ci[j]? = some i ∧ X.N[i]? = some x ∧ (x, NameKind.free) ∈ scope.names
  len : cns.length = ci.length
  noloc : ∀ y, (y, NameKind.free) ∈ scope.names → ¬ (relabel scope X.env).names.lookup y = some .local

theorem relabel_cell {env : Env} : ∀ {names : List (Str × NameKind)} {y : Str} {k : NameKind}, (names.map fun (n, k) => if (k == NameKind.free && env.scope.kind == .function && env.kindOf n == some .cell) then (n, NameKind.cell) else (n, k)).lookup y = some k → k = .cell ∨ k = .free →
    (∀ z ∈ names, z.2 ≠ .cell) → (y, NameKind.free) ∈ names
  | [], _, _, h, _, _ => by simp at h
  | (n, k0) :: r, y, k, h, hk, hc => by
    rw [List.map_cons, List.lookup_cons] at h
    by_cases hf : (k0 == NameKind.free && env.scope.kind == .function && env.kindOf n == some .cell) = true
    · simp only [hf, if_true] at h
      have k0f : k0 = .free := by
        have := hf
        simp only [Bool.and_eq_true] at this
        simpa using this.1.1
      split at h
      · next hq =>
        have : y = n := by simpa using hq
        subst this; subst k0f
        exact List.mem_cons_self
      · exact List.mem_cons_of_mem _ (relabel_cell h hk fun z hz => hc z (List.mem_cons_of_mem _ hz))
    · simp only [hf] at h
      split at h
      · next hq =>
        have : y = n := by simpa using hq
        subst this
        have e : k0 = k := by simpa using h
        subst e
        rcases hk with z | z
        · exact absurd z (hc _ List.mem_cons_self)
        · subst z; exact List.mem_cons_self
      · exact List.mem_cons_of_mem _ (relabel_cell h hk fun z hz => hc z (List.mem_cons_of_mem _ hz))

section
variable {prog : Program} {w : World} {A : Around} {R : Result → Shared → Prop} {s : Shared}
theorem compLoop_goT {elt target iter : Expr} {ifs : List Expr} {scope : Scope} {pos : Pos} {it acc : Value} {env : Env} (I : Nat → Shared → Prop)
    (turn : ∀ n s, I n s → wpAny (model prog w) A (pyNext it) (fun r s₁ => match r with
      | none => R (.ok .next) s₁
      | some v => wpAny (model prog w) A (letOwnedTupleGo target it v) (fun _ s₅ => wpAny (model prog w) A (assign target env v) (fun _ s₂ =>
          wpAny (model prog w) A (forIn ifs true fun c r => if r = true then do let ok ← isTrue c env (eval c env); pure (ForInStep.yield ok) else pure (ForInStep.yield r)) (fun ok s₃ =>
            if ok = true then wpAny (model prog w) A (eval elt env) (fun x s₄ =>
              wpAny (model prog w) A (call (.builtin "list.append") [acc, x]) (fun _ s₅ => ∃ m, m < n ∧ I m s₅) (fun _ _ => False) s₄) (fun _ _ => False) s₃
            else ∃ m, m < n ∧ I m s₃) (fun _ _ => False) s₂) (fun _ _ => False) s₅) (fun _ _ => False) s₁) (fun _ _ => False) s)
    (n : Nat) (h : I n s) :
    codeAny (model prog w) A (.compLoop (.ListComp elt [⟨target, iter, ifs, 0⟩] scope pos) 0 it acc env) R s := by
  refine codeAny_loop rfl I (fun n s hI => ?_) n h
  show wpAny _ _ ((compTurn (.ListComp elt [⟨target, iter, ifs, 0⟩] scope pos) 0 it acc env).onRaise (fun x => do noteFrame x env; theTreesLotGoes x)) _ _ s
  refine wpAny_noted ?_
  rw [compTurn_list]
  refine wpAny_bind (wpAny_standAt (wpAny_bind (wpAny_mono (turn n s hI) (fun r s₁ h₁ => ?_) fun _ _ h' => h'.elim)))
  cases r with
  | none => exact wpAny_pure h₁
  | some v =>
    refine wpAny_bind (wpAny_mono h₁ (fun _ s₅ h₅ => ?_) fun _ _ h' => h'.elim)
    refine wpAny_bind (wpAny_mono h₅ (fun _ s₂ h₂ => wpAny_bind (wpAny_mono h₂ (fun ok s₃ h₃ => ?_) fun _ _ h' => h'.elim)) fun _ _ h' => h'.elim)
    cases ok with
    | true =>
      rw [if_pos rfl] at h₃
      exact wpAny_bind (wpAny_bind (wpAny_mono h₃ (fun x s₃ h₃ => wpAny_bind (wpAny_mono h₃ (fun _ s₄ h₄ => wpAny_pure (wpAny_pure ⟨rfl, h₄⟩)) fun _ _ h' => h'.elim)) fun _ _ h' => h'.elim))
    | false =>
      rw [if_neg Bool.false_ne_true] at h₃
      exact wpAny_bind (wpAny_pure (wpAny_pure ⟨rfl, h₃⟩))
end

theorem comp_core {X : Cx} {elt iter tgt : Expr} {ifs : List Expr} {pos : Pos} {scope : Scope} {g : Bk → TG} {tt : Bk → TT} {te : Bk → TE} {tns cns : List Str} {ci : List Nat} {RR : Value → Addr → Result → Shared → Prop} {E : Value → Shared → Prop}
    {pins : List (Addr × Obj)} {σ : St} {H2 : Hp} {s2 : Shared} {it : Addr} {fp : List Addr} {tn : Nat → Heap → Prop} {J : It} {Q : Addr → Hp → Prop}
    (hc : X.calm = true) (S : CompSc X scope cns ci)
    (hg : ∀ bk : Bk, PG (X.blk (".0" :: (tns ++ cns)) scope bk) tgt (g bk))
    (ht : ∀ bk : Bk, PIfs (X.blk (".0" :: (tns ++ cns)) scope bk) ifs (tt bk))
    (he : ∀ bk : Bk, PE (X.blk (".0" :: (tns ++ cns)) scope bk) elt (te bk))
    (I2 : Inv X pins σ H2 s2) (T : Turn X.prog X.w X.K tgt J fp it tn) (st2 : tn 0 s2.heap) (f2 : ∀ b ∈ fp, FpOk X pins H2 b)
    (hcw : ∀ acc, H2 acc = none → ∀ bk : Bk, CompGW J (g bk) (tt bk) (te bk) tns.length ci σ acc (Q acc) (upd H2 acc (.lst [])))
    (fin : ∀ D C s5 H4 m, Inv X pins σ H4 s5 → s5.heap.Ns C m → FpOk X pins H4 C → Q D H4 → RR (.ref D) C (.ok .next) s5) :
    wpAny (model X.prog X.w) X.A (newList []) (fun acc s₃ => wpAny (model X.prog X.w) X.A (newFunctionEnv scope X.env.globals (clOf X.env.cells scope.names []) [] X.env.qual none .none (some X.env)) (fun cenv s₄ =>
      codeAny (model X.prog X.w) X.A (.compStart (.ListComp elt [⟨tgt, iter, ifs, 0⟩] scope pos) 0 (.ref it) acc { cenv with scope := relabel scope X.env }) (RR acc cenv.locals) s₄) E s₃) E s2 := by
  have hfc : ∀ y ∈ scope.names, y.2 = .free → ∃ c, X.env.cells.lookup y.1 = some c := fun y hy hk => I2.ok.has _ (S.free y hy hk)
  have hsub : ∀ y c, (clOf X.env.cells scope.names []).lookup y = some c → X.env.cells.lookup y = some c := clOf_sub hfc (fun y c e => by simp at e)
  refine wpAny_newObj_type (wpAny_newFunctionEnv S.cell (by intro y hy; simp at hy) (fun h₁ hns₁ hsb₁ => ?_) S.kind)
  dsimp only at hns₁ hsb₁ ⊢
  generalize hH2 : s2.heap.push { cls := .type "list", dict := none, data := .seq ([] : List Value).toArray } = G2 at hns₁ hsb₁ ⊢
  have hCz : G2.objs.size = s2.heap.objs.size + 1 := by rw [← hH2, Heap.size_push]
  have hDC : s2.heap.objs.size ≠ G2.objs.size := by rw [hCz]; exact Nat.ne_of_lt (Nat.lt_succ_self _)
  have below : ∀ b, b < s2.heap.objs.size → b ≠ G2.objs.size := fun b hb => by omega
  have old : ∀ b o, s2.heap.get? b = some o → h₁.get? b = some o := fun b o e => hsb₁.extBut b o (below b (Heap.lt_size e)) (Heap.get?_push_of_some _ (hH2 ▸ Heap.get?_push_of_some _ e))
  have hacc : h₁.get? s2.heap.objs.size = some { cls := .type "list", dict := none, data := .seq ([] : List Value).toArray } := hsb₁.extBut _ _ hDC (Heap.get?_push_of_some _ (hH2 ▸ Heap.get?_push_size _ rfl))
  have hnD : H2 s2.heap.objs.size = none := I2.hok.fresh (Nat.le_refl _)
  have hnC : H2 G2.objs.size = none := I2.hok.fresh (by omega)
  obtain ⟨W, ⟨m0, w0⟩, turn⟩ := hcw s2.heap.objs.size hnD ⟨G2.objs.size, fp, s2, H2⟩
  have nlt : ∀ {b : Addr} {o : Obj}, s2.heap.get? b = some o → b ≠ s2.heap.objs.size := fun q => Nat.ne_of_lt (Heap.lt_size q)
  have fpl : ∀ b ∈ fp, b < s2.heap.objs.size := fun b hb => by
    obtain ⟨o, e, _⟩ := T.obj _ _ st2 b hb
    exact Heap.lt_size e
  have clt : ∀ y c, (clOf X.env.cells scope.names []).lookup y = some c → c < s2.heap.objs.size := fun y c e => by
    obtain ⟨v, q⟩ := I2.cell y c (hsub y c e)
    exact q.lt
  have hasC : ∀ y, ((relabel scope X.env).names.lookup y = some .cell ∨ (relabel scope X.env).names.lookup y = some .free) → ∃ c, (clOf X.env.cells scope.names []).lookup y = some c := fun y hk => by
    rcases hk with z | z
    · exact clOf_has (relabel_cell z (.inl rfl) S.cell)
    · exact clOf_has (relabel_cell z (.inr rfl) S.cell)
  have ok : (X.blk (".0" :: (tns ++ cns)) scope ⟨G2.objs.size, fp, s2, H2⟩).Ok := {
    mod := I2.ok.mod
    kind := S.kind
    glob := I2.ok.glob
    blt := I2.ok.blt
    above := by show s2.heap.objs.size ≤ G2.objs.size; omega
    inj := fun y z c e1 e2 => I2.ok.inj y z c (hsub y c e1) (hsub z c e2)
    has := fun y hk => hasC y hk
    cab := fun y c e => by
      have e' : (false = true) := e
      cases e'
    hd := I2.ok.hd
    frames := I2.ok.frames
    stk := .inl rfl
    exf := fun b hb => ⟨below b (fpl b hb), fun y c e => (f2 b hb).2.2.2.2.1 y c (hsub y c e)⟩
    bs := I2.bs
    bsz := Nat.le_trans I2.ok.bsz I2.sz
    noex := fun b o e hb => by
      rcases (f2 b hb).2.2.2.1 with z | z
      · exact I2.ok.noex b o e z
      · exact absurd (Nat.lt_of_lt_of_le (Heap.lt_size e) (Nat.le_trans I2.ok.bsz z)) (Nat.lt_irrefl _)
    exfs := fun b hb hf => by
      rcases List.mem_cons.mp (I2.stkSub b hf) with z | z
      · exact (f2 b hb).2.1 z
      · exact (f2 b hb).2.2.1 z
    funs := I2.stack
    frf := I2.stkFree }
  have hokD : HOk X.prog X.w (upd H2 s2.heap.objs.size (.lst [])) h₁ := I2.hok.laid old (Nat.le_refl _) ⟨Nat.zero_le _, [], 0, .nil, hacc⟩
  have clD : ∀ y c, (clOf X.env.cells scope.names []).lookup y = some c → c ≠ s2.heap.objs.size := fun y c e => Nat.ne_of_lt (clt y c e)
  have I3 : Inv (X.blk (".0" :: (tns ++ cns)) scope ⟨G2.objs.size, fp, s2, H2⟩) [] (blkSt (List.replicate tns.length none) ci σ) (upd H2 s2.heap.objs.size (.lst [])) { s2 with heap := h₁, toks := s2.toks + ([] : List (Str × Value)).length } := {
    ok := ok
    os := rfl
    bare := I2.bare
    base := ⟨fun b o e n _ _ => old b o e, fun b o e n _ _ => ⟨o.slots, old b o e⟩, fun b o e n _ => by rw [upd_ne (nlt e)]; exact n, fun b o e _ => ⟨o, old b o e⟩,
      fun b ys e => by rw [upd_ne (ne_of_none e hnD)]; exact e, fun b o u e => by rw [upd_ne (ne_of_none e hnD)]; exact e, fun b ps e => ⟨#[], by rw [upd_ne (ne_of_none e hnD), Array.append_empty]; exact e⟩⟩
    loc := ⟨_, hns₁, fun i y v e1 e2 e3 => by
      have e1' : ((".0" : Str) :: (tns ++ cns))[i]? = some y := e1
      unfold blkSt at e2
      cases i with
      | zero => simp at e2
      | succ i =>
        rw [List.getElem?_cons_succ] at e1' e2
        by_cases hi : i < tns.length
        · rw [List.getElem?_append_left (by simpa using hi), List.getElem?_replicate, if_pos hi] at e2
          cases e2
        · rw [List.getElem?_append_right (by omega)] at e1'
          rw [List.getElem?_append_right (by simp; omega), List.length_replicate] at e2
          obtain ⟨q, hq, hN, hm⟩ := S.cap _ _ e1'
          rw [List.getElem?_map, hq] at e2
          have e2' : (σ[q]?).join = some v := by simpa using e2
          have e4 : σ[q]? = some (some v) := by
            cases z : σ[q]? with
            | none => rw [z] at e2'; cases e2'
            | some o => rw [z] at e2'; rw [show o = some v from e2']
          obtain ⟨m, hns, hl⟩ := I2.loc
          have hvis : Vis X.env.scope y := by
            rcases S.free (y, .free) hm rfl with z | z
            · exact .inr (.inl z)
            · exact .inr (.inr z)
          obtain ⟨u, ru, lk⟩ := hl q y v hN e4 hvis
          refine ⟨u, ru, .inr ?_⟩
          have hkk : X.env.kindOf y = some .cell ∨ X.env.kindOf y = some .free := S.free (y, .free) hm rfl
          rcases lk with ⟨k1, _⟩ | ⟨_, c, hc1, hc2⟩
          · rcases hkk with z | z <;> (rw [k1] at z; cases z)
          · obtain ⟨c', hc'⟩ := clOf_has (cells := X.env.cells) (acc := []) hm
            have ecc : c' = c := by
              have := hsub y c' hc'
              rw [hc1] at this; cases this; rfl
            subst ecc
            have e3' : Vis (relabel scope X.env) y := e3
            refine ⟨?_, c', hc', ?_⟩
            · rcases e3' with z | z | z
              · exfalso
                exact S.noloc y hm z
              · exact .inl z
              · exact .inr z
            · exact hc2.keeps old⟩
    cell := fun y c e => by
      obtain ⟨v, q⟩ := I2.cell y c (hsub y c e)
      exact ⟨v, q.keeps old⟩
    free := by show upd H2 s2.heap.objs.size (.lst []) G2.objs.size = none; rw [upd_ne (Ne.symm hDC)]; exact hnC
    freeC := fun y c e => by rw [upd_ne (clD y c e)]; exact I2.freeC y c (hsub y c e)
    pin := fun p hp => by
      have hp' : p ∈ ([] : List (Addr × Obj)) ++ [] := hp
      simp at hp'
    hok := hokD
    len := by
      show (blkSt _ ci σ).length = ((".0" : Str) :: (tns ++ cns)).length
      unfold blkSt
      simp [S.len] }
  have st3 : tn 0 h₁ := T.keep _ _ _ st2 fun b _ o e => old b o e
  have fr3 : ∀ b ∈ fp, upd H2 s2.heap.objs.size (.lst []) b = none := fun b hb => by rw [upd_ne (Nat.ne_of_lt (fpl b hb))]; exact (f2 b hb).1
  have stat : ∀ {H' : Hp}, (∀ b ∈ fp, H' b = none) → ∀ b ∈ fp, FpOk (X.blk (".0" :: (tns ++ cns)) scope ⟨G2.objs.size, fp, s2, H2⟩) [] H' b := fun hn b hb =>
    ⟨hn b hb, below b (fpl b hb), ok.exfs b hb, .inl hb, fun y c e => (f2 b hb).2.2.2.2.1 y c (hsub y c e), fun p hp => by
      have hp' : p ∈ ([] : List (Addr × Obj)) ++ [] := hp
      simp at hp'⟩
  have loop : ∀ s₃ : Shared, s₃ = { s2 with heap := h₁, toks := s2.toks + ([] : List (Str × Value)).length } →
      codeAny (model X.prog X.w) X.A (.compLoop (.ListComp elt [⟨tgt, iter, ifs, 0⟩] scope pos) 0 (.ref it) (.ref s2.heap.objs.size) (compEnvC scope (clOf X.env.cells scope.names []) G2.objs.size X.env))
        (RR (.ref s2.heap.objs.size) G2.objs.size) s₃ := by
    rintro s₃ rfl
    refine compLoop_goT (fun n s' => ∃ (i : Nat) (os : List (Option V)) (ys : List V) (H' : Hp), os.length = tns.length ∧ Inv (X.blk (".0" :: (tns ++ cns)) scope ⟨G2.objs.size, fp, s2, H2⟩) [] (blkSt os ci σ) H' s' ∧ tn i s'.heap ∧ (∀ b ∈ fp, H' b = none) ∧ W i n ys H') ?_ m0 ⟨0, _, [], _, by simp, I3, st3, fr3, w0⟩
    rintro n s4 ⟨i, os, ys, H4, hos, I4, st4, fr4, w4⟩
    rcases turn i n ys H4 w4 with ⟨stop, q⟩ | ⟨go, N, hN, step⟩
    · refine thn (T.done (X.blk (".0" :: (tns ++ cns)) scope ⟨G2.objs.size, fp, s2, H2⟩) rfl rfl rfl hc i [] s4 _ H4 (fun _ _ => False) I4 (stat fr4) st4 stop) fun r s5 ⟨hr, I5⟩ => ?_
      subst hr
      obtain ⟨m, hm, _⟩ := I5.loc
      have fC : H4 G2.objs.size = none := I5.free
      have ub : Un (frs X.stack) fp H2 H4 s2.heap s5.heap := I5.base
      have IX : Inv X pins σ H4 s5 := I2.call' (s' := s5) (show s5.os = s2.os from I5.os) ub I5.hok I5.bare fun b hb => ⟨(f2 b hb).2.2.2.1, (f2 b hb).2.1, (f2 b hb).2.2.2.2.1, (f2 b hb).2.2.2.2.2⟩
      exact fin _ _ s5 H4 m IX hm (I2.fpOk (by omega) fC) q
    · refine thn (T.item (X.blk (".0" :: (tns ++ cns)) scope ⟨G2.objs.size, fp, s2, H2⟩) rfl rfl rfl hc i [] s4 _ H4 (fun _ _ => False) I4 (stat fr4) st4 go) fun r s5 ⟨u, hr, h5⟩ => ?_
      subst hr
      refine thn h5 fun _ s6 hhx => ?_
      obtain ⟨y, H6, I6, r6, y6, st6, fr6⟩ := hhx
      have I6' := I6.pinned (stat fr6) (T.obj _ _ st6)
      refine thn (hg _ _ s6 _ H6 y u _ I6' r6 (step y H6 os hos y6)) fun _ s7 ⟨σ7, H7, I7, ⟨os', hos', e7⟩, q7⟩ => ?_
      subst e7
      have back : ∀ {H9 : Hp} {s9 : Shared}, Inv (X.blk (".0" :: (tns ++ cns)) scope ⟨G2.objs.size, fp, s2, H2⟩) ([] ++ pinsAt fp s6.heap) (blkSt os' ci σ) H9 s9 → tn (i + 1) s9.heap ∧ ∀ b ∈ fp, H9 b = none := fun {H9 s9} I9 =>
        ⟨T.keep _ _ _ st6 fun b hb ob e => (I9.pin (b, ob) (List.mem_append_right _ (List.mem_append_right _ (mem_pinsAt hb e)))).1, fun b hb => by
          obtain ⟨ob, e, d⟩ := T.obj _ _ st6 b hb
          exact (I9.pin (b, ob) (List.mem_append_right _ (List.mem_append_right _ (mem_pinsAt hb e)))).2.1⟩
      refine thn (ht _ _ s7 _ H7 _ I7 q7) fun b s8 hhx => ?_
      obtain ⟨H8, I8, q8⟩ := hhx
      cases b with
      | false =>
        rw [if_neg Bool.false_ne_true] at q8 ⊢
        obtain ⟨m', hm', w8⟩ := hN _ _ q8
        exact ⟨m', hm', i + 1, os', ys, _, hos', I8.unpinned, (back I8).1, (back I8).2, w8⟩
      | true =>
        rw [if_pos rfl] at q8 ⊢
        refine thn (he _ _ s8 _ H8 _ I8 q8) fun zv s8 hhx => ?_
        obtain ⟨z, H8, I8, rz, ha8, hl8, n8⟩ := hhx
        obtain ⟨m', hm', w8⟩ := hN _ _ n8
        refine thn (mt_append (X := X.blk (".0" :: (tns ++ cns)) scope ⟨G2.objs.size, fp, s2, H2⟩) _ s8 _ H8 (.ref s2.heap.objs.size) [z] (.ref s2.heap.objs.size) [zv] (fun _ H9 => H9 = upd H8 s2.heap.objs.size (.lst (ys ++ [z]))) I8 rfl (.cons rz .nil) ⟨_, ys, z, rfl, rfl, ha8, hl8, rfl⟩) fun _ s9 hhx => ?_
        obtain ⟨_, H9, I9, _, e9⟩ := hhx
        subst e9
        exact ⟨m', hm', i + 1, os', ys ++ [z], _, hos', I9.unpinned, (back I9).1, (back I9).2, w8⟩
  exact codeAny_compStart_list (loop _ rfl) (T.self _ 0 _ _ _ st3 (loop _ rfl))

theorem pe_compG {X : Cx} {elt iter tgt : Expr} {ifs : List Expr} {pos : Pos} {scope : Scope} {wi : TI} {g : Bk → TG} {tt : Bk → TT} {te : Bk → TE} {tns cns : List Str} {ci : List Nat} (hc : X.calm = true) (S : CompSc X scope cns ci) (hi : PI X tgt iter wi)
    (hg : ∀ bk : Bk, PG (X.blk (".0" :: (tns ++ cns)) scope bk) tgt (g bk))
    (ht : ∀ bk : Bk, PIfs (X.blk (".0" :: (tns ++ cns)) scope bk) ifs (tt bk))
    (he : ∀ bk : Bk, PE (X.blk (".0" :: (tns ++ cns)) scope bk) elt (te bk))
    (hs : ∀ v, foldedSetIterable iter X.env v = pure v := by intro _; rfl) :
    PE X (.ListComp elt [⟨tgt, iter, ifs, 0⟩] scope pos) (tCompG wi g tt te tns.length ci) := by
  intro pins s σ H Q I h
  have hfc : ∀ y ∈ scope.names, y.2 = .free → ∃ c, X.env.cells.lookup y.1 = some c := fun y hy hk => I.ok.has _ (S.free y hy hk)
  rw [eval_ListComp]
  refine wpAny_comprehension_free (use := none) rfl hs (closureFor_cl hfc) S.kind S.names (thn (hi pins s σ H _ I h) fun v s1 h1 => thn h1 fun itv s2 h2 => ?_)
  obtain ⟨it, fp, tn, J, H2, rfl, I2, T, st2, f2, hcw⟩ := h2
  refine comp_core (RR := fun acc C => compPost (model X.prog X.w) X.A X.xe none (EP X pins σ Q) acc C) hc S hg ht he I2 T st2 f2 hcw fun D C s5 H4 m I5 hm fo q => ?_
  refine ⟨m, hm, fun h' hs' => ⟨.ref D, H4, ?_, rfl, q⟩⟩
  exact I5.turned (t' := s5.toks) (it := C) (fun b o hb e => (hs'.2 b hb).trans e) fo.1 fo.2.1 fo.2.2.2.1 fo.2.2.2.2.1 fo.2.2.2.2.2
def sSetComp (i : Nat) (wi : TI) (g : Bk → TG) (tt : Bk → TT) (te : Bk → TE) (nt : Nat) (ci : List Nat) : TS := fun D σ H => wi σ H fun J H1 => ∀ acc, H1 acc = none → ∀ bk : Bk, CompGW J (g bk) (tt bk) (te bk) nt ci σ acc (fun H' => D.nx (σ.set i (some (.ref acc))) H') (upd H1 acc (.lst []))
theorem ps_setComp {X : Cx} {i : Nat} {x : Str} {px pos' : Pos} {elt iter tgt : Expr} {ifs : List Expr} {pos : Pos} {scope : Scope} {wi : TI} {g : Bk → TG} {tt : Bk → TT} {te : Bk → TE} {tns cns : List Str} {ci : List Nat}
    (hN : X.N.Nodup) (hx : X.N[i]? = some x) (hl : Loc X.env.scope x) (hf : X.fn x = true) (hsw : swapsWith (.ListComp elt [⟨tgt, iter, ifs, 0⟩] scope pos) (some (.Name x px)) pos'.line X.env = pure true)
    (hc : X.calm = true) (S : CompSc X scope cns ci) (hi : PI X tgt iter wi)
    (hg : ∀ bk : Bk, PG (X.blk (".0" :: (tns ++ cns)) scope bk) tgt (g bk))
    (ht : ∀ bk : Bk, PIfs (X.blk (".0" :: (tns ++ cns)) scope bk) ifs (tt bk))
    (he : ∀ bk : Bk, PE (X.blk (".0" :: (tns ++ cns)) scope bk) elt (te bk))
    (hs : ∀ v, foldedSetIterable iter X.env v = pure v := by intro _; rfl) :
    PS X (.Assign [.Name x px] (.ListComp elt [⟨tgt, iter, ifs, 0⟩] scope pos) pos') (sSetComp i wi g tt te tns.length ci) := by
  intro pins s σ H D I h
  have hfc : ∀ y ∈ scope.names, y.2 = .free → ∃ c, X.env.cells.lookup y.1 = some c := fun y hy hk => I.ok.has _ (S.free y hy hk)
  rw [exec_Assign_Name_used _ _ _ _ hsw]
  refine wpAny_bind (wpAny_standAt (wpAny_bind ?_))
  show wpAny _ _ (do let _ ← comprehension (.ListComp elt [⟨tgt, iter, ifs, 0⟩] scope pos) scope X.env _ (newList []) false (eval iter X.env) (some (assign (.Name x px) X.env))) _ _ s
  refine wpAny_bind (wpAny_mono (wpAny_comprehension_free (use := some (assign (.Name x px) X.env)) (Q := fun _ s' => SP X pins D .next s') rfl hs (closureFor_cl hfc) S.kind S.names
    (thn (hi pins s σ H _ I h) fun v s1 h1 => thn h1 fun itv s2 h2 => ?_)) (fun _ s' hq => wpAny_pure (wpAny_pure hq)) fun _ _ e => e)
  obtain ⟨it, fp, tn, J, H2, rfl, I2, T, st2, f2, hcw⟩ := h2
  refine comp_core (RR := fun acc C => compPost (model X.prog X.w) X.A X.xe (some (assign (.Name x px) X.env)) (fun _ s' => SP X pins D .next s') acc C) hc S hg ht he I2 T st2 f2 hcw fun D' C s5 H4 m I5 hm fo q => ?_
  obtain ⟨o, es, ep, ho, hd, hr⟩ := id hm
  have IP : Inv X (pins ++ pinsAt [C] s5.heap) σ H4 s5 := I5.pinned (fp := [C]) (fun b hb => by rw [List.mem_singleton.mp hb]; exact fo) fun b hb => by
    rw [List.mem_singleton.mp hb]
    exact ⟨o, ho, fun v z => by rw [hd] at z; cases z⟩
  show wpAny _ _ (assign (.Name x px) X.env (.ref D')) _ _ s5
  refine thn (pg_name (X := X) (i := i) hN hx hl (.inl hf) _ s5 σ H4 (.ref D') (.ref D') (fun σ' H' => σ' = σ.set i (some (.ref D')) ∧ H' = H4) IP rfl ⟨rfl, rfl⟩) fun _ s6 hhx => ?_
  obtain ⟨σ6, H6, I6, e1, e2⟩ := hhx
  subst e1 e2
  have hC6 : s6.heap.get? C = some o := (I6.pin (C, o) (List.mem_append_right _ (List.mem_append_right _ (mem_pinsAt (List.mem_singleton.mpr rfl) ho)))).1
  refine ⟨m, ⟨o, es, ep, hC6, hd, hr⟩, fun h' hs' => ⟨_, _, ?_, q⟩⟩
  exact I6.unpinned.turned (t' := s6.toks) (it := C) (fun b o hb e => (hs'.2 b hb).trans e) fo.1 fo.2.1 fo.2.2.2.1 fo.2.2.2.2.1 fo.2.2.2.2.2

def relS (scope osc : Scope) : List (Str × NameKind) := scope.names.map fun (n, k) => if (k == NameKind.free && osc.kind == .function && osc.names.lookup n == some .cell) then (n, NameKind.cell) else (n, k)
def capOk (N : List Str) (names : List (Str × NameKind)) : List Str → List Nat → Bool
  | [], [] => true
  | x :: xs, i :: is => N[i]? == some x && names.any (fun y => y.1 == x && y.2 == .free) && capOk N names xs is
  | _, _ => false
def chkC (osc : Scope) (N : List Str) (scope : Scope) (cns : List Str) (ci : List Nat) : Bool :=
  scope.kind == .function && scope.names.all (fun y => y.2 != .cell) && scope.names.all (fun y => y.2 != .local || scope.names.lookup y.1 == some .local) &&
  scope.names.all (fun y => y.2 != .free || (osc.names.lookup y.1 == some .cell || osc.names.lookup y.1 == some .free)) && capOk N scope.names cns ci &&
  scope.names.all (fun y => y.2 != .free || (relS scope osc).lookup y.1 != some .local)
theorem capOk_get {N : List Str} {names : List (Str × NameKind)} : ∀ {cns : List Str} {ci : List Nat}, capOk N names cns ci = true → cns.length = ci.length ∧ ∀ (j : Nat) x, cns[j]? = some x → ∃ i, ci[j]? = some i ∧ N[i]? = some x ∧ (x, NameKind.free) ∈ names
  | [], [], _ => ⟨rfl, fun j x e => by simp at e⟩
  | [], _ :: _, h => by simp [capOk] at h
  | _ :: _, [], h => by simp [capOk] at h
  | x :: xs, i :: is, h => by
    unfold capOk at h
    rw [Bool.and_eq_true, Bool.and_eq_true] at h
    obtain ⟨⟨h1, h2⟩, h3⟩ := h
    obtain ⟨l, r⟩ := capOk_get h3
    refine ⟨by simp [l], fun j y e => ?_⟩
    cases j with
    | zero =>
      have e' : x = y := by simpa using e
      subst e'
      refine ⟨i, by simp, by simpa using h1, ?_⟩
      obtain ⟨z, hz, hq⟩ := List.any_eq_true.mp h2
      rw [Bool.and_eq_true] at hq
      obtain ⟨a, b⟩ := z
      have e1 : a = x := by simpa using hq.1
      have e2 : b = .free := by simpa using hq.2
      subst e1 e2
      exact hz
    | succ j =>
      obtain ⟨k, hk⟩ := r j y (by simpa using e)
      exact ⟨k, by simpa using hk.1, hk.2⟩
theorem CompSc.of {X : Cx} {scope : Scope} {cns : List Str} {ci : List Nat} (h : chkC X.env.scope X.N scope cns ci = true) : CompSc X scope cns ci := by
  unfold chkC at h
  rw [Bool.and_eq_true, Bool.and_eq_true, Bool.and_eq_true, Bool.and_eq_true, Bool.and_eq_true] at h
  obtain ⟨⟨⟨⟨⟨h1, h2⟩, h3⟩, h4⟩, h5⟩, h6⟩ := h
  obtain ⟨l, r⟩ := capOk_get h5
  refine ⟨by simpa using h1, fun y hy => ?_, fun y hy hk => ?_, fun y hy hk => ?_, r, l, fun y hy z => ?_⟩
  · simpa using List.all_eq_true.mp h2 y hy
  · have := List.all_eq_true.mp h3 y hy
    rw [Bool.or_eq_true] at this
    rcases this with q | q
    · exact absurd hk (by simpa using q)
    · simpa using q
  · have := List.all_eq_true.mp h4 y hy
    rw [Bool.or_eq_true, Bool.or_eq_true] at this
    rcases this with q | q | q
    · exact absurd hk (by simpa using q)
    · exact .inl (show X.env.scope.names.lookup y.1 = _ by simpa using q)
    · exact .inr (show X.env.scope.names.lookup y.1 = _ by simpa using q)
  · have := List.all_eq_true.mp h6 _ hy
    rw [Bool.or_eq_true] at this
    rcases this with q | q
    · simp at q
    · have z' : (relS scope X.env.scope).lookup y = some .local := z
      have q' : ((relS scope X.env.scope).lookup y != some .local) = true := q
      rw [z'] at q'
      exact absurd q' (by decide)
section
variable {K : PySem.W.Frag} {g : TG} {tt : TT} {te : TE} {nt : Nat} {ci : List Nat} {σ : St} {acc : Addr} {Q : Hp → Prop} {H0 : Hp}
theorem cg_list {a : Addr} {xs : List V} (Pv : Nat → List V → Hp → Prop) (h0 : Pv 0 [] H0) (hl : ∀ i ys H, i ≤ xs.length → Pv i ys H → SqL K H a xs)
    (hs : ∀ (i : Nat) x ys H os, xs[i]? = some x → os.length = nt → Pv i ys H → g x (blkSt os ci σ) H fun σ1 H1 => (∃ os', os'.length = nt ∧ σ1 = blkSt os' ci σ) ∧ tt σ1 H1 fun b H2 =>
      if b = true then te σ1 H2 fun z H3 => H3 acc = some (.lst ys) ∧ ys.length < sizeLine ∧ Pv (i + 1) (ys ++ [z]) (upd H3 acc (.lst (ys ++ [z]))) else Pv (i + 1) ys H2)
    (hd : ∀ ys H, Pv xs.length ys H → Q H) : CompGW (Itl K a) g tt te nt ci σ acc Q H0 := by
  refine ⟨fun i m ys H => m = xs.length - i ∧ i ≤ xs.length ∧ Pv i ys H, ⟨xs.length, by simp, Nat.zero_le _, h0⟩, ?_⟩
  rintro i m ys H ⟨rfl, hi, p⟩
  have q := hl i ys H hi p
  by_cases hlt : i < xs.length
  · refine .inr ⟨⟨xs, xs[i], q, by simp [hlt]⟩, Pv (i + 1), fun ys' H' p' => ⟨xs.length - (i + 1), by omega, rfl, hlt, p'⟩, fun y H' os ho yl => ?_⟩
    obtain ⟨rfl, yl⟩ := yl
    exact hs i y ys H' os (yl xs q) ho p
  · have e : i = xs.length := by omega
    subst e
    exact .inl ⟨⟨xs, q, Nat.le_refl _⟩, hd ys H p⟩
theorem cg_tup {a : Addr} {xs : List V} (Pv : Nat → List V → Hp → Prop) (h0 : Pv 0 [] H0) (hl : ∀ i ys H, i ≤ xs.length → Pv i ys H → SqT K H a xs)
    (hs : ∀ (i : Nat) x ys H os, xs[i]? = some x → os.length = nt → Pv i ys H → g x (blkSt os ci σ) H fun σ1 H1 => (∃ os', os'.length = nt ∧ σ1 = blkSt os' ci σ) ∧ tt σ1 H1 fun b H2 =>
      if b = true then te σ1 H2 fun z H3 => H3 acc = some (.lst ys) ∧ ys.length < sizeLine ∧ Pv (i + 1) (ys ++ [z]) (upd H3 acc (.lst (ys ++ [z]))) else Pv (i + 1) ys H2)
    (hd : ∀ ys H, Pv xs.length ys H → Q H) : CompGW (Itt K a) g tt te nt ci σ acc Q H0 := by
  refine ⟨fun i m ys H => m = xs.length - i ∧ i ≤ xs.length ∧ Pv i ys H, ⟨xs.length, by simp, Nat.zero_le _, h0⟩, ?_⟩
  rintro i m ys H ⟨rfl, hi, p⟩
  have q := hl i ys H hi p
  by_cases hlt : i < xs.length
  · refine .inr ⟨⟨xs, xs[i], q, by simp [hlt]⟩, Pv (i + 1), fun ys' H' p' => ⟨xs.length - (i + 1), by omega, rfl, hlt, p'⟩, fun y H' os ho yl => ?_⟩
    obtain ⟨rfl, yl⟩ := yl
    exact hs i y ys H' os (yl xs q) ho p
  · have e : i = xs.length := by omega
    subst e
    exact .inl ⟨⟨xs, q, Nat.le_refl _⟩, hd ys H p⟩
theorem cg_range {lo : Int} {n : Nat} (Pv : Nat → List V → Hp → Prop) (h0 : Pv 0 [] H0)
    (hs : ∀ (i : Nat) ys H os, i < n → os.length = nt → Pv i ys H → g (.int (lo + i)) (blkSt os ci σ) H fun σ1 H1 => (∃ os', os'.length = nt ∧ σ1 = blkSt os' ci σ) ∧ tt σ1 H1 fun b H2 =>
      if b = true then te σ1 H2 fun z H3 => H3 acc = some (.lst ys) ∧ ys.length < sizeLine ∧ Pv (i + 1) (ys ++ [z]) (upd H3 acc (.lst (ys ++ [z]))) else Pv (i + 1) ys H2)
    (hd : ∀ ys H, Pv n ys H → Q H) : CompGW (Itr lo n) g tt te nt ci σ acc Q H0 := by
  refine ⟨fun i m ys H => m = n - i ∧ i ≤ n ∧ Pv i ys H, ⟨n, by simp, Nat.zero_le _, h0⟩, ?_⟩
  rintro i m ys H ⟨rfl, hi, p⟩
  by_cases hlt : i < n
  · refine .inr ⟨hlt, Pv (i + 1), fun ys' H' p' => ⟨n - (i + 1), by omega, rfl, hlt, p'⟩, fun y H' os ho yl => ?_⟩
    obtain ⟨rfl, rfl⟩ := yl
    exact hs i ys H' os hlt ho p
  · have e : i = n := by omega
    subst e
    exact .inl ⟨Nat.le_refl _, hd ys H p⟩
end
end L2
set_option Elab.async false
set_option linter.all false
set_option maxRecDepth 100000
namespace L2
open PySem PySem.Spec PyProof.Rows

def isiT : List String := ["int", "bool", "str", "list", "tuple", "dict"]
/-- the kind of a value -/
inductive KindV (K : PySem.W.Frag) (H : Hp) : V → String → Prop where
  | non : KindV K H .non "NoneType"
  | bl {b : Bool} : KindV K H (.bl b) "bool"
  | int {i : Int} : KindV K H (.int i) "int"
  | str {x : Str} : KindV K H (.str x) "str"
  | lst {a : Addr} {xs : List V} (h : SqL K H a xs) : KindV K H (.ref a) "list"
  | tup {a : Addr} {xs : List V} (h : SqT K H a xs) : KindV K H (.ref a) "tuple"
  | dic {a : Addr} (h : IsD H a) : KindV K H (.ref a) "dict"
def kindIs (k T : String) : Bool := k == T || (k == "bool" && T == "int")
def rIsi (K : PySem.W.Frag) : List V → Hp → VK → Prop := fun xs H Q => ∃ x T k, xs = [x, .ty T] ∧ isiT.contains T = true ∧ KindV K H x k ∧ Q (.bl (kindIs k T)) H
section
variable {X : Cx}
theorem call_isi : CallR X (.builtin "isinstance") (rIsi X.K) := by
  intro pins s σ H xs us Q I r h
  obtain ⟨x, T, k, rfl, hT, hk, q⟩ := h
  obtain ⟨u, v, rfl, ru, rv⟩ := vals2 r
  cases rv
  have hT' : T = "int" ∨ T = "bool" ∨ T = "str" ∨ T = "list" ∨ T = "tuple" ∨ T = "dict" := by simpa [isiT] using hT
  have fin : ∀ {b : Bool}, b = kindIs k T → EP X pins σ Q (.bool b) s := fun e => ⟨.bl _, H, I, rfl, by rw [e]; exact q⟩
  have finT : ∀ {b : Bool}, b = kindIs k T → EP X pins σ Q (.bool b) { s with toks := s.toks + 1 } := fun e => ⟨.bl _, H, I.tok _, rfl, by rw [e]; exact q⟩
  cases hk with
  | non =>
    cases ru
    rcases hT' with rfl | rfl | rfl | rfl | rfl | rfl
    · exact IsiPair.NoneType_int (finT (by decide +kernel))
    · exact IsiPair.NoneType_bool (finT (by decide +kernel))
    · exact IsiPair.NoneType_str (finT (by decide +kernel))
    · exact IsiPair.NoneType_list (finT (by decide +kernel))
    · exact IsiPair.NoneType_tuple (finT (by decide +kernel))
    · exact IsiPair.NoneType_dict (finT (by decide +kernel))
  | bl =>
    cases ru
    rcases hT' with rfl | rfl | rfl | rfl | rfl | rfl
    · exact IsiPair.bool_int (fin (by decide +kernel))
    · exact IsiPair.bool_bool (fin (by decide +kernel))
    · exact IsiPair.bool_str (finT (by decide +kernel))
    · exact IsiPair.bool_list (finT (by decide +kernel))
    · exact IsiPair.bool_tuple (finT (by decide +kernel))
    · exact IsiPair.bool_dict (finT (by decide +kernel))
  | int =>
    obtain ⟨t, rfl⟩ := ru
    rcases hT' with rfl | rfl | rfl | rfl | rfl | rfl
    · exact IsiPair.int_int (fin (by decide +kernel))
    · exact IsiPair.int_bool (finT (by decide +kernel))
    · exact IsiPair.int_str (finT (by decide +kernel))
    · exact IsiPair.int_list (finT (by decide +kernel))
    · exact IsiPair.int_tuple (finT (by decide +kernel))
    · exact IsiPair.int_dict (finT (by decide +kernel))
  | str =>
    obtain ⟨t, rfl⟩ := ru
    rcases hT' with rfl | rfl | rfl | rfl | rfl | rfl
    · exact IsiPair.str_int (finT (by decide +kernel))
    · exact IsiPair.str_bool (finT (by decide +kernel))
    · exact IsiPair.str_str (fin (by decide +kernel))
    · exact IsiPair.str_list (finT (by decide +kernel))
    · exact IsiPair.str_tuple (finT (by decide +kernel))
    · exact IsiPair.str_dict (finT (by decide +kernel))
  | lst hl =>
    cases ru
    obtain ⟨its, _, ⟨o, n, e, c, _⟩, _⟩ := I.list hl
    rcases hT' with rfl | rfl | rfl | rfl | rfl | rfl
    · exact IsiPair.list_int e c (finT (by decide +kernel))
    · exact IsiPair.list_bool e c (finT (by decide +kernel))
    · exact IsiPair.list_str e c (finT (by decide +kernel))
    · exact IsiPair.list_list e c (fin (by decide +kernel))
    · exact IsiPair.list_tuple e c (finT (by decide +kernel))
    · exact IsiPair.list_dict e c (finT (by decide +kernel))
  | tup hl =>
    cases ru
    obtain ⟨its, _, ⟨o, e, c, _⟩, _⟩ := I.tuple hl
    rcases hT' with rfl | rfl | rfl | rfl | rfl | rfl
    · exact IsiPair.tuple_int e c (finT (by decide +kernel))
    · exact IsiPair.tuple_bool e c (finT (by decide +kernel))
    · exact IsiPair.tuple_str e c (finT (by decide +kernel))
    · exact IsiPair.tuple_list e c (finT (by decide +kernel))
    · exact IsiPair.tuple_tuple e c (fin (by decide +kernel))
    · exact IsiPair.tuple_dict e c (finT (by decide +kernel))
  | dic hl =>
    cases ru
    obtain ⟨o, e, c⟩ := (isD_at I hl).1
    rcases hT' with rfl | rfl | rfl | rfl | rfl | rfl
    · exact IsiPair.dict_int e c (finT (by decide +kernel))
    · exact IsiPair.dict_bool e c (finT (by decide +kernel))
    · exact IsiPair.dict_str e c (finT (by decide +kernel))
    · exact IsiPair.dict_list e c (finT (by decide +kernel))
    · exact IsiPair.dict_tuple e c (finT (by decide +kernel))
    · exact IsiPair.dict_dict e c (fin (by decide +kernel))
theorem vals_intsP : ∀ {ns : List Int} {us : List Value}, Vals (ns.map V.int) us → ∃ xs : List (Int × Tok), us = xs.map (fun p => Value.int p.1 p.2) ∧ xs.map (·.1) = ns
  | [], _, r => by cases r; exact ⟨[], rfl, rfl⟩
  | n :: ns, _, r => by
    cases r with
    | cons r0 rr =>
      obtain ⟨t, rfl⟩ := r0
      obtain ⟨xs, rfl, rfl⟩ := vals_intsP rr
      exact ⟨(n, t) :: xs, rfl, rfl⟩
theorem preSum_list (xs : List (Int × Tok)) : preSum (numAt xs.toArray) xs.toArray.size = (xs.map (·.1)).sum := by
  rw [preSum_eq, List.take_of_length_le (by simp)]
theorem call_sum (hc : X.calm = true) : CallR X (.builtin "sum") (fun xs H Q => ∃ (a : Addr) (ns : List Int), xs = [.ref a] ∧ SqL X.K H a (ns.map V.int) ∧ Q (.int ns.sum) H) := by
  intro pins s σ H xs us Q I r h
  obtain ⟨a, ns, rfl, hq, q⟩ := h
  obtain ⟨u, rfl, ru⟩ := vals1 r
  cases ru
  obtain ⟨its, rv, pl, _⟩ := I.list hq
  obtain ⟨ys, rfl, rfl⟩ := vals_intsP rv
  refine sum_intListG (xs := ys.toArray) (I.ok.hd hc) (by have := pl.isList; simpa [intItems] using this) fun h' tk t' hk => ?_
  rw [preSum_list]
  exact ⟨.int _, H, I.kept hk, ⟨_, rfl⟩, q⟩
end

section
variable {H : Hp} {Q : VK} {σ : St} {D : Ends} {K : PySem.W.Frag}
theorem r_compG {wi : TI} {g : Bk → TG} {tt : Bk → TT} {te : Bk → TE} {nt : Nat} {ci : List Nat} : tCompG wi g tt te nt ci σ H Q = wi σ H fun J H1 => ∀ acc, H1 acc = none → ∀ bk : Bk, CompGW J (g bk) (tt bk) (te bk) nt ci σ acc (fun H' => Q (.ref acc) H') (upd H1 acc (.lst [])) := rfl
theorem r_setComp {i : Nat} {wi : TI} {g : Bk → TG} {tt : Bk → TT} {te : Bk → TE} {nt : Nat} {ci : List Nat} : sSetComp i wi g tt te nt ci D σ H = wi σ H fun J H1 => ∀ acc, H1 acc = none → ∀ bk : Bk, CompGW J (g bk) (tt bk) (te bk) nt ci σ acc (fun H' => D.nx (σ.set i (some (.ref acc))) H') (upd H1 acc (.lst [])) := rfl
theorem r_yes {Q : Bool → Hp → Prop} : tYes σ H Q = Q true H := rfl
theorem rIsi_of {x : V} {T k : String} (hk : KindV K H x k) (hT : isiT.contains T = true) (hf : ∀ k', KindV K H x k' → k' = k) : rIsi K [x, .ty T] H Q = Q (.bl (kindIs k T)) H :=
  propext ⟨by rintro ⟨_, _, k', e, _, h2, q⟩; cases e; rw [hf k' h2] at q; exact q, by intro q; exact ⟨x, T, k, rfl, hT, hk, q⟩⟩
theorem r_isi_int_bool {i : Int} : rIsi K [.int i, .ty "bool"] H Q = Q (.bl false) H := (rIsi_of (T := "bool") .int (by decide +kernel) (fun k h => by cases h; rfl)).trans (by rw [show kindIs "int" "bool" = false by decide +kernel])
theorem r_isi_int_str {i : Int} : rIsi K [.int i, .ty "str"] H Q = Q (.bl false) H := (rIsi_of (T := "str") .int (by decide +kernel) (fun k h => by cases h; rfl)).trans (by rw [show kindIs "int" "str" = false by decide +kernel])
theorem r_isi_bl_bool {b : Bool} : rIsi K [.bl b, .ty "bool"] H Q = Q (.bl true) H := (rIsi_of (T := "bool") .bl (by decide +kernel) (fun k h => by cases h; rfl)).trans (by rw [show kindIs "bool" "bool" = true by decide +kernel])
theorem r_isi_str_str {x : Str} : rIsi K [.str x, .ty "str"] H Q = Q (.bl true) H := (rIsi_of (T := "str") .str (by decide +kernel) (fun k h => by cases h; rfl)).trans (by rw [show kindIs "str" "str" = true by decide +kernel])
end
end L2
set_option Elab.async false
set_option linter.all false
set_option maxRecDepth 100000
namespace L2
open PySem PySem.Spec PyProof.Rows
section
variable {H : Hp} {Q : VK} {σ : St} {D : Ends} {K : PySem.W.Frag}
theorem r_slT {a : Addr} {lo hi : Option Int} : rSlT K (.ref a) lo hi H Q = ∃ xs, SqT K H a xs ∧ ¬ (HT.sIx xs.length 0 lo = 0 ∧ HT.sIx xs.length xs.length hi = xs.length) ∧ ∀ p, H p = none → Q (.ref p) (upd H p (.tup (cutV xs lo hi))) := propext ⟨by rintro ⟨_, xs, e1, h⟩; cases e1; exact ⟨xs, h⟩, by rintro ⟨xs, h⟩; exact ⟨_, xs, rfl, h⟩⟩
theorem r_inR {x : V} {p : Addr} : rIn K false x (.ref p) H Q = ∃ xs, (SqL K H p xs ∨ SqT K H p xs) ∧ flatV x = true ∧ xs.all flatV = true ∧ Q (.bl (inV x xs)) H := propext ⟨by rintro ⟨_, xs, e1, h⟩; cases e1; exact ⟨xs, h⟩, by rintro ⟨xs, h⟩; exact ⟨_, xs, rfl, h⟩⟩
end
theorem Paired.get {α β : Type} {F : α → β → Prop} : ∀ {l₁ : List α} {l₂ : List β} {i : Nat} {a : α}, Paired F l₁ l₂ → l₁[i]? = some a → ∃ b, l₂[i]? = some b ∧ F a b
  | _, _, _, _, .nil, e => by simp at e
  | _, _, 0, _, .cons h _, e => by simp at e; subst e; exact ⟨_, rfl, h⟩
  | _, _, i + 1, a, .cons _ t, e => by
    obtain ⟨b, h1, h2⟩ := Paired.get (i := i) (a := a) t (by simpa using e)
    exact ⟨b, by simpa using h1, h2⟩
theorem Paired.getR {α β : Type} {F : α → β → Prop} : ∀ {l₁ : List α} {l₂ : List β} {i : Nat} {b : β}, Paired F l₁ l₂ → l₂[i]? = some b → ∃ a, l₁[i]? = some a ∧ F a b
  | _, _, _, _, .nil, e => by simp at e
  | _, _, 0, _, .cons h _, e => by simp at e; subst e; exact ⟨_, rfl, h⟩
  | _, _, i + 1, b, .cons _ t, e => by
    obtain ⟨a, h1, h2⟩ := Paired.getR (i := i) (b := b) t (by simpa using e)
    exact ⟨a, by simpa using h1, h2⟩
theorem Same.updM {H0 H : Hp} {p : Addr} {o : HO} (s : Same H0 H) (h : H0 p = none) : Same H0 (L2.upd H p o) := fun b u e => by rw [upd_ne (ne_of_none e h)]; exact s b u e
theorem Same.updN {H0 H : Hp} {p : Addr} {o : HO} (s : Same H0 H) (h : H p = none) : Same H0 (L2.upd H p o) := s.updM (s.free h)
theorem ite_bool {b : Bool} {A B : Prop} (h1 : b = true → A) (h2 : b = false → B) : if b = true then A else B := by
  cases b
  · rw [if_neg Bool.false_ne_true]; exact h2 rfl
  · rw [if_pos rfl]; exact h1 rfl
theorem cxOf_K {CX : CXT} {P : Program} {w : World} {K : PySem.W.Frag} {mg : Str → Option Value} {base : Heap} {N : List Str} {qual : Str} {scope : Scope} {f : Addr} {cd : Value} {A : Around} {outer : List Env} {s : Shared} {H : Hp} {E : XK} : (cxOf CX P w K mg base N qual scope f cd A outer s H E).K = K := rfl
theorem wish_K {X : Cx} {E : Value → Shared → Prop} : (X.wish E).K = X.K := rfl
theorem blk_K {X : Cx} {N' : List Str} {scope : Scope} {b : Bk} : (X.blk N' scope b).K = X.K := rfl
theorem r_blk1 {o : Option V} {ci : List Nat} {σ : St} : blkSt [o] ci σ = none :: o :: ci.map fun i => (σ[i]?).join := rfl
theorem r_blk2 {o o' : Option V} {ci : List Nat} {σ : St} : blkSt [o, o'] ci σ = none :: o :: o' :: ci.map fun i => (σ[i]?).join := rfl
theorem notWhole {n k : Nat} {P : Prop} (h : ¬ HT.sIx n 0 (some (k : Int)) = 0) : ¬ (HT.sIx n 0 (some (k : Int)) = 0 ∧ P) := fun z => h z.1
def isStrV : V → Bool
  | .str _ => true
  | _ => false
theorem inV_str {n : Str} : ∀ {ns : List Str}, inV (.str n) (ns.map V.str) = decide (n ∈ ns)
  | [] => by simp [inV]
  | m :: ns => by
    have ih := inV_str (n := n) (ns := ns)
    unfold inV at ih ⊢
    rw [List.map_cons, List.any_cons, ih]
    have e : eqV (.str m) (.str n) = decide (m = n) := by unfold eqV; rfl
    rw [e]
    by_cases h1 : m = n
    · subst h1; simp
    · have h2 : ¬ n = m := fun z => h1 z.symm
      simp [h1, h2]
theorem flat_strs : ∀ {ns : List Str}, (ns.map V.str).all flatV = true
  | [] => rfl
  | n :: ns => by rw [List.map_cons, List.all_cons, flat_strs]; rfl
section
variable {K : PySem.W.Frag} {tt : TT} {te : TE} {ci : List Nat} {σ : St} {acc : Addr} {Q : Hp → Prop} {H1 : Hp} {a : Addr} {xs : List V}
theorem flat_turn (p : V → Bool) (f : V → V) {x : V} {ys : List V} {H : Hp} {os : List (Option V)} {i : Nat} {Pv : Nat → List V → Hp → Prop} (ho : os.length = 1) (hi : xs[i]? = some x)
    (hp : ∀ Q', Q' (p x) H → tt (blkSt [some x] ci σ) H Q') (hf : ∀ Q', p x = true → Q' (f x) H → te (blkSt [some x] ci σ) H Q') (hacc : H acc = some (.lst ys)) (hlen : ys.length < sizeLine)
    (h1 : p x = true → Pv (i + 1) (ys ++ [f x]) (upd H acc (.lst (ys ++ [f x])))) (h2 : p x = false → Pv (i + 1) ys H) :
    gName 1 x (blkSt os ci σ) H fun σ1 H1 => (∃ os', os'.length = 1 ∧ σ1 = blkSt os' ci σ) ∧ tt σ1 H1 fun b H2 =>
      if b = true then te σ1 H2 fun z H3 => H3 acc = some (.lst ys) ∧ ys.length < sizeLine ∧ Pv (i + 1) (ys ++ [z]) (upd H3 acc (.lst (ys ++ [z]))) else Pv (i + 1) ys H2 := by
  have e : (blkSt os ci σ).set 1 (some x) = blkSt [some x] ci σ := by
    match os, ho with
    | [o], _ => rfl
  show (∃ os', os'.length = 1 ∧ (blkSt os ci σ).set 1 (some x) = blkSt os' ci σ) ∧ tt ((blkSt os ci σ).set 1 (some x)) H _
  rw [e]
  refine ⟨⟨[some x], rfl, rfl⟩, hp _ ?_⟩
  cases hb : p x with
  | true => rw [if_pos rfl]; exact hf _ hb ⟨hacc, hlen, h1 hb⟩
  | false => rw [if_neg Bool.false_ne_true]; exact h2 hb
theorem take_filter_map {p : V → Bool} {f : V → V} {xs : List V} {i : Nat} {x : V} (hi : xs[i]? = some x) : ((xs.take (i + 1)).filter p).map f = ((xs.take i).filter p).map f ++ (if p x = true then [f x] else []) := by
  obtain ⟨h, e⟩ := List.getElem?_eq_some_iff.mp hi
  rw [List.take_succ_eq_append_getElem h, e, List.filter_append, List.map_append]
  congr 1
  cases hb : p x <;> simp [hb]
theorem flat_len {p : V → Bool} {f : V → V} {xs : List V} {i : Nat} {x : V} (hi : xs[i]? = some x) (hz : xs.length ≤ sizeLine) : (((xs.take i).filter p).map f).length < sizeLine := by
  obtain ⟨h, e⟩ := List.getElem?_eq_some_iff.mp hi
  rw [List.length_map]
  have := List.length_filter_le p (xs.take i)
  rw [List.length_take] at this
  omega
theorem cg_flat {J : It} (p : V → Bool) (f : V → V) (hz : xs.length ≤ sizeLine) (hacc : H1 acc = none)
    (hJ : ∀ (Pv : Nat → List V → Hp → Prop), Pv 0 [] (upd H1 acc (.lst [])) → (∀ i ys H, Pv i ys H → ∃ ys', H = upd H1 acc (.lst ys')) →
      (∀ (i : Nat) x ys H os, xs[i]? = some x → os.length = 1 → Pv i ys H → gName 1 x (blkSt os ci σ) H fun σ1 H1 => (∃ os', os'.length = 1 ∧ σ1 = blkSt os' ci σ) ∧ tt σ1 H1 fun b H2 =>
        if b = true then te σ1 H2 fun z H3 => H3 acc = some (.lst ys) ∧ ys.length < sizeLine ∧ Pv (i + 1) (ys ++ [z]) (upd H3 acc (.lst (ys ++ [z]))) else Pv (i + 1) ys H2) →
      (∀ ys H, Pv xs.length ys H → Q H) → CompGW J (gName 1) tt te 1 ci σ acc Q (upd H1 acc (.lst [])))
    (hp : ∀ x ∈ xs, ∀ H Q', Same H1 H → Q' (p x) H → tt (blkSt [some x] ci σ) H Q') (hf : ∀ x ∈ xs, ∀ H Q', Same H1 H → p x = true → Q' (f x) H → te (blkSt [some x] ci σ) H Q')
    (q : Q (upd H1 acc (.lst ((xs.filter p).map f)))) : CompGW J (gName 1) tt te 1 ci σ acc Q (upd H1 acc (.lst [])) := by
  refine hJ (fun i ys H => ys = ((xs.take i).filter p).map f ∧ H = upd H1 acc (.lst ys)) ⟨by simp, rfl⟩ (fun i ys H h => ⟨ys, h.2⟩) ?_ ?_
  · rintro i x ys H os hi ho ⟨rfl, rfl⟩
    have hm := List.mem_of_getElem? hi
    refine flat_turn (xs := xs) (Pv := fun i ys H => ys = ((xs.take i).filter p).map f ∧ H = upd H1 acc (.lst ys)) p f ho hi (fun Q' h => hp x hm _ _ (Same.upd hacc) h) (fun Q' hb h => hf x hm _ _ (Same.upd hacc) hb h) upd_same (flat_len hi hz) (fun hb => ?_) (fun hb => ?_)
    · rw [take_filter_map hi, if_pos hb]; exact ⟨rfl, by rw [upd_upd]⟩
    · rw [take_filter_map hi, if_neg (by rw [hb]; exact Bool.false_ne_true), List.append_nil]; exact ⟨rfl, rfl⟩
  · rintro ys H ⟨rfl, rfl⟩
    rw [List.take_length]
    exact q
theorem cg_flatT (p : V → Bool) (f : V → V) (hz : xs.length ≤ sizeLine) (hl : SqT K H1 a xs) (hacc : H1 acc = none) 
    (hp : ∀ x ∈ xs, ∀ H Q', Same H1 H → Q' (p x) H → tt (blkSt [some x] ci σ) H Q') (hf : ∀ x ∈ xs, ∀ H Q', Same H1 H → p x = true → Q' (f x) H → te (blkSt [some x] ci σ) H Q')
    (q : Q (upd H1 acc (.lst ((xs.filter p).map f)))) : CompGW (Itt K a) (gName 1) tt te 1 ci σ acc Q (upd H1 acc (.lst [])) :=
  cg_flat p f hz hacc (fun Pv h0 hH hs hd => cg_tup Pv h0 (fun i ys H _ h => by obtain ⟨ys', rfl⟩ := hH i ys H h; exact (Same.upd hacc).seqT hl) hs hd) hp hf q
end
end L2
namespace FB
open PySem L2
inductive Opd where
  | box (n : Str)
  | word (i : Int)
  deriving DecidableEq
def Opd.v : Opd → V
  | .box n => .str n
  | .word i => .int i
def Opd.reads : Opd → List Str
  | .box n => [n]
  | .word _ => []
inductive Deed where
  | tell (a : Opd)
  | copy (d : Str) (a : Opd)
  | op (f d : Str) (a b : Opd)
  deriving DecidableEq
def opsL : List Str := ["plus", "less", "and", "or", "xor", "below", "same"]
def Deed.vs : Deed → List V
  | .tell a => [.str "tell", a.v]
  | .copy d a => [.str "copy", .str d, a.v]
  | .op f d a b => [.str f, .str d, a.v, b.v]
def Deed.fine : Deed → Prop
  | .op f _ _ _ => f ∈ opsL
  | _ => True
def Deed.reads : Deed → List Str
  | .tell a => a.reads
  | .copy _ a => a.reads
  | .op _ _ a b => a.reads ++ b.reads
def Deed.writes : Deed → List Str
  | .tell _ => []
  | .copy d _ => [d]
  | .op _ d _ _ => [d]
def Deed.tells : Deed → Bool
  | .tell _ => true
  | _ => false
/-- 1: later; 0: not earlier -/
def gapD (one other : Deed) : Option Int :=
  if one.tells = true ∧ other.tells = true then some 1
  else if ∃ n ∈ one.writes, n ∈ other.reads ∨ n ∈ other.writes then some 1
  else if ∃ n ∈ other.writes, n ∈ one.reads then some 0 else none
def optV : Option Int → V
  | none => .non
  | some i => .int i
end FB
set_option Elab.async false
set_option linter.all false
set_option maxRecDepth 100000
namespace L2
open PySem PySem.Spec PyProof.Rows
section
variable {X : Cx}
end
end L2
set_option Elab.async false
set_option linter.all false
set_option maxRecDepth 100000
namespace L2
open PySem PySem.Spec PyProof.Rows
section
variable {X : Cx} {x : Str} {p pos : Pos} {e : Expr} {es : List Expr} {t : TA} {id T : String} {r : List V → Hp → VK → Prop}
theorem qv (i : Nat) {x : Str} {pos : Pos} (hv : Vis X.env.scope x) (hN : X.N[i]? = some x := by rfl) (hd : (x == ("__debug__" : Str)) = false := by kernel_rfl) (hcd : (x == ("__classdict__" : Str)) = false := by kernel_rfl) : PE X (.Name x pos) (tVar i) := pe_var hN hv hd hcd
theorem vl {sc : Scope} {x : Str} (h : sc.names.lookup x = some .local := by kernel_rfl) : Vis sc x := .inl h
theorem vc {sc : Scope} {x : Str} (h : sc.names.lookup x = some .cell := by kernel_rfl) : Vis sc x := .inr (.inl h)
theorem ll {sc : Scope} {x : Str} (h : sc.names.lookup x = some .local := by kernel_rfl) : Loc sc x := .inl h
theorem lc {sc : Scope} {x : Str} (h : sc.names.lookup x = some .cell := by kernel_rfl) : Loc sc x := .inr h
theorem gl {X : Cx} {x : Str} (h : X.env.scope.names.lookup x = some .globalImplicit := by kernel_rfl) : Gl X x := h
theorem ne_name {x : Str} (h : (x == ("__name__" : Str)) = false := by kernel_rfl) : x ≠ "__name__" := fun z => by subst z; exact absurd h (by decide +kernel)
theorem qe_callB (hc : CallR X (.builtin id) r) (hg : Gl X x) (hm : X.mg x = none) (hv : bootBuiltins x = some (.builtin id)) (ha : PA X (e :: es) t) (hn : (x == ("__name__" : Str)) = false := by kernel_rfl) (hdb : (x == ("__debug__" : Str)) = false := by kernel_rfl)
    (he : starEach (e :: es) X.env = (false, eval e X.env) :: starEach es X.env := by rfl) (hpl : (backTo pos (starEach es X.env)).any (·.1) = false := by rfl) : PE X (.Call (.Name x p) (e :: es) [] pos) (tCB r t) := pe_callB hc hg hm hv ha (ne_name hn) hdb he hpl
theorem qe_callTy (hc : CallR X (.type T) r) (hg : Gl X x) (hm : X.mg x = none) (hv : bootBuiltins x = some (.type T)) (ha : PA X (e :: es) t) (hn : (x == ("__name__" : Str)) = false := by kernel_rfl) (hdb : (x == ("__debug__" : Str)) = false := by kernel_rfl)
    (he : starEach (e :: es) X.env = (false, eval e X.env) :: starEach es X.env := by rfl) (hpl : (backTo pos (starEach es X.env)).any (·.1) = false := by rfl) : PE X (.Call (.Name x p) (e :: es) [] pos) (tCB r t) := pe_callTy hc hg hm hv ha (ne_name hn) hdb he hpl
theorem qe_bltn {x : Str} {v : V} {u : Value} {pos : Pos} (hg : Gl X x) (hm : X.mg x = none) (hv : bootBuiltins x = some u) (r : RelV v u) (hn : (x == ("__name__" : Str)) = false := by kernel_rfl) (hd : (x == ("__debug__" : Str)) = false := by kernel_rfl) : PE X (.Name x pos) (tC v) := pe_bltn hg hm hv r (ne_name hn) hd
theorem qe_callD {k : Nat} {f : Addr} {fd : FuncData} {ps : List Str} {sp : Sp} {x : Str} {st : Stmt} {p pos : Pos} {e : Expr} {es : List Expr} {t : TA} (D : DefAt X.K X.mg x st ps f fd) (G : FnOk X.prog X.w X.K X.mg X.base CX0 k f fd ps sp) (hr : Room k X.A)
    (ha : PA X (e :: es) t) (hg : Gl X x) (hdb : (x == ("__debug__" : Str)) = false := by kernel_rfl) (he : starEach (e :: es) X.env = (false, eval e X.env) :: starEach es X.env := by rfl) (hpl : (backTo pos (starEach es X.env)).any (·.1) = false := by rfl) :
    PE X (.Call (.Name x p) (e :: es) [] pos) (tCall sp [] E0 t) := pe_callD D G hr ha hg hdb he hpl

def constV : Expr → Option V
  | .Constant (.int i) _ _ => some (.int i)
  | .Constant (.str x) _ _ => some (.str x)
  | .Constant (.bool b) _ _ => some (.bl b)
  | .Constant .none _ _ => some .non
  | _ => none
def constVs : List Expr → Option (List V)
  | [] => some []
  | e :: es => (constV e).bind fun v => (constVs es).map fun vs => v :: vs
def tVs (vs : List V) : TA := fun _ H Q => Q vs H
theorem constV_pe {e : Expr} {v : V} (h : constV e = some v) : PE X e (tC v) ∧ ∀ es, starEach (e :: es) X.env = (false, eval e X.env) :: starEach es X.env := by
  unfold constV at h
  split at h
  · cases h; exact ⟨pe_int, fun _ => rfl⟩
  · cases h; exact ⟨pe_str, fun _ => rfl⟩
  · cases h; exact ⟨pe_bl, fun _ => rfl⟩
  · cases h; exact ⟨pe_non, fun _ => rfl⟩
  · cases h
theorem pa_const : ∀ {es : List Expr} {vs : List V}, constVs es = some vs → PA X es (tVs vs)
  | [], _, h => by cases h; exact pa_nil
  | e :: es, vs, h => by
    unfold constVs at h
    obtain ⟨v, h1, h2⟩ := Option.bind_eq_some_iff.mp h
    obtain ⟨ws, h3, h4⟩ := Option.map_eq_some_iff.mp h2
    subst h4
    obtain ⟨p1, p2⟩ := constV_pe (X := X) h1
    exact pa_cons p1 (pa_const h3) (p2 es)
theorem r_Vs {vs : List V} {σ : St} {H : Hp} {Z : List V → Hp → Prop} : tVs vs σ H Z = Z vs H := rfl
theorem r_dnewK {σ : St} {H : Hp} {Q : VK} : tDNewK σ H Q = ∀ p, H p = none → Q (.ref p) (upd H p (.dK [])) := rfl
theorem r_dput {td ty tv : TE} {D : Ends} {σ : St} {H : Hp} : sDPut td ty tv D σ H = tv σ H fun v H1 => td σ H1 fun x H2 => ty σ H2 fun y H3 => ∃ a H4, x = .ref a ∧ DPut H3 a y v H4 ∧ D.nx σ H4 := rfl
theorem r_exRp {c : Addr} {Z : Addr → Hp → Prop} : (∃ a H4, V.ref c = .ref a ∧ Z a H4) = ∃ H4, Z c H4 := propext ⟨by rintro ⟨_, H4, e, q⟩; cases e; exact ⟨H4, q⟩, by rintro ⟨H4, q⟩; exact ⟨c, H4, rfl, q⟩⟩
theorem r_gSub {to ti : TE} {ts : TSet} {v : V} {σ : St} {H : Hp} {Q : St → Hp → Prop} : gSub to ti ts v σ H Q = to σ H fun o H1 => ti σ H1 fun i H2 => ts o i v H2 fun H3 => Q σ H3 := rfl

def tMid (t u : TS) : TS := fun D σ H => ∃ Mid : St → Hp → Prop, t { D with nx := Mid } σ H ∧ ∀ σ' H', Mid σ' H' → u D σ' H'
theorem pss_mid {st : Stmt} {ss : List Stmt} {ta tb : TS} (h1 : PS X st ta) (h2 : PSs X ss tb) : PSs X (st :: ss) (tMid ta tb) := by
  intro pins s σ H D I h
  obtain ⟨Mid, a, b⟩ := h
  refine wpAny_execs_cons (thn (h1 pins s σ H { D with nx := Mid } I a) fun f s1 q => ?_)
  cases f with
  | next =>
    obtain ⟨σ', H', I', q⟩ := q
    exact h2 pins s1 σ' H' D I' (b σ' H' q)
  | ret v => exact q
  | brk => exact q
  | cont => exact q
theorem r_mid {ta tb : TS} {D : Ends} {σ : St} {H : Hp} : tMid ta tb D σ H = ∃ Mid : St → Hp → Prop, ta { D with nx := Mid } σ H ∧ ∀ σ' H', Mid σ' H' → tb D σ' H' := rfl
end
end L2
set_option Elab.async false
set_option linter.all false
set_option maxRecDepth 100000
namespace L2
open PySem PySem.Spec PyProof.Rows
structure KlsAt (K : PySem.W.Frag) (mg : Str → Option Value) (x : Str) (C : Addr) : Prop where
  cl : Cls K C
  mks : PySem.W.makesIn K C = true
  kp : PySem.W.keepIn K (.ref C) = true
  M : mg x = some (.ref C)
structure MethAt (K : PySem.W.Frag) (C : Addr) (m qual : Str) (st : Stmt) (ps : List Str) (f : Addr) (fd : FuncData) : Prop where
  F : Fun K m qual st f fd
  B : Binds K fd ps []
  M : Meth K C m f
section
variable {X : Cx} {k : Nat} {f C : Addr} {fd : FuncData} {ps : List Str} {sp : Sp} {x m qual : Str} {st : Stmt} {p pos apos : Pos} {e o : Expr} {es : List Expr} {ta : TE} {t : TA}
end
section
variable {H : Hp} {Q : VK} {σ : St} {D : Ends} {K : PySem.W.Frag}
def FldPut (K : PySem.W.Frag) (x : V) (f : Str) (y : V) (H : Hp) (Z : Hp → Prop) : Prop := ∃ a C dx fs, x = .ref a ∧ H a = some (.ins C dx fs) ∧ Cls K C ∧ NoAttr K C f ∧ fs.length < 1000 ∧ Z (upd H a (.ins C dx (putF f y fs)))
def FldGet (K : PySem.W.Frag) (x : V) (f : Str) (H : Hp) (Q : VK) : Prop := ∃ a C dx fs v, x = .ref a ∧ H a = some (.ins C dx fs) ∧ Cls K C ∧ NoAttr K C f ∧ fs.lookup f = some v ∧ Q v H
theorem r_sfld {ta tv : TE} {f : Str} : sFld K ta tv f D σ H = tv σ H fun y H1 => ta σ H1 fun x H2 => FldPut K x f y H2 (D.nx σ) := rfl
theorem r_gfld {ta : TE} {f : Str} : tFld K ta f σ H Q = ta σ H fun x H1 => FldGet K x f H1 Q := rfl
end
end L2
set_option Elab.async false
set_option linter.all false
set_option maxRecDepth 100000
namespace L2
open PySem PySem.Spec PyProof.Rows
section
variable {X : Cx}
theorem call_maxL (hc : X.calm = true) : CallR X (.builtin "max") (fun xs H Q => ∃ (a : Addr) (ns : List Int), xs = [.ref a] ∧ SqL X.K H a (ns.map V.int) ∧ 0 < ns.length ∧ ∀ M, M ∈ ns → (∀ n ∈ ns, n ≤ M) → Q (.int M) H) := by
  intro pins s σ H xs us Q I r h
  obtain ⟨a, ns, rfl, hq, hn, q⟩ := h
  obtain ⟨u, rfl, ru⟩ := vals1 r
  cases ru
  obtain ⟨its, rv, pl, _⟩ := I.list hq
  obtain ⟨ys, rfl, rfl⟩ := vals_intsP rv
  have hs : ys.toArray.size = ys.length := by simp
  rw [List.length_map] at hn
  refine max_intList (xs := ys.toArray) (I.ok.hd hc) (by have := pl.isList; simpa [intItems] using this) (by omega) fun v h' tk hv hk => ?_
  obtain ⟨t, rfl⟩ := intItems_at hv
  obtain ⟨h1, h2⟩ := argBest_gt (numAt ys.toArray) (ys.toArray.size - 1)
  refine ⟨.int _, H, I.kept hk, ⟨_, rfl⟩, q _ ?_ fun n hn2 => ?_⟩
  · rw [numAt_eq]; exact getD_mem (by rw [List.length_map]; omega)
  · obtain ⟨j, hj, rfl⟩ := mem_getD hn2
    rw [List.length_map] at hj
    have := h2 j (by omega)
    rw [numAt_eq] at this
    exact this
end
end L2
set_option Elab.async false
set_option linter.all false
set_option maxRecDepth 100000
namespace L2
open PySem PySem.Spec PyProof.Rows
theorem ints_of : ∀ {ns : List Int} {its : List Value}, Vals (ns.map V.int) its → IntsAre its ns
  | [], _, .nil => .nil
  | n :: ns, _, .cons h t => by
    obtain ⟨tk, rfl⟩ := h
    exact .cons _ _ (ints_of t)
section
variable {X : Cx}
def rSorted (K : PySem.W.Frag) : List V → Hp → VK → Prop := fun xs H Q => ∃ (a : Addr) (ns : List Int), xs = [.ref a] ∧ SqL K H a (ns.map V.int) ∧ ns.length < 64 ∧ ∀ (l : Addr) (ns' : List Int), H l = none → ns'.Perm ns → ns'.Pairwise (· ≤ ·) → Q (.ref l) (upd H l (.lst (ns'.map V.int)))
theorem call_sorted : CallR X (.builtin "sorted") (rSorted X.K) := by
  intro pins s σ H xs us Q I r h
  obtain ⟨a, ns, rfl, hq, h64, q⟩ := h
  obtain ⟨u, rfl, ru⟩ := vals1 r
  cases ru
  obtain ⟨its, rv, pl, _⟩ := I.list hq
  have hl := rv.length
  rw [List.length_map] at hl
  refine sorted_ints (vs := its) pl.isList (ints_of rv) (by omega) fun out ns' a1 a2 a3 => ?_
  obtain ⟨e, he⟩ := sortedAll_at s.heap its out
  have hk : ∀ b o, s.heap.get? b = some o → (sortedAll s.heap its out).get? b = some o := fun _ _ => sortedAll_old
  refine ⟨.ref (s.heap.objs.size + 1), _, I.laid (t' := s.toks) hk (Nat.le_succ _) (show ObjOk X.prog X.w _ (sortedAll s.heap its out) _ (.lst (ns'.map V.int)) from ⟨?_, out.toList, e, vals_ints a1, ?_⟩), rfl, q _ _ (I.hok.fresh (Nat.le_succ _)) a2 a3⟩
  · rw [List.length_map, a2.length_eq, sizeLine_eq]; omega
  · rw [Array.toArray_toList]; exact he
/-- all([..]) of a list of bools -/
theorem bools_of : ∀ {bs : List Bool} {its : List Value}, Vals (bs.map V.bl) its → its = bs.map Value.bool
  | [], _, .nil => rfl
  | b :: bs, _, .cons h t => by
    have e : _ = Value.bool b := h
    rw [e, bools_of t]; rfl
theorem range_all {bs : List Bool} : (List.range bs.length).all (fun i => bs.getD i true) = bs.all id := by
  rw [Bool.eq_iff_iff, List.all_eq_true, List.all_eq_true]
  constructor
  · intro h b hb
    obtain ⟨i, hi, rfl⟩ := List.mem_iff_getElem.mp hb
    have := h i (List.mem_range.mpr hi)
    rw [List.getD_eq_getElem?_getD, List.getElem?_eq_getElem hi] at this
    exact this
  · intro h i hi
    have hi := List.mem_range.mp hi
    rw [List.getD_eq_getElem?_getD, List.getElem?_eq_getElem hi]
    exact h _ (List.getElem_mem hi)
def rAll (K : PySem.W.Frag) : List V → Hp → VK → Prop := fun xs H Q => ∃ (a : Addr) (bs : List Bool), xs = [.ref a] ∧ SqL K H a (bs.map V.bl) ∧ Q (.bl (bs.all id)) H
def rAny (K : PySem.W.Frag) : List V → Hp → VK → Prop := fun xs H Q => ∃ (a : Addr) (bs : List Bool), xs = [.ref a] ∧ SqL K H a (bs.map V.bl) ∧ Q (.bl (bs.any id)) H
theorem truth_bools {P : Program} {w : World} {A : Around} {bs : List Bool} : TruthOf P w A (fun i v => (bs.map Value.bool).toArray[i]? = some v) (fun i => bs.getD i true) := by
  intro i v s Q E hv q
  rw [List.getElem?_toArray, List.getElem?_map] at hv
  obtain ⟨b, hb, rfl⟩ := Option.map_eq_some_iff.mp hv
  replace q : Q (bs.getD i true) s := q
  rw [List.getD_eq_getElem?_getD, hb] at q
  exact wpAny_truthy_bool q
theorem call_all (hc : X.calm = true) : CallR X (.builtin "all") (rAll X.K) := by
  intro pins s σ H xs us Q I r h
  obtain ⟨a, bs, rfl, hq, q⟩ := h
  obtain ⟨u, rfl, ru⟩ := vals1 r
  cases ru
  obtain ⟨its, rv, pl, _⟩ := I.list hq
  obtain rfl := bools_of rv
  obtain ⟨o, ho, ro⟩ := pl.isList
  have W := Walks.list (prog := X.prog) (w := X.w) (A := X.A.in1) (I.ok.hd hc) s.heap.objs.size a (Nat.ne_of_lt (Heap.lt_size ho)) (bs.map Value.bool).toArray
  refine call_all_walk (wpAny_pyIter_list pl.isList ⟨s.heap.objs.size, _, _, _, _, _, fun i => bs.getD i true, rfl, W, ⟨⟨_, Heap.get?_push_size _ rfl, rfl, rfl⟩, pl.isList.push _⟩, truth_bools, fun h' tk hk => ?_⟩)
  have e : (bs.map Value.bool).toArray.size = bs.length := by simp
  rw [e, range_all]
  exact ⟨.bl _, H, I.kept (t' := tk) fun b ob hb => hk b ob (fun z => Nat.lt_irrefl _ (by have := Heap.lt_size hb; rw [List.mem_singleton.mp z] at this; exact this)) (Heap.get?_push_of_some _ hb), rfl, q⟩
end
end L2
set_option Elab.async false
set_option linter.all false
set_option maxRecDepth 100000
namespace L2
open PySem PySem.Spec PyProof.Rows
structure XE (X : Cx) (e : Expr) (t : TE) : Prop where
  h : PE X e t
structure XT (X : Cx) (e : Expr) (t : TT) : Prop where
  h : PT X e t
structure XW (X : Cx) (e : Expr) (t : TT) : Prop where
  h : PW X e t
structure XA (X : Cx) (es : List Expr) (t : TA) : Prop where
  h : PA X es t
structure XS (X : Cx) (st : Stmt) (t : TS) : Prop where
  h : PS X st t
structure XSs (X : Cx) (st : List Stmt) (t : TS) : Prop where
  h : PSs X st t
structure XG (X : Cx) (target : Expr) (t : TG) : Prop where
  h : PG X target t
structure XGs (X : Cx) (ts : List Expr) (t : TGs) : Prop where
  h : PGs X ts t
structure XI (X : Cx) (tg iter : Expr) (wi : TI) : Prop where
  h : PI X tg iter wi
structure XO (X : Cx) (e : Option Expr) (t : TO) : Prop where
  h : PO X e t
structure XC (X : Cx) (op : CmpOp) (a b : Expr) (t : TE) : Prop where
  h : PC X op a b t
structure XIfs (X : Cx) (ifs : List Expr) (t : TT) : Prop where
  h : PIfs X ifs t
theorem xpe_int {X : Cx} {i j pos} : XE X (.Constant (.int i) j pos) (tC (.int i)) := ⟨pe_int ⟩
theorem xpe_bl {X : Cx} {b j pos} : XE X (.Constant (.bool b) j pos) (tC (.bl b)) := ⟨pe_bl ⟩
theorem xpe_non {X : Cx} {j pos} : XE X (.Constant .none j pos) (tC .non) := ⟨pe_non ⟩
theorem xpe_str {X : Cx} {x j pos} : XE X (.Constant (.str x) j pos) (tC (.str x)) := ⟨pe_str ⟩
theorem xqv {X : Cx} (i : Nat) {x : Str} {pos : Pos} (hv : Vis X.env.scope x) (hN : X.N[i]? = some x := by rfl) (hd : (x == ("__debug__" : Str)) = false := by kernel_rfl) (hcd : (x == ("__classdict__" : Str)) = false := by kernel_rfl) : XE X (.Name x pos) (tVar i) := ⟨qv i hv hN hd hcd⟩
theorem xpe_op {X : Cx} {a b : Expr} {ta tb : TE} {pos : Pos} {op : Operator} {r : R2} (ho : OpR X (binaryOp op) r) (ha : XE X a ta) (hb : XE X b tb) : XE X (.BinOp a op b pos) (tOp r ta tb) := ⟨pe_op ho ha.h hb.h⟩
theorem xpe_un {X : Cx} {a : Expr} {ta : TE} {pos : Pos} {op : UnaryOp} {r : V → Hp → VK → Prop} (ho : UnR X (unaryOp op) r) (ha : XE X a ta) : XE X (.UnaryOp op a pos) (tUn r ta) := ⟨pe_un ho ha.h⟩
theorem xpe_cmpR {X : Cx} {a b : Expr} {ta tb : TE} {pos : Pos} {op : CmpOp} {r : R2} (ho : OpR X (compareOp op) r) (ha : XE X a ta) (hb : XE X b tb) (hm : behindInMarks op b = false) : XE X (.Compare a [op] [b] pos) (tOp r ta tb) := ⟨pe_cmpR ho ha.h hb.h hm⟩
theorem xpe_and {X : Cx} {a b : Expr} {ta tb : TE} {pos : Pos} {rest : List Expr} (ha : XE X a ta) (hb : XE X (.BoolOp .And (b :: rest) pos) tb) : XE X (.BoolOp .And (a :: b :: rest) pos) (tAndV ta tb) := ⟨pe_and ha.h hb.h⟩
theorem xpe_one {X : Cx} {a : Expr} {pos : Pos} {op} {t : TE} (h : XE X a t) : XE X (.BoolOp op [a] pos) t := ⟨pe_one h.h⟩
theorem xpe_ifExp {X : Cx} {a b : Expr} {ta tb : TE} {pos : Pos} {tA : TT} {c : Expr} (hc : XT X c tA) (ha : XE X a ta) (hb : XE X b tb) : XE X (.IfExp c a b pos) (tIf tA ta tb) := ⟨pe_ifExp hc.h ha.h hb.h⟩
theorem xpe_lst {X : Cx} {es : List Expr} {t : TA} {pos : Pos} (h : XA X es t) : XE X (.List es pos) (tLst t) := ⟨pe_lst h.h⟩
theorem xpe_tup {X : Cx} {es : List Expr} {t : TA} {pos : Pos} {x1} (h : XA X es t) : XE X (.Tuple es x1 pos) (tTup t) := ⟨pe_tup h.h⟩
theorem xpe_dnewK {X : Cx} {pos : Pos}  : XE X (.Dict [] [] pos) tDNewK := ⟨pe_dnewK ⟩
theorem xqe_callB {X : Cx} {x : Str} {p pos : Pos} {e : Expr} {es : List Expr} {t : TA} {id : String} {r : List V → Hp → VK → Prop} (hc : CallR X (.builtin id) r) (hg : Gl X x) (hm : X.mg x = none) (hv : bootBuiltins x = some (.builtin id)) (ha : XA X (e :: es) t) (hn : (x == ("__name__" : Str)) = false := by kernel_rfl) (hdb : (x == ("__debug__" : Str)) = false := by kernel_rfl) (he : starEach (e :: es) X.env = (false, eval e X.env) :: starEach es X.env := by rfl) (hpl : (backTo pos (starEach es X.env)).any (·.1) = false := by rfl) : XE X (.Call (.Name x p) (e :: es) [] pos) (tCB r t) := ⟨qe_callB hc hg hm hv ha.h hn hdb he hpl⟩
theorem xqe_callTy {X : Cx} {x : Str} {p pos : Pos} {e : Expr} {es : List Expr} {t : TA} {T : String} {r : List V → Hp → VK → Prop} (hc : CallR X (.type T) r) (hg : Gl X x) (hm : X.mg x = none) (hv : bootBuiltins x = some (.type T)) (ha : XA X (e :: es) t) (hn : (x == ("__name__" : Str)) = false := by kernel_rfl) (hdb : (x == ("__debug__" : Str)) = false := by kernel_rfl) (he : starEach (e :: es) X.env = (false, eval e X.env) :: starEach es X.env := by rfl) (hpl : (backTo pos (starEach es X.env)).any (·.1) = false := by rfl) : XE X (.Call (.Name x p) (e :: es) [] pos) (tCB r t) := ⟨qe_callTy hc hg hm hv ha.h hn hdb he hpl⟩
theorem xqe_callD {X : Cx} {k : Nat} {f : Addr} {fd : FuncData} {ps : List Str} {sp : Sp} {x : Str} {st : Stmt} {p pos : Pos} {e : Expr} {es : List Expr} {t : TA} (D : DefAt X.K X.mg x st ps f fd) (G : FnOk X.prog X.w X.K X.mg X.base CX0 k f fd ps sp) (hr : Room k X.A) (ha : XA X (e :: es) t) (hg : Gl X x) (hdb : (x == ("__debug__" : Str)) = false := by kernel_rfl) (he : starEach (e :: es) X.env = (false, eval e X.env) :: starEach es X.env := by rfl) (hpl : (backTo pos (starEach es X.env)).any (·.1) = false := by rfl) : XE X (.Call (.Name x p) (e :: es) [] pos) (tCall sp [] E0 t) := ⟨qe_callD D G hr ha.h hg hdb he hpl⟩
theorem xpe_bm {X : Cx} {o e : Expr} {es : List Expr} {to : TE} {t : TA} {name : Str} {apos cpos : Pos} {T id : String} {r : V → List V → Hp → VK → Prop} (pa : PlainAttrs T) (slot : Slot T name id) (hty : typeOf (.builtin id) = pure (.type "method_descriptor")) (hm : MtR X id r) (ho : XE X o to) (ha : XA X (e :: es) t) (hbase : attributeBase o name X.env (eval o X.env) = eval o X.env := by rfl) (hfew : ((backTo cpos (starEach (e :: es) X.env)).all (fun x => !x.1) && (backToKw cpos (keywordEach [] X.env)).all (fun x => x.1.isSome)
      && decide ((e :: es).length + ([] : List Keyword).length + (if ([] : List Keyword).isEmpty then 0 else 1) < 30)) = true := by rfl) (hline : (apos.endLine == cpos.line) = true := by rfl) (hs : starEach (e :: es) X.env = (false, eval e X.env) :: starEach es X.env := by rfl) (hplain : (backTo cpos (starEach es X.env)).any (·.1) = false := by rfl) : XE X (.Call (.Attribute o name apos) (e :: es) [] cpos) (tBM X.K T r to t) := ⟨pe_bm pa slot hty hm ho.h ha.h hbase hfew hline hs hplain⟩
theorem xpe_bm0 {X : Cx} {o : Expr} {to : TE} {name : Str} {apos cpos : Pos} {T id : String} {r : V → List V → Hp → VK → Prop} (pa : PlainAttrs T) (slot : Slot T name id) (hty : typeOf (.builtin id) = pure (.type "method_descriptor")) (hm : MtR X id r) (ho : XE X o to) (hbase : attributeBase o name X.env (eval o X.env) = eval o X.env := by rfl) (hline : (apos.endLine == cpos.line) = true := by rfl) : XE X (.Call (.Attribute o name apos) [] [] cpos) (tBM0 X.K T r to) := ⟨pe_bm0 pa slot hty hm ho.h hbase hline⟩
theorem xpe_slice {X : Cx} {e : Expr} {te : TE} {lo hi : Option Expr} {tl th : TO} {pos p2 : Pos} {r : V → Option Int → Option Int → Hp → VK → Prop} (hr : SlR X r) (he : XE X e te) (hl : XO X lo tl) (hu : XO X hi th) : XE X (.Subscript e (.Slice lo hi none p2) pos) (tSl r te tl th) := ⟨pe_slice hr he.h hl.h hu.h⟩
theorem xpe_dget {X : Cx} {o i : Expr} {pos : Pos} {td ty : TE} (hu : X.A.units + 1 < cLine) (ho : XE X o td) (hi : XE X i ty) (hs : NoSl i) : XE X (.Subscript o i pos) (tDGet td ty) := ⟨pe_dget hu ho.h hi.h hs⟩
theorem xpe_ix {X : Cx} {a b : Expr} {ta tb : TE} {pos : Pos} {r : R2} (hr : IxR X r) (ha : XE X a ta) (hb : XE X b tb) (hs : PlainIx b) : XE X (.Subscript a b pos) (tOp r ta tb) := ⟨pe_ix hr ha.h hb.h hs⟩
theorem xpe_compG  {X : Cx} {elt iter tgt : Expr} {ifs : List Expr} {pos : Pos} {scope : Scope} {wi : TI} {g : Bk → TG} {tt : Bk → TT} {te : Bk → TE} {tns cns : List Str} {ci : List Nat} (hc : X.calm = true) (S : CompSc X scope cns ci) (hi : XI X tgt iter wi) (hg : ∀ bk : Bk, XG (X.blk (".0" :: (tns ++ cns)) scope bk) tgt (g bk)) (ht : ∀ bk : Bk, XIfs (X.blk (".0" :: (tns ++ cns)) scope bk) ifs (tt bk)) (he : ∀ bk : Bk, XE (X.blk (".0" :: (tns ++ cns)) scope bk) elt (te bk)) (hs : ∀ v, foldedSetIterable iter X.env v = pure v := by intro _; rfl) : XE X (.ListComp elt [⟨tgt, iter, ifs, 0⟩] scope pos) (tCompG wi g tt te tns.length ci) := ⟨pe_compG hc S hi.h (fun bk => (hg bk).h) (fun bk => (ht bk).h) (fun bk => (he bk).h) hs⟩
theorem xqe_bltn {X : Cx} {x : Str} {v : V} {u : Value} {pos : Pos} (hg : Gl X x) (hm : X.mg x = none) (hv : bootBuiltins x = some u) (r : RelV v u) (hn : (x == ("__name__" : Str)) = false := by kernel_rfl) (hd : (x == ("__debug__" : Str)) = false := by kernel_rfl) : XE X (.Name x pos) (tC v) := ⟨qe_bltn hg hm hv r hn hd⟩
theorem xpt_cmpR {X : Cx} {a b : Expr} {ta tb : TE} {pos : Pos} {op : CmpOp} {r : R2} (ho : OpR X (compareOp op) r) (ha : XE X a ta) (hb : XE X b tb) (hm : behindInMarks op b = false) : XT X (.Compare a [op] [b] pos) (tTest (tOp r ta tb)) := ⟨pt_cmpR ho ha.h hb.h hm⟩
theorem xpt_val {X : Cx} {e : Expr} {t : TE} (h : XE X e t) (he : ∀ whole, isTrue e X.env whole = (do let v ← whole; standAt e.pos; holding [v] (truthy v)) := by intro _; rfl) : XT X e (tB t) := ⟨pt_val h.h he⟩
theorem xpt_not {X : Cx} {a : Expr} {pos : Pos} {tA : TT} (ha : XT X a tA) : XT X (.UnaryOp .Not a pos) (tNot tA) := ⟨pt_not ha.h⟩
theorem xpt_cmp {X : Cx} {a b : Expr} {pos : Pos} {op : CmpOp} {t : TE} (h : XC X op a b t) (h1 : behindInMarks op b = false := by first | exact nobehind _ (by decide) (by decide) | rfl) : XT X (.Compare a [op] [b] pos) (tB t) := ⟨pt_cmp h.h h1⟩
theorem xPW_pt  {X : Cx} {e : Expr} {t : TT} (h : XW X e t) : XT X e t := ⟨PW.pt h.h⟩
theorem xpw_and {X : Cx} {a b : Expr} {pos : Pos} {tA tB' : TT} {rest : List Expr} (ha : XT X a tA) (hb : XW X (.BoolOp .And (b :: rest) pos) tB') : XW X (.BoolOp .And (a :: b :: rest) pos) (tAnd tA tB') := ⟨pw_and ha.h hb.h⟩
theorem xpw_and1 {X : Cx} {a : Expr} {pos : Pos} {tA : TT} (ha : XT X a tA) : XW X (.BoolOp .And [a] pos) tA := ⟨pw_and1 ha.h⟩
theorem xpw_or {X : Cx} {a b : Expr} {pos : Pos} {tA tB' : TT} {rest : List Expr} (ha : XT X a tA) (hb : XW X (.BoolOp .Or (b :: rest) pos) tB') : XW X (.BoolOp .Or (a :: b :: rest) pos) (tOr tA tB') := ⟨pw_or ha.h hb.h⟩
theorem xpw_or1 {X : Cx} {a : Expr} {pos : Pos} {tA : TT} (ha : XT X a tA) : XW X (.BoolOp .Or [a] pos) tA := ⟨pw_or1 ha.h⟩
theorem xpa_nil {X : Cx}  : XA X [] tNil := ⟨pa_nil ⟩
theorem xpa_cons {X : Cx} {e : Expr} {es : List Expr} {te : TE} {t : TA} (ha : XE X e te) (hr : XA X es t) (hs : starEach (e :: es) X.env = (false, eval e X.env) :: starEach es X.env := by rfl) : XA X (e :: es) (tCons te t) := ⟨pa_cons ha.h hr.h hs⟩
theorem xpo_none {X : Cx}  : XO X none tNoPart := ⟨po_none ⟩
theorem xpo_some {X : Cx} {e : Expr} {te : TE} (h : XE X e te) : XO X (some e) (tPart te) := ⟨po_some h.h⟩
theorem xpg_name {X : Cx} {pos : Pos} {i : Nat} {x : Str} (hN : X.N.Nodup) (hi : X.N[i]? = some x) (hx : Loc X.env.scope x) (hf : X.fn x = true ∨ X.env.scope.names.lookup x = some .local := by first | exact .inl rfl | exact .inr rfl | assumption) : XG X (.Name x pos) (gName i) := ⟨pg_name hN hi hx hf⟩
theorem xpg_tup {X : Cx} {pos : Pos} {es : List Expr} {k : Nat} {t : TGs} {n : Nat} (hc : X.calm = true) (h : XGs X es t) (hn : (assignEach es X.env).length = n := by rfl) (hst : (assignEach es X.env).findIdx? (·.1) = none := by rfl) : XG X (.Tuple es k pos) (gTup X.K n t) := ⟨pg_tup hc h.h hn hst⟩
theorem xpgs_nil {X : Cx}  : XGs X [] gNil := ⟨pgs_nil ⟩
theorem xpgs_cons {X : Cx} {e : Expr} {es : List Expr} {t : TG} {u : TGs} (h1 : XG X e t) (h2 : XGs X es u) (hs : (assignEach (e :: es) X.env).map (·.2) = assign e X.env :: (assignEach es X.env).map (·.2) := by rfl) : XGs X (e :: es) (gCons t u) := ⟨pgs_cons h1.h h2.h hs⟩
theorem xpg_sub {X : Cx} {pos : Pos} {o i : Expr} {to ti : TE} {t : TSet} (ho : XE X o to) (hi : XE X i ti) (hs : PSet X t) (ha : ∀ v, assign (.Subscript o i pos) X.env v = (do
      let ov ← holding [v] (eval o X.env)
      let iv ← holding [v, ov] (eval i X.env)
      standAt pos
      holding [v, ov, iv] (setItem ov iv v)
      release [v, ov, iv] []) := by intro _; rfl) : XG X (.Subscript o i pos) (gSub to ti t) := ⟨pg_sub ho.h hi.h hs ha⟩
theorem xpi_range1 {X : Cx} {tg : Expr} {a : Expr} {ta : TA} {p pos : Pos} (hg : Gl X "range") (hm : X.mg "range" = none) (ha : XA X [a] ta) (hs : starEach [a] X.env = [(false, eval a X.env)] := by rfl) : XI X tg (.Call (.Name "range" p) [a] [] pos) (iRng1 ta) := ⟨pi_range1 hg hm ha.h hs⟩
theorem xpi_enum  {X : Cx} {a : Expr} {ta : TA} {p pos pos0 : Pos} {elts : List Expr} {k0 : Nat} (hm : X.mg "enumerate" = none) (ha : XA X [a] ta) (hg : Gl X "enumerate" := by rfl) (hs : starEach [a] X.env = [(false, eval a X.env)] := by rfl) : XI X (.Tuple elts k0 pos0) (.Call (.Name "enumerate" p) [a] [] pos) (iEnum X.K ta) := ⟨pi_enum hm ha.h hg hs⟩
theorem xpi_list {X : Cx} {tg : Expr} {l : Expr} {tl : TE} (hl : XE X l tl) : XI X tg l (iList X.K tl) := ⟨pi_list hl.h⟩
theorem xpi_tup {X : Cx} {tg : Expr} {l : Expr} {tl : TE} (hl : XE X l tl) : XI X tg l (iTup X.K tl) := ⟨pi_tup hl.h⟩
theorem xps_set {X : Cx} {pos : Pos} {i : Nat} {x : Str} {e : Expr} {te : TE} {pos' : Pos} (hN : X.N.Nodup) (hi : X.N[i]? = some x) (hx : Loc X.env.scope x) (he : XE X e te) (hs : swapsWith e (some (.Name x pos')) pos.line X.env = pure false := by rfl) (hf : X.fn x = true ∨ X.env.scope.names.lookup x = some .local := by first | exact .inl rfl | exact .inr rfl | assumption) : XS X (.Assign [.Name x pos'] e pos) (tAsg te (gName i)) := ⟨ps_set hN hi hx he.h hs hf⟩
theorem xps_setComp  {X : Cx} {i : Nat} {x : Str} {px pos' : Pos} {elt iter tgt : Expr} {ifs : List Expr} {pos : Pos} {scope : Scope} {wi : TI} {g : Bk → TG} {tt : Bk → TT} {te : Bk → TE} {tns cns : List Str} {ci : List Nat} (hN : X.N.Nodup) (hx : X.N[i]? = some x) (hl : Loc X.env.scope x) (hf : X.fn x = true) (hsw : swapsWith (.ListComp elt [⟨tgt, iter, ifs, 0⟩] scope pos) (some (.Name x px)) pos'.line X.env = pure true) (hc : X.calm = true) (S : CompSc X scope cns ci) (hi : XI X tgt iter wi) (hg : ∀ bk : Bk, XG (X.blk (".0" :: (tns ++ cns)) scope bk) tgt (g bk)) (ht : ∀ bk : Bk, XIfs (X.blk (".0" :: (tns ++ cns)) scope bk) ifs (tt bk)) (he : ∀ bk : Bk, XE (X.blk (".0" :: (tns ++ cns)) scope bk) elt (te bk)) (hs : ∀ v, foldedSetIterable iter X.env v = pure v := by intro _; rfl) : XS X (.Assign [.Name x px] (.ListComp elt [⟨tgt, iter, ifs, 0⟩] scope pos) pos') (sSetComp i wi g tt te tns.length ci) := ⟨ps_setComp hN hx hl hf hsw hc S hi.h (fun bk => (hg bk).h) (fun bk => (ht bk).h) (fun bk => (he bk).h) hs⟩
theorem xps_asg {X : Cx} {pos : Pos} {tg e : Expr} {te : TE} {g : TG} (he : XE X e te) (hg : XG X tg g) (hs : swapsWithSole [tg] e pos.line X.env = pure false := by rfl) (hw : swappedStores [tg] e X.env = pure none := by rfl) (h1 : (assignEach [tg] X.env).map (·.2) = [assign tg X.env] := by rfl) : XS X (.Assign [tg] e pos) (tAsg te g) := ⟨ps_asg he.h hg.h hs hw h1⟩
theorem xps_dput {X : Cx} {o i value : Expr} {pos pos' : Pos} {td ty tv : TE} (hu : X.A.units + 1 < cLine) (ho : XE X o td) (hi : XE X i ty) (hv : XE X value tv) (hs : swapsWith value (some (.Subscript o i pos')) pos.line X.env = pure false) : XS X (.Assign [.Subscript o i pos'] value pos) (sDPut td ty tv) := ⟨ps_dput hu ho.h hi.h hv.h hs⟩
theorem xps_ret {X : Cx} {e : Expr} {te : TE} {pos : Pos} (he : XE X e te) : XS X (.Return (some e) pos) (tRet te) := ⟨ps_ret he.h⟩
theorem xps_expr {X : Cx} {e : Expr} {te : TE} {pos : Pos} (he : XE X e te) (hs : swapsWith e none pos.line X.env = pure false := by rfl) : XS X (.Expr e pos) (tDrop te) := ⟨ps_expr he.h hs⟩
theorem xps_if {X : Cx} {t u : TS} {pos : Pos} {c : Expr} {a b : List Stmt} {tc : TT} (hc : XT X c tc) (ha : XSs X a t) (hb : XSs X b u) : XS X (.If c a b pos) (tIfS tc t u) := ⟨ps_if hc.h ha.h hb.h⟩
theorem xps_for {X : Cx} {tg : Expr} {iter : Expr} {body : List Stmt} {wi : TI} {g : TG} {tb : TS} {pos : Pos} (hp : PassesOwn (model X.prog X.w) X.A X.env X.xe) (hc : X.calm = true) (hi : XI X tg iter wi) (hg : XG X tg g) (hb : XSs X body tb) (hs : ∀ x, foldedSetIterable iter X.env x = pure x := by intro _; rfl) : XS X (.For tg iter body [] pos) (tFor wi g tb) := ⟨ps_for hp hc hi.h hg.h hb.h hs⟩
theorem xpss_nil {X : Cx}  : XSs X [] tNext := ⟨pss_nil ⟩
theorem xpss_one {X : Cx} {st : Stmt} {t : TS} (h1 : XS X st t) : XSs X [st] t := ⟨pss_one h1.h⟩
theorem xpss_cons {X : Cx} {st : Stmt} {rest : List Stmt} {t u : TS} (h1 : XS X st t) (h2 : XSs X rest u) : XSs X (st :: rest) (tSeq t u) := ⟨pss_cons h1.h h2.h⟩
theorem xpss_mid {X : Cx} {st : Stmt} {ss : List Stmt} {ta tb : TS} (h1 : XS X st ta) (h2 : XSs X ss tb) : XSs X (st :: ss) (tMid ta tb) := ⟨pss_mid h1.h h2.h⟩
theorem xpf_nil  {X : Cx} : XIfs X [] tYes := ⟨pf_nil ⟩
theorem xpf_one  {X : Cx} {c : Expr} {t : TT} (h : XT X c t) : XIfs X [c] t := ⟨pf_one h.h⟩
theorem xpc_din {X : Cx} {o i : Expr} {td ty : TE} (hu : X.A.units + 1 < cLine) (hi : XE X i ty) (ho : XE X o td) : XC X .In i o (tDIn ty td) := ⟨pc_din hu hi.h ho.h⟩
theorem xpa_const {X : Cx} {es : List Expr} {vs : List V} (h : constVs es = some vs) : XA X es (tVs vs) := ⟨pa_const h⟩
end L2
set_option Elab.async false
set_option linter.all false
set_option maxRecDepth 100000
namespace L2
open PySem PySem.Spec PyProof.Rows
section
variable {X : Cx}
def insK (i : Int) (n : Nat) : Nat := if i < 0 then (i + n).toNat else min i.toNat n
def rInsert : V → List V → Hp → VK → Prop := fun x vs H Q => ∃ l xs i y, x = .ref l ∧ vs = [.int i, y] ∧ H l = some (.lst xs) ∧ -(2 ^ 63) ≤ i ∧ i < 2 ^ 63 ∧ xs.length < sizeLine ∧ Q .non (upd H l (.lst (xs.take (insK i xs.length) ++ y :: xs.drop (insK i xs.length))))
theorem take_arr {its : List Value} {k : Nat} {u : Value} : (its.toArray.extract 0 k).push u ++ its.toArray.extract k = (its.take k ++ u :: its.drop k).toArray := by
  apply Array.toList_inj.mp
  simp [List.take_of_length_le]
theorem mt_insert : MtM X "list.insert" rInsert := by
  intro pins s σ H x vs v us Q I rx rv h
  obtain ⟨l, xs, i, y, rfl, rfl, hH, h1, h2, hlt, q⟩ := h
  cases rx
  cases rv with
  | cons r1 rr =>
    obtain ⟨t, rfl⟩ := r1
    obtain ⟨u, rfl, ru⟩ := Vals.one (show Vals [y] _ from rr)
    obtain ⟨z, its, n, r, hl, e⟩ := I.lstM hH
    refine call_meets F.slot_list_insert ⟨_, e, rfl⟩ F.entry_list_insert (F.args_list_insert_3 _ _ _) (AutoSeq1.list_insert_list_int_val_1 l its.toArray n i t u (by rw [fitsIndex_both h1 h2]; simp) (by rw [List.size_toArray]; omega)) ⟨e, ?_⟩
    refine ⟨.non, _, I.lset (its' := its.take (insK i xs.length) ++ u :: its.drop (insK i xs.length)) hH e ?_ ((r.take _).append (.cons ru (r.drop _))) ?_, rfl, q⟩
    · show (its.toArray.extract 0 _).push u ++ its.toArray.extract _ = _
      rw [take_arr, List.size_toArray, ← hl]
      rfl
    · rw [List.length_append, List.length_cons, List.length_take, List.length_drop]
      omega
def cntV (x : V) (xs : List V) : Nat := xs.countP fun y => eqV y x
def rCount (K : PySem.W.Frag) : V → List V → Hp → VK → Prop := fun x vs H Q => ∃ l xs y, x = .ref l ∧ vs = [y] ∧ SqL K H l xs ∧ flatV y = true ∧ xs.all flatV = true ∧ Q (.int (cntV y xs)) H
theorem count_eqU {x : V} : ∀ {xs : List V} {us : List Value}, Vals xs us → xs.all flatV = true → us.countP (eqU x) = xs.countP fun y => eqV y x
  | _, _, .nil, _ => rfl
  | x' :: xs, _, .cons h t, f => by
    rw [List.all_cons, Bool.and_eq_true] at f
    rw [List.countP_cons, List.countP_cons, count_eqU t f.2, eqU_of h f.1]
theorem mt_count : MtM X "list.count" (rCount X.K) := by
  intro pins s σ H x vs v us Q I rx rv h
  obtain ⟨l, xs, y, rfl, rfl, hq, fy, fx, q⟩ := h
  cases rx
  obtain ⟨u, rfl, ru⟩ := rv.one
  obtain ⟨its, r, pl, _⟩ := I.list hq
  obtain ⟨o, n, e, c, hd, hdt⟩ := id pl
  obtain ⟨oc, od, odt, osl⟩ := o
  simp only at c hd hdt
  subst c hd hdt
  refine call_meets F.slot_list_count ⟨_, e, rfl⟩ F.entry_list_count (F.args_list_count_2 _ _) (SeqAt.list_countAt l its.toArray n none osl u (eqU y)) ⟨e, fun z hz => mem_eqAt ru fy r fx z (by simpa using hz), ?_⟩
  rw [show its.toArray.toList = its from rfl, count_eqU r fx]
  exact ⟨.int _, H, I.tok _, ⟨_, rfl⟩, q⟩
/-- list(range(n)) -/
def tListRng (ta : TA) : TE := fun σ H Q => ta σ H fun vs H1 => ∃ n : Nat, vs = [.int n] ∧ n ≤ 1000 ∧ ∀ l, H1 l = none → Q (.ref l) (upd H1 l (.lst ((List.range n).map fun i : Nat => V.int i)))
theorem items_rng {acc : Array Value} {n : Nat} (h : ItemsOf (fun i v => ∃ t, v = Value.int (0 + (i : Int) * 1) t) acc n) : Vals ((List.range n).map fun i : Nat => V.int i) acc.toList := by
  obtain ⟨h1, h2⟩ := h
  subst h1
  rw [← Array.length_toList]
  have g : ∀ (l : List Value) (k : Nat), (∀ (i : Nat) v, l[i]? = some v → ∃ t, v = Value.int ((k + i : Nat) : Int) t) → Vals ((List.range' k l.length).map fun i : Nat => V.int i) l := by
    intro l
    induction l with
    | nil => intro k _; exact .nil
    | cons a l ih =>
      intro k hl
      refine .cons ?_ (ih (k + 1) fun i v hv => ?_)
      · obtain ⟨t, e⟩ := hl 0 a rfl
        exact ⟨t, e⟩
      · obtain ⟨t, e⟩ := hl (i + 1) v hv
        exact ⟨t, by rw [e]; congr 1; omega⟩
  have z := g acc.toList 0 fun i v hv => by
    obtain ⟨t, e⟩ := h2 i v (by rw [← hv, Array.getElem?_toList])
    exact ⟨t, by rw [e]; congr 1; omega⟩
  rw [List.range_eq_range']
  exact z
theorem pe_listRng {a : Expr} {ta : TA} {p p2 pos pos2 : Pos} (hc : X.calm = true) (hm : X.mg "list" = none) (hm2 : X.mg "range" = none) (ha : PA X [a] ta) (hg : Gl X "list") (hg2 : Gl X "range") (hs : starEach [a] X.env = [(false, eval a X.env)] := by rfl)
    (hs2 : starEach [.Call (.Name "range" p2) [a] [] pos2] X.env = [(false, eval (.Call (.Name "range" p2) [a] [] pos2) X.env)] := by rfl) :
    PE X (.Call (.Name "list" p) [.Call (.Name "range" p2) [a] [] pos2] [] pos) (tListRng ta) := by
  intro pins s σ H Q I h
  refine Call_ (ld_blt I hg hm boot_list (PyProof.Rows.callWith_type1 ?_ hs2 rfl))
  rw [hs2]
  show wpAny _ _ (spliced ((false, eval (.Call (.Name "range" p2) [a] [] pos2) X.env) :: [])) _ _ s
  refine Calls.spliced_cons (Call_ (ld_blt I hg2 hm2 boot_range (PyProof.Rows.callWith_type1 (thn (ha pos2 pins s σ H _ I h) fun us s1 hhx => ?_) hs rfl)))
  obtain ⟨vs, H1, I1, r1, q1⟩ := hhx
  obtain ⟨n, e, hn, q⟩ := q1
  subst e
  cases r1 with
  | cons r rr =>
    cases rr
    obtain ⟨t, rfl⟩ := r
    refine call_range_1 (Calls.spliced_nil ?_)
    refine call_list_range (n := n) (I.ok.hd hc) (IsRange.new ..) (small_one (by omega) (by omega) (by omega) (by omega)) (by rw [rangeSize_one]; split <;> omega) (by omega) fun h' tk acc c' hk hS hacc => ?_
    have kp : ∀ b u, s1.heap.get? b = some u → h'.get? b = some u := fun b u e => hk b u (Heap.get?_push_of_some _ e)
    refine ⟨.ref _, _, I1.laid (t' := tk) kp ?_ (show ObjOk X.prog X.w _ h' _ (.lst ((List.range n).map fun i : Nat => V.int i)) from ⟨by rw [List.length_map, List.length_range, sizeLine_eq]; omega, acc.toList, c', items_rng hacc, hS⟩), rfl, q _ (I1.hok.fresh ?_)⟩
    · show s1.heap.objs.size ≤ (s1.heap.push _).objs.size
      rw [Heap.size_push]; omega
    · show s1.heap.objs.size ≤ (s1.heap.push _).objs.size
      rw [Heap.size_push]; omega
theorem r_listRng {ta : TA} {σ : St} {H : Hp} {Q : VK} : tListRng ta σ H Q = ta σ H fun vs H1 => ∃ n : Nat, vs = [.int n] ∧ n ≤ 1000 ∧ ∀ l, H1 l = none → Q (.ref l) (upd H1 l (.lst ((List.range n).map fun i : Nat => V.int i))) := rfl
theorem xpe_listRng {a : Expr} {ta : TA} {p p2 pos pos2 : Pos} (hc : X.calm = true) (hm : X.mg "list" = none) (hm2 : X.mg "range" = none) (ha : XA X [a] ta) (hg : Gl X "list") (hg2 : Gl X "range") (hs : starEach [a] X.env = [(false, eval a X.env)] := by rfl)
    (hs2 : starEach [.Call (.Name "range" p2) [a] [] pos2] X.env = [(false, eval (.Call (.Name "range" p2) [a] [] pos2) X.env)] := by rfl) :
    XE X (.Call (.Name "list" p) [.Call (.Name "range" p2) [a] [] pos2] [] pos) (tListRng ta) := ⟨pe_listRng hc hm hm2 ha.h hg hg2 hs hs2⟩
end
def keyP (pr : Params) : Key → Int
  | .inl k => hashInt k
  | .inr x => if x.cps.isEmpty = true then 0 else reduceHash (pr.strHash x.cps)
def DictK (K : PySem.W.Frag) (pr : Params) (a : Addr) (kvs : List (Key × V)) : Prop := ∃ (es : List DictEntry) (ep : Nat), K.lookup a = some ⟨.type "dict", none, .dict es.toArray ep, #[]⟩ ∧ (a == sysModules) = false ∧ (kvs.map (·.1)).Nodup ∧ Paired (fun (kv : Key × V) (e : DictEntry) => keyIs kv.1 e.key = true ∧ e.hash = keyP pr kv.1 ∧ RelV kv.2 e.val) kvs es
theorem dictK_pairs {P : Program} {w : World} : ∀ {kvs : List (Key × V)} {es : List DictEntry}, Paired (fun (kv : Key × V) (e : DictEntry) => keyIs kv.1 e.key = true ∧ e.hash = keyP w.params kv.1 ∧ RelV kv.2 e.val) kvs es →
    ∃ vs : List (Key × Value), KV kvs vs ∧ Pairs (mixKind P w) es vs ∧ ∀ e ∈ es, ∃ k, (mixKind P w).is k e.key = true ∧ e.hash = (mixKind P w).hash k
  | _, _, .nil => ⟨[], .nil, .nil, by simp⟩
  | kv :: kvs, e :: es, .cons h t => by
    obtain ⟨vs, r, p, q⟩ := dictK_pairs (P := P) t
    obtain ⟨h1, h2, h3⟩ := h
    refine ⟨(kv.1, e.val) :: vs, .cons ⟨rfl, h3⟩ r, .cons h1 rfl p, fun e' he => ?_⟩
    rcases List.mem_cons.mp he with z | z
    · subst z
      refine ⟨kv.1, h1, h2.trans ?_⟩
      obtain ⟨k, v⟩ := kv
      cases k <;> rfl
    · exact q e' z
theorem dictK_of {X : Cx} {pins : List (Addr × Obj)} {σ : St} {H : Hp} {s : Shared} {a : Addr} {kvs : List (Key × V)} {pr : Params} (hw : pr = X.w.params) (I : Inv X pins σ H s) (D : DictK X.K pr a kvs) : (a == sysModules) = false ∧ ∃ vs, KV kvs vs ∧ s.heap.DictOf (mixKind X.prog X.w) a vs := by
  subst hw
  obtain ⟨es, ep, hk, hd, nd, pr⟩ := D
  obtain ⟨vs, r, p, q⟩ := dictK_pairs (P := X.prog) pr
  refine ⟨hd, vs, r, _, es.toArray, ep, I.kIn a _ hk, ⟨rfl, rfl, rfl⟩, rfl, fun e he => q e (by simpa using he), p, ?_⟩
  rw [← r.keys]
  exact nd
def tKGet1 (kvs : List (Key × V)) (ty : TE) : TE := fun σ H Q => ty σ H fun y H1 => ∃ k, y = kV k ∧ Q ((valV kvs k).getD .non) H1
section
variable {X : Cx} {e : Expr} {x : Str} {p apos cpos : Pos} {ty : TE} {a : Addr} {kvs : List (Key × V)} {pr : Params}
theorem qe_kget1 (hw : pr = X.w.params) (D : DictK X.K pr a kvs) (hm : X.mg x = some (.ref a)) (hg : Gl X x) (he : PE X e ty) (m : M1 X (.Name x p) "get" apos e cpos) (hdb : (x == ("__debug__" : Str)) = false := by kernel_rfl) :
    PE X (.Call (.Attribute (.Name x p) "get" apos) [e] [] cpos) (tKGet1 kvs ty) := by
  intro pins s σ H Q I h
  refine wpAny_Call_method m.base m.few m.line PySem.F.plainAttrs_dict PySem.F.slot_dict_get PySem.F.type_dict_get (ld_glob I hg hm ?_ hdb)
  obtain ⟨hd, vs, rel, dd⟩ := dictK_of hw I D
  refine ⟨dd.typeIs, fun b q => ?_, ?_⟩
  · cases q
    obtain ⟨ob, _, _, h1, h2, _⟩ := dd
    exact ⟨ob, h1, h2.2.1⟩
  rw [m.trees]
  refine Calls.callWith_builtin rfl (Calls.evalArgs_plain (Calls.spliced_cons (thn (he pins s σ H _ I h) fun iv s2 ⟨y, H2, I2, ry, k, ek, q2⟩ => Calls.spliced_nil ?_)))
  subst ek
  obtain ⟨hd, vs, rel, dd⟩ := dictK_of hw I2 D
  refine call_meetsIn PySem.F.slot_dict_get dd.typeIs PySem.F.entry_dict_get (PySem.F.args_dict_get_2 _ _) (meets_dict_get (mixKind X.prog X.w) a (kV_is ry) hd) ⟨_, dd.mapOf, ⟨_, H2, I2.tok _, (rel.val k).getD (show RelV .non .none from rfl), q2⟩⟩
theorem xqe_kget1 (hw : pr = X.w.params) (D : DictK X.K pr a kvs) (hm : X.mg x = some (.ref a)) (hg : Gl X x) (he : XE X e ty) (m : M1 X (.Name x p) "get" apos e cpos) (hdb : (x == ("__debug__" : Str)) = false := by kernel_rfl) :
    XE X (.Call (.Attribute (.Name x p) "get" apos) [e] [] cpos) (tKGet1 kvs ty) := ⟨qe_kget1 hw D hm hg he.h m hdb⟩
theorem r_kget1 {kvs : List (Key × V)} {ty : TE} {σ : St} {H : Hp} {Q : VK} : tKGet1 kvs ty σ H Q = ty σ H fun y H1 => ∃ k, y = kV k ∧ Q ((valV kvs k).getD .non) H1 := rfl
end
end L2
set_option Elab.async false
set_option linter.all false
set_option maxRecDepth 100000
namespace L2
open PySem PySem.Spec PyProof.Rows
section
variable {prog : Program} {w : World} {A : Around} {E : Value → Shared → Prop} {s : Shared}
theorem nx_tup_item {it t : Addr} {i : Nat} {its : Array Value} {x : Value} {Q : Value → Shared → Prop} (hit : s.heap.IsTupleIter it t i) (ht : s.heap.IsTuple t its) (hx : its[i]? = some x) (hQ : ∀ h', h'.IsTupleIter it t (i + 1) → Heap.SameBut it s.heap h' → Q x { s with heap := h' }) :
    wpAny (model prog w) A (Builtin.SmallTypes.nextOf (.ref it)) Q E s := by
  obtain ⟨o, ho, hc, hd⟩ := id hit; obtain ⟨ol, hol, _, nl, hdl⟩ := ht; unfold Builtin.SmallTypes.nextOf
  refine wpAny_bind (wpAny_callSpecial?_slot (name := Str.ofString "__next__") hit.typeIs F.slot_tuple_iterator_next (wpAny_call_entry F.slot_tuple_iterator_next hit.typeIs F.entry_tuple_iterator_next ?_ (F.args_tuple_iterator_next_1 _)))
  show wpAny _ _ (field (.ref it) 0 >>= _) _ _ s; refine wpAny_bind (wpAny_field ho hd (x := .ref t) rfl ?_)
  show wpAny _ _ (if (Value.ref t == Value.none) = true then _ else _) _ _ s; rw [if_neg (show ¬ ((Value.ref t == Value.none) = true) from Bool.false_ne_true)]
  show wpAny _ _ (field (.ref it) 1 >>= _) _ _ s; refine wpAny_bind (wpAny_field ho hd (x := .int i 0) rfl ?_)
  show wpAny _ _ (seqItems? (.ref t) >>= _) _ _ s; refine wpAny_bind (wpAny_seqItems hol hdl ?_); simp only [Int.toNat_natCast, hx]
  refine wpAny_bind (wpAny_setField ho hd (by simp) (wpAny_pure ⟨x, rfl, wpAny_pure (hQ _ ⟨_, Heap.get?_update_self _ ho (Obj.isFreed_of_fields (Obj.data_mapFields hd _)), (Obj.cls_mapFields ..).trans hc, by rw [Obj.data_mapFields hd]; simp [rawInt]⟩ (Heap.SameBut.update ..))⟩))
theorem nx_tup_end {it t : Addr} {i : Nat} {its : Array Value} {Q : Value → Shared → Prop} (hh : A.handled = none) (hit : s.heap.IsTupleIter it t i) (ht : s.heap.IsTuple t its) (hx : its[i]? = none)
    (hE : ∀ h' e, Heap.ExtBut it s.heap h' → (∃ o, h'.get? e = some o ∧ o.cls = .type "StopIteration") → E (.ref e) { s with heap := h' }) : wpAny (model prog w) A (Builtin.SmallTypes.nextOf (.ref it)) Q E s := by
  obtain ⟨o, ho, hc, hd⟩ := id hit; obtain ⟨ol, hol, _, nl, hdl⟩ := ht; unfold Builtin.SmallTypes.nextOf
  refine wpAny_bind (wpAny_callSpecial?_slot (name := Str.ofString "__next__") hit.typeIs F.slot_tuple_iterator_next (wpAny_call_entry F.slot_tuple_iterator_next hit.typeIs F.entry_tuple_iterator_next ?_ (F.args_tuple_iterator_next_1 _)))
  show wpAny _ _ (field (.ref it) 0 >>= _) _ _ s; refine wpAny_bind (wpAny_field ho hd (x := .ref t) rfl ?_)
  show wpAny _ _ (if (Value.ref t == Value.none) = true then _ else _) _ _ s; rw [if_neg (show ¬ ((Value.ref t == Value.none) = true) from Bool.false_ne_true)]
  show wpAny _ _ (field (.ref it) 1 >>= _) _ _ s; refine wpAny_bind (wpAny_field ho hd (x := .int i 0) rfl ?_)
  show wpAny _ _ (seqItems? (.ref t) >>= _) _ _ s; refine wpAny_bind (wpAny_seqItems hol hdl ?_); simp only [Int.toNat_natCast, hx]
  refine wpAny_bind (wpAny_rule (wpAny_bind (wpAny_setField ho hd (by simp) ?_))); show wpAny _ _ (newExc (.type "StopIteration") [] >>= _) _ _ _
  refine wpAny_bind ?_; simp only [newExc, newTuple]; refine wpAny_bind (wpAny_newObj_type ?_ (by size_fits))
  refine wpAny_bind (m := firstArgMember _ _) (wpAny_of_eq (a := Value.none) (by first | rfl | (simp only [firstArgMember]; rfl)) ?_); refine wpAny_newObj_type ?_ (by size_fits)
  simp only [raiseNew]; refine wpAny_bind (wpAny_handled ?_); first | rw [show A.in1.handled = none from hh] | rw [hh]
  refine wpAny_bind (wpAny_pure (wpAny_throw (hE _ _ (((Heap.SameBut.update ..).extBut.push _).push _) ⟨_, Heap.get?_push_size _ rfl, rfl⟩)))
theorem draws_tup (hh : A.handled = none) (it l : Addr) (hne : l ≠ it) (its : Array Value) : Draws prog w A it [it, l] its.size (fun i v => its[i]? = some v) (fun i h => h.IsTupleIter it l i ∧ h.IsTuple l its) where
  live := fun _ _ st => let ⟨o, ho, _⟩ := st.1; ⟨o, ho⟩
  frame := fun _ _ _ st hk => ⟨let ⟨o, ho, r⟩ := st.1; ⟨o, hk it (by simp) o ho, r⟩, let ⟨o, ho, r⟩ := st.2; ⟨o, hk l (by simp) o ho, r⟩⟩
  item := fun i s Q E hi st hQ => nx_tup_item st.1 st.2 (x := its[i]) (by simp [hi]) fun h' hit' hs' => hQ _ h' s.toks (by simp [hi]) ⟨hit', st.2.extBut hs'.extBut hne⟩ hs'
  done := fun s Q E st hE => nx_tup_end hh st.1 st.2 (by simp) hE
open AutoSeq1 (wpAny_loadPart') in
theorem enum_newT (l : Addr) (its : Array Value) (n : Nat) (dct : Option Addr) (sl : Array (Option Value)) :
    Meets (Builtin.«enumerate.__new__» ⟨[.type "enumerate", .ref l], []⟩) (fun _ R s => s.heap.get? l = some { cls := .type "tuple", dict := dct, data := .seq its n, slots := sl } ∧
      R (.ok (.ret (.ref (s.heap.push { cls := .type "tuple_iterator", data := .fields #[.ref l, .int 0 0] }).objs.size)))
        { s with heap := (s.heap.push { cls := .type "tuple_iterator", data := .fields #[.ref l, .int 0 0] }).push { cls := .type "enumerate", data := .fields #[.none, .bool false, .ref s.heap.objs.size, rawInt 0, .none, .none] } }) :=
  .of_wp fun prog w A R s h => by
    obtain ⟨hp, g, d, tk, os⟩ := s; obtain ⟨hl, h⟩ := h; have hsub := sub_enumerate
    have hL : Heap.IsTuple (Shared.heap ⟨hp, g, d, tk, os⟩) l its := ⟨_, hl, rfl, n, rfl⟩
    wp_walk using wpAny_loadPart' hl
    refine wpAny_stack_any fun st => wpAny_pure ?_; split
    · rename_i c _ _ _ _ _
      cases (c == Value.type "enumerate") <;> (wp_walk using wpAny_loadPart' hl, wpAny_pyIter_tuple hL; exact ⟨_, rfl, h⟩)
    · wp_walk using wpAny_loadPart' hl, wpAny_pyIter_tuple hL
      exact ⟨_, rfl, h⟩
theorem call_enumT {l : Addr} {its : Array Value} {Q : Value → Shared → Prop} (hL : s.heap.IsTuple l its)
    (h : ∀ h', IsEnum h' (s.heap.objs.size + 1) s.heap.objs.size 0 .none → h'.IsTupleIter s.heap.objs.size l 0 → h'.objs.size = s.heap.objs.size + 2 → (∀ b o, s.heap.get? b = some o → h'.get? b = some o) → Q (.ref (s.heap.objs.size + 1)) { s with heap := h' }) :
    wpAny (model prog w) A (call (.type "enumerate") [.ref l]) Q E s := by
  obtain ⟨⟨c, dct, dt, sl⟩, hl, hc, n, hd⟩ := hL
  obtain rfl : c = .type "tuple" := hc
  obtain rfl : dt = .seq its n := hd
  refine callType_new F.called_enumerate (by decide) (F.typeCall_enumerate_1 _) (F.newCall_enumerate_1 _) (fun obj => F.args_object_init_2 obj _) F.entry_enumerate_new (enum_newT l its n dct sl) ⟨hl, ?_⟩
  have hz : (s.heap.push { cls := .type "tuple_iterator", data := .fields #[.ref l, .int 0 0] }).objs.size = s.heap.objs.size + 1 := Heap.size_push ..
  show _ ∧ _; rw [hz]
  have he : IsEnum ((s.heap.push { cls := .type "tuple_iterator", data := .fields #[.ref l, .int 0 0] }).push { cls := .type "enumerate", data := .fields #[.none, .bool false, .ref s.heap.objs.size, rawInt 0, .none, .none] }) (s.heap.objs.size + 1) s.heap.objs.size 0 .none := by
    have := Heap.get?_push_size (s.heap.push { cls := .type "tuple_iterator", data := .fields #[.ref l, .int 0 0] }) (o := { cls := .type "enumerate", data := .fields #[.none, .bool false, .ref s.heap.objs.size, rawInt 0, .none, .none] }) rfl
    rw [hz] at this; exact this
  exact ⟨⟨_, he, rfl⟩, h _ he ⟨_, Heap.get?_push_of_some _ (Heap.get?_push_size _ rfl), rfl, rfl⟩ (by rw [Heap.size_push, hz]) fun b o x => Heap.get?_push_of_some _ (Heap.get?_push_of_some _ x)⟩
end
/-- (0, first), (1, second), .. of a tuple: a new pair at each turn -/
def IteT (K : PySem.W.Frag) (a : Addr) : It :=
  ⟨fun i H => ∃ xs x, SqT K H a xs ∧ xs[i]? = some x,
   fun i H x H' => ∃ p y, x = .ref p ∧ H p = none ∧ H' = upd H p (.tup [.int i, y]) ∧ ∀ xs, SqT K H a xs → xs[i]? = some y,
   fun i H => ∃ xs, SqT K H a xs ∧ xs.length ≤ i⟩
theorem turn_enumT {P : Program} {w : World} {K : PySem.W.Frag} {elts : List Expr} {k0 : Nat} {pos0 : Pos} (a e it : Addr) (hei : e ≠ it) (hae : a ≠ e) (hai : a ≠ it) :
    Turn P w K (.Tuple elts k0 pos0) (IteT K a) [e, it] e (fun i h => (∃ old, IsEnum h e it i old) ∧ h.IsTupleIter it a i) where
  mem := by simp
  obj := fun i h ⟨⟨old, he⟩, hit⟩ b hb => by
    rcases List.mem_cons.mp hb with rfl | hb
    · exact ⟨_, he, fun v z => by
        have z' : Data.fields _ = Data.cell v := z
        cases z'⟩
    · have e' : b = it := by simpa using hb
      subst e'
      obtain ⟨o, q, c, d⟩ := hit
      exact ⟨o, q, fun v z => by rw [d] at z; cases z⟩
  keep := fun i h h' ⟨⟨old, he⟩, hit⟩ k => ⟨⟨old, k e (by simp) _ he⟩, hit.at fun o q => k it (by simp) o q⟩
  item := by
    intro X hP hw hK hc i pins s σ H E I hf st hg
    subst hP hw hK
    obtain ⟨xs, x, hq, hx⟩ := hg
    obtain ⟨its, rv, p, hz⟩ := I.tuple hq
    obtain ⟨u, hu, ru⟩ := rv.get hx
    obtain ⟨⟨old, he⟩, hit⟩ := st
    obtain ⟨f0, f1, f2, f3, f4, f5⟩ := hf e (by simp)
    obtain ⟨g0, g1, g2, g3, g4, g5⟩ := hf it (by simp)
    have hT0 : s.heap.IsTuple a its.toArray := p
    have hlt : i < its.toArray.size := by have := (List.getElem?_eq_some_iff.mp hu).1; simpa using this
    refine wpAny_pyNext_enum_itemD (draws_tup (A := X.A.in1) (I.ok.hd hc) it a hai its.toArray) he ⟨hit, hT0⟩ hlt hei (by simp only [List.mem_cons, List.not_mem_nil, or_false, not_or]; exact ⟨hei, Ne.symm hae⟩) fun x' h1 tk hx' ho hit1 hT hsz hk => ?_
    obtain rfl : u = x' := by
      have hx2 : its[i]? = some x' := by simpa using hx'
      have hu2 : its[i]? = some u := hu
      rw [hu2] at hx2; exact Option.some.inj hx2
    refine ⟨_, rfl, wpAny_letOwnedTupleGo_enum ho fun h2 he2 hs2 => ?_⟩
    replace hs2 : Heap.SameBut e h1 h2 := hs2
    have helt : e < s.heap.objs.size := Heap.lt_size he
    have hk2 : ∀ b o, b ≠ e → b ≠ it → s.heap.get? b = some o → h2.get? b = some o := fun b o b1 b2 q => (hs2.2 b b1).trans (hk b o b1 b2 q)
    have hT2 : h2.get? s.heap.objs.size = some { cls := .type "tuple", data := .seq #[.int i tk, u] } := (hs2.2 _ (Nat.ne_of_gt helt)).trans hT
    have hn : H s.heap.objs.size = none := I.hok.fresh (Nat.le_refl _)
    have nE : ∀ b v, H b = some v → b ≠ e := fun b v q z => by rw [z, f0] at q; cases q
    have nI : ∀ b v, H b = some v → b ≠ it := fun b v q z => by rw [z, g0] at q; cases q
    have ok2 : HOk X.prog X.w H h2 := fun b v q => (I.hok b v q).stay (fun c v' hc r => by
      rcases hc with z | z
      · exact hk2 c v' (by rw [z]; exact nE b v q) (by rw [z]; exact nI b v q) r
      · exact hk2 c v' (nE c _ z) (nI c _ z) r) (fun _ r => r) fun _ _ r => r
    have ok3 : HOk X.prog X.w (upd H s.heap.objs.size (.tup [.int i, x])) h2 := fun b v q => by
      by_cases hb : b = s.heap.objs.size
      · subst hb
        rw [upd_same] at q
        cases q
        exact ⟨by show 2 ≤ sizeLine; decide, [.int i tk, u], .cons ⟨_, rfl⟩ (.cons ru .nil), ⟨_, hT2, rfl, _, rfl⟩⟩
      · rw [upd_ne hb] at q
        exact (ok2 b v q).stay (fun c v' _ r => r) (fun c r => by rw [upd_ne (ne_of_none r hn)]; exact r) fun c ys r => by rw [upd_ne (ne_of_none r hn)]; exact r
    have nlt : ∀ {b : Addr} {o : Obj}, s.heap.get? b = some o → b ≠ s.heap.objs.size := fun q => Nat.ne_of_lt (Heap.lt_size q)
    have I2 : Inv X pins σ (upd H s.heap.objs.size (.tup [.int i, x])) { s with heap := h2, toks := tk + 1 } :=
      I.step (g' := s.gens) (d' := s.drawn) (ch := [e, it]) (fun b hb => by
          rcases List.mem_cons.mp hb with rfl | hb
          · exact ⟨f3, f1, f4, f5⟩
          · have e' : b = it := by simpa using hb
            subst e'
            exact ⟨g3, g1, g4, g5⟩)
        (fun b o _ _ hc q _ => hk2 b o (fun z => hc (by simp [z])) (fun z => hc (by simp [z])) q)
        (fun b o _ _ hc q _ => ⟨o.slots, hk2 b o (fun z => hc (by simp [z])) (fun z => hc (by simp [z])) q⟩)
        (fun b o _ q n => by rw [upd_ne (nlt q)]; exact n)
        (fun b o hc q => ⟨o, hk2 b o (fun z => hc (by simp [z])) (fun z => hc (by simp [z])) q⟩)
        (fun b ys q => by rw [upd_ne (ne_of_none q hn)]; exact q) (fun b o v q => by rw [upd_ne (ne_of_none q hn)]; exact q) (fun b ps q => ⟨#[], by rw [upd_ne (ne_of_none q hn), q]; simp⟩)
        (fun m ⟨o, es, ep, hm, r⟩ => ⟨o, es, ep, hk2 _ o (Ne.symm f1) (Ne.symm g1) hm, r⟩) ok3 I.bare
    refine ⟨.ref s.heap.objs.size, _, I2, rfl, ⟨_, x, rfl, hn, rfl, fun ys hy => by rw [I.tuple_inj hy hq]; exact hx⟩, ⟨⟨_, by simpa using he2⟩, hit1.1.at fun o y => (hs2.2 it hei.symm).trans y⟩, fun b hb => ?_⟩
    rcases List.mem_cons.mp hb with rfl | hb
    · rw [upd_ne (Nat.ne_of_lt helt)]; exact f0
    · have e' : b = it := by simpa using hb
      subst e'
      obtain ⟨o, q, _⟩ := hit
      rw [upd_ne (nlt q)]; exact g0
  done := by
    intro X hP hw hK hc i pins s σ H E I hf st hg
    subst hP hw hK
    obtain ⟨xs, hq, hx⟩ := hg
    obtain ⟨its, rv, p, hz⟩ := I.tuple hq
    obtain ⟨⟨old, he⟩, hit⟩ := st
    obtain ⟨g0, g1, g2, g3, g4, g5⟩ := hf it (by simp)
    have hl := rv.length
    have hT0 : s.heap.IsTuple a its.toArray := p
    exact wpAny_pyNext_enum_endD (n := i) (St := fun j h => j = i ∧ h.IsTupleIter it a j ∧ h.IsTuple a its.toArray) (P := fun _ _ => True) (fp := [it, a])
      ⟨fun _ _ st => let ⟨o, ho, _⟩ := st.2.1; ⟨o, ho⟩, fun _ _ _ st hk => ⟨st.1, let ⟨o, ho, r⟩ := st.2.1; ⟨o, hk it (by simp) o ho, r⟩, let ⟨o, ho, r⟩ := st.2.2; ⟨o, hk a (by simp) o ho, r⟩⟩,
        fun j s Q E hj st hQ => absurd st.1 (Nat.ne_of_lt hj), fun s Q E st hE => nx_tup_end (I.ok.hd hc) st.2.1 st.2.2 (by simp; omega) hE⟩ he ⟨rfl, hit, hT0⟩ fun h' eb => ⟨rfl, I.turned (t' := s.toks) (it := it) (fun b o hb q => eb b o hb q) g0 g1 g3 g4 g5⟩
  self := fun _ _ _ _ _ ⟨⟨_, he⟩, _⟩ h => wpAny_pyIter_enum he h
def iEnumT (K : PySem.W.Frag) (ta : TA) : TI := fun σ H R => ta σ H fun vs H1 => ∃ a, vs = [.ref a] ∧ (∃ xs, SqT K H1 a xs) ∧ R (IteT K a) H1
theorem pi_enumT {X : Cx} {a : Expr} {ta : TA} {p pos pos0 : Pos} {elts : List Expr} {k0 : Nat} (hm : X.mg "enumerate" = none) (ha : PA X [a] ta) (hg : Gl X "enumerate" := by rfl) (hs : starEach [a] X.env = [(false, eval a X.env)] := by rfl) :
    PI X (.Tuple elts k0 pos0) (.Call (.Name "enumerate" p) [a] [] pos) (iEnumT X.K ta) := by
  intro pins s σ H R I h
  refine Call_ (ld_blt I hg hm boot_enumerate (PyProof.Rows.callWith_type1 (thn (ha pos pins s σ H _ I h) fun us s1 hhx => ?_) hs rfl))
  obtain ⟨vs, H1, I1, r1, q1⟩ := hhx
  obtain ⟨l, e, ⟨xs, hq⟩, q⟩ := q1
  subst e
  cases r1 with
  | cons r rr =>
    cases rr
    cases r
    obtain ⟨its, rv, pl, hz⟩ := I1.tuple hq
    have hT : s1.heap.IsTuple l its.toArray := pl
    have hl : l < s1.heap.objs.size := by obtain ⟨o, ho, _⟩ := hT; exact Heap.lt_size ho
    refine call_enumT hT fun h' he hit hsz hk => ?_
    refine wpAny_pyIter_enum he ?_
    have I2 : Inv X pins σ H1 { s1 with heap := h' } := I1.kept (t' := s1.toks) hk
    refine ⟨s1.heap.objs.size + 1, [s1.heap.objs.size + 1, s1.heap.objs.size], _, _, H1, rfl, I2, turn_enumT l _ _ (Nat.succ_ne_self _) (Nat.ne_of_lt (Nat.lt_succ_of_lt hl)) (Nat.ne_of_lt hl), ⟨⟨_, he⟩, hit⟩, fun b hb => ?_, q⟩
    have hle : s1.heap.objs.size ≤ b := by
      rcases List.mem_cons.mp hb with rfl | hb
      · exact Nat.le_succ _
      · rw [List.mem_singleton.mp hb]; exact Nat.le_refl _
    exact I1.fpOk hle (I1.hok.fresh hle)
theorem xpi_enumT {X : Cx} {a : Expr} {ta : TA} {p pos pos0 : Pos} {elts : List Expr} {k0 : Nat} (hm : X.mg "enumerate" = none) (ha : XA X [a] ta) (hg : Gl X "enumerate" := by rfl) (hs : starEach [a] X.env = [(false, eval a X.env)] := by rfl) :
    XI X (.Tuple elts k0 pos0) (.Call (.Name "enumerate" p) [a] [] pos) (iEnumT X.K ta) := ⟨pi_enumT hm ha.h hg hs⟩
theorem r_iEnumT {K : PySem.W.Frag} {ta : TA} {σ : St} {H : Hp} {R : It → Hp → Prop} : iEnumT K ta σ H R = ta σ H fun vs H1 => ∃ a, vs = [.ref a] ∧ (∃ xs, SqT K H1 a xs) ∧ R (IteT K a) H1 := rfl
section
variable {K : PySem.W.Frag} {a : Addr} {xs : List V}
theorem fw_enumT {g : TG} {tb : TS} {D : Ends} {σ : St} {H : Hp} (Pv : Nat → St → Hp → Prop) (h0 : Pv 0 σ H) (hl : ∀ i σ H, i ≤ xs.length → Pv i σ H → SqT K H a xs)
    (hs : ∀ (i : Nat) x σ H p, xs[i]? = some x → H p = none → Pv i σ H → g (.ref p) σ (upd H p (.tup [.int i, x])) fun σ2 H2 => tb { D with nx := Pv (i + 1), ct := Pv (i + 1), bk := D.nx } σ2 H2) (hd : ∀ σ H, Pv xs.length σ H → D.nx σ H) : ForW (IteT K a) g tb D σ H := by
  refine ⟨fun i m σ H => m = xs.length - i ∧ i ≤ xs.length ∧ Pv i σ H, ⟨xs.length, by simp, Nat.zero_le _, h0⟩, ?_⟩
  rintro i m σ H ⟨rfl, hi, p⟩
  have q := hl i σ H hi p
  by_cases hlt : i < xs.length
  · refine .inr ⟨⟨xs, xs[i], q, by simp [hlt]⟩, Pv (i + 1), fun σ' H' p' => ⟨xs.length - (i + 1), by omega, rfl, hlt, p'⟩, fun x H' y => ?_⟩
    obtain ⟨pp, z, ex, hn, eH, y⟩ := y
    subst ex eH
    exact hs i z σ H pp (y xs q) hn p
  · obtain rfl : i = xs.length := by omega
    exact .inl ⟨⟨xs, q, Nat.le_refl _⟩, hd σ H p⟩
theorem cg_enumT {g : TG} {tt : TT} {te : TE} {nt : Nat} {ci : List Nat} {σ : St} {acc : Addr} {Q : Hp → Prop} {H0 : Hp} (Pv : Nat → List V → Hp → Prop) (h0 : Pv 0 [] H0) (hl : ∀ i ys H, i ≤ xs.length → Pv i ys H → SqT K H a xs)
    (hs : ∀ (i : Nat) x ys H os p, xs[i]? = some x → os.length = nt → H p = none → Pv i ys H → g (.ref p) (blkSt os ci σ) (upd H p (.tup [.int i, x])) fun σ1 H1 => (∃ os', os'.length = nt ∧ σ1 = blkSt os' ci σ) ∧ tt σ1 H1 fun b H2 =>
      if b = true then te σ1 H2 fun z H3 => H3 acc = some (.lst ys) ∧ ys.length < sizeLine ∧ Pv (i + 1) (ys ++ [z]) (upd H3 acc (.lst (ys ++ [z]))) else Pv (i + 1) ys H2)
    (hd : ∀ ys H, Pv xs.length ys H → Q H) : CompGW (IteT K a) g tt te nt ci σ acc Q H0 := by
  refine ⟨fun i m ys H => m = xs.length - i ∧ i ≤ xs.length ∧ Pv i ys H, ⟨xs.length, by simp, Nat.zero_le _, h0⟩, ?_⟩
  rintro i m ys H ⟨rfl, hi, p⟩
  have q := hl i ys H hi p
  by_cases hlt : i < xs.length
  · refine .inr ⟨⟨xs, xs[i], q, by simp [hlt]⟩, Pv (i + 1), fun ys' H' p' => ⟨xs.length - (i + 1), by omega, rfl, hlt, p'⟩, fun y H' os ho yl => ?_⟩
    obtain ⟨pp, z, ex, hn, eH, yl⟩ := yl
    subst ex eH
    exact hs i z ys H os pp (yl xs q) ho hn p
  · obtain rfl : i = xs.length := by omega
    exact .inl ⟨⟨xs, q, Nat.le_refl _⟩, hd ys H p⟩
end
section
variable {K : PySem.W.Frag} {a b : Addr} {H : Hp} {Q : VK}
theorem r_sorted : rSorted K [.ref a] H Q = ∃ ns : List Int, SqL K H a (ns.map V.int) ∧ ns.length < 64 ∧ ∀ (l : Addr) (ns' : List Int), H l = none → ns'.Perm ns → ns'.Pairwise (· ≤ ·) → Q (.ref l) (upd H l (.lst (ns'.map V.int))) := propext ⟨by rintro ⟨_, ns, e, q⟩; cases e; exact ⟨ns, q⟩, by rintro ⟨ns, q⟩; exact ⟨a, ns, rfl, q⟩⟩
theorem r_all : rAll K [.ref a] H Q = ∃ bs : List Bool, SqL K H a (bs.map V.bl) ∧ Q (.bl (bs.all id)) H := propext ⟨by rintro ⟨_, ns, e, q⟩; cases e; exact ⟨ns, q⟩, by rintro ⟨ns, q⟩; exact ⟨a, ns, rfl, q⟩⟩
theorem r_any : rAny K [.ref a] H Q = ∃ bs : List Bool, SqL K H a (bs.map V.bl) ∧ Q (.bl (bs.any id)) H := propext ⟨by rintro ⟨_, ns, e, q⟩; cases e; exact ⟨ns, q⟩, by rintro ⟨ns, q⟩; exact ⟨a, ns, rfl, q⟩⟩
theorem r_insert {i : Int} {y : V} : rInsert (.ref a) [.int i, y] H Q = ∃ xs, H a = some (.lst xs) ∧ -(2 ^ 63) ≤ i ∧ i < 2 ^ 63 ∧ xs.length < sizeLine ∧ Q .non (upd H a (.lst (xs.take (insK i xs.length) ++ y :: xs.drop (insK i xs.length)))) := propext ⟨by rintro ⟨_, xs, _, _, e1, e2, q⟩; cases e1; cases e2; exact ⟨xs, q⟩, by rintro ⟨xs, q⟩; exact ⟨a, xs, i, y, rfl, rfl, q⟩⟩
theorem r_count {y : V} : rCount K (.ref a) [y] H Q = ∃ xs, SqL K H a xs ∧ flatV y = true ∧ xs.all flatV = true ∧ Q (.int (cntV y xs)) H := propext ⟨by rintro ⟨_, xs, _, e1, e2, q⟩; cases e1; cases e2; exact ⟨xs, q⟩, by rintro ⟨xs, q⟩; exact ⟨a, xs, y, rfl, rfl, q⟩⟩
theorem r_popAt {i : Int} : rPopAt (.ref a) [.int i] H Q = ∃ xs k y, H a = some (.lst xs) ∧ -(2 ^ 63) ≤ i ∧ i < 2 ^ 63 ∧ seqIndex? i xs.length = some k ∧ xs[k]? = some y ∧ Q y (upd H a (.lst (xs.eraseIdx k))) := propext ⟨by rintro ⟨_, xs, _, k, y, e1, e2, q⟩; cases e1; cases e2; exact ⟨xs, k, y, q⟩, by rintro ⟨xs, k, y, q⟩; exact ⟨a, xs, i, k, y, rfl, rfl, q⟩⟩
theorem r_reverse : rReverse (.ref a) [] H Q = ∃ xs, H a = some (.lst xs) ∧ Q .non (upd H a (.lst xs.reverse)) := propext ⟨by rintro ⟨_, xs, e1, _, q⟩; cases e1; exact ⟨xs, q⟩, by rintro ⟨xs, q⟩; exact ⟨a, xs, rfl, rfl, q⟩⟩
theorem r_extend : rExtend (.ref a) [.ref b] H Q = ∃ xs zs, H a = some (.lst xs) ∧ H b = some (.lst zs) ∧ xs.length + zs.length ≤ sizeLine ∧ Q .non (upd H a (.lst (xs ++ zs))) := propext ⟨by rintro ⟨_, _, xs, zs, e1, e2, q⟩; cases e1; cases e2; exact ⟨xs, zs, q⟩, by rintro ⟨xs, zs, q⟩; exact ⟨a, b, xs, zs, rfl, rfl, q⟩⟩
end
end L2
set_option Elab.async false
set_option linter.all false
set_option maxRecDepth 100000
namespace L2
open PySem PySem.Spec PyProof.Rows

def Cx.blkZ (X : Cx) (z0 : Str) (N' : List Str) (scope : Scope) (b : Bk) : Cx :=
  { prog := X.prog, w := X.w, K := X.K, mg := X.mg, base := X.base, A := X.A, N := N', s₀ := b.s₂, H₀ := b.H₂, env := compEnvC scope ((z0, b.C + 1) :: clOf X.env.cells scope.names []) b.C X.env, outer := X.stack, stack := X.stack, ex := b.fp, fn := fun x => x == z0, calm := X.calm, pn := [], xe := fun _ _ => False }
theorem blkZ_K {X : Cx} {z0 : Str} {N' : List Str} {scope : Scope} {b : Bk} : (X.blkZ z0 N' scope b).K = X.K := rfl

structure CompScZ (X : Cx) (z0 : Str) (scope : Scope) (cns : List Str) (ci : List Nat) : Prop where
  kind : scope.kind = .function
  names : ∀ y ∈ scope.names, y.2 = .local → scope.names.lookup y.1 = some .local
  free : ∀ y ∈ scope.names, y.2 = .free → X.env.kindOf y.1 = some .cell ∨ X.env.kindOf y.1 = some .free
  cap : ∀ (j : Nat) x, cns[j]? = some x → ∃ i, ci[j]? = some i ∧ X.N[i]? = some x ∧ (x, NameKind.free) ∈ scope.names
  len : cns.length = ci.length
  noloc : ∀ y, (y, NameKind.free) ∈ scope.names → ¬ (relabel scope X.env).names.lookup y = some .local
  nofree : (z0, NameKind.free) ∉ scope.names
  seen : ∀ y, (relabel scope X.env).names.lookup y = some .cell ∨ (relabel scope X.env).names.lookup y = some .free → y = z0 ∨ (y, NameKind.free) ∈ scope.names
  cells : ∀ n acc, cellsFrom n scope.names acc = (z0, n) :: acc
  push : ∀ h, pushCells h scope.names = h.push { cls := .type "cell", data := .cell none }

section
variable {M : Model} {A : Around} {E : Value → Shared → Prop} {s : Shared}
theorem newFunctionEnvZ {scope : Scope} {globals : Addr} {closure : List (Str × Addr)} {qual : Str} {outer : Env} {z0 : Str} {Q : Env → Shared → Prop}
    (hc : ∀ n acc, cellsFrom n scope.names acc = (z0, n) :: acc) (hp : ∀ h, pushCells h scope.names = h.push { cls := .type "cell", data := .cell none })
    (hQ : Q { scope := scope, locals := s.heap.objs.size, globals := globals, cells := (z0, s.heap.objs.size + 1) :: closure, qual := qual, func := none, code := outer.code, frame := outer.frame, builtins := outer.builtins }
      { s with heap := (s.heap.push { cls := .type "dict", data := .dict #[] }).push { cls := .type "cell", data := .cell none } }) :
    wpAny M A (newFunctionEnv scope globals closure [] qual none .none (some outer)) Q E s := by
  simp only [newFunctionEnv, Option.isSome_some, if_true]
  refine wpAny_bind (wpAny_alloc ?_)
  refine wpAny_bind (wpAny_layCells _ (fun name kind cells => by cases hkc : kind == NameKind.cell <;> simp [hkc]) _ _ _ _ ?_)
  rw [hc, hp, show ({ s with heap := s.heap.push { cls := .type "dict", data := .dict #[] } } : Shared).heap.objs.size = s.heap.objs.size + 1 from Heap.size_push ..]
  refine wpAny_bind ?_
  rw [List.forIn_nil]
  exact wpAny_pure (wpAny_pure hQ)
end

theorem comp_coreZ {X : Cx} {elt iter tgt : Expr} {ifs : List Expr} {pos : Pos} {scope : Scope} {z0 : Str} {g : Bk → TG} {tt : Bk → TT} {te : Bk → TE} {tns cns : List Str} {ci : List Nat} {RR : Value → Addr → Result → Shared → Prop} {E : Value → Shared → Prop}
    {pins : List (Addr × Obj)} {σ : St} {H2 : Hp} {s2 : Shared} {it : Addr} {fp : List Addr} {tn : Nat → Heap → Prop} {J : It} {Q : Addr → Hp → Prop}
    (hc : X.calm = true) (S : CompScZ X z0 scope cns ci)
    (hg : ∀ bk : Bk, PG (X.blkZ z0 (".0" :: (tns ++ cns)) scope bk) tgt (g bk))
    (ht : ∀ bk : Bk, PIfs (X.blkZ z0 (".0" :: (tns ++ cns)) scope bk) ifs (tt bk))
    (he : ∀ bk : Bk, PE (X.blkZ z0 (".0" :: (tns ++ cns)) scope bk) elt (te bk))
    (I2 : Inv X pins σ H2 s2) (T : Turn X.prog X.w X.K tgt J fp it tn) (st2 : tn 0 s2.heap) (f2 : ∀ b ∈ fp, FpOk X pins H2 b)
    (hcw : ∀ acc, H2 acc = none → ∀ bk : Bk, CompGW J (g bk) (tt bk) (te bk) tns.length ci σ acc (Q acc) (upd H2 acc (.lst [])))
    (fin : ∀ D C s5 H4 m, Inv X pins σ H4 s5 → s5.heap.Ns C m → FpOk X pins H4 C → Q D H4 → RR (.ref D) C (.ok .next) s5) :
    wpAny (model X.prog X.w) X.A (newList []) (fun acc s₃ => wpAny (model X.prog X.w) X.A (newFunctionEnv scope X.env.globals (clOf X.env.cells scope.names []) [] X.env.qual none .none (some X.env)) (fun cenv s₄ =>
      codeAny (model X.prog X.w) X.A (.compStart (.ListComp elt [⟨tgt, iter, ifs, 0⟩] scope pos) 0 (.ref it) acc { cenv with scope := relabel scope X.env }) (RR acc cenv.locals) s₄) E s₃) E s2 := by
  have hfc : ∀ y ∈ scope.names, y.2 = .free → ∃ c, X.env.cells.lookup y.1 = some c := fun y hy hk => I2.ok.has _ (S.free y hy hk)
  have hsub : ∀ y c, (clOf X.env.cells scope.names []).lookup y = some c → X.env.cells.lookup y = some c := clOf_sub hfc (fun y c e => by simp at e)
  refine wpAny_newObj_type (newFunctionEnvZ S.cells S.push ?_)
  dsimp only
  generalize hH2 : s2.heap.push { cls := .type "list", dict := none, data := .seq ([] : List Value).toArray } = G2
  have hCz : G2.objs.size = s2.heap.objs.size + 1 := by rw [← hH2, Heap.size_push]
  have hns₁ : ((G2.push { cls := .type "dict", data := .dict #[] }).push { cls := .type "cell", data := .cell none }).Ns G2.objs.size (fun _ => none) := (Heap.Ns.new G2 (.type "dict")).keeps fun b o e => Heap.get?_push_of_some _ e
  have hcl₁ : ((G2.push { cls := .type "dict", data := .dict #[] }).push { cls := .type "cell", data := .cell none }).IsCell (G2.objs.size + 1) none := by
    refine ⟨{ cls := .type "cell", data := .cell none }, ?_, rfl⟩
    have := Heap.get?_push_size (G2.push { cls := .type "dict", data := .dict #[] }) (o := { cls := .type "cell", data := .cell none }) rfl
    rwa [Heap.size_push] at this
  have keep₁ : ∀ b o, G2.get? b = some o → ((G2.push { cls := .type "dict", data := .dict #[] }).push { cls := .type "cell", data := .cell none }).get? b = some o := fun b o e => Heap.get?_push_of_some _ (Heap.get?_push_of_some _ e)
  have hsz₁ : ((G2.push { cls := .type "dict", data := .dict #[] }).push { cls := .type "cell", data := .cell none }).objs.size = G2.objs.size + 2 := by rw [Heap.size_push, Heap.size_push]
  generalize hh₁ : (G2.push { cls := .type "dict", data := .dict #[] }).push { cls := .type "cell", data := .cell none } = h₁ at hns₁ hcl₁ keep₁ hsz₁ ⊢
  have hDC : s2.heap.objs.size ≠ G2.objs.size := by rw [hCz]; exact Nat.ne_of_lt (Nat.lt_succ_self _)
  have below : ∀ b, b < s2.heap.objs.size → b ≠ G2.objs.size := fun b hb => by omega
  have old : ∀ b o, s2.heap.get? b = some o → h₁.get? b = some o := fun b o e => keep₁ b o (hH2 ▸ Heap.get?_push_of_some _ e)
  have hacc : h₁.get? s2.heap.objs.size = some { cls := .type "list", dict := none, data := .seq ([] : List Value).toArray } := keep₁ _ _ (hH2 ▸ Heap.get?_push_size _ rfl)
  have hnD : H2 s2.heap.objs.size = none := I2.hok.fresh (Nat.le_refl _)
  have hnC : H2 G2.objs.size = none := I2.hok.fresh (by omega)
  have hnE : H2 (G2.objs.size + 1) = none := I2.hok.fresh (by omega)
  obtain ⟨W, ⟨m0, w0⟩, turn⟩ := hcw s2.heap.objs.size hnD ⟨G2.objs.size, fp, s2, H2⟩
  have nlt : ∀ {b : Addr} {o : Obj}, s2.heap.get? b = some o → b ≠ s2.heap.objs.size := fun q => Nat.ne_of_lt (Heap.lt_size q)
  have fpl : ∀ b ∈ fp, b < s2.heap.objs.size := fun b hb => by
    obtain ⟨o, e, _⟩ := T.obj _ _ st2 b hb
    exact Heap.lt_size e
  have clt : ∀ y c, (clOf X.env.cells scope.names []).lookup y = some c → c < s2.heap.objs.size := fun y c e => by
    obtain ⟨v, q⟩ := I2.cell y c (hsub y c e)
    exact q.lt
  have split : ∀ y c, ((z0, G2.objs.size + 1) :: clOf X.env.cells scope.names []).lookup y = some c → (y = z0 ∧ c = G2.objs.size + 1) ∨ (y ≠ z0 ∧ (clOf X.env.cells scope.names []).lookup y = some c) := fun y c e => by
    rw [List.lookup_cons] at e
    cases hb : y == z0 with
    | true => rw [hb] at e; cases e; exact .inl ⟨by simpa using hb, rfl⟩
    | false => rw [hb] at e; exact .inr ⟨by simpa using hb, e⟩
  have hasC : ∀ y, ((relabel scope X.env).names.lookup y = some .cell ∨ (relabel scope X.env).names.lookup y = some .free) → ∃ c, ((z0, G2.objs.size + 1) :: clOf X.env.cells scope.names []).lookup y = some c := fun y hk => by
    rw [List.lookup_cons]
    cases hb : y == z0 with
    | true => exact ⟨_, rfl⟩
    | false =>
      rcases S.seen y hk with z | z
      · subst z; simp at hb
      · exact clOf_has z
  have ok : (X.blkZ z0 (".0" :: (tns ++ cns)) scope ⟨G2.objs.size, fp, s2, H2⟩).Ok := {
    mod := I2.ok.mod
    kind := S.kind
    glob := I2.ok.glob
    blt := I2.ok.blt
    above := by show s2.heap.objs.size ≤ G2.objs.size; omega
    inj := fun y z c e1 e2 => by
      rcases split y c e1 with ⟨a1, b1⟩ | ⟨a1, b1⟩ <;> rcases split z c e2 with ⟨a2, b2⟩ | ⟨a2, b2⟩
      · rw [a1, a2]
      · subst b1; have h9 : (G2.objs.size + 1 : Nat) < s2.heap.objs.size := clt _ _ b2; omega
      · subst b2; have h9 : (G2.objs.size + 1 : Nat) < s2.heap.objs.size := clt _ _ b1; omega
      · exact I2.ok.inj y z c (hsub y c b1) (hsub z c b2)
    has := fun y hk => hasC y hk
    cab := fun y c e e2 => by
      show s2.heap.objs.size ≤ c
      have e' : (y == z0) = true := e
      rcases split y c e2 with ⟨a1, b1⟩ | ⟨a1, b1⟩
      · subst b1; omega
      · exact absurd (by simpa using e') a1
    hd := I2.ok.hd
    frames := I2.ok.frames
    stk := .inl rfl
    exf := fun b hb => ⟨below b (fpl b hb), fun y c e => by
      rcases split y c e with ⟨a1, b1⟩ | ⟨a1, b1⟩
      · subst b1; intro h8; subst h8; have h9 : (G2.objs.size + 1 : Nat) < s2.heap.objs.size := fpl _ hb; omega
      · exact (f2 b hb).2.2.2.2.1 y c (hsub y c b1)⟩
    bs := I2.bs
    bsz := Nat.le_trans I2.ok.bsz I2.sz
    noex := fun b o e hb => by
      rcases (f2 b hb).2.2.2.1 with z | z
      · exact I2.ok.noex b o e z
      · exact absurd (Nat.lt_of_lt_of_le (Heap.lt_size e) (Nat.le_trans I2.ok.bsz z)) (Nat.lt_irrefl _)
    exfs := fun b hb hf => by
      rcases List.mem_cons.mp (I2.stkSub b hf) with z | z
      · exact (f2 b hb).2.1 z
      · exact (f2 b hb).2.2.1 z
    funs := I2.stack
    frf := I2.stkFree }
  have hokD : HOk X.prog X.w (upd H2 s2.heap.objs.size (.lst [])) h₁ := I2.hok.laid old (Nat.le_refl _) ⟨Nat.zero_le _, [], 0, .nil, hacc⟩
  have clD : ∀ y c, ((z0, G2.objs.size + 1) :: clOf X.env.cells scope.names []).lookup y = some c → c ≠ s2.heap.objs.size := fun y c e => by
    rcases split y c e with ⟨a1, b1⟩ | ⟨a1, b1⟩
    · subst b1; omega
    · exact Nat.ne_of_lt (clt y c b1)
  have I3 : Inv (X.blkZ z0 (".0" :: (tns ++ cns)) scope ⟨G2.objs.size, fp, s2, H2⟩) [] (blkSt (List.replicate tns.length none) ci σ) (upd H2 s2.heap.objs.size (.lst [])) { s2 with heap := h₁ } := {
    ok := ok
    os := rfl
    bare := I2.bare
    base := ⟨fun b o e n _ _ => old b o e, fun b o e n _ _ => ⟨o.slots, old b o e⟩, fun b o e n _ => by rw [upd_ne (nlt e)]; exact n, fun b o e _ => ⟨o, old b o e⟩,
      fun b ys e => by rw [upd_ne (ne_of_none e hnD)]; exact e, fun b o u e => by rw [upd_ne (ne_of_none e hnD)]; exact e, fun b ps e => ⟨#[], by rw [upd_ne (ne_of_none e hnD), Array.append_empty]; exact e⟩⟩
    loc := ⟨_, hns₁, fun i y v e1 e2 e3 => by
      have e1' : ((".0" : Str) :: (tns ++ cns))[i]? = some y := e1
      unfold blkSt at e2
      cases i with
      | zero => simp at e2
      | succ i =>
        rw [List.getElem?_cons_succ] at e1' e2
        by_cases hi : i < tns.length
        · rw [List.getElem?_append_left (by simpa using hi), List.getElem?_replicate, if_pos hi] at e2
          cases e2
        · rw [List.getElem?_append_right (by omega)] at e1'
          rw [List.getElem?_append_right (by simp; omega), List.length_replicate] at e2
          obtain ⟨q, hq, hN, hm⟩ := S.cap _ _ e1'
          rw [List.getElem?_map, hq] at e2
          have e2' : (σ[q]?).join = some v := by simpa using e2
          have e4 : σ[q]? = some (some v) := by
            cases z : σ[q]? with
            | none => rw [z] at e2'; cases e2'
            | some o => rw [z] at e2'; rw [show o = some v from e2']
          obtain ⟨m, hns, hl⟩ := I2.loc
          have hvis : Vis X.env.scope y := by
            rcases S.free (y, .free) hm rfl with z | z
            · exact .inr (.inl z)
            · exact .inr (.inr z)
          obtain ⟨u, ru, lk⟩ := hl q y v hN e4 hvis
          refine ⟨u, ru, .inr ?_⟩
          have hkk : X.env.kindOf y = some .cell ∨ X.env.kindOf y = some .free := S.free (y, .free) hm rfl
          have hyz : y ≠ z0 := fun e => S.nofree (e ▸ hm)
          rcases lk with ⟨k1, _⟩ | ⟨_, c, hc1, hc2⟩
          · rcases hkk with z | z <;> (rw [k1] at z; cases z)
          · obtain ⟨c', hc'⟩ := clOf_has (cells := X.env.cells) (acc := []) hm
            have ecc : c' = c := by
              have := hsub y c' hc'
              rw [hc1] at this; cases this; rfl
            subst ecc
            have e3' : Vis (relabel scope X.env) y := e3
            refine ⟨?_, c', ?_, ?_⟩
            · rcases e3' with z | z | z
              · exfalso
                exact S.noloc y hm z
              · exact .inl z
              · exact .inr z
            · show ((z0, G2.objs.size + 1) :: clOf X.env.cells scope.names []).lookup y = some c'
              rw [List.lookup_cons, beq_eq_false_iff_ne.mpr hyz]
              exact hc'
            · exact hc2.keeps old⟩
    cell := fun y c e => by
      rcases split y c e with ⟨a1, b1⟩ | ⟨a1, b1⟩
      · subst b1; exact ⟨_, hcl₁⟩
      · obtain ⟨v, q⟩ := I2.cell y c (hsub y c b1)
        exact ⟨v, q.keeps old⟩
    free := by show upd H2 s2.heap.objs.size (.lst []) G2.objs.size = none; rw [upd_ne (Ne.symm hDC)]; exact hnC
    freeC := fun y c e => by
      rw [upd_ne (clD y c e)]
      rcases split y c e with ⟨a1, b1⟩ | ⟨a1, b1⟩
      · subst b1; exact hnE
      · exact I2.freeC y c (hsub y c b1)
    pin := fun p hp => by
      have hp' : p ∈ ([] : List (Addr × Obj)) ++ [] := hp
      simp at hp'
    hok := hokD
    len := by
      show (blkSt _ ci σ).length = ((".0" : Str) :: (tns ++ cns)).length
      unfold blkSt
      simp [S.len] }
  have st3 : tn 0 h₁ := T.keep _ _ _ st2 fun b _ o e => old b o e
  have fr3 : ∀ b ∈ fp, upd H2 s2.heap.objs.size (.lst []) b = none := fun b hb => by rw [upd_ne (Nat.ne_of_lt (fpl b hb))]; exact (f2 b hb).1
  have stat : ∀ {H' : Hp}, (∀ b ∈ fp, H' b = none) → ∀ b ∈ fp, FpOk (X.blkZ z0 (".0" :: (tns ++ cns)) scope ⟨G2.objs.size, fp, s2, H2⟩) [] H' b := fun hn b hb =>
    ⟨hn b hb, below b (fpl b hb), ok.exfs b hb, .inl hb, fun y c e => (ok.exf b hb).2 y c e, fun p hp => by
      have hp' : p ∈ ([] : List (Addr × Obj)) ++ [] := hp
      simp at hp'⟩
  have loop : ∀ s₃ : Shared, s₃ = { s2 with heap := h₁ } →
      codeAny (model X.prog X.w) X.A (.compLoop (.ListComp elt [⟨tgt, iter, ifs, 0⟩] scope pos) 0 (.ref it) (.ref s2.heap.objs.size) (compEnvC scope ((z0, G2.objs.size + 1) :: clOf X.env.cells scope.names []) G2.objs.size X.env))
        (RR (.ref s2.heap.objs.size) G2.objs.size) s₃ := by
    rintro s₃ rfl
    refine compLoop_goT (fun n s' => ∃ (i : Nat) (os : List (Option V)) (ys : List V) (H' : Hp), os.length = tns.length ∧ Inv (X.blkZ z0 (".0" :: (tns ++ cns)) scope ⟨G2.objs.size, fp, s2, H2⟩) [] (blkSt os ci σ) H' s' ∧ tn i s'.heap ∧ (∀ b ∈ fp, H' b = none) ∧ W i n ys H') ?_ m0 ⟨0, _, [], _, by simp, I3, st3, fr3, w0⟩
    rintro n s4 ⟨i, os, ys, H4, hos, I4, st4, fr4, w4⟩
    rcases turn i n ys H4 w4 with ⟨stop, q⟩ | ⟨go, N, hN, step⟩
    · refine thn (T.done (X.blkZ z0 (".0" :: (tns ++ cns)) scope ⟨G2.objs.size, fp, s2, H2⟩) rfl rfl rfl hc i [] s4 _ H4 (fun _ _ => False) I4 (stat fr4) st4 stop) fun r s5 ⟨hr, I5⟩ => ?_
      subst hr
      obtain ⟨m, hm, _⟩ := I5.loc
      have fC : H4 G2.objs.size = none := I5.free
      have ub : Un (frs X.stack) fp H2 H4 s2.heap s5.heap := I5.base
      have IX : Inv X pins σ H4 s5 := I2.call' (s' := s5) (show s5.os = s2.os from I5.os) ub I5.hok I5.bare fun b hb => ⟨(f2 b hb).2.2.2.1, (f2 b hb).2.1, (f2 b hb).2.2.2.2.1, (f2 b hb).2.2.2.2.2⟩
      exact fin _ _ s5 H4 m IX hm (I2.fpOk (by omega) fC) q
    · refine thn (T.item (X.blkZ z0 (".0" :: (tns ++ cns)) scope ⟨G2.objs.size, fp, s2, H2⟩) rfl rfl rfl hc i [] s4 _ H4 (fun _ _ => False) I4 (stat fr4) st4 go) fun r s5 ⟨u, hr, h5⟩ => ?_
      subst hr
      refine thn h5 fun _ s6 hhx => ?_
      obtain ⟨y, H6, I6, r6, y6, st6, fr6⟩ := hhx
      have I6' := I6.pinned (stat fr6) (T.obj _ _ st6)
      refine thn (hg _ _ s6 _ H6 y u _ I6' r6 (step y H6 os hos y6)) fun _ s7 ⟨σ7, H7, I7, ⟨os', hos', e7⟩, q7⟩ => ?_
      subst e7
      have back : ∀ {H9 : Hp} {s9 : Shared}, Inv (X.blkZ z0 (".0" :: (tns ++ cns)) scope ⟨G2.objs.size, fp, s2, H2⟩) ([] ++ pinsAt fp s6.heap) (blkSt os' ci σ) H9 s9 → tn (i + 1) s9.heap ∧ ∀ b ∈ fp, H9 b = none := fun {H9 s9} I9 =>
        ⟨T.keep _ _ _ st6 fun b hb ob e => (I9.pin (b, ob) (List.mem_append_right _ (List.mem_append_right _ (mem_pinsAt hb e)))).1, fun b hb => by
          obtain ⟨ob, e, d⟩ := T.obj _ _ st6 b hb
          exact (I9.pin (b, ob) (List.mem_append_right _ (List.mem_append_right _ (mem_pinsAt hb e)))).2.1⟩
      refine thn (ht _ _ s7 _ H7 _ I7 q7) fun b s8 hhx => ?_
      obtain ⟨H8, I8, q8⟩ := hhx
      cases b with
      | false =>
        rw [if_neg Bool.false_ne_true] at q8 ⊢
        obtain ⟨m', hm', w8⟩ := hN _ _ q8
        exact ⟨m', hm', i + 1, os', ys, _, hos', I8.unpinned, (back I8).1, (back I8).2, w8⟩
      | true =>
        rw [if_pos rfl] at q8 ⊢
        refine thn (he _ _ s8 _ H8 _ I8 q8) fun zv s8 hhx => ?_
        obtain ⟨z, H8, I8, rz, ha8, hl8, n8⟩ := hhx
        obtain ⟨m', hm', w8⟩ := hN _ _ n8
        refine thn (mt_append (X := X.blkZ z0 (".0" :: (tns ++ cns)) scope ⟨G2.objs.size, fp, s2, H2⟩) _ s8 _ H8 (.ref s2.heap.objs.size) [z] (.ref s2.heap.objs.size) [zv] (fun _ H9 => H9 = upd H8 s2.heap.objs.size (.lst (ys ++ [z]))) I8 rfl (.cons rz .nil) ⟨_, ys, z, rfl, rfl, ha8, hl8, rfl⟩) fun _ s9 hhx => ?_
        obtain ⟨_, H9, I9, _, e9⟩ := hhx
        subst e9
        exact ⟨m', hm', i + 1, os', ys ++ [z], _, hos', I9.unpinned, (back I9).1, (back I9).2, w8⟩
  exact codeAny_compStart_list (loop _ rfl) (T.self _ 0 _ _ _ st3 (loop _ rfl))

theorem pe_compZ {X : Cx} {elt iter tgt : Expr} {ifs : List Expr} {pos : Pos} {scope : Scope} {z0 : Str} {wi : TI} {g : Bk → TG} {tt : Bk → TT} {te : Bk → TE} {tns cns : List Str} {ci : List Nat} (hc : X.calm = true) (S : CompScZ X z0 scope cns ci) (hi : PI X tgt iter wi)
    (hg : ∀ bk : Bk, PG (X.blkZ z0 (".0" :: (tns ++ cns)) scope bk) tgt (g bk))
    (ht : ∀ bk : Bk, PIfs (X.blkZ z0 (".0" :: (tns ++ cns)) scope bk) ifs (tt bk))
    (he : ∀ bk : Bk, PE (X.blkZ z0 (".0" :: (tns ++ cns)) scope bk) elt (te bk))
    (hs : ∀ v, foldedSetIterable iter X.env v = pure v := by intro _; rfl) :
    PE X (.ListComp elt [⟨tgt, iter, ifs, 0⟩] scope pos) (tCompG wi g tt te tns.length ci) := by
  intro pins s σ H Q I h
  have hfc : ∀ y ∈ scope.names, y.2 = .free → ∃ c, X.env.cells.lookup y.1 = some c := fun y hy hk => I.ok.has _ (S.free y hy hk)
  rw [eval_ListComp]
  refine wpAny_comprehension_free (use := none) rfl hs (closureFor_cl hfc) S.kind S.names (thn (hi pins s σ H _ I h) fun v s1 h1 => thn h1 fun itv s2 h2 => ?_)
  obtain ⟨it, fp, tn, J, H2, rfl, I2, T, st2, f2, hcw⟩ := h2
  refine comp_coreZ (RR := fun acc C => compPost (model X.prog X.w) X.A X.xe none (EP X pins σ Q) acc C) hc S hg ht he I2 T st2 f2 hcw fun D C s5 H4 m I5 hm fo q => ?_
  refine ⟨m, hm, fun h' hs' => ⟨.ref D, H4, ?_, rfl, q⟩⟩
  exact I5.turned (t' := s5.toks) (it := C) (fun b o hb e => (hs'.2 b hb).trans e) fo.1 fo.2.1 fo.2.2.2.1 fo.2.2.2.2.1 fo.2.2.2.2.2

def chkZ (osc : Scope) (N : List Str) (z0 : Str) (scope : Scope) (cns : List Str) (ci : List Nat) : Bool :=
  scope.kind == .function && scope.names.all (fun y => y.2 != .local || scope.names.lookup y.1 == some .local) &&
  scope.names.all (fun y => y.2 != .free || (osc.names.lookup y.1 == some .cell || osc.names.lookup y.1 == some .free)) && capOk N scope.names cns ci &&
  scope.names.all (fun y => y.2 != .free || (relS scope osc).lookup y.1 != some .local) && scope.names.all (fun y => y.2 != .free || y.1 != z0) && scope.names.all (fun y => y.2 != .cell || y.1 == z0)
theorem relS_seen {osc : Scope} : ∀ {names : List (Str × NameKind)} {y : Str} {k : NameKind}, (names.map fun (n, k) => if (k == NameKind.free && osc.kind == .function && osc.names.lookup n == some .cell) then (n, NameKind.cell) else (n, k)).lookup y = some k → k = .cell ∨ k = .free →
    (y, NameKind.cell) ∈ names ∨ (y, NameKind.free) ∈ names
  | [], _, _, h, _ => by simp at h
  | (n, k0) :: r, y, k, h, hk => by
    rw [List.map_cons, List.lookup_cons] at h
    by_cases hf : (k0 == NameKind.free && osc.kind == .function && osc.names.lookup n == some .cell) = true
    · simp only [hf, if_true] at h
      have k0f : k0 = .free := by
        have := hf
        simp only [Bool.and_eq_true] at this
        simpa using this.1.1
      split at h
      · next hq =>
        have : y = n := by simpa using hq
        subst this; subst k0f
        exact .inr List.mem_cons_self
      · exact (relS_seen h hk).imp (List.mem_cons_of_mem _) (List.mem_cons_of_mem _)
    · simp only [hf] at h
      split at h
      · next hq =>
        have : y = n := by simpa using hq
        subst this
        have e : k0 = k := by simpa using h
        subst e
        rcases hk with z | z
        · subst z; exact .inl List.mem_cons_self
        · subst z; exact .inr List.mem_cons_self
      · exact (relS_seen h hk).imp (List.mem_cons_of_mem _) (List.mem_cons_of_mem _)
theorem CompScZ.of {X : Cx} {z0 : Str} {scope : Scope} {cns : List Str} {ci : List Nat} (h : chkZ X.env.scope X.N z0 scope cns ci = true)
    (hc : ∀ n acc, cellsFrom n scope.names acc = (z0, n) :: acc) (hp : ∀ h, pushCells h scope.names = h.push { cls := .type "cell", data := .cell none }) : CompScZ X z0 scope cns ci := by
  unfold chkZ at h
  rw [Bool.and_eq_true, Bool.and_eq_true, Bool.and_eq_true, Bool.and_eq_true, Bool.and_eq_true, Bool.and_eq_true] at h
  obtain ⟨⟨⟨⟨⟨⟨h1, h3⟩, h4⟩, h5⟩, h6⟩, h7⟩, h8⟩ := h
  obtain ⟨l, r⟩ := capOk_get h5
  refine ⟨by simpa using h1, fun y hy hk => ?_, fun y hy hk => ?_, r, l, fun y hy z => ?_, fun hm => ?_, fun y hy => ?_, hc, hp⟩
  · have := List.all_eq_true.mp h3 y hy
    rw [Bool.or_eq_true] at this
    rcases this with q | q
    · exact absurd hk (by simpa using q)
    · simpa using q
  · have := List.all_eq_true.mp h4 y hy
    rw [Bool.or_eq_true, Bool.or_eq_true] at this
    rcases this with q | q | q
    · exact absurd hk (by simpa using q)
    · exact .inl (show X.env.scope.names.lookup y.1 = _ by simpa using q)
    · exact .inr (show X.env.scope.names.lookup y.1 = _ by simpa using q)
  · have := List.all_eq_true.mp h6 _ hy
    rw [Bool.or_eq_true] at this
    rcases this with q | q
    · simp at q
    · have z' : (relS scope X.env.scope).lookup y = some .local := z
      have q' : ((relS scope X.env.scope).lookup y != some .local) = true := q
      rw [z'] at q'
      exact absurd q' (by decide)
  · have := List.all_eq_true.mp h7 _ hm
    simp at this
  · have key : (y, NameKind.cell) ∈ scope.names ∨ (y, NameKind.free) ∈ scope.names := by
      rcases hy with z | z
      · exact relS_seen (osc := X.env.scope) z (.inl rfl)
      · exact relS_seen (osc := X.env.scope) z (.inr rfl)
    rcases key with z | z
    · have := List.all_eq_true.mp h8 _ z
      left; simpa using this
    · exact .inr z
theorem xpe_compZ {X : Cx} {elt iter tgt : Expr} {ifs : List Expr} {pos : Pos} {scope : Scope} {z0 : Str} {wi : TI} {g : Bk → TG} {tt : Bk → TT} {te : Bk → TE} {tns cns : List Str} {ci : List Nat} (hc : X.calm = true) (S : CompScZ X z0 scope cns ci) (hi : XI X tgt iter wi)
    (hg : ∀ bk : Bk, XG (X.blkZ z0 (".0" :: (tns ++ cns)) scope bk) tgt (g bk))
    (ht : ∀ bk : Bk, XIfs (X.blkZ z0 (".0" :: (tns ++ cns)) scope bk) ifs (tt bk))
    (he : ∀ bk : Bk, XE (X.blkZ z0 (".0" :: (tns ++ cns)) scope bk) elt (te bk))
    (hs : ∀ v, foldedSetIterable iter X.env v = pure v := by intro _; rfl) :
    XE X (.ListComp elt [⟨tgt, iter, ifs, 0⟩] scope pos) (tCompG wi g tt te tns.length ci) := ⟨pe_compZ hc S hi.h (fun bk => (hg bk).h) (fun bk => (ht bk).h) (fun bk => (he bk).h) hs⟩
end L2
set_option Elab.async false
set_option linter.all false
set_option maxRecDepth 100000
set_option maxHeartbeats 4000000
namespace FA
open PySem L2 PyProof.Rows
def mixed (c k : Int) : Int :=
  if 10 ^ Int.toNat 40 ≤ c then (c - 10 ^ Int.toNat 40) / (1 * 2 ^ (100 * (k % 60)).toNat) % (1 * 2 ^ Int.toNat 100)
  else ((c * c + 3 * c + 7919 * k + 1) * 48271 % 2147483629 * ((c * c + 3 * c + 7919 * k + 1) * 48271 % 2147483629) + 7) % 2147483587
theorem CDivB.pow {i : Int} {n : Nat} (h : n < 9000) : CDivB i (1 * 2 ^ n) := by
  rw [Int.one_mul]
  refine ⟨Int.pow_pos (by decide), ?_⟩
  rw [Int.natAbs_pow]
  show (2 ^ n).log2 < 9000
  rw [Nat.log2_two_pow]
  exact h
theorem mulSelf {c : Int} (h : Builtin.Int.intBits c ≤ 2 ^ 20) : IntMulOk c c := mulOk_of_bits h h (by decide)
def ltr (z : Int) : Nat := 97 + (z % 26).toNat
def nmAt (m pl k : Int) (j : Nat) : Int := m / 36 + j * j + (if decide ((j : Int) = pl) = true then 1 else 0) * k
def nm (m pl k : Int) : Nat → Str
  | 0 => ""
  | j + 1 => nm m pl k j ++ ⟨#[ltr (nmAt m pl k j)]⟩
def pick (m : Int) (ns : List Str) : Str := ns.getD (m % (ns.length : Int)).toNat ""
theorem pick_at {m : Int} {ns : List Str} (h : ¬ ns = []) : atI (ns.map V.str) (m % (ns.length : Int)) = some (.str (pick m ns)) := by
  have hl : 0 < ns.length := List.length_pos_iff.mpr h
  have h0 : 0 ≤ m % (ns.length : Int) := Int.emod_nonneg _ (by omega)
  have h1 : m % (ns.length : Int) < ns.length := Int.emod_lt_of_pos _ (by omega)
  unfold pick
  obtain ⟨n, hn⟩ := Int.eq_ofNat_of_zero_le h0
  rw [hn]
  refine atI_nat ?_
  have hn' : n < ns.length := by omega
  rw [List.getElem?_map, Int.toNat_natCast, List.getD_eq_getElem?_getD, List.getElem?_eq_getElem hn']
  rfl
def opdF (m : Int) (ns : List Str) (w : Int) : V := if 0 < m % 3 ∧ ¬ ns = [] then .str (pick (m / 3) ns) else .int (m / 3 % (1 * 2 ^ w.toNat))
def opsL : List Str := ["plus", "less", "and", "or", "xor", "below", "same"]
def deedF (m : Int) (ns : List Str) (w : Int) : List V :=
  if m % 9 = 0 ∨ ns = [] then [.str "tell", opdF (m / 16) ns w]
  else if m % 9 = 1 then [.str "copy", .str (pick (m / 7) ns), opdF (m / 16) ns w]
  else [.str (opsL.getD (m % 9 - 2).toNat ""), .str (pick (m / 7) ns), opdF (m / 16) ns w, opdF (m / 1009) ns w]
theorem ops_at7 : ∀ n : Nat, n < 7 → atI [V.str "plus", V.str "less", V.str "and", V.str "or", V.str "xor", V.str "below", V.str "same"] (n : Int) = some (.str (opsL.getD n "")) := by decide +kernel
theorem ops_at {j : Int} (h0 : 0 ≤ j) (h7 : j < 7) : atI [V.str "plus", V.str "less", V.str "and", V.str "or", V.str "xor", V.str "below", V.str "same"] j = some (.str (opsL.getD j.toNat "")) := by
  obtain ⟨n, rfl⟩ := Int.eq_ofNat_of_zero_le h0
  rw [Int.toNat_natCast]
  exact ops_at7 n (Int.ofNat_lt.mp h7)
end FA
set_option Elab.async false
set_option linter.all false
set_option maxRecDepth 100000
namespace L2
open PySem PyProof.Rows
theorem hu_n {A : Around} {k n : Nat} (h : n ≤ 64) (hr : Room k A) : A.units + n < cLine := Nat.lt_of_le_of_lt (Nat.add_le_add_left h _) hr.units
theorem take_mapIdx {α β : Type} {f : Nat → α → β} {xs : List α} {i : Nat} {x : α} (h : xs[i]? = some x) : (xs.take (i + 1)).mapIdx f = (xs.take i).mapIdx f ++ [f i x] := by
  obtain ⟨hl, e⟩ := List.getElem?_eq_some_iff.mp h
  rw [List.take_succ_eq_append_getElem hl, e, List.mapIdx_append, List.length_take, Nat.min_eq_left (Nat.le_of_lt hl)]
  simp
theorem cutV_to {xs : List V} {k : Int} (h : 0 ≤ k) : cutV xs none (some k) = xs.take k.toNat := by
  obtain ⟨n, rfl⟩ := Int.eq_ofNat_of_zero_le h
  unfold cutV
  rw [HT.sIx_none, HT.sIx_nat, List.drop_zero, Int.toNat_natCast, Nat.sub_zero]
  by_cases hn : n ≤ xs.length
  · rw [Nat.min_eq_left hn]
  · rw [Nat.min_eq_right (by omega), List.take_length, List.take_of_length_le (by omega)]
theorem cutV_from {xs : List V} {k : Int} (h : 0 ≤ k) : cutV xs (some k) none = xs.drop k.toNat := by
  obtain ⟨n, rfl⟩ := Int.eq_ofNat_of_zero_le h
  unfold cutV
  rw [HT.sIx_none, HT.sIx_nat, Int.toNat_natCast]
  by_cases hn : n ≤ xs.length
  · rw [Nat.min_eq_left hn, List.take_of_length_le (by simp)]
  · rw [Nat.min_eq_right (by omega), List.drop_of_length_le (Nat.le_refl _), List.drop_of_length_le (by omega)]; simp
section
variable {K : PySem.W.Frag} {te : TE} {ci : List Nat} {σ : St} {acc : Addr} {Q : Hp → Prop} {H1 : Hp} {a : Addr} {xs : List V}
theorem filter_yes {α : Type} (xs : List α) : xs.filter (fun _ => true) = xs := by simp
end
/-- tuples never change -/
structure TSame (H H' : Hp) : Prop where
  tup : ∀ b xs, H b = some (.tup xs) → H' b = some (.tup xs)
  frz : ∀ b o u, H b = some (.frz o u) → H' b = some (.frz o u)
theorem Same.ts {H H' : Hp} (s : Same H H') : TSame H H' := ⟨fun b xs e => s b _ e, fun b o u e => s b _ e⟩
theorem TSame.trans {H H1 H2 : Hp} (a : TSame H H1) (b : TSame H1 H2) : TSame H H2 := ⟨fun c xs e => b.tup c xs (a.tup c xs e), fun c o u e => b.frz c o u (a.frz c o u e)⟩
theorem TSame.refl (H : Hp) : TSame H H := ⟨fun _ _ e => e, fun _ _ _ e => e⟩
theorem TSame.updL {H : Hp} {p : Addr} {ys : List V} {o : HO} (h : H p = some (.lst ys)) : TSame H (upd H p o) :=
  ⟨fun b xs e => by rw [upd_ne (ne_of e h (by intro z; cases z))]; exact e, fun b o u e => by rw [upd_ne (ne_of e h (by intro z; cases z))]; exact e⟩
theorem TSame.seqT {K : PySem.W.Frag} {H H' : Hp} {a : Addr} {xs : List V} (e : TSame H H') (h : SqT K H a xs) : SqT K H' a xs := by
  rcases h with (h | ⟨o, h⟩) | h
  · exact .inl (.inl (e.tup _ _ h))
  · exact .inl (.inr ⟨o, e.frz _ _ _ h⟩)
  · exact .inr h
/-- deeds of a list, as the heap has them -/
def DeedV (K : PySem.W.Frag) (H : Hp) (x : V) (d : FB.Deed) : Prop := d.fine ∧ ∃ q, x = .ref q ∧ SqT K H q d.vs
theorem DeedV.ts {K : PySem.W.Frag} {H H' : Hp} {x : V} {d : FB.Deed} (s : TSame H H') (h : DeedV K H x d) : DeedV K H' x d := ⟨h.1, let ⟨q, e, z⟩ := h.2; ⟨q, e, s.seqT z⟩⟩
abbrev DeedsV (K : PySem.W.Frag) (H : Hp) : List V → List FB.Deed → Prop := Paired (DeedV K H)
theorem DeedsV.ts {K : PySem.W.Frag} {H H' : Hp} {xs : List V} {ds : List FB.Deed} (s : TSame H H') (h : DeedsV K H xs ds) : DeedsV K H' xs ds := h.mono fun _ _ z => z.ts s
end L2
namespace FA
open PySem L2
def opdD (m : Int) (ns : List Str) (w : Int) : FB.Opd := if 0 < m % 3 ∧ ¬ ns = [] then .box (pick (m / 3) ns) else .word (m / 3 % (1 * 2 ^ w.toNat))
theorem opdD_v {m : Int} {ns : List Str} {w : Int} : (opdD m ns w).v = opdF m ns w := by
  unfold opdD opdF
  split <;> rfl
def deedOf (m : Int) (ns : List Str) (w : Int) : FB.Deed :=
  if m % 9 = 0 ∨ ns = [] then .tell (opdD (m / 16) ns w)
  else if m % 9 = 1 then .copy (pick (m / 7) ns) (opdD (m / 16) ns w)
  else .op (opsL.getD (m % 9 - 2).toNat "") (pick (m / 7) ns) (opdD (m / 16) ns w) (opdD (m / 1009) ns w)
theorem deedOf_vs {m : Int} {ns : List Str} {w : Int} : (deedOf m ns w).vs = deedF m ns w := by
  unfold deedOf deedF
  split
  · simp only [FB.Deed.vs, opdD_v]
  · split
    · simp only [FB.Deed.vs, opdD_v]
    · simp only [FB.Deed.vs, opdD_v]
theorem deedOf_fine {m : Int} {ns : List Str} {w : Int} : (deedOf m ns w).fine := by
  unfold deedOf
  split
  · trivial
  · split
    · trivial
    · show opsL.getD (m % 9 - 2).toNat "" ∈ FB.opsL
      have h0 : 0 ≤ m % 9 := Int.emod_nonneg _ (by decide)
      have h1 : m % 9 < 9 := Int.emod_lt_of_pos _ (by decide)
      have h : ∀ n : Nat, n < 7 → opsL.getD n "" ∈ FB.opsL := by decide +kernel
      by_cases h2 : m % 9 - 2 < 7
      · exact h _ (by omega)
      · exact absurd h1 (by omega)
def six : List Str := ["a", "bb", "bc", "dddddd", "x", "y"]
def deedsF (cs : List Int) (boxes : Nat) : List FB.Deed := cs.mapIdx fun k c => deedOf (mixed c k) (six.take boxes) 4
end FA
set_option Elab.async false
set_option linter.all false
set_option maxRecDepth 100000
namespace FL
open PySem L2 PyProof.Rows
def rangeI (n : Nat) : List Int := (List.range n).map fun i : Nat => (i : Int)
theorem mem_rangeI {n : Nat} {p : Int} : p ∈ rangeI n ↔ 0 ≤ p ∧ p < n := by
  unfold rangeI
  rw [List.mem_map]
  constructor
  · rintro ⟨i, hi, rfl⟩
    have := List.mem_range.mp hi
    omega
  · rintro ⟨h0, h1⟩
    exact ⟨p.toNat, List.mem_range.mpr (by omega), by omega⟩
theorem rangeI_succ (n : Nat) : rangeI (n + 1) = rangeI n ++ [(n : Int)] := by unfold rangeI; rw [List.range_succ, List.map_append]; rfl
theorem rangeI_len (n : Nat) : (rangeI n).length = n := by unfold rangeI; rw [List.length_map, List.length_range]
theorem rangeI_lt (n : Nat) : (rangeI n).Pairwise (· < ·) := by
  unfold rangeI
  rw [List.pairwise_map]
  exact List.Pairwise.imp (fun h => by omega) List.pairwise_lt_range
theorem rangeI_nodup (n : Nat) : (rangeI n).Nodup := (rangeI_lt n).imp fun h => by omega
/-- unlike places below n: as many at most; if as many, all -/
theorem nodup_le : ∀ (n : Nat) (l : List Int), l.Nodup → (∀ p ∈ l, 0 ≤ p ∧ p < n) → l.length ≤ n ∧ (l.length = n → l.Perm (rangeI n))
  | 0, l, _, h => by
    cases l with
    | nil => exact ⟨Nat.le_refl _, fun _ => .refl _⟩
    | cons a l => have := h a (List.mem_cons_self ..); omega
  | n + 1, l, nd, h => by
    by_cases hm : (n : Int) ∈ l
    · have pe := List.perm_cons_erase hm
      have z := nodup_le n (l.erase (n : Int)) (nd.erase _) fun p hp => by
        have := (nd.mem_erase_iff).mp hp
        have h2 := h p this.2
        have h3 := this.1
        omega
      have hl := pe.length_eq
      rw [List.length_cons] at hl
      refine ⟨by omega, fun e => ?_⟩
      rw [rangeI_succ]
      exact pe.trans ((List.Perm.cons _ (z.2 (by omega))).trans (List.perm_append_singleton _ _).symm)
    · have z := nodup_le n l nd fun p hp => by
        have h2 := h p hp
        have : p ≠ (n : Int) := fun e => hm (e ▸ hp)
        omega
      exact ⟨by omega, fun e => absurd z.1 (by omega)⟩
def GoodP (b : List Int) : Prop := b ≠ [] ∧ b.Pairwise (· ≤ ·)
instance (b : List Int) : Decidable (GoodP b) := by unfold GoodP; infer_instance
structure PlacesP (n : Nat) (bss : List (List Int)) : Prop where
  good : ∀ b ∈ bss, GoodP b
  perm : bss.flatten.Perm (rangeI n)
instance (n : Nat) (bss : List (List Int)) : Decidable (PlacesP n bss) := decidable_of_iff ((∀ b ∈ bss, GoodP b) ∧ bss.flatten.Perm (rangeI n)) ⟨fun ⟨a, b⟩ => ⟨a, b⟩, fun h => ⟨h.good, h.perm⟩⟩
theorem PlacesP.nodup {n : Nat} {bss : List (List Int)} (h : PlacesP n bss) : bss.flatten.Nodup := h.perm.nodup_iff.mpr (rangeI_nodup n)
theorem PlacesP.mem {n : Nat} {bss : List (List Int)} (h : PlacesP n bss) {p : Int} : p ∈ bss.flatten ↔ 0 ≤ p ∧ p < n := h.perm.mem_iff.trans mem_rangeI
theorem PlacesP.len {n : Nat} {bss : List (List Int)} (h : PlacesP n bss) : bss.flatten.length = n := h.perm.length_eq.trans (rangeI_len n)
theorem PlacesP.of {n : Nat} {bss : List (List Int)} (h1 : ∀ b ∈ bss, GoodP b) (h2 : bss.flatten.Nodup) (h3 : ∀ p ∈ bss.flatten, 0 ≤ p ∧ p < n) (h4 : bss.flatten.length = n) : PlacesP n bss := ⟨h1, (nodup_le n _ h2 h3).2 h4⟩
/-- sorted -/
theorem sorted_eq {b c : List Int} (h1 : c.Perm b) (h2 : c.Pairwise (· ≤ ·)) : b = c ↔ b.Pairwise (· ≤ ·) :=
  ⟨fun e => e ▸ h2, fun h => List.Perm.eq_of_pairwise (fun x y _ _ h1 h2 => Int.le_antisymm h1 h2) h h2 h1.symm⟩
theorem sorted_range {b c : List Int} {n : Nat} (h1 : c.Perm b) (h2 : c.Pairwise (· ≤ ·)) : c = rangeI n ↔ b.Perm (rangeI n) :=
  ⟨fun e => e ▸ h1.symm, fun h => List.Perm.eq_of_pairwise (fun x y _ _ h1 h2 => Int.le_antisymm h1 h2) h2 ((rangeI_lt n).imp fun h => Int.le_of_lt h) (h1.trans h)⟩
/-- beat by place -/
def dFrom (k : Nat) : List (List Int) → List (Key × V)
  | [] => []
  | b :: r => b.map (fun p => (.inl p, .int k)) ++ dFrom (k + 1) r
theorem dFrom_snoc (b : List Int) : ∀ (l : List (List Int)) (k : Nat), dFrom k (l ++ [b]) = dFrom k l ++ b.map (fun p => (.inl p, .int ((k + l.length : Nat) : Int)))
  | [], k => by simp [dFrom]
  | c :: l, k => by
    rw [List.cons_append, dFrom, dFrom_snoc b l (k + 1), dFrom, List.append_assoc, List.length_cons, show k + 1 + l.length = k + (l.length + 1) by omega]
theorem dFrom_keys : ∀ (l : List (List Int)) (k : Nat), (dFrom k l).map (·.1) = l.flatten.map (fun p => (.inl p : Key))
  | [], k => rfl
  | c :: l, k => by
    rw [dFrom, List.map_append, dFrom_keys l (k + 1), List.flatten_cons, List.map_append, List.map_map]
    rfl
theorem dFrom_vals : ∀ (l : List (List Int)) (k : Nat), ∀ kv ∈ dFrom k l, ∃ i : Nat, kv.2 = .int i
  | [], k => by intro kv h; cases h
  | c :: l, k => by
    intro kv h
    rw [dFrom, List.mem_append] at h
    rcases h with h | h
    · obtain ⟨p, _, rfl⟩ := List.mem_map.mp h
      exact ⟨k, rfl⟩
    · exact dFrom_vals l (k + 1) kv h
theorem put_new {kvs : List (Key × V)} {p : Int} {v : V} {ps : List Int} (hk : kvs.map (·.1) = ps.map (fun p => (.inl p : Key))) (hp : p ∉ ps) : putK kvs (.inl p) v = kvs ++ [(.inl p, v)] := by
  unfold putK
  rw [if_neg]
  intro h
  obtain ⟨kv, hm, e⟩ := List.any_eq_true.mp h
  have e2 : kv.1 = .inl p := of_decide_eq_true e
  have : kv.1 ∈ ps.map (fun p => (.inl p : Key)) := hk ▸ List.mem_map.mpr ⟨kv, hm, rfl⟩
  rw [e2] at this
  obtain ⟨q, hq, eq⟩ := List.mem_map.mp this
  cases eq
  exact hp hq
theorem val_some {kvs : List (Key × V)} {p : Int} {ps : List Int} (hk : kvs.map (·.1) = ps.map (fun p => (.inl p : Key))) : (valV kvs (.inl p)).isSome = decide (p ∈ ps) := by
  unfold valV
  rw [Option.isSome_map, Bool.eq_iff_iff, List.find?_isSome, decide_eq_true_iff]
  constructor
  · rintro ⟨kv, hm, e⟩
    have e2 : kv.1 = .inl p := of_decide_eq_true e
    have : kv.1 ∈ ps.map (fun p => (.inl p : Key)) := hk ▸ List.mem_map.mpr ⟨kv, hm, rfl⟩
    rw [e2] at this
    obtain ⟨q, hq, eq⟩ := List.mem_map.mp this
    cases eq
    exact hq
  · intro h
    have : (.inl p : Key) ∈ kvs.map (·.1) := hk ▸ List.mem_map.mpr ⟨p, h, rfl⟩
    obtain ⟨kv, hm, e⟩ := List.mem_map.mp this
    exact ⟨kv, hm, decide_eq_true e⟩
def atF (bss : List (List Int)) (p : Int) : Int := match valV (dFrom 0 bss) (.inl p) with
  | some (.int i) => i
  | _ => 0
theorem atF_val {bss : List (List Int)} {p : Int} (h : p ∈ bss.flatten) : valV (dFrom 0 bss) (.inl p) = some (.int (atF bss p)) := by
  have z : (valV (dFrom 0 bss) (.inl p)).isSome = true := by rw [val_some (dFrom_keys bss 0)]; exact decide_eq_true h
  obtain ⟨v, hv⟩ := Option.isSome_iff_exists.mp z
  have hv' := hv
  unfold valV at hv
  obtain ⟨kv, hf, e⟩ := Option.map_eq_some_iff.mp hv
  obtain ⟨i, ei⟩ := dFrom_vals bss 0 kv (List.mem_of_find?_eq_some hf)
  unfold atF
  rw [hv', ← e, ei]
/-- what is at the first i beats and some places of the next -/
theorem take_flat {bss : List (List Int)} {i : Nat} {b : List Int} (h : bss[i]? = some b) : (bss.take (i + 1)).flatten = (bss.take i).flatten ++ b := by
  obtain ⟨hi, e⟩ := List.getElem?_eq_some_iff.mp h
  rw [List.take_succ_eq_append_getElem hi, e, List.flatten_append]
  simp
theorem take_dFrom {bss : List (List Int)} {i : Nat} {b : List Int} (h : bss[i]? = some b) : dFrom 0 (bss.take (i + 1)) = dFrom 0 (bss.take i) ++ b.map (fun p => (.inl p, .int (i : Int))) := by
  obtain ⟨hi, e⟩ := List.getElem?_eq_some_iff.mp h
  rw [List.take_succ_eq_append_getElem hi, e, dFrom_snoc, List.length_take, Nat.min_eq_left (by omega), Nat.zero_add]
def dAt (bss : List (List Int)) (i : Nat) (b : List Int) (j : Nat) : List (Key × V) := dFrom 0 (bss.take i) ++ (b.take j).map (fun p => (.inl p, .int (i : Int)))
theorem dAt_keys {bss : List (List Int)} {i : Nat} {b : List Int} {j : Nat} : (dAt bss i b j).map (·.1) = ((bss.take i).flatten ++ b.take j).map (fun p => (.inl p : Key)) := by
  unfold dAt
  rw [List.map_append, dFrom_keys, List.map_append, List.map_map]
  rfl
theorem dAt_put {bss : List (List Int)} {i : Nat} {b : List Int} {j : Nat} {p : Int} (hp : b[j]? = some p) (hn : p ∉ (bss.take i).flatten ++ b.take j) : putK (dAt bss i b j) (.inl p) (.int (i : Int)) = dAt bss i b (j + 1) := by
  rw [put_new dAt_keys hn]
  obtain ⟨hj, e⟩ := List.getElem?_eq_some_iff.mp hp
  unfold dAt
  rw [List.take_succ_eq_append_getElem hj, e, List.map_append, List.append_assoc]
  rfl
theorem dAt_zero {bss : List (List Int)} {i : Nat} {b : List Int} : dAt bss i b 0 = dFrom 0 (bss.take i) := by unfold dAt; simp
theorem dAt_all {bss : List (List Int)} {i : Nat} {b : List Int} (h : bss[i]? = some b) : dAt bss i b b.length = dFrom 0 (bss.take (i + 1)) := by rw [take_dFrom h]; unfold dAt; rw [List.take_length]
theorem dAt_len {bss : List (List Int)} {i : Nat} {b : List Int} {j : Nat} (h : bss[i]? = some b) : (dAt bss i b j).length ≤ bss.flatten.length := by
  have e : (dAt bss i b j).length = ((bss.take i).flatten ++ b.take j).length := by
    have := congrArg List.length (dAt_keys (bss := bss) (i := i) (b := b) (j := j))
    rw [List.length_map, List.length_map] at this
    exact this
  rw [e]
  have e2 : bss.flatten = (bss.take (i + 1)).flatten ++ (bss.drop (i + 1)).flatten := by rw [← List.flatten_append, List.take_append_drop]
  rw [e2, take_flat h]
  simp only [List.length_append, List.length_take]
  omega
/-- a place comes once: it is not among those ahead -/
theorem fresh_at {bss : List (List Int)} {i : Nat} {b : List Int} {j : Nat} {p : Int} (h : bss[i]? = some b) (hp : b[j]? = some p) (nd : bss.flatten.Nodup) : p ∉ (bss.take i).flatten ++ b.take j := by
  have e2 : bss.flatten = (bss.take (i + 1)).flatten ++ (bss.drop (i + 1)).flatten := by rw [← List.flatten_append, List.take_append_drop]
  have e3 : b = b.take j ++ p :: b.drop (j + 1) := by
    obtain ⟨hj, e⟩ := List.getElem?_eq_some_iff.mp hp
    rw [← e, ← List.drop_eq_getElem_cons hj, List.take_append_drop]
  intro hm
  generalize b.take j = c at e3 hm
  rw [e2, take_flat h, e3, ← List.append_assoc, List.append_assoc, List.cons_append] at nd
  exact (List.nodup_append.mp nd).2.2 p hm p (List.mem_cons_self ..) rfl
theorem dFrom_take_len {bss : List (List Int)} : (dFrom 0 bss).length = bss.flatten.length := by
  have := congrArg List.length (dFrom_keys bss 0)
  rw [List.length_map, List.length_map] at this
  exact this
theorem len_le_flat {bss : List (List Int)} {b : List Int} (h : b ∈ bss) : b.length ≤ bss.flatten.length := by
  induction bss with
  | nil => cases h
  | cons c r ih =>
    rw [List.flatten_cons, List.length_append]
    rcases List.mem_cons.mp h with e | e
    · rw [e]; omega
    · have := ih e; omega
def BsV (H : Hp) (a : Addr) (bss : List (List Int)) : Prop := ∃ ps : List Addr, H a = some (.lst (ps.map V.ref)) ∧ Paired (fun p (b : List Int) => H p = some (.lst (b.map V.int))) ps bss
theorem Paired.mono {α β : Type} {F G : α → β → Prop} (hi : ∀ a b, F a b → G a b) : ∀ {l₁ : List α} {l₂ : List β}, Paired F l₁ l₂ → Paired G l₁ l₂
  | _, _, .nil => .nil
  | _, _, .cons h t => .cons (hi _ _ h) (Paired.mono hi t)
theorem BsV.same {H H' : Hp} {a : Addr} {bss : List (List Int)} (s : Same H H') (h : BsV H a bss) : BsV H' a bss := by
  obtain ⟨ps, e, q⟩ := h
  exact ⟨ps, s _ _ e, q.mono fun p b z => s _ _ z⟩
theorem all_range_eq {xs ys : List Int} (hl : xs.length = ys.length) : ((List.range xs.length).all fun j => decide (xs[j]? = ys[j]?)) = decide (xs = ys) := by
  rw [Bool.eq_iff_iff, List.all_eq_true, decide_eq_true_iff]
  constructor
  · intro h
    apply List.ext_getElem?
    intro j
    by_cases hj : j < xs.length
    · exact of_decide_eq_true (h j (List.mem_range.mpr hj))
    · rw [List.getElem?_eq_none (by omega), List.getElem?_eq_none (by omega)]
  · rintro rfl j _
    exact decide_eq_true rfl
theorem eqV_int {i j : Int} : eqV (.int i) (.int j) = decide (i = j) := by
  first | rfl | (unfold eqV; simp)
theorem rq_ints {K : PySem.W.Frag} {H : Hp} {n : Nat} {a b : Addr} {xs ys : List Int} (ha : SqL K H a (xs.map V.int)) (hb : SqL K H b (ys.map V.int)) : Rq K H n (.ref a) (.ref b) (decide (xs = ys)) := by
  by_cases hl : xs.length = ys.length
  · have z := Rq.lists (n := n) (fun j => decide (xs[j]? = ys[j]?)) ha hb (by rw [List.length_map, List.length_map]; exact hl) fun j x y hx hy => by
      rw [List.getElem?_map] at hx hy
      obtain ⟨i, hi, rfl⟩ := Option.map_eq_some_iff.mp hx
      obtain ⟨k, hk, rfl⟩ := Option.map_eq_some_iff.mp hy
      have e : decide (xs[j]? = ys[j]?) = eqV (.int i) (.int k) := by rw [hi, hk, eqV_int]; simp
      rw [e]
      exact .flat rfl rfl
    rw [List.length_map, all_range_eq hl] at z
    exact z
  · rw [decide_eq_false (fun e => hl (congrArg List.length e))]
    exact .lens ha hb (by rw [List.length_map, List.length_map]; exact hl)
theorem ixN_nat {n k : Nat} (h : k < n) : ixN n (k : Int) = some k := by
  unfold ixN
  rw [if_pos (by omega), if_pos (by omega), Int.toNat_natCast]
end FL
set_option Elab.async false
set_option linter.all false
set_option maxRecDepth 100000
namespace FL
open PySem L2 PyProof.Rows
structure Early (at_ : List Nat) : Prop where
  le : ∀ (k v : Nat), at_[k]? = some v → v ≤ k
  ps : ∀ v ∈ at_, v = 0 ∨ v - 1 ∈ at_
theorem Early.nil : Early [] := ⟨fun k v e => by simp at e, fun v h => by cases h⟩
theorem Early.snoc {l : List Nat} {f : Nat} (h : Early l) (h1 : f ≤ l.length) (h2 : f = 0 ∨ f - 1 ∈ l) : Early (l ++ [f]) := by
  refine ⟨fun k v e => ?_, fun v hm => ?_⟩
  · by_cases hk : k < l.length
    · rw [List.getElem?_append_left hk] at e; exact h.le k v e
    · rw [List.getElem?_append_right (by omega)] at e
      cases hz : k - l.length with
      | zero => rw [hz] at e; have : f = v := by simpa using e
                omega
      | succ n => rw [hz] at e; simp at e
  · rcases List.mem_append.mp hm with z | z
    · exact (h.ps v z).imp id (List.mem_append_left _)
    · rw [List.mem_singleton.mp z]; exact h2.imp id (List.mem_append_left _)
theorem Early.down {l : List Nat} (h : Early l) : ∀ (n v : Nat), v ∈ l → n ≤ v → v - n ∈ l
  | 0, v, hv, _ => hv
  | n + 1, v, hv, hn => by
    have z := h.down n v hv (by omega)
    rcases h.ps _ z with e | e
    · omega
    · rwa [show v - (n + 1) = v - n - 1 by omega]
/-- the next candidate -/
theorem Early.next {l : List Nat} (h : Early l) {f v g : Nat} {j : Nat} (hv : l[j]? = some v) (hj : j < l.length) (h1 : f ≤ l.length) (h2 : f = 0 ∨ f - 1 ∈ l) (hg : g = 0 ∨ g = 1) : v + g ≤ l.length ∧ (v + g = 0 ∨ v + g - 1 ∈ l) := by
  have := h.le j v hv
  have hm := List.mem_of_getElem? hv
  refine ⟨by omega, ?_⟩
  rcases hg with e | e
  · subst e; exact h.ps v hm
  · subst e; exact .inr hm
theorem gapD_01 {d e : FB.Deed} {g : Int} (h : FB.gapD d e = some g) : g = 0 ∨ g = 1 := by
  unfold FB.gapD at h
  split at h
  · cases h; exact .inr rfl
  · split at h
    · cases h; exact .inr rfl
    · split at h
      · cases h; exact .inl rfl
      · cases h
def blockOf (n : Nat) (at_ : List Nat) (b : Nat) : List Int := ((List.range n).filter fun k => decide (at_[k]? = some b)).map fun k : Nat => (k : Int)
theorem filter_split (p q r : Nat → Bool) : ∀ (l : List Nat), (∀ k ∈ l, r k = (p k || q k) ∧ (p k && q k) = false) → (l.filter r).length = (l.filter p).length + (l.filter q).length
  | [], _ => rfl
  | k :: l, h => by
    have ih := filter_split p q r l fun z hz => h z (List.mem_cons_of_mem _ hz)
    obtain ⟨h1, h2⟩ := h k (List.mem_cons_self ..)
    rw [List.filter_cons, List.filter_cons, List.filter_cons]
    cases hp : p k <;> cases hq : q k <;> rw [hp, hq] at h1 h2 <;> simp at h1 h2 <;> rw [h1] <;> simp <;> omega
theorem blocks_len (n : Nat) (at_ : List Nat) : ∀ m : Nat, ((List.range m).map (blockOf n at_)).flatten.length = ((List.range n).filter fun k => match at_[k]? with | some v => decide (v < m) | none => false).length
  | 0 => by
    rw [show (List.range n).filter (fun k => match at_[k]? with | some v => decide (v < 0) | none => false) = [] from List.filter_eq_nil_iff.mpr fun k _ => by cases at_[k]? <;> simp]
    rfl
  | m + 1 => by
    rw [List.range_succ, List.map_append, List.flatten_append, List.length_append, blocks_len n at_ m]
    have e : ([m].map (blockOf n at_)).flatten = blockOf n at_ m := by simp
    rw [e]
    unfold blockOf
    rw [List.length_map]
    refine (filter_split _ _ _ (List.range n) fun k _ => ?_).symm
    cases at_[k]? with
    | none => simp
    | some v =>
      simp only [Option.some.injEq]
      constructor
      · rw [Bool.eq_iff_iff, Bool.or_eq_true]; simp only [decide_eq_true_iff]; omega
      · by_cases h : v = m
        · subst h; simp
        · simp [h]
theorem blocks_le (n m : Nat) (at_ : List Nat) : ((List.range m).map (blockOf n at_)).flatten.length ≤ n := by
  rw [blocks_len]
  exact Nat.le_trans (List.length_filter_le _ _) (by rw [List.length_range]; exact Nat.le_refl _)
theorem block_ne {n b : Nat} {at_ : List Nat} (hl : at_.length = n) (h : b ∈ at_) : blockOf n at_ b ≠ [] := by
  obtain ⟨k, hk⟩ := List.mem_iff_getElem?.mp h
  have hkl := (List.getElem?_eq_some_iff.mp hk).1
  intro e
  unfold blockOf at e
  have e2 := List.map_eq_nil_iff.mp e
  have : k ∈ (List.range n).filter fun k => decide (at_[k]? = some b) := List.mem_filter.mpr ⟨List.mem_range.mpr (by omega), decide_eq_true hk⟩
  rw [e2] at this
  cases this
theorem ones_len (n : Nat) : ((List.range n).map fun k : Nat => [(k : Int)]).flatten.length ≤ n := by
  induction n with
  | zero => exact Nat.le_refl _
  | succ n ih => rw [List.range_succ, List.map_append, List.flatten_append, List.length_append]; simp at ih ⊢; omega
def NewB (H H' : Hp) (p : Addr) (ys : List V) (bss : List (List Int)) : Prop := Same H H' ∧ H p = none ∧ H' p = some (.lst ys) ∧
  ∃ ps : List Addr, ys = ps.map V.ref ∧ Paired (fun q (b : List Int) => H' q = some (.lst (b.map V.int))) ps bss ∧ (p :: ps).Nodup ∧ ∀ c ∈ ps, H c = none
theorem NewB.nil {H : Hp} {p : Addr} (h : H p = none) : NewB H (upd H p (.lst [])) p [] [] := ⟨Same.upd h, h, upd_same, [], rfl, .nil, by simp, fun c hc => by cases hc⟩
theorem NewB.bs {H H' : Hp} {p : Addr} {ys : List V} {bss : List (List Int)} (h : NewB H H' p ys bss) : BsV H' p bss := by
  obtain ⟨_, _, e, ps, rfl, q, _⟩ := h
  exact ⟨ps, e, q⟩
theorem NewB.len {H H' : Hp} {p : Addr} {ys : List V} {bss : List (List Int)} (h : NewB H H' p ys bss) : ys.length = bss.length := by
  obtain ⟨_, _, _, ps, rfl, q, _⟩ := h
  rw [List.length_map]; exact q.length
theorem Paired.mem {α β : Type} {F : α → β → Prop} : ∀ {l₁ : List α} {l₂ : List β}, Paired F l₁ l₂ → ∀ a ∈ l₁, ∃ b ∈ l₂, F a b
  | _, _, .nil => by intro a h; cases h
  | _, _, .cons h t => by
    intro a hm
    rcases List.mem_cons.mp hm with e | e
    · subst e; exact ⟨_, List.mem_cons_self .., h⟩
    · obtain ⟨b, hb, hf⟩ := Paired.mem t a e
      exact ⟨b, List.mem_cons_of_mem _ hb, hf⟩
theorem Paired.imp {α β : Type} {F G : α → β → Prop} : ∀ {l₁ : List α} {l₂ : List β}, Paired F l₁ l₂ → (∀ a ∈ l₁, ∀ b ∈ l₂, F a b → G a b) → Paired G l₁ l₂
  | _, _, .nil, _ => .nil
  | _, _, .cons h t, hi => .cons (hi _ (List.mem_cons_self ..) _ (List.mem_cons_self ..) h) (Paired.imp t fun a ha b hb => hi a (List.mem_cons_of_mem _ ha) b (List.mem_cons_of_mem _ hb))
theorem Paired.snoc {α β : Type} {F : α → β → Prop} {a : α} {b : β} (hf : F a b) : ∀ {l₁ : List α} {l₂ : List β}, Paired F l₁ l₂ → Paired F (l₁ ++ [a]) (l₂ ++ [b])
  | _, _, .nil => .cons hf .nil
  | _, _, .cons h t => .cons h (Paired.snoc hf t)
theorem NewB.snoc {H H1 H2 : Hp} {p q : Addr} {ys : List V} {bss : List (List Int)} {b : List Int} (h : NewB H H1 p ys bss) (s : Same H1 H2) (hq : H1 q = none) (h2 : H2 q = some (.lst (b.map V.int))) :
    H2 p = some (.lst ys) ∧ NewB H (upd H2 p (.lst (ys ++ [V.ref q]))) p (ys ++ [V.ref q]) (bss ++ [b]) := by
  obtain ⟨sm, hp, e, ps, rfl, pr, nd, fr⟩ := h
  have hqp : q ≠ p := fun z => by rw [z, e] at hq; cases hq
  have hqps : q ∉ ps := fun z => by
    obtain ⟨b', _, hb'⟩ := Paired.mem pr q z
    rw [hq] at hb'; cases hb'
  have npp : p ∉ ps := (List.nodup_cons.mp nd).1
  refine ⟨s _ _ e, (sm.trans s).updM hp, hp, upd_same, ps ++ [q], by simp, ?_, ?_, ?_⟩
  · refine Paired.snoc (by rw [upd_ne hqp]; exact h2) (Paired.imp pr fun a ha b' _ hb' => ?_)
    rw [upd_ne (show a ≠ p from fun z => npp (z ▸ ha))]
    exact s _ _ hb'
  · rw [← List.cons_append, List.nodup_append]
    refine ⟨nd, by simp, fun x hx y hy => ?_⟩
    rw [List.mem_singleton.mp hy]
    rintro rfl
    rcases List.mem_cons.mp hx with z | z
    · exact hqp z
    · exact hqps z
  · intro c hc
    rcases List.mem_append.mp hc with z | z
    · exact fr c z
    · rw [List.mem_singleton.mp z]; exact sm.free hq
theorem flat_set (b : List Int) : ∀ (bss : List (List Int)) (i : Nat), (bss.set i b).flatten.length ≤ bss.flatten.length + b.length
  | [], i => by simp
  | c :: r, 0 => by simp [List.set_cons_zero]; omega
  | c :: r, i + 1 => by
    have := flat_set b r i
    simp only [List.set_cons_succ, List.flatten_cons, List.length_append]; omega
theorem flat_sub {l l' : List (List Int)} (h : List.Sublist l l') : l.flatten.length ≤ l'.flatten.length := by
  induction h with
  | slnil => exact Nat.le_refl _
  | cons a _ ih => simp only [List.flatten_cons, List.length_append]; omega
  | cons_cons a _ ih => simp only [List.flatten_cons, List.length_append]; omega
theorem Paired.put {α β : Type} {F : α → β → Prop} {a : α} {b : β} (hf : F a b) : ∀ {l₁ : List α} {l₂ : List β} (i : Nat), Paired F l₁ l₂ → Paired F (l₁.set i a) (l₂.set i b)
  | _, _, _, .nil => .nil
  | _, _, 0, .cons h t => .cons hf t
  | _, _, i + 1, .cons h t => .cons h (Paired.put hf i t)
theorem Paired.filt {α β : Type} {F : α → β → Prop} (f : α → Bool) : ∀ {l₁ : List α} {l₂ : List β}, Paired F l₁ l₂ → ∃ l₃, Paired F (l₁.filter f) l₃ ∧ List.Sublist l₃ l₂
  | _, _, .nil => ⟨[], .nil, .slnil⟩
  | _, _, .cons (a := a) (b := b) h t => by
    obtain ⟨l₃, h1, h2⟩ := Paired.filt f t
    rw [List.filter_cons]
    cases hf : f a with
    | true => exact ⟨b :: l₃, .cons h h1, h2.cons_cons _⟩
    | false => exact ⟨l₃, h1, h2.cons _⟩
theorem Paired.cut {α β : Type} {F : α → β → Prop} : ∀ {l₁ : List α} {l₂ : List β} (n : Nat), Paired F l₁ l₂ → Paired F (l₁.take n) (l₂.take n) ∧ Paired F (l₁.drop n) (l₂.drop n)
  | _, _, 0, h => by simpa using ⟨Paired.nil, h⟩
  | _, _, n + 1, .nil => ⟨by rw [List.take_nil, List.take_nil]; exact .nil, by rw [List.drop_nil, List.drop_nil]; exact .nil⟩
  | _, _, n + 1, .cons h t => by
    have z := Paired.cut n t
    exact ⟨.cons h z.1, z.2⟩
theorem Paired.cat {α β : Type} {F : α → β → Prop} : ∀ {l₁ : List α} {l₂ : List β} {m₁ : List α} {m₂ : List β}, Paired F l₁ l₂ → Paired F m₁ m₂ → Paired F (l₁ ++ m₁) (l₂ ++ m₂)
  | _, _, _, _, .nil, k => k
  | _, _, _, _, .cons h t, k => .cons h (Paired.cat t k)
theorem Paired.of_get {α β : Type} {F : α → β → Prop} : ∀ {l₁ : List α} {l₂ : List β}, l₁.length = l₂.length → (∀ (i : Nat) a b, l₁[i]? = some a → l₂[i]? = some b → F a b) → Paired F l₁ l₂
  | [], [], _, _ => .nil
  | [], _ :: _, h, _ => by simp at h
  | _ :: _, [], h, _ => by simp at h
  | a :: l₁, b :: l₂, h, f => .cons (f 0 a b rfl rfl) (Paired.of_get (by simpa using h) fun i x y hx hy => f (i + 1) x y hx hy)
theorem NewB.more {H H1 H2 : Hp} {p : Addr} {ys : List V} {bss : List (List Int)} (h : NewB H H1 p ys bss) (s : Same H1 H2) : NewB H H2 p ys bss := by
  obtain ⟨sm, hp, e, ps, e2, pr, nd, fr⟩ := h
  exact ⟨sm.trans s, hp, s _ _ e, ps, e2, Paired.imp pr fun a _ b _ z => s _ _ z, nd, fr⟩
theorem NewB.back {H H0 H' : Hp} {p : Addr} {ys : List V} {bss : List (List Int)} (s : Same H H0) (h : NewB H0 H' p ys bss) : NewB H H' p ys bss := by
  obtain ⟨s1, hp, e, ps, e2, pr, nd, fr⟩ := h
  exact ⟨s.trans s1, s.free hp, e, ps, e2, pr, nd, fun c hc => s.free (fr c hc)⟩
/-- beat i -/
theorem NewB.get {H H1 : Hp} {p : Addr} {ys : List V} {bss : List (List Int)} {i : Nat} {b : List Int} (h : NewB H H1 p ys bss) (hb : bss[i]? = some b) :
    ∃ q, ys[i]? = some (.ref q) ∧ H1 q = some (.lst (b.map V.int)) ∧ H q = none ∧ q ≠ p ∧ ∀ b', NewB H (upd H1 q (.lst (b'.map V.int))) p ys (bss.set i b') := by
  obtain ⟨sm, hp, e, ps, rfl, pr, nd, fr⟩ := h
  have lp := pr.length
  obtain ⟨hi, eb⟩ := List.getElem?_eq_some_iff.mp hb
  have hq : ps[i]? = some ps[i] := List.getElem?_eq_getElem (by omega)
  obtain ⟨b2, hb2, hF⟩ := Paired.get pr hq
  rw [hb] at hb2; cases hb2
  have hm : ps[i] ∈ ps := List.getElem_mem (by omega)
  obtain ⟨npp, ndp⟩ := List.nodup_cons.mp nd
  have hqp : ps[i] ≠ p := fun z => npp (z ▸ hm)
  refine ⟨ps[i], by rw [List.getElem?_map, hq]; rfl, hF, fr _ hm, hqp, fun b' => ⟨sm.updM (fr _ hm), hp, by rw [upd_ne (Ne.symm hqp)]; exact e, ps, rfl, ?_, nd, fr⟩⟩
  refine Paired.of_get (by rw [List.length_set]; exact lp) fun j a c ha hc => ?_
  obtain ⟨hj, ea⟩ := List.getElem?_eq_some_iff.mp ha
  by_cases hij : i = j
  · subst hij
    rw [List.getElem?_set_self (by omega)] at hc
    cases hc
    rw [← ea, upd_same]
  · rw [List.getElem?_set_ne hij] at hc
    obtain ⟨c2, hc2, hF2⟩ := Paired.get pr ha
    rw [hc] at hc2; cases hc2
    have : a ≠ ps[i] := fun z => hij (((List.getElem_inj ndp (h₀ := by omega) (h₁ := hj)).mp (z ▸ ea).symm))
    rw [upd_ne this]
    exact hF2
/-- beat i is another list -/
theorem NewB.slot {H H1 : Hp} {p r : Addr} {ys : List V} {bss : List (List Int)} {b : List Int} (i : Nat) (h : NewB H H1 p ys bss) (hr : H1 r = some (.lst (b.map V.int))) (hrp : r ≠ p) :
    Same H (upd H1 p (.lst (ys.set i (.ref r)))) ∧ BsV (upd H1 p (.lst (ys.set i (.ref r)))) p (bss.set i b) := by
  obtain ⟨sm, hp, e, ps, rfl, pr, nd, fr⟩ := h
  have npp := (List.nodup_cons.mp nd).1
  refine ⟨sm.updM hp, ps.set i r, by rw [upd_same, List.map_set], Paired.put (by rw [upd_ne hrp]; exact hr) i (Paired.imp pr fun a ha c _ z => ?_)⟩
  rw [upd_ne (show a ≠ p from fun z => npp (z ▸ ha))]
  exact z
theorem NewB.swap {H H1 : Hp} {p : Addr} {ys : List V} {bss : List (List Int)} {i j : Nat} {bi bj : List Int} (h : NewB H H1 p ys bss) (hi : bss[i]? = some bi) (hj : bss[j]? = some bj) :
    ∃ qi qj, ys[i]? = some (.ref qi) ∧ ys[j]? = some (.ref qj) ∧ ∀ o, Same H (upd (upd H1 p o) p (.lst ((ys.set i (.ref qj)).set j (.ref qi)))) ∧ BsV (upd (upd H1 p o) p (.lst ((ys.set i (.ref qj)).set j (.ref qi)))) p ((bss.set i bj).set j bi) := by
  obtain ⟨qi, hqi, ei, _, ni, _⟩ := h.get hi
  obtain ⟨qj, hqj, ej, _, nj, _⟩ := h.get hj
  obtain ⟨sm, hp, e, ps, rfl, pr, nd, fr⟩ := h
  have npp := (List.nodup_cons.mp nd).1
  refine ⟨qi, qj, hqi, hqj, fun o => ⟨(sm.updM hp).updM hp, (ps.set i qj).set j qi, by rw [upd_same, List.map_set, List.map_set], ?_⟩⟩
  refine Paired.put (by rw [upd_ne ni, upd_ne ni]; exact ei) j (Paired.put (by rw [upd_ne nj, upd_ne nj]; exact ej) i (Paired.imp pr fun a ha c _ z => ?_))
  have hn : a ≠ p := fun z => npp (z ▸ ha)
  rw [upd_ne hn, upd_ne hn]
  exact z
theorem NewB.ins {H H1 : Hp} {p r : Addr} {ys : List V} {bss : List (List Int)} (i : Nat) (h : NewB H H1 p ys bss) (hr : H1 r = none) :
    Same H (upd (upd H1 r (.lst [])) p (.lst (ys.take i ++ .ref r :: ys.drop i))) ∧ BsV (upd (upd H1 r (.lst [])) p (.lst (ys.take i ++ .ref r :: ys.drop i))) p (bss.take i ++ [] :: bss.drop i) := by
  obtain ⟨sm, hp, e, ps, rfl, pr, nd, fr⟩ := h
  have npp := (List.nodup_cons.mp nd).1
  have hrp : r ≠ p := fun z => by rw [z, e] at hr; cases hr
  refine ⟨(sm.updN hr).updM hp, ps.take i ++ r :: ps.drop i, by rw [upd_same, List.map_append, List.map_cons, List.map_take, List.map_drop], ?_⟩
  have pr2 : Paired (fun q (b : List Int) => upd (upd H1 r (.lst [])) p (.lst (List.take i (ps.map V.ref) ++ .ref r :: List.drop i (ps.map V.ref))) q = some (.lst (b.map V.int))) ps bss := Paired.imp pr fun a ha c _ z => by
    rw [upd_ne (show a ≠ p from fun z => npp (z ▸ ha)), upd_ne (fun y => by rw [y, hr] at z; cases z)]
    exact z
  refine Paired.cat (Paired.cut i pr2).1 (.cons ?_ (Paired.cut i pr2).2)
  rw [upd_ne hrp, upd_same]
  rfl
theorem BsV.split {H H1 H2 : Hp} {p p2 r1 r2 : Addr} {ys : List V} {bss : List (List Int)} {b1 b2 : List Int} (i : Nat) (h : NewB H H1 p ys bss) (s : Same H1 H2) (h1 : H2 r1 = some (.lst (b1.map V.int))) (h2 : H2 r2 = some (.lst (b2.map V.int)))
    (hp : H2 p2 = some (.lst (ys.take i ++ [.ref r1, .ref r2] ++ ys.drop (i + 1)))) : BsV H2 p2 (bss.take i ++ [b1, b2] ++ bss.drop (i + 1)) := by
  obtain ⟨sm, _, e, ps, rfl, pr, nd, fr⟩ := h
  have pr2 := Paired.imp (G := fun q (b : List Int) => H2 q = some (.lst (b.map V.int))) pr fun a ha c _ z => s _ _ z
  refine ⟨ps.take i ++ [r1, r2] ++ ps.drop (i + 1), by rw [hp]; simp [List.map_take, List.map_drop], ?_⟩
  exact Paired.cat (Paired.cat (Paired.cut i pr2).1 (.cons h1 (.cons h2 .nil))) (Paired.cut (i + 1) pr2).2
theorem split_len {bss : List (List Int)} {b : List Int} (i : Nat) (h : b ∈ bss) : (bss.take i ++ [b.take 1, b.drop 1] ++ bss.drop (i + 1)).flatten.length ≤ bss.flatten.length + b.length + bss.flatten.length := by
  have h1 := flat_sub (List.take_sublist i bss)
  have h2 := flat_sub (List.drop_sublist (i + 1) bss)
  simp only [List.flatten_append, List.flatten_cons, List.flatten_nil, List.length_append, List.length_take, List.length_drop, List.length_nil]
  omega
theorem BsV.filt {H1 H2 : Hp} {p acc : Addr} {ys : List V} {bss : List (List Int)} (f : V → Bool) (h : BsV H1 p bss) (hy : H1 p = some (.lst ys)) (s : Same H1 H2) (ha : H2 acc = some (.lst ((ys.filter f).map id))) : ∃ bss', BsV H2 acc bss' ∧ List.Sublist bss' bss := by
  obtain ⟨ps, e, pr⟩ := h
  rw [e] at hy; cases hy
  have pr2 := Paired.imp (G := fun q (b : List Int) => H2 q = some (.lst (b.map V.int))) pr fun a _ c _ z => s _ _ z
  obtain ⟨l₃, h1, h2⟩ := Paired.filt (fun a => f (V.ref a)) pr2
  refine ⟨l₃, ⟨_, ?_, h1⟩, h2⟩
  rw [ha, List.map_id, List.filter_map]
  rfl
theorem len_take_ins {bss : List (List Int)} (i : Nat) : (bss.take i ++ [] :: bss.drop i).flatten.length = bss.flatten.length ∧ (bss.take i ++ [] :: bss.drop i).length = bss.length + 1 := by
  constructor
  · rw [List.flatten_append, List.flatten_cons, List.nil_append, ← List.flatten_append, List.take_append_drop]
  · rw [List.length_append, List.length_cons, List.length_take, List.length_drop]; omega
section
variable {K : PySem.W.Frag} {te : TE} {ci : List Nat} {σ : L2.St} {acc : Addr} {Q : Hp → Prop} {H1 : Hp}
/-- [a new list for i in range(n)] -/
theorem cg_newR {n : Nat} (f : Nat → List Int) (hz : n ≤ sizeLine) (hacc : H1 acc = none)
    (hf : ∀ i : Nat, i < n → ∀ H Q', Same H1 H → (∀ q H', Same H H' → H q = none → H' q = some (.lst ((f i).map V.int)) → Q' (.ref q) H') → te (blkSt [some (.int (i : Int))] ci σ) H Q')
    (q : ∀ H ys, NewB H1 H acc ys ((List.range n).map f) → Q H) : CompGW (Itr 0 n) (gName 1) tYes te 1 ci σ acc Q (upd H1 acc (.lst [])) := by
  refine cg_range (fun i ys H => NewB H1 H acc ys ((List.range i).map f)) (NewB.nil hacc) ?_ ?_
  · rintro i ys H os hi ho hN
    rw [show (0 : Int) + (i : Int) = (i : Int) by omega]
    have e : (blkSt os ci σ).set 1 (some (.int (i : Int))) = blkSt [some (.int (i : Int))] ci σ := by
      match os, ho with
      | [o], _ => rfl
    show (∃ os', os'.length = 1 ∧ (blkSt os ci σ).set 1 (some (.int (i : Int))) = blkSt os' ci σ) ∧ tYes ((blkSt os ci σ).set 1 (some (.int (i : Int)))) H _
    rw [e]
    refine ⟨⟨[some (.int (i : Int))], rfl, rfl⟩, ?_⟩
    unfold tYes; dsimp only
    rw [if_pos rfl]
    refine hf i hi _ _ hN.1 fun p H' s hp hp2 => ?_
    obtain ⟨z1, z2⟩ := hN.snoc s hp hp2
    have hl := hN.len
    rw [List.length_map, List.length_range] at hl
    refine ⟨z1, by omega, ?_⟩
    rw [List.range_succ, List.map_append]
    exact z2
  · intro ys H h
    exact q H ys h
/-- [a new list for b in bs] -/
theorem cg_newL {c : Addr} {bss : List (List Int)} {ps : List Addr} (f : List Int → List Int) (hz : bss.length ≤ sizeLine) (hc : H1 c = some (.lst (ps.map V.ref))) (hps : Paired (fun p (b : List Int) => H1 p = some (.lst (b.map V.int))) ps bss) (hacc : H1 acc = none)
    (hf : ∀ p b, b ∈ bss → ∀ H Q', Same H1 H → H p = some (.lst (b.map V.int)) → (∀ q H', Same H H' → H q = none → H' q = some (.lst ((f b).map V.int)) → Q' (.ref q) H') → te (blkSt [some (.ref p)] ci σ) H Q')
    (q : ∀ H ys, NewB H1 H acc ys (bss.map f) → Q H) : CompGW (Itl K c) (gName 1) tYes te 1 ci σ acc Q (upd H1 acc (.lst [])) := by
  have lp := hps.length
  refine cg_list (xs := ps.map V.ref) (fun i ys H => NewB H1 H acc ys ((bss.take i).map f)) (by simpa using NewB.nil hacc) (fun i ys H _ h => SqL.of (h.1 _ _ hc)) ?_ ?_
  · rintro i x ys H os hi ho hN
    rw [List.getElem?_map] at hi
    obtain ⟨p, hpi, rfl⟩ := Option.map_eq_some_iff.mp hi
    obtain ⟨b, hb, hpb⟩ := Paired.get hps hpi
    have e : (blkSt os ci σ).set 1 (some (.ref p)) = blkSt [some (.ref p)] ci σ := by
      match os, ho with
      | [o], _ => rfl
    show (∃ os', os'.length = 1 ∧ (blkSt os ci σ).set 1 (some (.ref p)) = blkSt os' ci σ) ∧ tYes ((blkSt os ci σ).set 1 (some (.ref p))) H _
    rw [e]
    refine ⟨⟨[some (.ref p)], rfl, rfl⟩, ?_⟩
    unfold tYes; dsimp only
    rw [if_pos rfl]
    obtain ⟨hil, eb⟩ := List.getElem?_eq_some_iff.mp hb
    refine hf p b (List.mem_of_getElem? hb) _ _ hN.1 (hN.1 _ _ hpb) fun q H' s hp hp2 => ?_
    obtain ⟨z1, z2⟩ := hN.snoc s hp hp2
    have hl := hN.len
    rw [List.length_map, List.length_take] at hl
    refine ⟨z1, by omega, ?_⟩
    rw [List.take_succ_eq_append_getElem hil, eb, List.map_append]
    exact z2
  · intro ys H h
    rw [List.length_map, lp, List.take_length] at h
    exact q H ys h
end
section
variable {K : PySem.W.Frag} {H : Hp}
theorem dq_lists {n : Nat} {a c : Addr} {xs ys : List V} (ha : SqL K H a xs) (hc : SqL K H c ys) (hl : xs.length = ys.length) (he : ∀ (j : Nat) x y, xs[j]? = some x → ys[j]? = some y → Dq K H n x y true) : Dq K H (n + 1) (.ref a) (.ref c) true := by
  by_cases e : a = c
  · subst e; exact .same
  · have z := Dq.lists (n := n) (fun _ => true) e ha hc hl he
    rw [L2.all_true] at z
    exact z
theorem dq_int {n : Nat} {i : Int} : Dq K H n (.int i) (.int i) true := by
  have z := Dq.flat (K := K) (H := H) (n := n) (x := .int i) (y := .int i) rfl rfl
  rw [eqV_int, decide_eq_true rfl] at z
  exact z
theorem dq_ints {n : Nat} {a c : Addr} {b : List Int} (ha : H a = some (.lst (b.map V.int))) (hc : H c = some (.lst (b.map V.int))) : Dq K H (n + 1) (.ref a) (.ref c) true :=
  dq_lists (SqL.of ha) (SqL.of hc) rfl fun j x y hx hy => by
    rw [hx] at hy; cases hy
    rw [List.getElem?_map] at hx
    obtain ⟨i, _, rfl⟩ := Option.map_eq_some_iff.mp hx
    exact dq_int
theorem dq_bs {n : Nat} {a c : Addr} {bss : List (List Int)} (ha : BsV H a bss) (hc : BsV H c bss) : Dq K H (n + 2) (.ref a) (.ref c) true := by
  obtain ⟨ps, e1, q1⟩ := ha
  obtain ⟨rs, e2, q2⟩ := hc
  refine dq_lists (SqL.of e1) (SqL.of e2) (by rw [List.length_map, List.length_map, q1.length, q2.length]) fun j x y hx hy => ?_
  rw [List.getElem?_map] at hx hy
  obtain ⟨p, hp, rfl⟩ := Option.map_eq_some_iff.mp hx
  obtain ⟨r, hr, rfl⟩ := Option.map_eq_some_iff.mp hy
  obtain ⟨b, hb, h1⟩ := Paired.get q1 hp
  obtain ⟨b2, hb2, h2⟩ := Paired.get q2 hr
  rw [hb] at hb2; cases hb2
  exact dq_ints h1 h2
theorem rq_two {n : Nat} {a c x1 x2 y1 y2 : Addr} (ha : H a = some (.lst [.ref x1, .ref x2])) (hc : H c = some (.lst [.ref y1, .ref y2])) (h1 : Dq K H n (.ref x1) (.ref y1) true) (h2 : Dq K H n (.ref x2) (.ref y2) true) : Rq K H n (.ref a) (.ref c) true := by
  have z := Rq.lists (n := n) (fun _ => true) (SqL.of (K := K) ha) (SqL.of hc) rfl fun j x y hx hy => by
    match j, hx, hy with
    | 0, hx, hy => cases hx; cases hy; exact h1
    | 1, hx, hy => cases hx; cases hy; exact h2
    | j + 2, hx, _ => simp at hx
  rw [L2.all_true] at z
  exact z
theorem sum_bits {m : Nat} : ∀ {ns : List Int}, (∀ z ∈ ns, Builtin.Int.intBits z ≤ m) → Builtin.Int.intBits ns.sum ≤ m + ns.length
  | [], _ => by
    have : Builtin.Int.intBits ([] : List Int).sum = 0 := rfl
    omega
  | x :: ns, h => by
    have h1 := h x (List.mem_cons_self ..)
    have h2 := sum_bits (ns := ns) fun z hz => h z (List.mem_cons_of_mem _ hz)
    have h3 := intBits_add_le h1 h2
    rw [List.sum_cons, List.length_cons]
    have : max m (m + ns.length) = m + ns.length := Nat.max_eq_right (by omega)
    omega
end
end FL
set_option Elab.async false
set_option linter.all false
set_option maxRecDepth 100000
namespace L2
open PySem PySem.Spec PyProof.Rows
section
variable {K : PySem.W.Frag} {tt : TT} {te : TE} {ci : List Nat} {σ : St} {acc : Addr} {Q : Hp → Prop} {H1 : Hp} {a : Addr} {xs : List V}
theorem cg_sameL (p : V → Bool) (f : V → V) (hz : xs.length ≤ sizeLine) (hl : SqL K H1 a xs) (hacc : H1 acc = none)
    (hp : ∀ x ∈ xs, ∀ H Q', Same H1 H → (∀ H', Same H H' → Q' (p x) H') → tt (blkSt [some x] ci σ) H Q') (hf : ∀ x ∈ xs, ∀ H Q', Same H1 H → p x = true → (∀ H', Same H H' → Q' (f x) H') → te (blkSt [some x] ci σ) H Q')
    (q : ∀ H, Same H1 H → H acc = some (.lst ((xs.filter p).map f)) → Q H) : CompGW (Itl K a) (gName 1) tt te 1 ci σ acc Q (upd H1 acc (.lst [])) := by
  refine cg_list (fun i ys H => ys = ((xs.take i).filter p).map f ∧ Same H1 H ∧ H acc = some (.lst ys)) ⟨by simp, Same.upd hacc, upd_same⟩ (fun i ys H _ h => h.2.1.seq hl) ?_ ?_
  · rintro i x ys H os hi ho ⟨rfl, sm, ha⟩
    have hm := List.mem_of_getElem? hi
    have e : (blkSt os ci σ).set 1 (some x) = blkSt [some x] ci σ := by
      match os, ho with
      | [o], _ => rfl
    show (∃ os', os'.length = 1 ∧ (blkSt os ci σ).set 1 (some x) = blkSt os' ci σ) ∧ tt ((blkSt os ci σ).set 1 (some x)) H _
    rw [e]
    refine ⟨⟨[some x], rfl, rfl⟩, hp x hm _ _ sm fun H2 s2 => ?_⟩
    cases hb : p x with
    | true =>
      rw [if_pos rfl]
      refine hf x hm _ _ (sm.trans s2) hb fun H3 s3 => ⟨s3 _ _ (s2 _ _ ha), flat_len hi hz, ?_, ((sm.trans s2).trans s3).updM hacc, upd_same⟩
      rw [take_filter_map hi, if_pos hb]
    | false =>
      rw [if_neg Bool.false_ne_true]
      refine ⟨?_, sm.trans s2, s2 _ _ ha⟩
      rw [take_filter_map hi, if_neg (by rw [hb]; exact Bool.false_ne_true), List.append_nil]
  · rintro ys H ⟨rfl, sm, ha⟩
    rw [List.take_length] at ha
    exact q H sm ha
theorem range_filter_succ (p : Nat → Bool) (f : Nat → V) (i : Nat) : ((List.range (i + 1)).filter p).map f = ((List.range i).filter p).map f ++ (if p i = true then [f i] else []) := by
  rw [List.range_succ, List.filter_append, List.map_append]
  congr 1
  cases hb : p i <;> simp [hb]
theorem cg_sameR {n : Nat} (p : Nat → Bool) (f : Nat → V) (hz : n ≤ sizeLine) (hacc : H1 acc = none)
    (hp : ∀ i : Nat, i < n → ∀ H Q', Same H1 H → (∀ H', Same H H' → Q' (p i) H') → tt (blkSt [some (.int (i : Int))] ci σ) H Q') (hf : ∀ i : Nat, i < n → ∀ H Q', Same H1 H → p i = true → (∀ H', Same H H' → Q' (f i) H') → te (blkSt [some (.int (i : Int))] ci σ) H Q')
    (q : ∀ H, Same H1 H → H acc = some (.lst (((List.range n).filter p).map f)) → Q H) : CompGW (Itr 0 n) (gName 1) tt te 1 ci σ acc Q (upd H1 acc (.lst [])) := by
  refine cg_range (fun i ys H => ys = ((List.range i).filter p).map f ∧ Same H1 H ∧ H acc = some (.lst ys)) ⟨by simp, Same.upd hacc, upd_same⟩ ?_ ?_
  · rintro i ys H os hi ho ⟨rfl, sm, ha⟩
    rw [show (0 : Int) + (i : Int) = (i : Int) by omega]
    have e : (blkSt os ci σ).set 1 (some (.int (i : Int))) = blkSt [some (.int (i : Int))] ci σ := by
      match os, ho with
      | [o], _ => rfl
    show (∃ os', os'.length = 1 ∧ (blkSt os ci σ).set 1 (some (.int (i : Int))) = blkSt os' ci σ) ∧ tt ((blkSt os ci σ).set 1 (some (.int (i : Int)))) H _
    rw [e]
    refine ⟨⟨[some (.int (i : Int))], rfl, rfl⟩, hp i hi _ _ sm fun H2 s2 => ?_⟩
    have hl : (((List.range i).filter p).map f).length < sizeLine := by
      rw [List.length_map]
      have := List.length_filter_le p (List.range i)
      rw [List.length_range] at this
      omega
    cases hb : p i with
    | true =>
      rw [if_pos rfl]
      refine hf i hi _ _ (sm.trans s2) hb fun H3 s3 => ⟨s3 _ _ (s2 _ _ ha), hl, ?_, ((sm.trans s2).trans s3).updM hacc, upd_same⟩
      rw [range_filter_succ, if_pos hb]
    | false =>
      rw [if_neg Bool.false_ne_true]
      refine ⟨?_, sm.trans s2, s2 _ _ ha⟩
      rw [range_filter_succ, if_neg (by rw [hb]; exact Bool.false_ne_true), List.append_nil]
  · rintro ys H ⟨rfl, sm, ha⟩
    exact q H sm ha
end
end L2
set_option Elab.async false
set_option linter.all false
set_option maxRecDepth 100000
set_option maxHeartbeats 4000000
local macro_rules | `(tactic| simp_arith [$ts,*]) => `(tactic| simp only [L2.r_v0, L2.r_g0, L2.r_v1, L2.r_g1, L2.r_v2, L2.r_g2, L2.r_v3, L2.r_g3, L2.r_v4, L2.r_g4, L2.r_v5, L2.r_g5, L2.r_v6, L2.r_g6, L2.r_v7, L2.r_g7, L2.r_v8, L2.r_g8, L2.r_g9, L2.r_g10, L2.r_g11, L2.r_g12, L2.r_g13, L2.r_g14, L2.r_g15, L2.r_g16, L2.r_g17, L2.r_g18, L2.r_g19, L2.r_g20, L2.r_g21, L2.r_g22, L2.r_g23, L2.r_c, L2.r_op, L2.r_un, L2.r_I0, L2.r_I, L2.r_U, L2.r_eqI, L2.r_eqS, L2.r_eqB, L2.r_neI, L2.r_exbl, L2.r_exint, L2.r_test, L2.r_B, L2.r_and, L2.r_or, L2.r_not, L2.r_andV, L2.r_orV, L2.r_notV, L2.r_if, L2.r_next, L2.r_seq, L2.r_brk, L2.r_cont, L2.r_drop, L2.r_ret, L2.r_retN, L2.r_ifS, L2.r_asg, L2.r_CB, L2.r_nil, L2.r_cons, L2.r_call, L2.r_tup, L2.r_lst, L2.r_p0, L2.r_pS, L2.r_disp, L2.r_dget, L2.r_sl, L2.r_noPart, L2.r_part, L2.r_gNil, L2.r_gCons, L2.r_itF, L2.r_nT, L2.r_nF, L2.r_len0, L2.r_len1, L2.r_len2, L2.r_len3, L2.r_len4, L2.r_len5, L2.r_len6, L2.r_len7, L2.r_for, L2.r_iEnum, L2.r_iList, L2.r_iTup, L2.r_iRng1, L2.r_iRng2, L2.r_exI1, L2.r_exI2, L2.r_exR1, L2.r_exR, L2.r_bm, L2.r_bm0, L2.r_ixL, L2.r_ixT, L2.r_cat, L2.r_slL, L2.r_append, L2.r_exRl, L2.r_gTup, true_and, and_true, forall_const, Int.reduceLT, L2.r_compG, L2.r_setComp, L2.r_yes, L2.r_isi_int_str, L2.r_isi_bl_bool, L2.r_isi_str_str, L2.r_slT, L2.r_inR, L2.cxOf_K, L2.wish_K, L2.blk_K, L2.r_blk1, L2.r_blk2, List.map_cons, List.map_nil, List.getElem?_cons_zero, List.getElem?_cons_succ, Option.join_some, L2.r_Vs, L2.r_dnewK, L2.r_dput, L2.r_exRp, L2.r_gSub, List.set_cons_zero, List.set_cons_succ, L2.r_mid, L2.r_sfld, L2.r_gfld, $ts,*])
namespace K31
open PySem L2 PyProof.Rows FA
def top (i : Nat) : Stmt := PySem.Challenge.pw_deedloom_k31_what_is_a_laying.main.body.getD i (.Pass ⟨0, 0, 0, 0⟩)
abbrev s_operands_of : Stmt := top 2
theorem sc_operands_of : FnScope ["deed"] ["deed"] (defScope s_operands_of) := ⟨rfl, rfl, rfl, by decide +kernel, rfl, by decide +kernel, by decide +kernel⟩
abbrev s_boxes_read : Stmt := top 3
theorem sc_boxes_read : FnScope ["deed"] ["deed"] (defScope s_boxes_read) := ⟨rfl, rfl, rfl, by decide +kernel, rfl, by decide +kernel, by decide +kernel⟩
abbrev s_box_written : Stmt := top 4
theorem sc_box_written : FnScope ["deed"] ["deed"] (defScope s_box_written) := ⟨rfl, rfl, rfl, by decide +kernel, rfl, by decide +kernel, by decide +kernel⟩
abbrev s_sort_of : Stmt := top 5
theorem sc_sort_of : FnScope ["deed"] ["deed"] (defScope s_sort_of) := ⟨rfl, rfl, rfl, by decide +kernel, rfl, by decide +kernel, by decide +kernel⟩
abbrev s_gap : Stmt := top 7
theorem sc_gap : FnScope ["deeds", "j", "k", "earlier", "later", "name"] ["deeds", "j", "k"] (defScope s_gap) := ⟨rfl, rfl, rfl, by decide +kernel, rfl, by decide +kernel, by decide +kernel⟩
abbrev s_is_laying : Stmt := top 8
theorem sc_is_laying : FnScope ["deeds", "units", "beats"] ["deeds", "units", "beats"] (defScope s_is_laying) := ⟨rfl, rfl, rfl, by decide +kernel, rfl, by decide +kernel, by decide +kernel⟩
abbrev s_keeps_places : Stmt := top 9
theorem sc_keeps_places : FnScope ["many", "beats", "places", "beat"] ["many", "beats"] (defScope s_keeps_places) := ⟨rfl, rfl, rfl, by decide +kernel, rfl, by decide +kernel, by decide +kernel⟩
abbrev s_keeps_leanings : Stmt := top 10
theorem sc_keeps_leanings : FnScope ["deeds", "beats", "beat_of", "number", "beat", "place", "k", "j", "lean"] ["deeds", "beats"] (defScope s_keeps_leanings) := ⟨rfl, rfl, rfl, by decide +kernel, rfl, by decide +kernel, by decide +kernel⟩
abbrev s_keeps_units : Stmt := top 11
theorem sc_keeps_units : FnScope ["deeds", "units", "beat", "sorts"] ["deeds", "units", "beat"] (defScope s_keeps_units) := ⟨rfl, rfl, rfl, by decide +kernel, rfl, by decide +kernel, by decide +kernel⟩
abbrev s__law_mixed : Stmt := top 13
theorem sc__law_mixed : FnScope ["_law_cell", "_law_k", "_law_number"] ["_law_cell", "_law_k"] (defScope s__law_mixed) := ⟨rfl, rfl, rfl, by decide +kernel, rfl, by decide +kernel, by decide +kernel⟩
abbrev s__law_operand : Stmt := top 14
theorem sc__law_operand : FnScope ["_law_mixed_here", "_law_names", "_law_width"] ["_law_mixed_here", "_law_names", "_law_width"] (defScope s__law_operand) := ⟨rfl, rfl, rfl, by decide +kernel, rfl, by decide +kernel, by decide +kernel⟩
abbrev s__law_deed : Stmt := top 15
theorem sc__law_deed : FnScope ["_law_mixed_here", "_law_names", "_law_width", "_law_one", "_law_name", "_law_op"] ["_law_mixed_here", "_law_names", "_law_width"] (defScope s__law_deed) := ⟨rfl, rfl, rfl, by decide +kernel, rfl, by decide +kernel, by decide +kernel⟩
abbrev s__law_reads : Stmt := top 16
theorem sc__law_reads : FnScope ["_law_deed_here", "_law_operands"] ["_law_deed_here"] (defScope s__law_reads) := ⟨rfl, rfl, rfl, by decide +kernel, rfl, by decide +kernel, by decide +kernel⟩
abbrev s__law_gap : Stmt := top 17
theorem sc__law_gap : FnScope ["_law_one", "_law_other"] ["_law_one", "_law_other"] (defScope s__law_gap) := ⟨rfl, rfl, rfl, by decide +kernel, rfl, by decide +kernel, by decide +kernel⟩
abbrev s__law_deeds : Stmt := top 18
theorem sc__law_deeds : FnScope ["_law_cells", "_law_most", "_law_boxes", "_law_deeds_here", "_law_k", "_law_cell"] ["_law_cells", "_law_most", "_law_boxes"] (defScope s__law_deeds) := ⟨rfl, rfl, rfl, by decide +kernel, rfl, by decide +kernel, by decide +kernel⟩
abbrev s__law_sort : Stmt := top 19
theorem sc__law_sort : FnScope ["_law_deed_here"] ["_law_deed_here"] (defScope s__law_sort) := ⟨rfl, rfl, rfl, by decide +kernel, rfl, by decide +kernel, by decide +kernel⟩
abbrev s__law_load : Stmt := top 20
theorem sc__law_load : FnScope ["_law_deeds_here", "_law_beat", "_law_units", "_law_many", "_law_k"] ["_law_deeds_here", "_law_beat", "_law_units"] (defScope s__law_load) := ⟨rfl, rfl, rfl, by decide +kernel, rfl, by decide +kernel, by decide +kernel⟩
abbrev s__law_early : Stmt := top 21
theorem sc__law_early : FnScope ["_law_deeds_here", "_law_single", "_law_at", "_law_k", "_law_first", "_law_j", "_law_far"] ["_law_deeds_here", "_law_single"] (defScope s__law_early) := ⟨rfl, rfl, rfl, by decide +kernel, rfl, by decide +kernel, by decide +kernel⟩
abbrev s__law_kept : Stmt := top 22
theorem sc__law_kept : FnScope ["_law_deeds_here", "_law_units", "_law_beats", "_law_at", "_law_place", "_law_beat", "_law_k", "_law_j", "_law_far"] ["_law_deeds_here", "_law_units", "_law_beats"] (defScope s__law_kept) := ⟨rfl, rfl, rfl, by decide +kernel, rfl, by decide +kernel, by decide +kernel⟩
abbrev s__law_bent : Stmt := top 23
theorem sc__law_bent : FnScope ["_law_beats", "_law_mixed_here", "_law_many", "_law_bent_here", "_law_way", "_law_at", "_law_to", "_law_spot", "_law_kept_here"] ["_law_beats", "_law_mixed_here", "_law_many"] (defScope s__law_bent) := ⟨rfl, rfl, rfl, by decide +kernel, rfl, by decide +kernel, by decide +kernel⟩
abbrev s_law : Stmt := top 24
theorem sc_law : FnScope ["_law_script", "_law_first", "_law_deeds_here", "_law_units", "_law_beats", "_law_k", "_law_bent_here", "_law_handed", "_law_found"] ["_law_script"] (defScope s_law) := ⟨rfl, rfl, rfl, by decide +kernel, rfl, by decide +kernel, by decide +kernel⟩
def kvs_SORTS : List (Key × V) := [(.inr "plus", .int 0), (.inr "less", .int 0), (.inr "below", .int 1), (.inr "same", .int 1), (.inr "and", .int 2), (.inr "or", .int 2), (.inr "xor", .int 2)]
set_option genInjectivity false in
structure Ad where
  pr : Params
  D_SORTS : Addr
  f_operands_of : Addr
  e_operands_of : FuncData
  f_boxes_read : Addr
  e_boxes_read : FuncData
  f_box_written : Addr
  e_box_written : FuncData
  f_sort_of : Addr
  e_sort_of : FuncData
  f_gap : Addr
  e_gap : FuncData
  f_is_laying : Addr
  e_is_laying : FuncData
  f_keeps_places : Addr
  e_keeps_places : FuncData
  f_keeps_leanings : Addr
  e_keeps_leanings : FuncData
  f_keeps_units : Addr
  e_keeps_units : FuncData
  f__law_mixed : Addr
  e__law_mixed : FuncData
  f__law_operand : Addr
  e__law_operand : FuncData
  f__law_deed : Addr
  e__law_deed : FuncData
  f__law_reads : Addr
  e__law_reads : FuncData
  f__law_gap : Addr
  e__law_gap : FuncData
  f__law_deeds : Addr
  e__law_deeds : FuncData
  f__law_sort : Addr
  e__law_sort : FuncData
  f__law_load : Addr
  e__law_load : FuncData
  f__law_early : Addr
  e__law_early : FuncData
  f__law_kept : Addr
  e__law_kept : FuncData
  f__law_bent : Addr
  e__law_bent : FuncData
  f_law : Addr
  e_law : FuncData
structure Txt (K : PySem.W.Frag) (mg : Str → Option Value) (t : Ad) : Prop where
  g_SORTS : mg "SORTS" = some (.ref t.D_SORTS)
  k_SORTS : DictK K t.pr t.D_SORTS kvs_SORTS
  d_operands_of : DefAt K mg "operands_of" s_operands_of ["deed"] t.f_operands_of t.e_operands_of
  d_boxes_read : DefAt K mg "boxes_read" s_boxes_read ["deed"] t.f_boxes_read t.e_boxes_read
  d_box_written : DefAt K mg "box_written" s_box_written ["deed"] t.f_box_written t.e_box_written
  d_sort_of : DefAt K mg "sort_of" s_sort_of ["deed"] t.f_sort_of t.e_sort_of
  d_gap : DefAt K mg "gap" s_gap ["deeds", "j", "k"] t.f_gap t.e_gap
  d_is_laying : DefAt K mg "is_laying" s_is_laying ["deeds", "units", "beats"] t.f_is_laying t.e_is_laying
  d_keeps_places : DefAt K mg "keeps_places" s_keeps_places ["many", "beats"] t.f_keeps_places t.e_keeps_places
  d_keeps_leanings : DefAt K mg "keeps_leanings" s_keeps_leanings ["deeds", "beats"] t.f_keeps_leanings t.e_keeps_leanings
  d_keeps_units : DefAt K mg "keeps_units" s_keeps_units ["deeds", "units", "beat"] t.f_keeps_units t.e_keeps_units
  d__law_mixed : DefAt K mg "_law_mixed" s__law_mixed ["_law_cell", "_law_k"] t.f__law_mixed t.e__law_mixed
  d__law_operand : DefAt K mg "_law_operand" s__law_operand ["_law_mixed_here", "_law_names", "_law_width"] t.f__law_operand t.e__law_operand
  d__law_deed : DefAt K mg "_law_deed" s__law_deed ["_law_mixed_here", "_law_names", "_law_width"] t.f__law_deed t.e__law_deed
  d__law_reads : DefAt K mg "_law_reads" s__law_reads ["_law_deed_here"] t.f__law_reads t.e__law_reads
  d__law_gap : DefAt K mg "_law_gap" s__law_gap ["_law_one", "_law_other"] t.f__law_gap t.e__law_gap
  d__law_deeds : DefAt K mg "_law_deeds" s__law_deeds ["_law_cells", "_law_most", "_law_boxes"] t.f__law_deeds t.e__law_deeds
  d__law_sort : DefAt K mg "_law_sort" s__law_sort ["_law_deed_here"] t.f__law_sort t.e__law_sort
  d__law_load : DefAt K mg "_law_load" s__law_load ["_law_deeds_here", "_law_beat", "_law_units"] t.f__law_load t.e__law_load
  d__law_early : DefAt K mg "_law_early" s__law_early ["_law_deeds_here", "_law_single"] t.f__law_early t.e__law_early
  d__law_kept : DefAt K mg "_law_kept" s__law_kept ["_law_deeds_here", "_law_units", "_law_beats"] t.f__law_kept t.e__law_kept
  d__law_bent : DefAt K mg "_law_bent" s__law_bent ["_law_beats", "_law_mixed_here", "_law_many"] t.f__law_bent t.e__law_bent
  d_law : DefAt K mg "law" s_law ["_law_script"] t.f_law t.e_law
  z_range : mg "range" = none
  z_isinstance : mg "isinstance" = none
  z_int : mg "int" = none
  z_bool : mg "bool" = none
  z_str : mg "str" = none
  z_enumerate : mg "enumerate" = none
  z_len : mg "len" = none
  z_list : mg "list" = none
  z_sum : mg "sum" = none
  z_max : mg "max" = none
  z_all : mg "all" = none
  z_sorted : mg "sorted" = none
theorem len_1 {us : List Value} (h : us.length = 1) : ∃ a0, us = [a0] := by
  rcases us with _ | ⟨a0, _ | ⟨_, _⟩⟩ <;> simp at h ⊢
theorem len_2 {us : List Value} (h : us.length = 2) : ∃ a0 a1, us = [a0, a1] := by
  rcases us with _ | ⟨a0, _ | ⟨a1, _ | ⟨_, _⟩⟩⟩ <;> simp at h ⊢
theorem len_3 {us : List Value} (h : us.length = 3) : ∃ a0 a1 a2, us = [a0, a1, a2] := by
  rcases us with _ | ⟨a0, _ | ⟨a1, _ | ⟨a2, _ | ⟨_, _⟩⟩⟩⟩ <;> simp at h ⊢
theorem all_mk {K : PySem.W.Frag} {h : Heap} {mg : Str → Option Value} (X : K.In h) (G : h.Ns mainGlobals mg)
    (pr : Params)
    {D_SORTS : Addr} {h_SORTS_0 h_SORTS_1 h_SORTS_2 h_SORTS_3 h_SORTS_4 h_SORTS_5 h_SORTS_6 : Int} {t_SORTS_0 u_SORTS_0 t_SORTS_1 u_SORTS_1 t_SORTS_2 u_SORTS_2 t_SORTS_3 u_SORTS_3 t_SORTS_4 u_SORTS_4 t_SORTS_5 u_SORTS_5 t_SORTS_6 u_SORTS_6 : Tok} {ep_SORTS : Nat}
    (aD_SORTS : PySem.W.nsIn K mainGlobals "SORTS" = some (some (.ref D_SORTS)))
    (lD_SORTS : K.lookup D_SORTS = some ⟨.type "dict", none, .dict #[⟨h_SORTS_0, .str "plus" t_SORTS_0, .int 0 u_SORTS_0⟩, ⟨h_SORTS_1, .str "less" t_SORTS_1, .int 0 u_SORTS_1⟩, ⟨h_SORTS_2, .str "below" t_SORTS_2, .int 1 u_SORTS_2⟩, ⟨h_SORTS_3, .str "same" t_SORTS_3, .int 1 u_SORTS_3⟩, ⟨h_SORTS_4, .str "and" t_SORTS_4, .int 2 u_SORTS_4⟩, ⟨h_SORTS_5, .str "or" t_SORTS_5, .int 2 u_SORTS_5⟩, ⟨h_SORTS_6, .str "xor" t_SORTS_6, .int 2 u_SORTS_6⟩] ep_SORTS, #[]⟩)
    (sD_SORTS : (D_SORTS == sysModules) = false)
    (hD_SORTS : [h_SORTS_0, h_SORTS_1, h_SORTS_2, h_SORTS_3, h_SORTS_4, h_SORTS_5, h_SORTS_6] = kvs_SORTS.map (fun kv => keyP pr kv.1))
    {f0 : Addr} {od0 an0 : Option Addr} {sl0 : Array (Option Value)} {oc0 kV0 dc0 pm0 cd0 ct0 : Value}
    (a0 : PySem.W.nsIn K mainGlobals "operands_of" = some (some (.ref f0)))
    (l0 : K.lookup f0 = some ⟨oc0, od0, .func (PySem.W.fnOf "operands_of" "operands_of" (defArgs s_operands_of) (defBody s_operands_of) (defScope s_operands_of) .none kV0 dc0 pm0 an0 cd0 ct0), sl0⟩) (c0 : PySem.W.codeIn K cd0 "operands_of" = true) (k0 : PySem.W.keepIn K (.ref f0) = true)
    {f1 : Addr} {od1 an1 : Option Addr} {sl1 : Array (Option Value)} {oc1 kV1 dc1 pm1 cd1 ct1 : Value}
    (a1 : PySem.W.nsIn K mainGlobals "boxes_read" = some (some (.ref f1)))
    (l1 : K.lookup f1 = some ⟨oc1, od1, .func (PySem.W.fnOf "boxes_read" "boxes_read" (defArgs s_boxes_read) (defBody s_boxes_read) (defScope s_boxes_read) .none kV1 dc1 pm1 an1 cd1 ct1), sl1⟩) (c1 : PySem.W.codeIn K cd1 "boxes_read" = true) (k1 : PySem.W.keepIn K (.ref f1) = true)
    {f2 : Addr} {od2 an2 : Option Addr} {sl2 : Array (Option Value)} {oc2 kV2 dc2 pm2 cd2 ct2 : Value}
    (a2 : PySem.W.nsIn K mainGlobals "box_written" = some (some (.ref f2)))
    (l2 : K.lookup f2 = some ⟨oc2, od2, .func (PySem.W.fnOf "box_written" "box_written" (defArgs s_box_written) (defBody s_box_written) (defScope s_box_written) .none kV2 dc2 pm2 an2 cd2 ct2), sl2⟩) (c2 : PySem.W.codeIn K cd2 "box_written" = true) (k2 : PySem.W.keepIn K (.ref f2) = true)
    {f3 : Addr} {od3 an3 : Option Addr} {sl3 : Array (Option Value)} {oc3 kV3 dc3 pm3 cd3 ct3 : Value}
    (a3 : PySem.W.nsIn K mainGlobals "sort_of" = some (some (.ref f3)))
    (l3 : K.lookup f3 = some ⟨oc3, od3, .func (PySem.W.fnOf "sort_of" "sort_of" (defArgs s_sort_of) (defBody s_sort_of) (defScope s_sort_of) .none kV3 dc3 pm3 an3 cd3 ct3), sl3⟩) (c3 : PySem.W.codeIn K cd3 "sort_of" = true) (k3 : PySem.W.keepIn K (.ref f3) = true)
    {f4 : Addr} {od4 an4 : Option Addr} {sl4 : Array (Option Value)} {oc4 kV4 dc4 pm4 cd4 ct4 : Value}
    (a4 : PySem.W.nsIn K mainGlobals "gap" = some (some (.ref f4)))
    (l4 : K.lookup f4 = some ⟨oc4, od4, .func (PySem.W.fnOf "gap" "gap" (defArgs s_gap) (defBody s_gap) (defScope s_gap) .none kV4 dc4 pm4 an4 cd4 ct4), sl4⟩) (c4 : PySem.W.codeIn K cd4 "gap" = true) (k4 : PySem.W.keepIn K (.ref f4) = true)
    {f5 : Addr} {od5 an5 : Option Addr} {sl5 : Array (Option Value)} {oc5 kV5 dc5 pm5 cd5 ct5 : Value}
    (a5 : PySem.W.nsIn K mainGlobals "is_laying" = some (some (.ref f5)))
    (l5 : K.lookup f5 = some ⟨oc5, od5, .func (PySem.W.fnOf "is_laying" "is_laying" (defArgs s_is_laying) (defBody s_is_laying) (defScope s_is_laying) .none kV5 dc5 pm5 an5 cd5 ct5), sl5⟩) (c5 : PySem.W.codeIn K cd5 "is_laying" = true) (k5 : PySem.W.keepIn K (.ref f5) = true)
    {f6 : Addr} {od6 an6 : Option Addr} {sl6 : Array (Option Value)} {oc6 kV6 dc6 pm6 cd6 ct6 : Value}
    (a6 : PySem.W.nsIn K mainGlobals "keeps_places" = some (some (.ref f6)))
    (l6 : K.lookup f6 = some ⟨oc6, od6, .func (PySem.W.fnOf "keeps_places" "keeps_places" (defArgs s_keeps_places) (defBody s_keeps_places) (defScope s_keeps_places) .none kV6 dc6 pm6 an6 cd6 ct6), sl6⟩) (c6 : PySem.W.codeIn K cd6 "keeps_places" = true) (k6 : PySem.W.keepIn K (.ref f6) = true)
    {f7 : Addr} {od7 an7 : Option Addr} {sl7 : Array (Option Value)} {oc7 kV7 dc7 pm7 cd7 ct7 : Value}
    (a7 : PySem.W.nsIn K mainGlobals "keeps_leanings" = some (some (.ref f7)))
    (l7 : K.lookup f7 = some ⟨oc7, od7, .func (PySem.W.fnOf "keeps_leanings" "keeps_leanings" (defArgs s_keeps_leanings) (defBody s_keeps_leanings) (defScope s_keeps_leanings) .none kV7 dc7 pm7 an7 cd7 ct7), sl7⟩) (c7 : PySem.W.codeIn K cd7 "keeps_leanings" = true) (k7 : PySem.W.keepIn K (.ref f7) = true)
    {f8 : Addr} {od8 an8 : Option Addr} {sl8 : Array (Option Value)} {oc8 kV8 dc8 pm8 cd8 ct8 : Value}
    (a8 : PySem.W.nsIn K mainGlobals "keeps_units" = some (some (.ref f8)))
    (l8 : K.lookup f8 = some ⟨oc8, od8, .func (PySem.W.fnOf "keeps_units" "keeps_units" (defArgs s_keeps_units) (defBody s_keeps_units) (defScope s_keeps_units) .none kV8 dc8 pm8 an8 cd8 ct8), sl8⟩) (c8 : PySem.W.codeIn K cd8 "keeps_units" = true) (k8 : PySem.W.keepIn K (.ref f8) = true)
    {f9 : Addr} {od9 an9 : Option Addr} {sl9 : Array (Option Value)} {oc9 kV9 dc9 pm9 cd9 ct9 : Value}
    (a9 : PySem.W.nsIn K mainGlobals "_law_mixed" = some (some (.ref f9)))
    (l9 : K.lookup f9 = some ⟨oc9, od9, .func (PySem.W.fnOf "_law_mixed" "_law_mixed" (defArgs s__law_mixed) (defBody s__law_mixed) (defScope s__law_mixed) .none kV9 dc9 pm9 an9 cd9 ct9), sl9⟩) (c9 : PySem.W.codeIn K cd9 "_law_mixed" = true) (k9 : PySem.W.keepIn K (.ref f9) = true)
    {f10 : Addr} {od10 an10 : Option Addr} {sl10 : Array (Option Value)} {oc10 kV10 dc10 pm10 cd10 ct10 : Value}
    (a10 : PySem.W.nsIn K mainGlobals "_law_operand" = some (some (.ref f10)))
    (l10 : K.lookup f10 = some ⟨oc10, od10, .func (PySem.W.fnOf "_law_operand" "_law_operand" (defArgs s__law_operand) (defBody s__law_operand) (defScope s__law_operand) .none kV10 dc10 pm10 an10 cd10 ct10), sl10⟩) (c10 : PySem.W.codeIn K cd10 "_law_operand" = true) (k10 : PySem.W.keepIn K (.ref f10) = true)
    {f11 : Addr} {od11 an11 : Option Addr} {sl11 : Array (Option Value)} {oc11 kV11 dc11 pm11 cd11 ct11 : Value}
    (a11 : PySem.W.nsIn K mainGlobals "_law_deed" = some (some (.ref f11)))
    (l11 : K.lookup f11 = some ⟨oc11, od11, .func (PySem.W.fnOf "_law_deed" "_law_deed" (defArgs s__law_deed) (defBody s__law_deed) (defScope s__law_deed) .none kV11 dc11 pm11 an11 cd11 ct11), sl11⟩) (c11 : PySem.W.codeIn K cd11 "_law_deed" = true) (k11 : PySem.W.keepIn K (.ref f11) = true)
    {f12 : Addr} {od12 an12 : Option Addr} {sl12 : Array (Option Value)} {oc12 kV12 dc12 pm12 cd12 ct12 : Value}
    (a12 : PySem.W.nsIn K mainGlobals "_law_reads" = some (some (.ref f12)))
    (l12 : K.lookup f12 = some ⟨oc12, od12, .func (PySem.W.fnOf "_law_reads" "_law_reads" (defArgs s__law_reads) (defBody s__law_reads) (defScope s__law_reads) .none kV12 dc12 pm12 an12 cd12 ct12), sl12⟩) (c12 : PySem.W.codeIn K cd12 "_law_reads" = true) (k12 : PySem.W.keepIn K (.ref f12) = true)
    {f13 : Addr} {od13 an13 : Option Addr} {sl13 : Array (Option Value)} {oc13 kV13 dc13 pm13 cd13 ct13 : Value}
    (a13 : PySem.W.nsIn K mainGlobals "_law_gap" = some (some (.ref f13)))
    (l13 : K.lookup f13 = some ⟨oc13, od13, .func (PySem.W.fnOf "_law_gap" "_law_gap" (defArgs s__law_gap) (defBody s__law_gap) (defScope s__law_gap) .none kV13 dc13 pm13 an13 cd13 ct13), sl13⟩) (c13 : PySem.W.codeIn K cd13 "_law_gap" = true) (k13 : PySem.W.keepIn K (.ref f13) = true)
    {f14 : Addr} {od14 an14 : Option Addr} {sl14 : Array (Option Value)} {oc14 kV14 dc14 pm14 cd14 ct14 : Value}
    (a14 : PySem.W.nsIn K mainGlobals "_law_deeds" = some (some (.ref f14)))
    (l14 : K.lookup f14 = some ⟨oc14, od14, .func (PySem.W.fnOf "_law_deeds" "_law_deeds" (defArgs s__law_deeds) (defBody s__law_deeds) (defScope s__law_deeds) .none kV14 dc14 pm14 an14 cd14 ct14), sl14⟩) (c14 : PySem.W.codeIn K cd14 "_law_deeds" = true) (k14 : PySem.W.keepIn K (.ref f14) = true)
    {f15 : Addr} {od15 an15 : Option Addr} {sl15 : Array (Option Value)} {oc15 kV15 dc15 pm15 cd15 ct15 : Value}
    (a15 : PySem.W.nsIn K mainGlobals "_law_sort" = some (some (.ref f15)))
    (l15 : K.lookup f15 = some ⟨oc15, od15, .func (PySem.W.fnOf "_law_sort" "_law_sort" (defArgs s__law_sort) (defBody s__law_sort) (defScope s__law_sort) .none kV15 dc15 pm15 an15 cd15 ct15), sl15⟩) (c15 : PySem.W.codeIn K cd15 "_law_sort" = true) (k15 : PySem.W.keepIn K (.ref f15) = true)
    {f16 : Addr} {od16 an16 : Option Addr} {sl16 : Array (Option Value)} {oc16 kV16 dc16 pm16 cd16 ct16 : Value}
    (a16 : PySem.W.nsIn K mainGlobals "_law_load" = some (some (.ref f16)))
    (l16 : K.lookup f16 = some ⟨oc16, od16, .func (PySem.W.fnOf "_law_load" "_law_load" (defArgs s__law_load) (defBody s__law_load) (defScope s__law_load) .none kV16 dc16 pm16 an16 cd16 ct16), sl16⟩) (c16 : PySem.W.codeIn K cd16 "_law_load" = true) (k16 : PySem.W.keepIn K (.ref f16) = true)
    {f17 : Addr} {od17 an17 : Option Addr} {sl17 : Array (Option Value)} {oc17 kV17 dc17 pm17 cd17 ct17 : Value}
    (a17 : PySem.W.nsIn K mainGlobals "_law_early" = some (some (.ref f17)))
    (l17 : K.lookup f17 = some ⟨oc17, od17, .func (PySem.W.fnOf "_law_early" "_law_early" (defArgs s__law_early) (defBody s__law_early) (defScope s__law_early) .none kV17 dc17 pm17 an17 cd17 ct17), sl17⟩) (c17 : PySem.W.codeIn K cd17 "_law_early" = true) (k17 : PySem.W.keepIn K (.ref f17) = true)
    {f18 : Addr} {od18 an18 : Option Addr} {sl18 : Array (Option Value)} {oc18 kV18 dc18 pm18 cd18 ct18 : Value}
    (a18 : PySem.W.nsIn K mainGlobals "_law_kept" = some (some (.ref f18)))
    (l18 : K.lookup f18 = some ⟨oc18, od18, .func (PySem.W.fnOf "_law_kept" "_law_kept" (defArgs s__law_kept) (defBody s__law_kept) (defScope s__law_kept) .none kV18 dc18 pm18 an18 cd18 ct18), sl18⟩) (c18 : PySem.W.codeIn K cd18 "_law_kept" = true) (k18 : PySem.W.keepIn K (.ref f18) = true)
    {f19 : Addr} {od19 an19 : Option Addr} {sl19 : Array (Option Value)} {oc19 kV19 dc19 pm19 cd19 ct19 : Value}
    (a19 : PySem.W.nsIn K mainGlobals "_law_bent" = some (some (.ref f19)))
    (l19 : K.lookup f19 = some ⟨oc19, od19, .func (PySem.W.fnOf "_law_bent" "_law_bent" (defArgs s__law_bent) (defBody s__law_bent) (defScope s__law_bent) .none kV19 dc19 pm19 an19 cd19 ct19), sl19⟩) (c19 : PySem.W.codeIn K cd19 "_law_bent" = true) (k19 : PySem.W.keepIn K (.ref f19) = true)
    {f20 : Addr} {od20 an20 : Option Addr} {sl20 : Array (Option Value)} {oc20 kV20 dc20 pm20 cd20 ct20 : Value}
    (a20 : PySem.W.nsIn K mainGlobals "law" = some (some (.ref f20)))
    (l20 : K.lookup f20 = some ⟨oc20, od20, .func (PySem.W.fnOf "law" "law" (defArgs s_law) (defBody s_law) (defScope s_law) .none kV20 dc20 pm20 an20 cd20 ct20), sl20⟩) (c20 : PySem.W.codeIn K cd20 "law" = true) (k20 : PySem.W.keepIn K (.ref f20) = true)
    (z_range : PySem.W.nsIn K mainGlobals "range" = some none)
    (z_isinstance : PySem.W.nsIn K mainGlobals "isinstance" = some none)
    (z_int : PySem.W.nsIn K mainGlobals "int" = some none)
    (z_bool : PySem.W.nsIn K mainGlobals "bool" = some none)
    (z_str : PySem.W.nsIn K mainGlobals "str" = some none)
    (z_enumerate : PySem.W.nsIn K mainGlobals "enumerate" = some none)
    (z_len : PySem.W.nsIn K mainGlobals "len" = some none)
    (z_list : PySem.W.nsIn K mainGlobals "list" = some none)
    (z_sum : PySem.W.nsIn K mainGlobals "sum" = some none)
    (z_max : PySem.W.nsIn K mainGlobals "max" = some none)
    (z_all : PySem.W.nsIn K mainGlobals "all" = some none)
    (z_sorted : PySem.W.nsIn K mainGlobals "sorted" = some none)
    : ∃ t : Ad, Txt K mg t ∧ t.pr = pr := by
  simp only [kvs_SORTS, List.map_cons, List.map_nil, List.cons.injEq, and_true] at hD_SORTS
  obtain ⟨e0, e1, e2, e3, e4, e5, e6⟩ := hD_SORTS
  have kk_SORTS : DictK K pr D_SORTS kvs_SORTS := ⟨_, _, lD_SORTS, sD_SORTS, by decide +kernel, .cons ⟨by kernel_rfl, e0, ⟨_, rfl⟩⟩ (.cons ⟨by kernel_rfl, e1, ⟨_, rfl⟩⟩ (.cons ⟨by kernel_rfl, e2, ⟨_, rfl⟩⟩ (.cons ⟨by kernel_rfl, e3, ⟨_, rfl⟩⟩ (.cons ⟨by kernel_rfl, e4, ⟨_, rfl⟩⟩ (.cons ⟨by kernel_rfl, e5, ⟨_, rfl⟩⟩ (.cons ⟨by kernel_rfl, e6, ⟨_, rfl⟩⟩ (.nil)))))))⟩
  have F0 := fun_mk (st := s_operands_of) l0 c0 k0
  have b0 := F0.binds (ps := ["deed"]) fun _ _ _ _ _ _ us hl => by obtain ⟨_, rfl⟩ := len_1 hl; rfl
  have F1 := fun_mk (st := s_boxes_read) l1 c1 k1
  have b1 := F1.binds (ps := ["deed"]) fun _ _ _ _ _ _ us hl => by obtain ⟨_, rfl⟩ := len_1 hl; rfl
  have F2 := fun_mk (st := s_box_written) l2 c2 k2
  have b2 := F2.binds (ps := ["deed"]) fun _ _ _ _ _ _ us hl => by obtain ⟨_, rfl⟩ := len_1 hl; rfl
  have F3 := fun_mk (st := s_sort_of) l3 c3 k3
  have b3 := F3.binds (ps := ["deed"]) fun _ _ _ _ _ _ us hl => by obtain ⟨_, rfl⟩ := len_1 hl; rfl
  have F4 := fun_mk (st := s_gap) l4 c4 k4
  have b4 := F4.binds (ps := ["deeds", "j", "k"]) fun _ _ _ _ _ _ us hl => by obtain ⟨_, _, _, rfl⟩ := len_3 hl; rfl
  have F5 := fun_mk (st := s_is_laying) l5 c5 k5
  have b5 := F5.binds (ps := ["deeds", "units", "beats"]) fun _ _ _ _ _ _ us hl => by obtain ⟨_, _, _, rfl⟩ := len_3 hl; rfl
  have F6 := fun_mk (st := s_keeps_places) l6 c6 k6
  have b6 := F6.binds (ps := ["many", "beats"]) fun _ _ _ _ _ _ us hl => by obtain ⟨_, _, rfl⟩ := len_2 hl; rfl
  have F7 := fun_mk (st := s_keeps_leanings) l7 c7 k7
  have b7 := F7.binds (ps := ["deeds", "beats"]) fun _ _ _ _ _ _ us hl => by obtain ⟨_, _, rfl⟩ := len_2 hl; rfl
  have F8 := fun_mk (st := s_keeps_units) l8 c8 k8
  have b8 := F8.binds (ps := ["deeds", "units", "beat"]) fun _ _ _ _ _ _ us hl => by obtain ⟨_, _, _, rfl⟩ := len_3 hl; rfl
  have F9 := fun_mk (st := s__law_mixed) l9 c9 k9
  have b9 := F9.binds (ps := ["_law_cell", "_law_k"]) fun _ _ _ _ _ _ us hl => by obtain ⟨_, _, rfl⟩ := len_2 hl; rfl
  have F10 := fun_mk (st := s__law_operand) l10 c10 k10
  have b10 := F10.binds (ps := ["_law_mixed_here", "_law_names", "_law_width"]) fun _ _ _ _ _ _ us hl => by obtain ⟨_, _, _, rfl⟩ := len_3 hl; rfl
  have F11 := fun_mk (st := s__law_deed) l11 c11 k11
  have b11 := F11.binds (ps := ["_law_mixed_here", "_law_names", "_law_width"]) fun _ _ _ _ _ _ us hl => by obtain ⟨_, _, _, rfl⟩ := len_3 hl; rfl
  have F12 := fun_mk (st := s__law_reads) l12 c12 k12
  have b12 := F12.binds (ps := ["_law_deed_here"]) fun _ _ _ _ _ _ us hl => by obtain ⟨_, rfl⟩ := len_1 hl; rfl
  have F13 := fun_mk (st := s__law_gap) l13 c13 k13
  have b13 := F13.binds (ps := ["_law_one", "_law_other"]) fun _ _ _ _ _ _ us hl => by obtain ⟨_, _, rfl⟩ := len_2 hl; rfl
  have F14 := fun_mk (st := s__law_deeds) l14 c14 k14
  have b14 := F14.binds (ps := ["_law_cells", "_law_most", "_law_boxes"]) fun _ _ _ _ _ _ us hl => by obtain ⟨_, _, _, rfl⟩ := len_3 hl; rfl
  have F15 := fun_mk (st := s__law_sort) l15 c15 k15
  have b15 := F15.binds (ps := ["_law_deed_here"]) fun _ _ _ _ _ _ us hl => by obtain ⟨_, rfl⟩ := len_1 hl; rfl
  have F16 := fun_mk (st := s__law_load) l16 c16 k16
  have b16 := F16.binds (ps := ["_law_deeds_here", "_law_beat", "_law_units"]) fun _ _ _ _ _ _ us hl => by obtain ⟨_, _, _, rfl⟩ := len_3 hl; rfl
  have F17 := fun_mk (st := s__law_early) l17 c17 k17
  have b17 := F17.binds (ps := ["_law_deeds_here", "_law_single"]) fun _ _ _ _ _ _ us hl => by obtain ⟨_, _, rfl⟩ := len_2 hl; rfl
  have F18 := fun_mk (st := s__law_kept) l18 c18 k18
  have b18 := F18.binds (ps := ["_law_deeds_here", "_law_units", "_law_beats"]) fun _ _ _ _ _ _ us hl => by obtain ⟨_, _, _, rfl⟩ := len_3 hl; rfl
  have F19 := fun_mk (st := s__law_bent) l19 c19 k19
  have b19 := F19.binds (ps := ["_law_beats", "_law_mixed_here", "_law_many"]) fun _ _ _ _ _ _ us hl => by obtain ⟨_, _, _, rfl⟩ := len_3 hl; rfl
  have F20 := fun_mk (st := s_law) l20 c20 k20
  have b20 := F20.binds (ps := ["_law_script"]) fun _ _ _ _ _ _ us hl => by obtain ⟨_, rfl⟩ := len_1 hl; rfl
  exact ⟨⟨pr, _, _, _, _, _, _, _, _, _, _, _, _, _, _, _, _, _, _, _, _, _, _, _, _, _, _, _, _, _, _, _, _, _, _, _, _, _, _, _, _, _, _, _⟩, ⟨PySem.W.mg_of X G aD_SORTS, kk_SORTS, ⟨F0, b0, PySem.W.mg_of X G a0⟩, ⟨F1, b1, PySem.W.mg_of X G a1⟩, ⟨F2, b2, PySem.W.mg_of X G a2⟩, ⟨F3, b3, PySem.W.mg_of X G a3⟩, ⟨F4, b4, PySem.W.mg_of X G a4⟩, ⟨F5, b5, PySem.W.mg_of X G a5⟩, ⟨F6, b6, PySem.W.mg_of X G a6⟩, ⟨F7, b7, PySem.W.mg_of X G a7⟩, ⟨F8, b8, PySem.W.mg_of X G a8⟩, ⟨F9, b9, PySem.W.mg_of X G a9⟩, ⟨F10, b10, PySem.W.mg_of X G a10⟩, ⟨F11, b11, PySem.W.mg_of X G a11⟩, ⟨F12, b12, PySem.W.mg_of X G a12⟩, ⟨F13, b13, PySem.W.mg_of X G a13⟩, ⟨F14, b14, PySem.W.mg_of X G a14⟩, ⟨F15, b15, PySem.W.mg_of X G a15⟩, ⟨F16, b16, PySem.W.mg_of X G a16⟩, ⟨F17, b17, PySem.W.mg_of X G a17⟩, ⟨F18, b18, PySem.W.mg_of X G a18⟩, ⟨F19, b19, PySem.W.mg_of X G a19⟩, ⟨F20, b20, PySem.W.mg_of X G a20⟩, PySem.W.mg_none_of X G z_range, PySem.W.mg_none_of X G z_isinstance, PySem.W.mg_none_of X G z_int, PySem.W.mg_none_of X G z_bool, PySem.W.mg_none_of X G z_str, PySem.W.mg_none_of X G z_enumerate, PySem.W.mg_none_of X G z_len, PySem.W.mg_none_of X G z_list, PySem.W.mg_none_of X G z_sum, PySem.W.mg_none_of X G z_max, PySem.W.mg_none_of X G z_all, PySem.W.mg_none_of X G z_sorted⟩, rfl⟩

end K31
set_option Elab.async false
set_option linter.all false
set_option maxRecDepth 100000
set_option maxHeartbeats 4000000
namespace K31
open PySem L2 PyProof.Rows FA
section
variable {P : Program} {w : World} {K : PySem.W.Frag} {mg : Str → Option Value} {base : Heap} {t : Ad}
theorem fil_opd {o : FB.Opd} : List.map id (List.filter isStrV [o.v]) = o.reads.map V.str := by cases o <;> rfl
theorem fil_opd2 {o p : FB.Opd} : List.map id (List.filter isStrV [o.v, p.v]) = (o.reads ++ p.reads).map V.str := by cases o <;> cases p <;> rfl
theorem isi_opd {o : FB.Opd} {H : Hp} {Q : VK} (h : Q (.bl (isStrV o.v)) H) : rIsi K [o.v, .ty "str"] H Q := by
  cases o with
  | box n => exact r_isi_str_str.mpr h
  | word i => exact r_isi_int_str.mpr h
theorem op_ne_tell {f : Str} (h : f ∈ FB.opsL) : ¬ f = "tell" := by
  rintro rfl
  revert h
  decide +kernel
theorem ix0 {d : FB.Deed} {H : Hp} {a : Addr} {Z : V → Hp → Prop} (f : d.fine) (hS : SqT K H a d.vs) (h : Z (.bl d.tells) H) : ∃ xs v, SqT K H a xs ∧ atI xs 0 = some v ∧ rEq v (.str "tell") H Z := by
  cases d with
  | tell o => exact ⟨_, _, hS, rfl, rfl, h⟩
  | copy n o => exact ⟨_, _, hS, rfl, rfl, h⟩
  | op g n o p =>
    refine ⟨_, _, hS, rfl, rfl, ?_⟩
    have e : decide (V.str g = V.str "tell") = false := decide_eq_false (fun z => op_ne_tell f (V.str.inj z))
    rw [e]; exact h
theorem ix0n {d : FB.Deed} {H : Hp} {a : Addr} {Z : V → Hp → Prop} (f : d.fine) (hS : SqT K H a d.vs) (h : Z (.bl (!d.tells)) H) : ∃ xs v, SqT K H a xs ∧ atI xs 0 = some v ∧ rNe v (.str "tell") H Z := by
  obtain ⟨xs, v, h1, h2, h3, h4⟩ := ix0 (Z := fun x H' => ∃ b, x = .bl b ∧ Z (.bl (!b)) H') f hS ⟨_, rfl, h⟩
  obtain ⟨b, e, h4⟩ := h4
  cases e
  exact ⟨xs, v, h1, h2, h3, h4⟩
def wr (d : FB.Deed) : Str := d.writes.headD ""
theorem ix1 {d : FB.Deed} {H : Hp} {a : Addr} {Z : V → Prop} (f : d.tells = false) (hS : SqT K H a d.vs) (h : Z (.str (wr d))) : ∃ xs v, SqT K H a xs ∧ atI xs 1 = some v ∧ Z v := by
  cases d with
  | tell o => cases f
  | copy n o => exact ⟨_, _, hS, rfl, h⟩
  | op g n o p => exact ⟨_, _, hS, rfl, h⟩
theorem wr_of {d : FB.Deed} (f : d.tells = false) : d.writes = [wr d] := by
  cases d with
  | tell o => cases f
  | copy n o => rfl
  | op g n o p => rfl
theorem wr_no {d : FB.Deed} (f : d.tells = true) : d.writes = [] := by
  cases d with
  | tell o => rfl
  | copy n o => cases f
  | op g n o p => cases f
end

end K31
set_option Elab.async false
set_option linter.all false
set_option maxRecDepth 100000
set_option maxHeartbeats 4000000
namespace K31
open PySem L2 PyProof.Rows FA
def opds : FB.Deed → List FB.Opd
  | .tell a => [a]
  | .copy _ a => [a]
  | .op _ _ a b => [a, b]
def wrV (d : FB.Deed) : V := match d.writes with | [] => .non | n :: _ => .str n
def sp_opds (K : PySem.W.Frag) : Sp := fun vs H Q _ => ∃ (a : Addr) (d : FB.Deed), vs = [.ref a] ∧ SqT K H a d.vs ∧ d.fine ∧ ∀ p, H p = none → Q (.ref p) (upd H p (.tup ((opds d).map FB.Opd.v)))
def sp_written (K : PySem.W.Frag) : Sp := fun vs H Q _ => ∃ (a : Addr) (d : FB.Deed), vs = [.ref a] ∧ SqT K H a d.vs ∧ d.fine ∧ Q (wrV d) H
theorem opds_len {d : FB.Deed} : (opds d).length ≤ 2 := by cases d <;> simp [opds]
section
variable {P : Program} {w : World} {K : PySem.W.Frag} {mg : Str → Option Value} {base : Heap} {t : Ad}
theorem ok_opds (T : Txt K mg t) : FnOk P w K mg base CX0 1 t.f_operands_of t.e_operands_of ["deed"] (sp_opds K) := by
  refine T.d_operands_of.F.ok sc_operands_of (fun vs H Q E h => by obtain ⟨_, _, rfl, _⟩ := h; rfl) (fun cdv A outer s H vs Q E hr h => ?_)
  obtain ⟨a, d, rfl, hS, hf, q⟩ := h
  refine ⟨_,
      (XSs.h
      (xpss_one
        (xps_ret (xpe_ifExp (xpt_cmpR op_eq (xpe_ix ix_tup (xqv 0 vl) xpe_int (fun _ _ => rfl)) xpe_str (nomark _)) (xpe_slice sl_tup (xqv 0 vl) (xpo_some xpe_int) xpo_none) (xpe_slice sl_tup (xqv 0 vl) (xpo_some xpe_int) xpo_none))))), ?_⟩
  rw [show start _ [V.ref a] = [some (.ref a)] from rfl]
  simp_arith [r_listRng, r_kget1, r_iEnumT, r_sorted, r_all, r_any, r_insert, r_count, r_popAt, r_reverse, r_extend, blkZ_K]
  refine ix0 hf hS ⟨_, rfl, ?_⟩
  cases d with
  | tell o => exact ⟨_, hS, notWhole (k := 1) (show ¬ HT.sIx 2 0 (some 1) = 0 by decide), q⟩
  | copy n o => exact ⟨_, hS, notWhole (k := 2) (show ¬ HT.sIx 3 0 (some 2) = 0 by decide), q⟩
  | op f n o o2 => exact ⟨_, hS, notWhole (k := 2) (show ¬ HT.sIx 4 0 (some 2) = 0 by decide), q⟩
theorem r_opds {a : Addr} {H : Hp} {Q : VK} {E : XK} : sp_opds K [.ref a] H Q E = ∃ d : FB.Deed, SqT K H a d.vs ∧ d.fine ∧ ∀ p, H p = none → Q (.ref p) (upd H p (.tup ((opds d).map FB.Opd.v))) := propext ⟨by rintro ⟨_, d, e, q⟩; cases e; exact ⟨d, q⟩, by rintro ⟨d, q⟩; exact ⟨a, d, rfl, q⟩⟩
theorem ok_written (T : Txt K mg t) : FnOk P w K mg base CX0 1 t.f_box_written t.e_box_written ["deed"] (sp_written K) := by
  refine T.d_box_written.F.ok sc_box_written (fun vs H Q E h => by obtain ⟨_, _, rfl, _⟩ := h; rfl) (fun cdv A outer s H vs Q E hr h => ?_)
  obtain ⟨a, d, rfl, hS, hf, q⟩ := h
  refine ⟨_,
      (XSs.h
      (xpss_one
        (xps_ret (xpe_ifExp (xpt_cmpR op_eq (xpe_ix ix_tup (xqv 0 vl) xpe_int (fun _ _ => rfl)) xpe_str (nomark _)) xpe_non (xpe_ix ix_tup (xqv 0 vl) xpe_int (fun _ _ => rfl)))))), ?_⟩
  rw [show start _ [V.ref a] = [some (.ref a)] from rfl]
  simp_arith [r_listRng, r_kget1, r_iEnumT, r_sorted, r_all, r_any, r_insert, r_count, r_popAt, r_reverse, r_extend, blkZ_K]
  refine ix0 hf hS ⟨_, rfl, ?_⟩
  cases d with
  | tell o => exact q
  | copy n o => exact ⟨_, _, hS, rfl, q⟩
  | op f n o o2 => exact ⟨_, _, hS, rfl, q⟩
theorem r_written {a : Addr} {H : Hp} {Q : VK} {E : XK} : sp_written K [.ref a] H Q E = ∃ d : FB.Deed, SqT K H a d.vs ∧ d.fine ∧ Q (wrV d) H := propext ⟨by rintro ⟨_, d, e, q⟩; cases e; exact ⟨d, q⟩, by rintro ⟨d, q⟩; exact ⟨a, d, rfl, q⟩⟩
end

end K31
set_option Elab.async false
set_option linter.all false
set_option maxRecDepth 100000
set_option maxHeartbeats 4000000
namespace K31
open PySem L2 PyProof.Rows FA
def sp_mixed : Sp := fun vs H Q _ => ∃ c k : Int, vs = [.int c, .int k] ∧ Builtin.Int.intBits c ≤ 2 ^ 20 ∧ 0 ≤ k ∧ k ≤ 1000 ∧ Q (.int (mixed c k)) H
theorem r_mixed {c k : Int} {H : Hp} {Q : VK} {E : XK} : sp_mixed [.int c, .int k] H Q E = (Builtin.Int.intBits c ≤ 2 ^ 20 ∧ 0 ≤ k ∧ k ≤ 1000 ∧ Q (.int (mixed c k)) H) := propext ⟨by rintro ⟨_, _, e, q⟩; cases e; exact q, by intro q; exact ⟨c, k, rfl, q⟩⟩
section
variable {P : Program} {w : World} {K : PySem.W.Frag} {mg : Str → Option Value} {base : Heap} {t : Ad}
theorem ok_mixed (T : Txt K mg t) : FnOk P w K mg base CX0 1 t.f__law_mixed t.e__law_mixed ["_law_cell", "_law_k"] sp_mixed := by
  refine T.d__law_mixed.F.ok sc__law_mixed (fun vs H Q E h => by obtain ⟨_, _, rfl, _⟩ := h; rfl) (fun cdv A outer s H vs Q E hr h => ?_)
  obtain ⟨c, k, rfl, hb, k0, k1, q⟩ := h
  refine ⟨_,
      (XSs.h
      (xpss_cons
        (xps_if (xpt_cmpR op_ge (xqv 0 vl) (xpe_op op_pow xpe_int xpe_int) (nomark _))
          (xpss_one
            (xps_ret (xpe_op op_mod (xpe_op op_fdivB (xpe_op op_sub (xqv 0 vl) (xpe_op op_pow xpe_int xpe_int)) (xpe_op op_shl xpe_int (xpe_op op_mul xpe_int (xpe_op op_mod (xqv 1 vl) xpe_int)))) (xpe_op op_shl xpe_int xpe_int))))
          xpss_nil)
      (xpss_cons
        (xps_set (i := 2) sc__law_mixed.nd rfl ll (xpe_op op_mod (xpe_op op_mul (xpe_op op_add (xpe_op op_add (xpe_op op_add (xpe_op op_mulB (xqv 0 vl) (xqv 0 vl)) (xpe_op op_mul xpe_int (xqv 0 vl))) (xpe_op op_mul xpe_int (xqv 1 vl))) xpe_int) xpe_int) xpe_int))
      (xpss_one
        (xps_ret (xpe_op op_mod (xpe_op op_add (xpe_op op_mul (xqv 2 vl) (xqv 2 vl)) xpe_int) xpe_int)))))), ?_⟩
  rw [show start _ [V.int c, V.int k] = [some (.int c), some (.int k), none] from rfl]
  simp_arith [r_listRng, r_kget1, r_iEnumT, r_sorted, r_all, r_any, r_insert, r_count, r_popAt, r_reverse, r_extend, blkZ_K]
  unfold mixed at q
  have cp : CPow 10 40 := ⟨by decide, by decide, by decide⟩
  refine ⟨cp, ite_dec (fun e => ?_) (fun e => ?_)⟩
  · rw [if_pos e] at q
    have m0 : 0 ≤ k % 60 := Int.emod_nonneg _ (by decide)
    have m1 : k % 60 < 60 := Int.emod_lt_of_pos _ (by decide)
    refine ⟨cp, .inl ⟨by decide, by decide⟩, ⟨by omega, by omega, by decide⟩, CDivB.pow (by omega), ⟨by decide, by decide, by decide⟩, by decide, q⟩
  · rw [if_neg e] at q
    have n0 : 0 ≤ (c * c + 3 * c + 7919 * k + 1) * 48271 % 2147483629 := Int.emod_nonneg _ (by decide)
    have n1 : (c * c + 3 * c + 7919 * k + 1) * 48271 % 2147483629 < 2147483629 := Int.emod_lt_of_pos _ (by decide)
    refine ⟨mulSelf hb, .inl ⟨by decide, by decide⟩, .inl ⟨by decide, by decide⟩, .inr ⟨by decide, by decide⟩, .inl ⟨by omega, by omega⟩, q⟩
end

end K31
set_option Elab.async false
set_option linter.all false
set_option maxRecDepth 100000
set_option maxHeartbeats 4000000
namespace K31
open PySem L2 PyProof.Rows FA
def bd_operand (K : PySem.W.Frag) (m : Int) (w : Int) (a : Addr) (H : Hp) (Q : VK) : Prop := ∃ (ns : List Str), SqL K H a (ns.map V.str) ∧ 0 ≤ w ∧ w ≤ 8 ∧ Q (opdF m ns w) H
def sp_operand (K : PySem.W.Frag) : Sp := fun vs H Q _ => ∃ (m : Int) (w : Int) (a : Addr), vs = [.int m, .ref a, .int w] ∧ bd_operand K m w a H Q
section
variable {P : Program} {w : World} {K : PySem.W.Frag} {mg : Str → Option Value} {base : Heap} {t : Ad}
theorem ok_operand (T : Txt K mg t) : FnOk P w K mg base CX0 1 t.f__law_operand t.e__law_operand ["_law_mixed_here", "_law_names", "_law_width"] (sp_operand K) := by
  refine T.d__law_operand.F.ok sc__law_operand (fun vs H Q E h => by obtain ⟨_, _, _, rfl, _⟩ := h; rfl) (fun cdv A outer s H vs Q E hr h => ?_)
  obtain ⟨m, w, a, rfl, ns, hS, w0, w8, q⟩ := h
  refine ⟨_,
      (XSs.h
      (xpss_cons
        (xps_if (xPW_pt (xpw_and (xpt_cmpR op_gt (xpe_op op_mod (xqv 0 vl) xpe_int) xpe_int (nomark _)) (xpw_and1 (xpt_cmpR op_gt (xqe_callB call_len_seq gl T.z_len PySem.boot_len (xpa_cons (xqv 1 vl) xpa_nil)) xpe_int (nomark _)))))
          (xpss_one
            (xps_ret (xpe_ix ix_list (xqv 1 vl) (xpe_op op_mod (xpe_op op_fdivB (xqv 0 vl) xpe_int) (xqe_callB call_len_seq gl T.z_len PySem.boot_len (xpa_cons (xqv 1 vl) xpa_nil))) (fun _ _ => rfl))))
          xpss_nil)
      (xpss_one
        (xps_ret (xpe_op op_mod (xpe_op op_fdivB (xqv 0 vl) xpe_int) (xpe_op op_shl xpe_int (xqv 2 vl))))))), ?_⟩
  rw [show start _ [V.int m, V.ref a, V.int w] = [some (.int m), some (.ref a), some (.int w)] from rfl]
  simp_arith [r_listRng, r_kget1, r_iEnumT, r_sorted, r_all, r_any, r_insert, r_count, r_popAt, r_reverse, r_extend, blkZ_K]
  unfold opdF at q
  have np : (0 : Int) < 1 * 2 ^ w.toNat := by rw [Int.one_mul]; exact Int.pow_pos (by decide)
  refine ite_dec (fun e => ?_) (fun e => ?_)
  · refine ⟨_, .inl hS, ite_dec (fun e2 => ?_) (fun e2 => ?_)⟩
    · rw [List.length_map] at e2
      have hn : ¬ ns = [] := fun z => by rw [z] at e2; simp at e2
      rw [if_pos ⟨e, hn⟩] at q
      refine ⟨CDivB.small (by decide) (by decide), _, .inl hS, ?_, _, _, hS, ?_, q⟩
      · rw [List.length_map]; exact e2
      · rw [List.length_map]; exact pick_at hn
    · rw [List.length_map] at e2
      have hn : ns = [] := List.length_eq_zero_iff.mp (by omega)
      rw [if_neg (fun z => z.2 hn)] at q
      exact ⟨CDivB.small (by decide) (by decide), ⟨by omega, by omega, by decide⟩, np, q⟩
  · rw [if_neg (fun z => e z.1)] at q
    exact ⟨CDivB.small (by decide) (by decide), ⟨by omega, by omega, by decide⟩, np, q⟩
theorem r_operand {m w : Int} {a : Addr} {H : Hp} {Q : VK} {E : XK} : sp_operand K [.int m, .ref a, .int w] H Q E = ∃ ns, SqL K H a (ns.map V.str) ∧ 0 ≤ w ∧ w ≤ 8 ∧ Q (opdF m ns w) H := propext ⟨by rintro ⟨_, _, _, e, q⟩; cases e; exact q, fun q => ⟨_, _, _, rfl, q⟩⟩
end

end K31
set_option Elab.async false
set_option linter.all false
set_option maxRecDepth 100000
set_option maxHeartbeats 4000000
namespace K31
open PySem L2 PyProof.Rows FA
def bd_deed (K : PySem.W.Frag) (m : Int) (w : Int) (a : Addr) (H : Hp) (Q : VK) : Prop := ∃ (ns : List Str), SqL K H a (ns.map V.str) ∧ 0 ≤ w ∧ w ≤ 8 ∧ ∀ p H', Same H H' → H p = none → H' p = some (.tup (deedF m ns w)) → Q (.ref p) H'
def sp_deed (K : PySem.W.Frag) : Sp := fun vs H Q _ => ∃ (m : Int) (w : Int) (a : Addr), vs = [.int m, .ref a, .int w] ∧ bd_deed K m w a H Q
section
variable {P : Program} {w : World} {K : PySem.W.Frag} {mg : Str → Option Value} {base : Heap} {t : Ad}
theorem ok_deed (T : Txt K mg t) : FnOk P w K mg base CX0 2 t.f__law_deed t.e__law_deed ["_law_mixed_here", "_law_names", "_law_width"] (sp_deed K) := by
  have G__law_operand := ok_operand (P := P) (w := w) (base := base) T
  refine T.d__law_deed.F.ok sc__law_deed (fun vs H Q E h => by obtain ⟨_, _, _, rfl, _⟩ := h; rfl) (fun cdv A outer s H vs Q E hr h => ?_)
  obtain ⟨m, w, a, rfl, ns, hS, w0, w8, q⟩ := h
  refine ⟨_,
      (XSs.h
      (xpss_cons
        (xps_set (i := 3) sc__law_deed.nd rfl ll (xqe_callD T.d__law_operand G__law_operand (hr.mono (by first | decide | omega)) (xpa_cons (xpe_op op_fdivB (xqv 0 vl) xpe_int) (xpa_cons (xqv 1 vl) (xpa_cons (xqv 2 vl) xpa_nil))) gl))
      (xpss_cons
        (xps_if (xPW_pt (xpw_or (xpt_cmpR op_eq (xpe_op op_mod (xqv 0 vl) xpe_int) xpe_int (nomark _)) (xpw_or1 (xpt_cmpR op_eq (xqe_callB call_len_seq gl T.z_len PySem.boot_len (xpa_cons (xqv 1 vl) xpa_nil)) xpe_int (nomark _)))))
          (xpss_one
            (xps_ret (xpe_tup (xpa_cons xpe_str (xpa_cons (xqv 3 vl) xpa_nil)))))
          xpss_nil)
      (xpss_cons
        (xps_set (i := 4) sc__law_deed.nd rfl ll (xpe_ix ix_list (xqv 1 vl) (xpe_op op_mod (xpe_op op_fdivB (xqv 0 vl) xpe_int) (xqe_callB call_len_seq gl T.z_len PySem.boot_len (xpa_cons (xqv 1 vl) xpa_nil))) (fun _ _ => rfl)))
      (xpss_cons
        (xps_if (xpt_cmpR op_eq (xpe_op op_mod (xqv 0 vl) xpe_int) xpe_int (nomark _))
          (xpss_one
            (xps_ret (xpe_tup (xpa_cons xpe_str (xpa_cons (xqv 4 vl) (xpa_cons (xqv 3 vl) xpa_nil))))))
          xpss_nil)
      (xpss_cons
        (xps_set (i := 5) sc__law_deed.nd rfl ll (xpe_ix ix_list (xpe_lst (xpa_const (by rfl))) (xpe_op op_sub (xpe_op op_mod (xqv 0 vl) xpe_int) xpe_int) (fun _ _ => rfl)))
      (xpss_one
        (xps_ret (xpe_tup (xpa_cons (xqv 5 vl) (xpa_cons (xqv 4 vl) (xpa_cons (xqv 3 vl) (xpa_cons (xqe_callD T.d__law_operand G__law_operand (hr.mono (by first | decide | omega)) (xpa_cons (xpe_op op_fdivB (xqv 0 vl) xpe_int) (xpa_cons (xqv 1 vl) (xpa_cons (xqv 2 vl) xpa_nil))) gl) xpa_nil))))))))))))), ?_⟩
  rw [show start _ [V.int m, V.ref a, V.int w] = [some (.int m), some (.ref a), some (.int w), none, none, none] from rfl]
  simp_arith [r_listRng, r_kget1, r_iEnumT, r_sorted, r_all, r_any, r_insert, r_count, r_popAt, r_reverse, r_extend, blkZ_K, r_operand]
  unfold deedF at q
  have n0 : 0 ≤ m % 9 := Int.emod_nonneg _ (by decide)
  have n1 : m % 9 < 9 := Int.emod_lt_of_pos _ (by decide)
  have cd : ∀ z, 0 < z → z < 1073741824 → CDivB m z := fun z h1 h2 => CDivB.small h1 h2
  refine ⟨cd _ (by decide) (by decide), ns, hS, w0, w8, ite_dec (fun e => ?_) (fun e => ?_)⟩
  · rw [if_pos (.inl e)] at q
    intro p hp
    exact q p _ (Same.upd hp) hp upd_same
  · refine ⟨_, .inl hS, ite_dec (fun e2 => ?_) (fun e2 => ?_)⟩
    · rw [List.length_map] at e2
      rw [if_pos (.inr (List.length_eq_zero_iff.mp (by omega)))] at q
      intro p hp
      exact q p _ (Same.upd hp) hp upd_same
    · rw [List.length_map] at e2
      have hn : ¬ ns = [] := fun z => e2 (by rw [z]; rfl)
      rw [if_neg (fun z => z.elim e hn)] at q
      refine ⟨cd _ (by decide) (by decide), _, .inl hS, ?_, _, _, hS, (by rw [List.length_map]; exact pick_at hn), ite_dec (fun e3 => ?_) (fun e3 => ?_)⟩
      · rw [List.length_map]
        have := List.length_pos_iff.mpr hn
        omega
      · rw [if_pos e3] at q
        intro p hp
        exact q p _ (Same.upd hp) hp upd_same
      · rw [if_neg e3] at q
        intro p hp
        refine ⟨_, _, SqL.of upd_same, ops_at (by omega) (by omega), cd _ (by decide) (by decide), ns, (Same.upd hp).seq hS, w0, w8, fun p2 hp2 => ?_⟩
        exact q p2 _ ((Same.upd hp).trans (Same.upd hp2)) ((Same.upd hp).free hp2) upd_same
theorem r_deed {m w : Int} {a : Addr} {H : Hp} {Q : VK} {E : XK} : sp_deed K [.int m, .ref a, .int w] H Q E = ∃ ns, SqL K H a (ns.map V.str) ∧ 0 ≤ w ∧ w ≤ 8 ∧ ∀ p H', Same H H' → H p = none → H' p = some (.tup (deedF m ns w)) → Q (.ref p) H' := propext ⟨by rintro ⟨_, _, _, e, q⟩; cases e; exact q, fun q => ⟨_, _, _, rfl, q⟩⟩
end

end K31
set_option Elab.async false
set_option linter.all false
set_option maxRecDepth 100000
set_option maxHeartbeats 4000000
namespace K31
open PySem L2 PyProof.Rows FA
def sp_reads (K : PySem.W.Frag) : Sp := fun vs H Q _ => ∃ (a : Addr) (d : FB.Deed), vs = [.ref a] ∧ SqT K H a d.vs ∧ d.fine ∧ ∀ p H', Same H H' → H p = none → H' p = some (.lst (d.reads.map V.str)) → Q (.ref p) H'
section
variable {P : Program} {w : World} {K : PySem.W.Frag} {mg : Str → Option Value} {base : Heap} {t : Ad}
theorem ok_reads (T : Txt K mg t) : FnOk P w K mg base CX0 1 t.f__law_reads t.e__law_reads ["_law_deed_here"] (sp_reads K) := by
  refine T.d__law_reads.F.ok sc__law_reads (fun vs H Q E h => by obtain ⟨_, _, rfl, _⟩ := h; rfl) (fun cdv A outer s H vs Q E hr h => ?_)
  obtain ⟨a, d, rfl, hS, hf, q⟩ := h
  refine ⟨_,
      (XSs.h
      (xpss_cons
        (xps_set (i := 1) sc__law_reads.nd rfl ll (xpe_slice sl_tup (xqv 0 vl) (xpo_some xpe_int) xpo_none))
      (xpss_cons
        (xps_if (xpt_cmpR op_eq (xpe_ix ix_tup (xqv 0 vl) xpe_int (fun _ _ => rfl)) xpe_str (nomark _))
          (xpss_one
            (xps_set (i := 1) sc__law_reads.nd rfl ll (xpe_slice sl_tup (xqv 0 vl) (xpo_some xpe_int) xpo_none)))
          xpss_nil)
      (xpss_one
        (xps_ret (xpe_compG (tns := ["_law_one"]) (cns := []) (ci := []) rfl (CompSc.of (by kernel_rfl)) (xpi_tup (xqv 1 vl)) (fun _ => (xpg_name (i := 1) (show List.Nodup [(".0" : Str), ("_law_one" : Str)] by decide +kernel) rfl ll (Or.inr (by kernel_rfl)))) (fun _ => (xpf_one (xpt_val (xqe_callB call_isi gl T.z_isinstance boot_isinstance (xpa_cons (xqv 1 vl) (xpa_cons (xqe_bltn (v := .ty "str") gl T.z_str boot_str rfl) xpa_nil)))))) (fun _ => (xqv 1 vl)))))))), ?_⟩
  rw [show start _ [V.ref a] = [some (.ref a), none] from rfl]
  simp_arith [r_listRng, r_kget1, r_iEnumT, r_sorted, r_all, r_any, r_insert, r_count, r_popAt, r_reverse, r_extend, blkZ_K]
  have fin : ∀ (zs : List V) (p acc : Addr) (bk : Bk) (H2 : Hp), Same H H2 → H2 p = some (.tup zs) → H2 acc = none → zs.length ≤ 2 → (∀ x ∈ zs, ∃ o : FB.Opd, x = o.v) → List.map id (List.filter isStrV zs) = d.reads.map V.str →
      CompGW (Itt K p) (gName 1) (tB (tCB (rIsi K) (tCons (tVar 1) (tCons (tC (V.ty "str")) tNil)))) (tVar 1) 1 [] [some (V.ref a), some (V.ref p)] acc (fun H' => Q (V.ref acc) H') (upd H2 acc (HO.lst [])) := by
    intro zs p acc bk H2 sm hp hacc hl hz he
    refine cg_flatT isStrV id (by rw [sizeLine_eq]; omega) (SqT.of hp) hacc (fun x hm H3 Q' s3 h => ?_) (fun x hm H3 Q' s3 _ h => ?_) ?_
    · obtain ⟨o, rfl⟩ := hz x hm
      simp_arith [r_listRng, r_kget1, r_iEnumT, r_sorted, r_all, r_any, r_insert, r_count, r_popAt, r_reverse, r_extend, blkZ_K]
      exact isi_opd ⟨_, rfl, h⟩
    · simp_arith [r_listRng, r_kget1, r_iEnumT, r_sorted, r_all, r_any, r_insert, r_count, r_popAt, r_reverse, r_extend, blkZ_K]
      exact h
    · rw [he]
      exact q acc _ (sm.trans (Same.upd hacc)) (sm.free hacc) upd_same
  cases d with
  | tell o =>
    refine ⟨_, hS, notWhole (k := 2) (show ¬ HT.sIx 2 0 (some 2) = 0 by decide), fun p hp => ⟨_, _, (Same.upd hp).seqT hS, rfl, ?_⟩⟩
    simp_arith [r_listRng, r_kget1, r_iEnumT, r_sorted, r_all, r_any, r_insert, r_count, r_popAt, r_reverse, r_extend, blkZ_K]
    refine ite_dec (fun _ => ⟨_, (Same.upd hp).seqT hS, notWhole (k := 1) (show ¬ HT.sIx 2 0 (some 1) = 0 by decide), fun p2 hp2 => ⟨⟨_, SqT.of upd_same⟩, fun acc hacc bk => ?_⟩⟩) (fun e => absurd trivial e)
    exact fin [o.v] p2 acc bk _ ((Same.upd hp).trans (Same.upd hp2)) upd_same hacc (by simp) (fun x hm => ⟨o, List.mem_singleton.mp hm⟩) fil_opd
  | copy n o =>
    refine ⟨_, hS, notWhole (k := 2) (show ¬ HT.sIx 3 0 (some 2) = 0 by decide), fun p hp => ⟨_, _, (Same.upd hp).seqT hS, rfl, ?_⟩⟩
    simp_arith [r_listRng, r_kget1, r_iEnumT, r_sorted, r_all, r_any, r_insert, r_count, r_popAt, r_reverse, r_extend, blkZ_K]
    refine ite_dec (fun e => absurd e (by decide +kernel)) (fun _ => ⟨⟨_, SqT.of upd_same⟩, fun acc hacc bk => ?_⟩)
    exact fin [o.v] p acc bk _ (Same.upd hp) upd_same hacc (by simp) (fun x hm => ⟨o, List.mem_singleton.mp hm⟩) fil_opd
  | op f n o o2 =>
    refine ⟨_, hS, notWhole (k := 2) (show ¬ HT.sIx 4 0 (some 2) = 0 by decide), fun p hp => ⟨_, _, (Same.upd hp).seqT hS, rfl, ?_⟩⟩
    simp_arith [r_listRng, r_kget1, r_iEnumT, r_sorted, r_all, r_any, r_insert, r_count, r_popAt, r_reverse, r_extend, blkZ_K]
    refine ite_dec (fun e => absurd e (op_ne_tell hf)) (fun _ => ⟨⟨_, SqT.of upd_same⟩, fun acc hacc bk => ?_⟩)
    exact fin [o.v, o2.v] p acc bk _ (Same.upd hp) upd_same hacc (by simp) (fun x hm => by rcases List.mem_cons.mp hm with z | z; exact ⟨o, z⟩; exact ⟨o2, List.mem_singleton.mp z⟩) fil_opd2
theorem r_reads {a : Addr} {H : Hp} {Q : VK} {E : XK} : sp_reads K [.ref a] H Q E = ∃ d : FB.Deed, SqT K H a d.vs ∧ d.fine ∧ ∀ p H', Same H H' → H p = none → H' p = some (.lst (d.reads.map V.str)) → Q (.ref p) H' := propext ⟨by rintro ⟨_, d, e, q⟩; cases e; exact ⟨d, q⟩, by rintro ⟨d, q⟩; exact ⟨a, d, rfl, q⟩⟩
end

end K31
set_option Elab.async false
set_option linter.all false
set_option maxRecDepth 100000
set_option maxHeartbeats 4000000
namespace K31
open PySem L2 PyProof.Rows FA
def sp_lgap (K : PySem.W.Frag) : Sp := fun vs H Q _ => ∃ (a b : Addr) (d e : FB.Deed), vs = [.ref a, .ref b] ∧ SqT K H a d.vs ∧ SqT K H b e.vs ∧ d.fine ∧ e.fine ∧ ∀ H', Same H H' → Q (FB.optV (FB.gapD d e)) H'
section
variable {P : Program} {w : World} {K : PySem.W.Frag} {mg : Str → Option Value} {base : Heap} {t : Ad}
theorem ok_lgap (T : Txt K mg t) : FnOk P w K mg base CX0 2 t.f__law_gap t.e__law_gap ["_law_one", "_law_other"] (sp_lgap K) := by
  have G__law_reads := ok_reads (P := P) (w := w) (base := base) T
  refine T.d__law_gap.F.ok sc__law_gap (fun vs H Q E h => by obtain ⟨_, _, _, _, rfl, _⟩ := h; rfl) (fun cdv A outer s H vs Q E hr h => ?_)
  obtain ⟨a, b, d, e, rfl, hA, hB, fA, fB, q⟩ := h
  refine ⟨_,
      (XSs.h
      (xpss_cons
        (xps_if (xpt_cmpR op_eq (xpe_ix ix_tup (xqv 0 vl) xpe_int (fun _ _ => rfl)) xpe_str (nomark _))
          (xpss_one
            (xps_if (xpt_cmpR op_eq (xpe_ix ix_tup (xqv 1 vl) xpe_int (fun _ _ => rfl)) xpe_str (nomark _))
              (xpss_one
                (xps_ret xpe_int))
              xpss_nil))
          (xpss_one
            (xps_if (xpt_cmpR op_in_seq (xpe_ix ix_tup (xqv 0 vl) xpe_int (fun _ _ => rfl)) (xqe_callD T.d__law_reads G__law_reads (hr.mono (by first | decide | omega)) (xpa_cons (xqv 1 vl) xpa_nil) gl) rfl)
              (xpss_one
                (xps_ret xpe_int))
              xpss_nil)))
      (xpss_cons
        (xps_if (xpt_cmpR op_eq (xpe_ix ix_tup (xqv 1 vl) xpe_int (fun _ _ => rfl)) xpe_str (nomark _))
          (xpss_one
            (xps_ret xpe_non))
          xpss_nil)
      (xpss_cons
        (xps_if (xPW_pt (xpw_and (xpt_cmpR op_ne (xpe_ix ix_tup (xqv 0 vl) xpe_int (fun _ _ => rfl)) xpe_str (nomark _)) (xpw_and1 (xpt_cmpR op_eq (xpe_ix ix_tup (xqv 0 vl) xpe_int (fun _ _ => rfl)) (xpe_ix ix_tup (xqv 1 vl) xpe_int (fun _ _ => rfl)) (nomark _)))))
          (xpss_one
            (xps_ret xpe_int))
          xpss_nil)
      (xpss_cons
        (xps_if (xpt_cmpR op_in_seq (xpe_ix ix_tup (xqv 1 vl) xpe_int (fun _ _ => rfl)) (xqe_callD T.d__law_reads G__law_reads (hr.mono (by first | decide | omega)) (xpa_cons (xqv 0 vl) xpa_nil) gl) rfl)
          (xpss_one
            (xps_ret xpe_int))
          xpss_nil)
      (xpss_one
        (xps_ret xpe_non))))))), ?_⟩
  rw [show start _ [V.ref a, V.ref b] = [some (.ref a), some (.ref b)] from rfl]
  simp_arith [r_listRng, r_kget1, r_iEnumT, r_sorted, r_all, r_any, r_insert, r_count, r_popAt, r_reverse, r_extend, blkZ_K, r_reads]
  unfold FB.gapD at q
  refine ix0 fA hA ⟨_, rfl, ite_bool (fun e1 => ix0 fB hB ⟨_, rfl, ite_bool (fun e2 => ?_) (fun e2 => ix0 fB hB ⟨_, rfl, ?_⟩)⟩) (fun e1 => ix1 e1 hA ⟨e, hB, fB, fun p H2 s2 hp hl => ⟨_, .inl (SqL.of hl), rfl, flat_strs, ite_bool (fun e2 => ?_) (fun e2 => ix0 fB (s2.seqT hB) ⟨_, rfl, ite_bool (fun e3 => ?_) (fun e3 => ix0n fA (s2.seqT hA) ⟨_, rfl, ?_⟩)⟩)⟩⟩)⟩
  · rw [if_pos ⟨e1, e2⟩] at q; exact q H (Same.refl H)
  · rw [e2, if_neg Bool.false_ne_true]
    refine ix0n fA hA ⟨_, rfl, ?_⟩
    rw [e1]
    simp_arith [r_listRng, r_kget1, r_iEnumT, r_sorted, r_all, r_any, r_insert, r_count, r_popAt, r_reverse, r_extend, blkZ_K]
    refine ix1 e2 hB ⟨d, hA, fA, fun p H2 s2 hp hl => ⟨_, .inl (SqL.of hl), rfl, flat_strs, ?_⟩⟩
    rw [if_neg (fun z => by rw [e2] at z; exact Bool.false_ne_true z.2), wr_no e1, wr_of e2] at q
    rw [inV_str]
    refine ite_dec (fun e3 => ?_) (fun e3 => ?_)
    · rw [if_neg (by simp), if_pos ⟨_, by simp, e3⟩] at q; exact q _ s2
    · rw [if_neg (by simp), if_neg (by simpa using e3)] at q; exact q _ s2
  · rw [inV_str] at e2
    rw [if_neg (fun z => by rw [e1] at z; exact Bool.false_ne_true z.1), if_pos ⟨wr d, by rw [wr_of e1]; simp, .inl (of_decide_eq_true e2)⟩] at q
    exact q _ s2
  · rw [inV_str] at e2
    rw [if_neg (fun z => by rw [e1] at z; exact Bool.false_ne_true z.1), wr_of e1, wr_no e3, if_neg (by simpa using of_decide_eq_false e2), if_neg (by simp)] at q
    exact q _ s2
  · rw [inV_str] at e2
    rw [e1]
    simp_arith [r_listRng, r_kget1, r_iEnumT, r_sorted, r_all, r_any, r_insert, r_count, r_popAt, r_reverse, r_extend, blkZ_K]
    refine ix1 e1 (s2.seqT hA) (ix1 e3 (s2.seqT hB) ?_)
    rw [if_neg (fun z => by rw [e1] at z; exact Bool.false_ne_true z.1), wr_of e1, wr_of e3] at q
    simp_arith [r_listRng, r_kget1, r_iEnumT, r_sorted, r_all, r_any, r_insert, r_count, r_popAt, r_reverse, r_extend, blkZ_K]
    refine ite_dec (fun e4 => ?_) (fun e4 => ?_)
    · rw [if_pos ⟨_, List.mem_singleton.mpr rfl, .inr (by rw [e4]; simp)⟩] at q; exact q _ s2
    · refine ix1 e3 (s2.seqT hB) ⟨d, s2.seqT hA, fA, fun p H3 s3 hp hl => ⟨_, .inl (SqL.of hl), rfl, flat_strs, ?_⟩⟩
      rw [inV_str]
      rw [if_neg (by rintro ⟨n, hn, h⟩; rw [List.mem_singleton.mp hn] at h; exact h.elim (of_decide_eq_false e2) (fun z => e4 (List.mem_singleton.mp z)))] at q
      refine ite_dec (fun e5 => ?_) (fun e5 => ?_)
      · rw [if_pos ⟨_, List.mem_singleton.mpr rfl, e5⟩] at q; exact q _ (s2.trans s3)
      · rw [if_neg (by rintro ⟨n, hn, h⟩; rw [List.mem_singleton.mp hn] at h; exact e5 h)] at q; exact q _ (s2.trans s3)
theorem r_lgap {a b : Addr} {H : Hp} {Q : VK} {E : XK} : sp_lgap K [.ref a, .ref b] H Q E = ∃ d e : FB.Deed, SqT K H a d.vs ∧ SqT K H b e.vs ∧ d.fine ∧ e.fine ∧ ∀ H', Same H H' → Q (FB.optV (FB.gapD d e)) H' := propext ⟨by rintro ⟨_, _, d, e, z, q⟩; cases z; exact ⟨d, e, q⟩, by rintro ⟨d, e, q⟩; exact ⟨a, b, d, e, rfl, q⟩⟩
end

end K31
set_option Elab.async false
set_option linter.all false
set_option maxRecDepth 100000
set_option maxHeartbeats 4000000
namespace K31
open PySem L2 PyProof.Rows FA
def sp_deeds (K : PySem.W.Frag) : Sp := fun vs H Q _ => ∃ (a : Addr) (ns : List Int) (m b : Int), vs = [.ref a, .int m, .int b] ∧ SqL K H a (ns.map V.int) ∧ ns.length ≤ 63 ∧ (∀ z ∈ ns, Builtin.Int.intBits z ≤ 2 ^ 20) ∧ 0 ≤ m ∧ 0 ≤ b ∧
  ∀ p xs H', Same H H' → H p = none → H' p = some (.lst xs) → DeedsV K H' xs (deedsF (ns.take m.toNat) b.toNat) → Q (.ref p) H'
section
variable {P : Program} {w : World} {K : PySem.W.Frag} {mg : Str → Option Value} {base : Heap} {t : Ad}
theorem six_cut {b : Int} (h : 0 ≤ b) : cutV [V.str "a", V.str "bb", V.str "bc", V.str "dddddd", V.str "x", V.str "y"] none (some b) = (six.take b.toNat).map V.str := by
  rw [cutV_to h, List.map_take]
  rfl
theorem ok_deeds (T : Txt K mg t) : FnOk P w K mg base CX0 3 t.f__law_deeds t.e__law_deeds ["_law_cells", "_law_most", "_law_boxes"] (sp_deeds K) := by
  have G__law_mixed := ok_mixed (P := P) (w := w) (base := base) T
  have G__law_deed := ok_deed (P := P) (w := w) (base := base) T
  refine T.d__law_deeds.F.ok sc__law_deeds (fun vs H Q E h => by obtain ⟨_, _, _, _, rfl, _⟩ := h; rfl) (fun cdv A outer s H vs Q E hr h => ?_)
  obtain ⟨a, ns, m, b, rfl, hS, hl, hb, m0, b0, q⟩ := h
  refine ⟨_,
      (XSs.h
      (xpss_cons
        (xps_set (i := 3) sc__law_deeds.nd rfl ll (xpe_lst xpa_nil))
      (xpss_cons
        (xps_for PassesOwn.never rfl (xpi_enum T.z_enumerate (xpa_cons (xpe_slice sl_list (xqv 0 vl) xpo_none (xpo_some (xqv 1 vl))) xpa_nil) gl) (xpg_tup rfl (xpgs_cons (xpg_name (i := 4) sc__law_deeds.nd rfl ll) (xpgs_cons (xpg_name (i := 5) sc__law_deeds.nd rfl ll) xpgs_nil)))
          (xpss_one
            (xps_expr (xpe_bm PySem.F.plainAttrs_list PySem.F.slot_list_append PySem.F.type_list_append mt_append (xqv 3 vl) (xpa_cons (xqe_callD T.d__law_deed G__law_deed (hr.mono (by first | decide | omega)) (xpa_cons (xqe_callD T.d__law_mixed G__law_mixed (hr.mono (by first | decide | omega)) (xpa_cons (xqv 5 vl) (xpa_cons (xqv 4 vl) xpa_nil)) gl) (xpa_cons (xpe_slice sl_list (xpe_lst (xpa_const (by rfl))) xpo_none (xpo_some (xqv 2 vl))) (xpa_cons xpe_int xpa_nil))) gl) xpa_nil)))))
      (xpss_one
        (xps_ret (xqv 3 vl)))))), ?_⟩
  rw [show start _ [V.ref a, V.int m, V.int b] = [some (.ref a), some (.int m), some (.int b), none, none, none] from rfl]
  simp_arith [r_listRng, r_kget1, r_iEnumT, r_sorted, r_all, r_any, r_insert, r_count, r_popAt, r_reverse, r_extend, blkZ_K, r_deed, r_mixed]
  intro p0 hp0
  refine ⟨_, (Same.upd hp0).seq hS, fun c hc => ⟨⟨_, SqL.of upd_same⟩, ?_⟩⟩
  rw [cutV_to m0, ← List.map_take]
  have hm : ∀ z ∈ ns.take m.toNat, Builtin.Int.intBits z ≤ 2 ^ 20 := fun z hz => hb z (List.mem_of_mem_take hz)
  have hlt : (ns.take m.toNat).length ≤ 63 := by rw [List.length_take]; omega
  unfold deedsF at q
  generalize ns.take m.toNat = cs at hm hlt q hc ⊢
  have sm0 : Same H (upd (upd H p0 (.lst [])) c (.lst (cs.map V.int))) := (Same.upd hp0).updN hc
  have np : ¬ c = p0 := fun z => by rw [z, upd_same] at hc; cases hc
  refine fw_enum (xs := cs.map V.int) (fun i σ H' => Same H H' ∧ H' c = some (.lst (cs.map V.int)) ∧ (∃ xs, H' p0 = some (.lst xs) ∧ DeedsV K H' xs ((cs.take i).mapIdx fun k c => deedOf (mixed c k) (six.take b.toNat) 4)) ∧ ∃ o4 o5, σ = [some (.ref a), some (.int m), some (.int b), some (.ref p0), o4, o5])
    ⟨sm0, upd_same, ⟨[], by rw [upd_ne (fun z => np z.symm), upd_same], .nil⟩, _, _, rfl⟩ (fun i σ H' _ h => SqL.of h.2.1) ?_ ?_
  · rintro i x σ H' pp hx hpp ⟨sm, hcs, ⟨xs, hxs, hds⟩, o4, o5, rfl⟩
    rw [List.getElem?_map] at hx
    obtain ⟨n, hn, rfl⟩ := Option.map_eq_some_iff.mp hx
    have hi : i < cs.length := (List.getElem?_eq_some_iff.mp hn).1
    simp_arith [r_listRng, r_kget1, r_iEnumT, r_sorted, r_all, r_any, r_insert, r_count, r_popAt, r_reverse, r_extend, blkZ_K]
    refine ⟨_, SqT.of upd_same, rfl, ?_⟩
    simp_arith [r_listRng, r_kget1, r_iEnumT, r_sorted, r_all, r_any, r_insert, r_count, r_popAt, r_reverse, r_extend, blkZ_K, r_deed, r_mixed]
    have s1 : Same H' (upd H' pp (.tup [.int i, .int n])) := Same.upd hpp
    refine ⟨.inl ⟨rfl, xs, SqL.of (s1 _ _ hxs)⟩, hm n (List.mem_of_getElem? hn), by omega, by omega, fun p2 hp2 => ?_⟩
    have s2 := s1.updN (o := .lst [V.str "a", V.str "bb", V.str "bc", V.str "dddddd", V.str "x", V.str "y"]) hp2
    refine ⟨_, SqL.of upd_same, fun p3 hp3 => ?_⟩
    have s3 := s2.updN (o := .lst (cutV [V.str "a", V.str "bb", V.str "bc", V.str "dddddd", V.str "x", V.str "y"] none (some b))) hp3
    refine ⟨six.take b.toNat, SqL.of (by rw [upd_same, six_cut b0]), by decide, by decide, fun p4 H4 s4 hp4 hd => ?_⟩
    have s5 := s3.trans s4
    have hl3 := hds.length
    refine ⟨xs, s5 _ _ hxs, ?_, (sm.trans s5).updM hp0, by rw [upd_ne np]; exact s5 _ _ hcs, ⟨xs ++ [.ref p4], upd_same, ?_⟩, _, _, rfl⟩
    · rw [hl3, List.length_mapIdx, List.length_take, sizeLine_eq]; omega
    · rw [take_mapIdx hn]
      have t5 : TSame H' (upd H4 p0 (.lst (xs ++ [V.ref p4]))) := s5.ts.trans (TSame.updL (s5 _ _ hxs))
      refine (hds.ts t5).snoc ⟨deedOf_fine, p4, rfl, ?_⟩
      rw [deedOf_vs]
      exact (TSame.updL (s5 _ _ hxs)).seqT (SqT.of hd)
  · rintro σ H' ⟨sm, hcs, ⟨xs, hxs, hds⟩, o4, o5, rfl⟩
    simp_arith [r_listRng, r_kget1, r_iEnumT, r_sorted, r_all, r_any, r_insert, r_count, r_popAt, r_reverse, r_extend, blkZ_K]
    rw [List.length_map, List.take_length] at hds
    exact q p0 xs H' sm hp0 hxs hds
theorem r_deeds {a : Addr} {m b : Int} {H : Hp} {Q : VK} {E : XK} : sp_deeds K [.ref a, .int m, .int b] H Q E = ∃ ns : List Int, SqL K H a (ns.map V.int) ∧ ns.length ≤ 63 ∧ (∀ z ∈ ns, Builtin.Int.intBits z ≤ 2 ^ 20) ∧ 0 ≤ m ∧ 0 ≤ b ∧
  ∀ p xs H', Same H H' → H p = none → H' p = some (.lst xs) → DeedsV K H' xs (deedsF (ns.take m.toNat) b.toNat) → Q (.ref p) H' := propext ⟨by rintro ⟨_, ns, _, _, e, q⟩; cases e; exact ⟨ns, q⟩, by rintro ⟨ns, q⟩; exact ⟨a, ns, m, b, rfl, q⟩⟩
end

end K31
set_option Elab.async false
set_option linter.all false
set_option maxRecDepth 100000
set_option maxHeartbeats 4000000
namespace K31
open PySem L2 PyProof.Rows FA
def sp_law (K : PySem.W.Frag) : Sp := fun vs H Q _ => ∃ (a : Addr) (ns : List Int), vs = [.ref a] ∧ SqL K H a (ns.map V.int) ∧ ns.length ≤ 63 ∧ (∀ z ∈ ns, Builtin.Int.intBits z ≤ 2 ^ 20) ∧ ∀ H', Q (.bl true) H'

end K31
set_option Elab.async false
set_option linter.all false
set_option maxRecDepth 100000
set_option maxHeartbeats 4000000
namespace K31
open PySem L2 PyProof.Rows FA
def sortD : FB.Deed → Nat
  | .op f _ _ _ => if f ∈ (["plus", "less"] : List Str) then 0 else if f ∈ (["below", "same"] : List Str) then 1 else if f ∈ (["and", "or", "xor"] : List Str) then 2 else 3
  | _ => 3
def sp_sort (K : PySem.W.Frag) : Sp := fun vs H Q _ => ∃ (a : Addr) (d : FB.Deed), vs = [.ref a] ∧ SqT K H a d.vs ∧ ∀ H', Same H H' → Q (.int (sortD d)) H'
section
variable {P : Program} {w : World} {K : PySem.W.Frag} {mg : Str → Option Value} {base : Heap} {t : Ad}
theorem ok_sort (T : Txt K mg t) : FnOk P w K mg base CX0 1 t.f__law_sort t.e__law_sort ["_law_deed_here"] (sp_sort K) := by
  refine T.d__law_sort.F.ok sc__law_sort (fun vs H Q E h => by obtain ⟨_, _, rfl, _⟩ := h; rfl) (fun cdv A outer s H vs Q E hr h => ?_)
  obtain ⟨a, d, rfl, hS, q⟩ := h
  refine ⟨_,
      (XSs.h
      (xpss_cons
        (xps_if (xpt_cmpR op_in_seq (xpe_ix ix_tup (xqv 0 vl) xpe_int (fun _ _ => rfl)) (xpe_tup (xpa_const (by rfl))) rfl)
          (xpss_one
            (xps_ret xpe_int))
          xpss_nil)
      (xpss_cons
        (xps_if (xpt_cmpR op_in_seq (xpe_ix ix_tup (xqv 0 vl) xpe_int (fun _ _ => rfl)) (xpe_tup (xpa_const (by rfl))) rfl)
          (xpss_one
            (xps_ret xpe_int))
          xpss_nil)
      (xpss_cons
        (xps_if (xpt_cmpR op_in_seq (xpe_ix ix_tup (xqv 0 vl) xpe_int (fun _ _ => rfl)) (xpe_tup (xpa_const (by rfl))) rfl)
          (xpss_one
            (xps_ret xpe_int))
          xpss_nil)
      (xpss_one
        (xps_ret xpe_int)))))), ?_⟩
  rw [show start _ [V.ref a] = [some (.ref a)] from rfl]
  obtain ⟨f, hf, he⟩ : ∃ f : Str, atI d.vs 0 = some (.str f) ∧ sortD d = if f ∈ (["plus", "less"] : List Str) then 0 else if f ∈ (["below", "same"] : List Str) then 1 else if f ∈ (["and", "or", "xor"] : List Str) then 2 else 3 := by
    cases d with
    | tell o => exact ⟨"tell", rfl, by rw [if_neg (by decide +kernel), if_neg (by decide +kernel), if_neg (by decide +kernel)]; rfl⟩
    | copy n o => exact ⟨"copy", rfl, by rw [if_neg (by decide +kernel), if_neg (by decide +kernel), if_neg (by decide +kernel)]; rfl⟩
    | op f n o o2 => exact ⟨f, rfl, rfl⟩
  rw [he] at q
  simp_arith [r_listRng, r_kget1, r_iEnumT, r_sorted, r_all, r_any, r_insert, r_count, r_popAt, r_reverse, r_extend, blkZ_K]
  refine ⟨_, _, hS, hf, fun p hp => ⟨_, .inr (SqT.of upd_same), rfl, rfl, ?_⟩⟩
  rw [show inV (.str f) [V.str "plus", V.str "less"] = decide (f ∈ (["plus", "less"] : List Str)) from inV_str (ns := ["plus", "less"])]
  refine ite_dec (fun h => by rw [if_pos h] at q; exact q _ (Same.upd hp)) (fun h => ?_)
  rw [if_neg h] at q
  refine ⟨_, _, (Same.upd hp).seqT hS, hf, fun p2 hp2 => ⟨_, .inr (SqT.of upd_same), rfl, rfl, ?_⟩⟩
  rw [show inV (.str f) [V.str "below", V.str "same"] = decide (f ∈ (["below", "same"] : List Str)) from inV_str (ns := ["below", "same"])]
  have s2 := (Same.upd hp).trans (Same.upd (o := .tup [V.str "below", V.str "same"]) hp2)
  refine ite_dec (fun h => by rw [if_pos h] at q; exact q _ s2) (fun h => ?_)
  rw [if_neg h] at q
  refine ⟨_, _, s2.seqT hS, hf, fun p3 hp3 => ⟨_, .inr (SqT.of upd_same), rfl, rfl, ?_⟩⟩
  rw [show inV (.str f) [V.str "and", V.str "or", V.str "xor"] = decide (f ∈ (["and", "or", "xor"] : List Str)) from inV_str (ns := ["and", "or", "xor"])]
  have s3 := s2.trans (Same.upd (o := .tup [V.str "and", V.str "or", V.str "xor"]) hp3)
  exact ite_dec (fun h => by rw [if_pos h] at q; exact q _ s3) (fun h => by rw [if_neg h] at q; exact q _ s3)
theorem r_sort {a : Addr} {H : Hp} {Q : VK} {E : XK} : sp_sort K [.ref a] H Q E = ∃ d : FB.Deed, SqT K H a d.vs ∧ ∀ H', Same H H' → Q (.int (sortD d)) H' := propext ⟨by rintro ⟨_, d, e, q⟩; cases e; exact ⟨d, q⟩, by rintro ⟨d, q⟩; exact ⟨a, d, rfl, q⟩⟩
end

end K31
set_option Elab.async false
set_option linter.all false
set_option maxRecDepth 100000
set_option maxHeartbeats 4000000
namespace K31
open PySem L2 PyProof.Rows FA
def sp_gap (K : PySem.W.Frag) : Sp := fun vs H Q _ => ∃ (a : Addr) (xs : List V) (ds : List FB.Deed) (j k : Nat) (d e : FB.Deed), vs = [.ref a, .int j, .int k] ∧ SqL K H a xs ∧ DeedsV K H xs ds ∧ j < k ∧ ds[j]? = some d ∧ ds[k]? = some e ∧ ∀ H', Same H H' → Q (FB.optV (FB.gapD d e)) H'

end K31
set_option Elab.async false
set_option linter.all false
set_option maxRecDepth 100000
set_option maxHeartbeats 4000000
namespace K31
open PySem L2 PyProof.Rows FA
def sp_read (K : PySem.W.Frag) : Sp := fun vs H Q _ => ∃ (a : Addr) (d : FB.Deed), vs = [.ref a] ∧ SqT K H a d.vs ∧ d.fine ∧ ∀ p H', Same H H' → H p = none → H' p = some (.lst (d.reads.map V.str)) → Q (.ref p) H'
section
variable {P : Program} {w : World} {K : PySem.W.Frag} {mg : Str → Option Value} {base : Heap} {t : Ad}
theorem opds_reads {d : FB.Deed} : List.map id (List.filter isStrV ((opds d).map FB.Opd.v)) = d.reads.map V.str := by
  cases d with
  | tell o => exact fil_opd
  | copy n o => exact fil_opd
  | op f n o o2 => exact fil_opd2
theorem ok_read (T : Txt K mg t) : FnOk P w K mg base CX0 2 t.f_boxes_read t.e_boxes_read ["deed"] (sp_read K) := by
  have G_operands_of := ok_opds (P := P) (w := w) (base := base) T
  refine T.d_boxes_read.F.ok sc_boxes_read (fun vs H Q E h => by obtain ⟨_, _, rfl, _⟩ := h; rfl) (fun cdv A outer s H vs Q E hr h => ?_)
  obtain ⟨a, d, rfl, hS, hf, q⟩ := h
  refine ⟨_,
      (XSs.h
      (xpss_one
        (xps_ret (xpe_compG (tns := ["part"]) (cns := []) (ci := []) rfl (CompSc.of (by kernel_rfl)) (xpi_tup (xqe_callD T.d_operands_of G_operands_of (hr.mono (by first | decide | omega)) (xpa_cons (xqv 0 vl) xpa_nil) gl)) (fun _ => (xpg_name (i := 1) (show List.Nodup [(".0" : Str), ("part" : Str)] by decide +kernel) rfl ll (Or.inr (by kernel_rfl)))) (fun _ => (xpf_one (xpt_val (xqe_callB call_isi gl T.z_isinstance boot_isinstance (xpa_cons (xqv 1 vl) (xpa_cons (xqe_bltn (v := .ty "str") gl T.z_str boot_str rfl) xpa_nil)))))) (fun _ => (xqv 1 vl)))))), ?_⟩
  rw [show start _ [V.ref a] = [some (.ref a)] from rfl]
  simp_arith [r_listRng, r_kget1, r_iEnumT, r_sorted, r_all, r_any, r_insert, r_count, r_popAt, r_reverse, r_extend, blkZ_K, r_opds]
  refine ⟨d, hS, hf, fun p hp => ⟨⟨_, SqT.of upd_same⟩, fun acc hacc bk => ?_⟩⟩
  refine cg_flatT isStrV id (by rw [sizeLine_eq, List.length_map]; have := opds_len (d := d); omega) (SqT.of upd_same) hacc (fun x hm H3 Q' s3 h => ?_) (fun x hm H3 Q' s3 _ h => ?_) ?_
  · obtain ⟨o, _, rfl⟩ := List.mem_map.mp hm
    simp_arith [r_listRng, r_kget1, r_iEnumT, r_sorted, r_all, r_any, r_insert, r_count, r_popAt, r_reverse, r_extend, blkZ_K]
    exact isi_opd ⟨_, rfl, h⟩
  · simp_arith [r_listRng, r_kget1, r_iEnumT, r_sorted, r_all, r_any, r_insert, r_count, r_popAt, r_reverse, r_extend, blkZ_K]
    exact h
  · rw [opds_reads]
    exact q acc _ ((Same.upd hp).trans (Same.upd hacc)) ((Same.upd hp).free hacc) upd_same
theorem r_read {a : Addr} {H : Hp} {Q : VK} {E : XK} : sp_read K [.ref a] H Q E = ∃ d : FB.Deed, SqT K H a d.vs ∧ d.fine ∧ ∀ p H', Same H H' → H p = none → H' p = some (.lst (d.reads.map V.str)) → Q (.ref p) H' := propext ⟨by rintro ⟨_, d, e, q⟩; cases e; exact ⟨d, q⟩, by rintro ⟨d, q⟩; exact ⟨a, d, rfl, q⟩⟩
theorem inV_wr {d : FB.Deed} {ns : List Str} : inV (wrV d) (ns.map V.str) = decide (∃ n ∈ d.writes, n ∈ ns) := by
  have hn : ∀ ns : List Str, inV .non (ns.map V.str) = false := fun ns => by
    induction ns with
    | nil => rfl
    | cons m ns ih => unfold inV at ih ⊢; rw [List.map_cons, List.any_cons, ih]; rfl
  cases d with
  | tell o => show inV .non _ = _; rw [hn]; simp [FB.Deed.writes]
  | copy n o => show inV (.str n) _ = _; rw [inV_str]; simp [FB.Deed.writes]
  | op f n o o2 => show inV (.str n) _ = _; rw [inV_str]; simp [FB.Deed.writes]
theorem ok_gap (T : Txt K mg t) : FnOk P w K mg base CX0 10 t.f_gap t.e_gap ["deeds", "j", "k"] (sp_gap K) := by
  have G_boxes_read := ok_read (P := P) (w := w) (base := base) T
  have G_box_written := ok_written (P := P) (w := w) (base := base) T
  refine T.d_gap.F.ok sc_gap (fun vs H Q E h => by obtain ⟨_, _, _, _, _, _, _, rfl, _⟩ := h; rfl) (fun cdv A outer s H vs Q E hr h => ?_)
  obtain ⟨a, xs, ds, j, k, d, e, rfl, hS, hds, hjk, hd, he, q⟩ := h
  refine ⟨_,
      (XSs.h
      (xpss_cons
        (xps_set (i := 3) sc_gap.nd rfl ll (xpe_ix ix_list (xqv 0 vl) (xqv 1 vl) (fun _ _ => rfl)))
      (xpss_cons
        (xps_set (i := 4) sc_gap.nd rfl ll (xpe_ix ix_list (xqv 0 vl) (xqv 2 vl) (fun _ _ => rfl)))
      (xpss_cons
        (xps_if (xPW_pt (xpw_and (xpt_cmpR op_eq (xpe_ix ix_tup (xqv 3 vl) xpe_int (fun _ _ => rfl)) xpe_str (nomark _)) (xpw_and1 (xpt_cmpR op_eq (xpe_ix ix_tup (xqv 4 vl) xpe_int (fun _ _ => rfl)) xpe_str (nomark _)))))
          (xpss_one
            (xps_ret xpe_int))
          xpss_nil)
      (xpss_cons
        (xps_set (i := 5) sc_gap.nd rfl ll (xqe_callD T.d_box_written G_box_written (hr.mono (by first | decide | omega)) (xpa_cons (xqv 3 vl) xpa_nil) gl))
      (xpss_cons
        (xps_if (xPW_pt (xpw_and (xpt_cmpR op_notN (xqv 5 vl) xpe_non (nomark _)) (xpw_and1 (xPW_pt (xpw_or (xpt_cmpR op_in_seq (xqv 5 vl) (xqe_callD T.d_boxes_read G_boxes_read (hr.mono (by first | decide | omega)) (xpa_cons (xqv 4 vl) xpa_nil) gl) rfl) (xpw_or1 (xpt_cmpR op_eq (xqv 5 vl) (xqe_callD T.d_box_written G_box_written (hr.mono (by first | decide | omega)) (xpa_cons (xqv 4 vl) xpa_nil) gl) (nomark _))))))))
          (xpss_one
            (xps_ret xpe_int))
          xpss_nil)
      (xpss_one
        (xps_ret (xpe_ifExp (xpt_cmpR op_in_seq (xqe_callD T.d_box_written G_box_written (hr.mono (by first | decide | omega)) (xpa_cons (xqv 4 vl) xpa_nil) gl) (xqe_callD T.d_boxes_read G_boxes_read (hr.mono (by first | decide | omega)) (xpa_cons (xqv 3 vl) xpa_nil) gl) rfl) xpe_int xpe_non))))))))), ?_⟩
  rw [show start _ [V.ref a, V.int j, V.int k] = [some (.ref a), some (.int j), some (.int k), none, none, none] from rfl]
  simp_arith [r_listRng, r_kget1, r_iEnumT, r_sorted, r_all, r_any, r_insert, r_count, r_popAt, r_reverse, r_extend, blkZ_K, r_read, r_written]
  obtain ⟨x, hx, fd, qx, rfl, hqx⟩ := Paired.getR hds hd
  obtain ⟨y, hy, fe, qy, rfl, hqy⟩ := Paired.getR hds he
  refine ⟨_, _, hS, atI_nat hx, _, _, hS, atI_nat hy, ?_⟩
  simp_arith [r_listRng, r_kget1, r_iEnumT, r_sorted, r_all, r_any, r_insert, r_count, r_popAt, r_reverse, r_extend, blkZ_K, r_read, r_written]
  have fl : ∀ d : FB.Deed, flatV (wrV d) = true := fun d => by cases d <;> rfl
  have nw : ∀ d : FB.Deed, (!decide (wrV d = V.non)) = !d.tells := fun d => by cases d <;> rfl
  have last : ∀ H1, Same H H1 → ¬ (d.tells = true ∧ e.tells = true) → ¬ (∃ n ∈ d.writes, n ∈ e.reads ∨ n ∈ e.writes) → ∃ d0 : FB.Deed, SqT K H1 qy d0.vs ∧ d0.fine ∧ ∃ d1 : FB.Deed, SqT K H1 qx d1.vs ∧ d1.fine ∧
      ∀ p H2, Same H1 H2 → H1 p = none → H2 p = some (.lst (d1.reads.map V.str)) → ∃ xs, (SqL K H2 p xs ∨ SqT K H2 p xs) ∧ flatV (wrV d0) = true ∧ xs.all flatV = true ∧ if inV (wrV d0) xs = true then Q (.int 0) H2 else Q .non H2 := by
    intro H1 s1 h1 h2
    refine ⟨e, s1.seqT hqy, fe, d, s1.seqT hqx, fd, fun p H2 s2 hp hl => ⟨_, .inl (SqL.of hl), fl e, flat_strs, ?_⟩⟩
    rw [inV_wr]
    unfold FB.gapD at q
    rw [if_neg h1, if_neg h2] at q
    refine ite_dec (fun h => ?_) (fun h => ?_)
    · rw [if_pos h] at q; exact q _ (s1.trans s2)
    · rw [if_neg h] at q; exact q _ (s1.trans s2)
  have wrm : ∀ (d e : FB.Deed), d.tells = false → (wrV d = wrV e ↔ ∃ n ∈ d.writes, n ∈ e.writes) := fun d e h => by cases d <;> cases e <;> simp [wrV, FB.Deed.writes, FB.Deed.tells] at h ⊢
  refine ix0 fd hqx ⟨_, rfl, ite_bool (fun e1 => ix0 fe hqy ⟨_, rfl, ite_bool (fun e2 => ?_) (fun e2 => ?_)⟩) (fun e1 => ?_)⟩
  · unfold FB.gapD at q
    rw [if_pos ⟨e1, e2⟩] at q
    exact q H (Same.refl H)
  · have nt : ¬ (d.tells = true ∧ e.tells = true) := fun z => by rw [e2] at z; exact Bool.false_ne_true z.2
    refine ⟨d, hqx, fd, ?_⟩
    rw [nw, e1]
    refine last H (Same.refl H) nt ?_
    rw [wr_no e1]; simp
  · have nt : ¬ (d.tells = true ∧ e.tells = true) := fun z => by rw [e1] at z; exact Bool.false_ne_true z.1
    refine ⟨d, hqx, fd, ?_⟩
    rw [nw, e1]
    refine ⟨e, hqy, fe, fun p H2 s2 hp hl => ⟨_, .inl (SqL.of hl), fl d, flat_strs, ?_⟩⟩
    rw [inV_wr]
    refine ite_dec (fun h => ?_) (fun h => ⟨e, s2.seqT hqy, fe, ?_⟩)
    · unfold FB.gapD at q
      obtain ⟨n, h1, h2⟩ := h
      rw [if_neg nt, if_pos ⟨n, h1, .inl h2⟩] at q
      exact q _ s2
    refine ⟨by cases d <;> cases e <;> rfl, _, rfl, ite_dec (fun h2 => ?_) (fun h2 => ?_)⟩
    · unfold FB.gapD at q
      obtain ⟨n, h3, h4⟩ := (wrm d e e1).mp h2
      rw [if_neg nt, if_pos ⟨n, h3, .inr h4⟩] at q
      exact q _ s2
    · refine last H2 s2 nt ?_
      rintro ⟨n, h3, h4 | h4⟩
      · exact h ⟨n, h3, h4⟩
      · exact h2 ((wrm d e e1).mpr ⟨n, h3, h4⟩)
end

end K31
set_option Elab.async false
set_option linter.all false
set_option maxRecDepth 100000
set_option maxHeartbeats 4000000
namespace K31
open PySem L2 PyProof.Rows FA
def sV (d : FB.Deed) : V := if sortD d < 3 then .int (sortD d) else .non
def dAtI (ds : List FB.Deed) (p : Int) : FB.Deed := ds.getD p.toNat (.tell (.word 0))
def cnt (ds : List FB.Deed) (b : List Int) (s : Nat) : Nat := b.countP fun p => decide (sortD (dAtI ds p) = s)
def loadB (ds : List FB.Deed) (us : List Int) (b : List Int) : Bool := (List.range 3).all fun s => decide ((cnt ds b s : Int) ≤ us.getD s 0)
def fS (ds : List FB.Deed) : V → V
  | .int p => sV (dAtI ds p)
  | _ => .non
theorem sorts_at {d : FB.Deed} (h : d.fine) : ∃ f : Str, atI d.vs 0 = some (.str f) ∧ (valV kvs_SORTS (.inr f)).getD .non = sV d := by
  cases d with
  | tell o => exact ⟨"tell", rfl, by kernel_rfl⟩
  | copy n o => exact ⟨"copy", rfl, by kernel_rfl⟩
  | op f n o o2 =>
    refine ⟨f, rfl, ?_⟩
    have h : f ∈ FB.opsL := h
    simp only [FB.opsL, List.mem_cons, List.not_mem_nil, or_false] at h
    rcases h with rfl | rfl | rfl | rfl | rfl | rfl | rfl <;> kernel_rfl
theorem eq_sV {d : FB.Deed} {s : Nat} (h : s < 3) : eqV (sV d) (.int s) = decide (sortD d = s) := by
  unfold sV
  split
  · rw [FL.eqV_int, Bool.eq_iff_iff, decide_eq_true_iff, decide_eq_true_iff]; omega
  · rw [decide_eq_false (by omega)]; rfl
theorem cnt_eq {ds : List FB.Deed} {b : List Int} {s : Nat} (h : s < 3) : cntV (.int s) ((b.map V.int).map (fS ds)) = cnt ds b s := by
  unfold cntV cnt
  rw [List.map_map, List.countP_map]
  apply List.countP_congr
  intro p _
  show eqV (sV (dAtI ds p)) (.int s) = true ↔ _
  rw [eq_sV h]
def sp_sortof (K : PySem.W.Frag) : Sp := fun vs H Q _ => ∃ (a : Addr) (d : FB.Deed), vs = [.ref a] ∧ SqT K H a d.vs ∧ d.fine ∧ Q (sV d) H
def sp_units (K : PySem.W.Frag) : Sp := fun vs H Q _ => ∃ (a b c : Addr) (xs : List V) (ds : List FB.Deed) (us bt : List Int), vs = [.ref a, .ref b, .ref c] ∧ SqL K H a xs ∧ DeedsV K H xs ds ∧ SqT K H b (us.map V.int) ∧ us.length = 3 ∧ SqL K H c (bt.map V.int) ∧ bt.length ≤ 1000 ∧ (∀ p ∈ bt, 0 ≤ p ∧ p < ds.length) ∧
  ∀ H', Same H H' → Q (.bl (loadB ds us bt)) H'
section
variable {P : Program} {w : World} {K : PySem.W.Frag} {mg : Str → Option Value} {base : Heap} {t : Ad}
theorem ok_sortof (T : Txt K mg t) (hw : t.pr = w.params) : FnOk P w K mg base CX0 1 t.f_sort_of t.e_sort_of ["deed"] (sp_sortof K) := by
  refine T.d_sort_of.F.ok sc_sort_of (fun vs H Q E h => by obtain ⟨_, _, rfl, _⟩ := h; rfl) (fun cdv A outer s H vs Q E hr h => ?_)
  obtain ⟨a, d, rfl, hS, hf, q⟩ := h
  refine ⟨_,
      (XSs.h
      (xpss_one
        (xps_ret (xqe_kget1 hw T.k_SORTS T.g_SORTS gl (xpe_ix ix_tup (xqv 0 vl) xpe_int (fun _ _ => rfl)) ⟨rfl, rfl, rfl, rfl⟩)))), ?_⟩
  rw [show start _ [V.ref a] = [some (.ref a)] from rfl]
  simp_arith [r_listRng, r_kget1, r_iEnumT, r_sorted, r_all, r_any, r_insert, r_count, r_popAt, r_reverse, r_extend, blkZ_K]
  obtain ⟨f, hf0, hv⟩ := sorts_at hf
  refine ⟨_, _, hS, hf0, .inr f, rfl, ?_⟩
  rw [hv]
  exact q
theorem r_sortof {a : Addr} {H : Hp} {Q : VK} {E : XK} : sp_sortof K [.ref a] H Q E = ∃ d : FB.Deed, SqT K H a d.vs ∧ d.fine ∧ Q (sV d) H := propext ⟨by rintro ⟨_, d, e, q⟩; cases e; exact ⟨d, q⟩, by rintro ⟨d, q⟩; exact ⟨a, d, rfl, q⟩⟩
theorem dAt_get {xs : List V} {ds : List FB.Deed} {H : Hp} {p : Int} (hds : DeedsV K H xs ds) (h : 0 ≤ p ∧ p < ds.length) : ∃ q, atI xs p = some (.ref q) ∧ SqT K H q (dAtI ds p).vs ∧ (dAtI ds p).fine := by
  have lx := hds.length
  obtain ⟨n, rfl⟩ := Int.eq_ofNat_of_zero_le h.1
  obtain ⟨x, hx⟩ : ∃ x, xs[n]? = some x := ⟨_, List.getElem?_eq_getElem (by omega)⟩
  obtain ⟨d, hd, fd, qx, rfl, hqx⟩ := Paired.get hds hx
  have e : dAtI ds n = d := by unfold dAtI; rw [Int.toNat_natCast, List.getD_eq_getElem?_getD, hd]; rfl
  rw [e]
  exact ⟨qx, atI_nat hx, hqx, fd⟩
theorem ok_units (T : Txt K mg t) (hw : t.pr = w.params) : FnOk P w K mg base CX0 2 t.f_keeps_units t.e_keeps_units ["deeds", "units", "beat"] (sp_units K) := by
  have G_sort_of := ok_sortof (P := P) (base := base) T hw
  refine T.d_keeps_units.F.ok sc_keeps_units (fun vs H Q E h => by obtain ⟨_, _, _, _, _, _, _, rfl, _⟩ := h; rfl) (fun cdv A outer s H vs Q E hr h => ?_)
  obtain ⟨a, b, c, xs, ds, us, bt, rfl, hS, hds, hU, h3, hB, h64, hp, q⟩ := h
  refine ⟨_,
      (XSs.h
      (xpss_cons
        (xps_set (i := 3) sc_keeps_units.nd rfl lc (xpe_compG (tns := ["place"]) (cns := ["deeds"]) (ci := [0]) rfl (CompSc.of (by kernel_rfl)) (xpi_list (xqv 2 vl)) (fun _ => (xpg_name (i := 1) (show List.Nodup [(".0" : Str), ("place" : Str), ("deeds" : Str)] by decide +kernel) rfl ll (Or.inr (by kernel_rfl)))) (fun _ => xpf_nil) (fun _ => (xqe_callD T.d_sort_of G_sort_of (hr.mono (by first | decide | omega)) (xpa_cons (xpe_ix ix_list (xqv 2 vc) (xqv 1 vl) (fun _ _ => rfl)) xpa_nil) gl))))
      (xpss_one
        (xps_ret (xqe_callB (call_all rfl) gl T.z_all boot_all (xpa_cons (xpe_compG (tns := ["sort", "most"]) (cns := ["sorts"]) (ci := [3]) rfl (CompSc.of (by kernel_rfl)) (xpi_enumT T.z_enumerate (xpa_cons (xqv 1 vl) xpa_nil) gl) (fun _ => (xpg_tup rfl (xpgs_cons (xpg_name (i := 1) (show List.Nodup [(".0" : Str), ("sort" : Str), ("most" : Str), ("sorts" : Str)] by decide +kernel) rfl ll (Or.inr (by kernel_rfl))) (xpgs_cons (xpg_name (i := 2) (show List.Nodup [(".0" : Str), ("sort" : Str), ("most" : Str), ("sorts" : Str)] by decide +kernel) rfl ll (Or.inr (by kernel_rfl))) xpgs_nil)))) (fun _ => xpf_nil) (fun _ => (xpe_cmpR op_le (xpe_bm PySem.F.plainAttrs_list PySem.F.slot_list_count PySem.F.type_list_count mt_count (xqv 3 vc) (xpa_cons (xqv 1 vl) xpa_nil)) (xqv 2 vl) (nomark _)))) xpa_nil)))))), ?_⟩
  rw [show start _ [V.ref a, V.ref b, V.ref c] = [some (.ref a), some (.ref b), some (.ref c), none] from rfl]
  simp_arith [r_listRng, r_kget1, r_iEnumT, r_sorted, r_all, r_any, r_insert, r_count, r_popAt, r_reverse, r_extend, blkZ_K, r_sortof]
  refine ⟨⟨_, hB⟩, fun acc hacc bk => ?_⟩
  refine cg_sameL (fun _ => true) (fS ds) (by rw [List.length_map, sizeLine_eq]; omega) hB hacc (fun x _ H2 Q' s2 h => h H2 (Same.refl _)) (fun x hx H2 Q' s2 _ h => ?_) fun H2 s2 hacc2 => ?_
  · obtain ⟨p, hpm, rfl⟩ := List.mem_map.mp hx
    obtain ⟨qx, h1, h2, h4⟩ := dAt_get (hds.ts s2.ts) (hp p hpm)
    simp_arith [r_listRng, r_kget1, r_iEnumT, r_sorted, r_all, r_any, r_insert, r_count, r_popAt, r_reverse, r_extend, blkZ_K, r_sortof]
    refine ⟨_, _, s2.seq hS, h1, ?_⟩
    simp_arith [r_listRng, r_kget1, r_iEnumT, r_sorted, r_all, r_any, r_insert, r_count, r_popAt, r_reverse, r_extend, blkZ_K, r_sortof]
    exact ⟨_, h2, h4, h H2 (Same.refl _)⟩
  rw [filter_yes] at hacc2
  refine ⟨⟨_, s2.seqT hU⟩, fun acc2 hacc3 bk2 => ?_⟩
  refine cg_enumT (xs := us.map V.int) (fun i ys H' => Same H2 H' ∧ H' acc2 = some (.lst ys) ∧ ys = ((List.range i).map fun s => decide ((cnt ds bt s : Int) ≤ us.getD s 0)).map V.bl) ⟨Same.upd hacc3, upd_same, rfl⟩ (fun i ys H' _ h => (s2.trans h.1).seqT hU) ?_ ?_
  · rintro i x ys H' os p hx ho hpn ⟨sm, e1, ly⟩
    rw [List.getElem?_map] at hx
    obtain ⟨u, hu, rfl⟩ := Option.map_eq_some_iff.mp hx
    have hi : i < 3 := by have := (List.getElem?_eq_some_iff.mp hu).1; omega
    match os, ho with
    | [o, o'], _ =>
      simp_arith [r_listRng, r_kget1, r_iEnumT, r_sorted, r_all, r_any, r_insert, r_count, r_popAt, r_reverse, r_extend, blkZ_K]
      refine ⟨_, SqT.of upd_same, rfl, ?_⟩
      simp_arith [r_listRng, r_kget1, r_iEnumT, r_sorted, r_all, r_any, r_insert, r_count, r_popAt, r_reverse, r_extend, blkZ_K]
      have sp : Same H' (upd H' p (.tup [.int i, .int u])) := Same.upd hpn
      refine ⟨⟨[some (.int i), some (.int u)], rfl, rfl⟩, ?_⟩
      refine ⟨.inl ⟨rfl, _, SqL.of (sp _ _ (sm _ _ hacc2))⟩, _, SqL.of (sp _ _ (sm _ _ hacc2)), rfl, ?_, ?_⟩
      · rw [List.all_eq_true]
        intro y hy
        obtain ⟨z, hz, rfl⟩ := List.mem_map.mp hy
        obtain ⟨p, _, rfl⟩ := List.mem_map.mp hz
        show flatV (sV _) = true
        unfold sV
        split <;> rfl
      rw [cnt_eq hi]
      refine ⟨sp _ _ e1, ?_, (sm.trans sp).updM hacc3, upd_same, ?_⟩
      · rw [ly, List.length_map, List.length_map, List.length_range, sizeLine_eq]; omega
      · rw [ly, List.range_succ, List.map_append, List.map_append, List.map_singleton, List.map_singleton, show us.getD i 0 = u by rw [List.getD_eq_getElem?_getD, hu]; rfl]
  · rintro ys H' ⟨sm, e1, ly⟩
    rw [List.length_map, h3] at ly
    refine ⟨_, SqL.of (by rw [e1, ly]), ?_⟩
    have z := q H' (s2.trans sm)
    rw [show loadB ds us bt = List.all ((List.range 3).map fun s => decide ((cnt ds bt s : Int) ≤ us.getD s 0)) id by unfold loadB; rw [List.all_map]; rfl] at z
    exact z
theorem r_units {a b c : Addr} {H : Hp} {Q : VK} {E : XK} : sp_units K [.ref a, .ref b, .ref c] H Q E = ∃ (xs : List V) (ds : List FB.Deed) (us bt : List Int), SqL K H a xs ∧ DeedsV K H xs ds ∧ SqT K H b (us.map V.int) ∧ us.length = 3 ∧ SqL K H c (bt.map V.int) ∧ bt.length ≤ 1000 ∧ (∀ p ∈ bt, 0 ≤ p ∧ p < ds.length) ∧
  ∀ H', Same H H' → Q (.bl (loadB ds us bt)) H' := propext ⟨by rintro ⟨_, _, _, xs, ds, us, bt, e, q⟩; cases e; exact ⟨xs, ds, us, bt, q⟩, by rintro ⟨xs, ds, us, bt, q⟩; exact ⟨a, b, c, xs, ds, us, bt, rfl, q⟩⟩
end

end K31
set_option Elab.async false
set_option linter.all false
set_option maxRecDepth 100000
set_option maxHeartbeats 4000000
namespace K31
open PySem L2 PyProof.Rows FA
def sp_places (K : PySem.W.Frag) : Sp := fun vs H Q _ => ∃ (n : Nat) (a : Addr) (bss : List (List Int)), vs = [.int n, .ref a] ∧ FL.BsV H a bss ∧ bss.flatten.length < 64 ∧ bss.length ≤ 1000 ∧ n ≤ 1000 ∧ ∀ H', Same H H' → Q (.bl (decide (FL.PlacesP n bss))) H'
section
variable {P : Program} {w : World} {K : PySem.W.Frag} {mg : Str → Option Value} {base : Heap} {t : Ad}
theorem ok_places (T : Txt K mg t) : FnOk P w K mg base CX0 1 t.f_keeps_places t.e_keeps_places ["many", "beats"] (sp_places K) := by
  refine T.d_keeps_places.F.ok sc_keeps_places (fun vs H Q E h => by obtain ⟨_, _, _, rfl, _⟩ := h; rfl) (fun cdv A outer s H vs Q E hr h => ?_)
  obtain ⟨n, a, bss, rfl, ⟨ps, hA, hps⟩, h64, hlen, hn, q⟩ := h
  have lps := hps.length
  refine ⟨_,
      (XSs.h
      (xpss_cons
        (xps_set (i := 2) sc_keeps_places.nd rfl ll (xpe_lst xpa_nil))
      (xpss_cons
        (xps_for PassesOwn.never rfl (xpi_list (xqv 1 vl)) (xpg_name (i := 3) sc_keeps_places.nd rfl ll)
          (xpss_cons
            (xps_if (xPW_pt (xpw_or (xpt_cmpR (op_eqD (n := 0) (hu_n (by decide) hr)) (xqv 3 vl) (xpe_lst xpa_nil) (nomark _)) (xpw_or1 (xpt_cmpR (op_neD (n := 0) (hu_n (by decide) hr)) (xqv 3 vl) (xqe_callB call_sorted gl T.z_sorted boot_sorted (xpa_cons (xqv 3 vl) xpa_nil)) (nomark _)))))
              (xpss_one
                (xps_ret xpe_bl))
              xpss_nil)
          (xpss_one
            (xps_expr (xpe_bm PySem.F.plainAttrs_list PySem.F.slot_list_extend PySem.F.type_list_extend mt_extend (xqv 2 vl) (xpa_cons (xqv 3 vl) xpa_nil))))))
      (xpss_one
        (xps_ret (xpe_cmpR (op_eqD (n := 0) (hu_n (by decide) hr)) (xqe_callB call_sorted gl T.z_sorted boot_sorted (xpa_cons (xqv 2 vl) xpa_nil)) (xpe_listRng rfl T.z_list T.z_range (xpa_cons (xqv 0 vl) xpa_nil) gl gl) (nomark _))))))), ?_⟩
  rw [show start _ [V.int n, V.ref a] = [some (.int n), some (.ref a), none, none] from rfl]
  simp_arith [r_listRng, r_kget1, r_iEnumT, r_sorted, r_all, r_any, r_insert, r_count, r_popAt, r_reverse, r_extend, blkZ_K]
  intro pl hpl
  have s1 : Same H (upd H pl (.lst [])) := Same.upd hpl
  refine ⟨⟨_, SqL.of (s1 _ _ hA)⟩, ?_⟩
  refine fw_list (xs := ps.map V.ref) (fun i σ H' => Same H H' ∧ H' pl = some (.lst ((bss.take i).flatten.map V.int)) ∧ (∀ b ∈ bss.take i, FL.GoodP b) ∧ ∃ o, σ = [some (.int n), some (.ref a), some (.ref pl), o])
    ⟨s1, by rw [upd_same]; rfl, by simp, _, rfl⟩ (fun i σ H' _ h => SqL.of (h.1 _ _ hA)) ?_ ?_
  · rintro i x σ H' hx ⟨sm, hpl', hg, o, rfl⟩
    rw [List.getElem?_map] at hx
    obtain ⟨p, hpx, rfl⟩ := Option.map_eq_some_iff.mp hx
    obtain ⟨b, hb, hpb⟩ := Paired.get hps hpx
    have hbl := FL.len_le_flat (List.mem_of_getElem? hb)
    simp_arith [r_listRng, r_kget1, r_iEnumT, r_sorted, r_all, r_any, r_insert, r_count, r_popAt, r_reverse, r_extend, blkZ_K]
    intro p1 hp1
    have s2 := Same.upd (o := .lst []) hp1
    have e2 := s2 _ _ (sm _ _ hpb)
    refine ⟨_, FL.rq_ints (ys := []) (SqL.of e2) (SqL.of upd_same), ?_⟩
    have bad : ¬ FL.GoodP b → decide (FL.PlacesP n bss) = false := fun z => decide_eq_false fun w' => z (w'.good b (List.mem_of_getElem? hb))
    refine ⟨_, rfl, ite_dec (fun e => ?_) (fun e => ?_)⟩
    · rw [if_pos trivial]
      have z := q _ (sm.trans s2)
      rw [bad fun w' => w'.1 e] at z
      exact z
    refine ⟨b, SqL.of e2, by omega, fun l ns' hl1 pm pw => ⟨_, FL.rq_ints (ys := ns') (SqL.of (Same.upd hl1 _ _ e2)) (SqL.of upd_same), _, rfl, ?_⟩⟩
    have s3 := s2.updN (o := .lst (ns'.map V.int)) hl1
    refine ite_ndec (fun e3 => ?_) (fun e3 => ?_)
    · have z := q _ (sm.trans s3)
      rw [bad fun w' => e3 ((FL.sorted_eq pm pw).mpr w'.2)] at z
      exact z
    have e4 := s3 _ _ hpl'
    refine ⟨.inl ⟨rfl, _, SqL.of e4⟩, _, _, e4, s3 _ _ (sm _ _ hpb), ?_, (sm.trans s3).updM hpl, ?_, ?_, _, rfl⟩
    · have h5 : ((bss.take i).flatten ++ b).length ≤ bss.flatten.length := by
        rw [← FL.take_flat hb]
        have e5 : bss.flatten = (bss.take (i + 1)).flatten ++ (bss.drop (i + 1)).flatten := by rw [← List.flatten_append, List.take_append_drop]
        rw [e5, List.length_append]; omega
      rw [List.length_append] at h5
      rw [List.length_map, List.length_map, sizeLine_eq]; omega
    · rw [upd_same, FL.take_flat hb, List.map_append]
    · intro c hc
      obtain ⟨hi, ei⟩ := List.getElem?_eq_some_iff.mp hb
      rw [List.take_succ_eq_append_getElem hi, ei, List.mem_append, List.mem_singleton] at hc
      rcases hc with hc | rfl
      · exact hg c hc
      · exact ⟨e, (FL.sorted_eq pm pw).mp e3⟩
  · rintro σ H' ⟨sm, hpl', hg, o, rfl⟩
    simp_arith [r_listRng, r_kget1, r_iEnumT, r_sorted, r_all, r_any, r_insert, r_count, r_popAt, r_reverse, r_extend, blkZ_K]
    rw [List.length_map, lps, List.take_length] at hpl' hg
    refine ⟨_, SqL.of hpl', h64, fun l ns' hl1 pm pw => ⟨n, rfl, hn, fun l2 hl2 => ?_⟩⟩
    have s3 := (Same.upd (o := .lst (ns'.map V.int)) hl1).updN (o := .lst ((List.range n).map fun i : Nat => V.int i)) hl2
    have er : (List.range n).map (fun i : Nat => V.int i) = (FL.rangeI n).map V.int := by unfold FL.rangeI; rw [List.map_map]; rfl
    refine ⟨_, FL.rq_ints (xs := ns') (ys := FL.rangeI n) (SqL.of (Same.upd hl2 _ _ upd_same)) (SqL.of (by rw [upd_same, er])), ?_⟩
    have z := q _ (sm.trans s3)
    rw [show decide (FL.PlacesP n bss) = decide (ns' = FL.rangeI n) by
      rw [Bool.eq_iff_iff, decide_eq_true_iff, decide_eq_true_iff, FL.sorted_range pm pw]
      exact ⟨fun h => h.perm, fun h => ⟨hg, h⟩⟩] at z
    exact z
theorem r_places {i : Int} {a : Addr} {H : Hp} {Q : VK} {E : XK} : sp_places K [.int i, .ref a] H Q E = ∃ (n : Nat) (bss : List (List Int)), i = n ∧ FL.BsV H a bss ∧ bss.flatten.length < 64 ∧ bss.length ≤ 1000 ∧ n ≤ 1000 ∧ ∀ H', Same H H' → Q (.bl (decide (FL.PlacesP n bss))) H' := propext ⟨by rintro ⟨n, _, bss, e, q⟩; cases e; exact ⟨n, bss, rfl, q⟩, by rintro ⟨n, bss, rfl, q⟩; exact ⟨n, a, bss, rfl, q⟩⟩
end

end K31
set_option Elab.async false
set_option linter.all false
set_option maxRecDepth 100000
set_option maxHeartbeats 4000000
namespace K31
open PySem L2 PyProof.Rows FA
def gapN (ds : List FB.Deed) (j k : Nat) : Option Int := match ds[j]?, ds[k]? with
  | some d, some e => FB.gapD d e
  | _, _ => none

end K31
set_option Elab.async false
set_option linter.all false
set_option maxRecDepth 100000
set_option maxHeartbeats 4000000
namespace K31
open PySem L2 PyProof.Rows FA
def leanOk (ds : List FB.Deed) (bss : List (List Int)) (j k : Nat) : Bool := match gapN ds j k with
  | none => true
  | some g => !decide (FL.atF bss k < FL.atF bss j + g)
def leanB (ds : List FB.Deed) (bss : List (List Int)) : Bool := (List.range ds.length).all fun k => (List.range k).all fun j => leanOk ds bss j k
theorem leanB_false {ds : List FB.Deed} {bss : List (List Int)} {j k : Nat} (hk : k < ds.length) (hj : j < k) (h : leanOk ds bss j k = false) : leanB ds bss = false := by
  unfold leanB
  rw [List.all_eq_false]
  refine ⟨k, List.mem_range.mpr hk, ?_⟩
  rw [Bool.not_eq_true, List.all_eq_false]
  exact ⟨j, List.mem_range.mpr hj, by rw [h]; simp⟩
theorem leanB_true {ds : List FB.Deed} {bss : List (List Int)} (h : ∀ k, k < ds.length → ∀ j, j < k → leanOk ds bss j k = true) : leanB ds bss = true := by
  unfold leanB
  rw [List.all_eq_true]
  intro k hk
  rw [List.all_eq_true]
  intro j hj
  exact h k (List.mem_range.mp hk) j (List.mem_range.mp hj)
def sp_leanings (K : PySem.W.Frag) : Sp := fun vs H Q _ => ∃ (a b : Addr) (xs : List V) (ds : List FB.Deed) (bss : List (List Int)), vs = [.ref a, .ref b] ∧ SqL K H a xs ∧ DeedsV K H xs ds ∧ ds.length ≤ 1000 ∧ FL.BsV H b bss ∧ FL.PlacesP ds.length bss ∧ bss.length ≤ 1000 ∧
  ∀ H', Same H H' → Q (.bl (leanB ds bss)) H'
section
variable {P : Program} {w : World} {K : PySem.W.Frag} {mg : Str → Option Value} {base : Heap} {t : Ad}
theorem ok_leanings (T : Txt K mg t) : FnOk P w K mg base CX0 11 t.f_keeps_leanings t.e_keeps_leanings ["deeds", "beats"] (sp_leanings K) := by
  have G_gap := ok_gap (P := P) (w := w) (base := base) T
  refine T.d_keeps_leanings.F.ok sc_keeps_leanings (fun vs H Q E h => by obtain ⟨_, _, _, _, _, rfl, _⟩ := h; rfl) (fun cdv A outer s H vs Q E hr h => ?_)
  obtain ⟨a, b, xs, ds, bss, rfl, hS, hds, hdl, ⟨ps, hB, hps⟩, hP, hbl, q⟩ := h
  have hu := hu_of hr
  have lps := hps.length
  have lx := hds.length
  refine ⟨_,
      (XSs.h
      (xpss_cons
        (xps_set (i := 2) sc_keeps_leanings.nd rfl ll xpe_dnewK)
      (xpss_cons
        (xps_for PassesOwn.never rfl (xpi_enum T.z_enumerate (xpa_cons (xqv 1 vl) xpa_nil) gl) (xpg_tup rfl (xpgs_cons (xpg_name (i := 3) sc_keeps_leanings.nd rfl ll) (xpgs_cons (xpg_name (i := 4) sc_keeps_leanings.nd rfl ll) xpgs_nil)))
          (xpss_one
            (xps_for PassesOwn.never rfl (xpi_list (xqv 4 vl)) (xpg_name (i := 5) sc_keeps_leanings.nd rfl ll)
              (xpss_one
                (xps_dput hu (xqv 2 vl) (xqv 5 vl) (xqv 3 vl) rfl)))))
      (xpss_cons
        (xps_for PassesOwn.never rfl (xpi_range1 gl T.z_range (xpa_cons (xqe_callB call_len_seq gl T.z_len PySem.boot_len (xpa_cons (xqv 0 vl) xpa_nil)) xpa_nil)) (xpg_name (i := 6) sc_keeps_leanings.nd rfl ll)
          (xpss_one
            (xps_for PassesOwn.never rfl (xpi_range1 gl T.z_range (xpa_cons (xqv 6 vl) xpa_nil)) (xpg_name (i := 7) sc_keeps_leanings.nd rfl ll)
              (xpss_cons
                (xps_set (i := 8) sc_keeps_leanings.nd rfl ll (xqe_callD T.d_gap G_gap (hr.mono (by first | decide | omega)) (xpa_cons (xqv 0 vl) (xpa_cons (xqv 7 vl) (xpa_cons (xqv 6 vl) xpa_nil))) gl))
              (xpss_one
                (xps_if (xPW_pt (xpw_and (xpt_cmpR op_notN (xqv 8 vl) xpe_non (nomark _)) (xpw_and1 (xpt_cmpR op_lt (xpe_dget hu (xqv 2 vl) (xqv 6 vl) (fun _ _ => rfl)) (xpe_op op_add (xpe_dget hu (xqv 2 vl) (xqv 7 vl) (fun _ _ => rfl)) (xqv 8 vl)) (nomark _)))))
                  (xpss_one
                    (xps_ret xpe_bl))
                  xpss_nil))))))
      (xpss_one
        (xps_ret xpe_bl)))))), ?_⟩
  rw [show start _ [V.ref a, V.ref b] = [some (.ref a), some (.ref b), none, none, none, none, none, none, none] from rfl]
  simp_arith [r_listRng, r_kget1, r_iEnumT, r_sorted, r_all, r_any, r_insert, r_count, r_popAt, r_reverse, r_extend, blkZ_K]
  intro d hd
  have s1 : Same H (upd H d (.dK [])) := Same.upd hd
  refine ⟨⟨_, SqL.of (s1 _ _ hB)⟩, ?_⟩
  refine fw_enum (xs := ps.map V.ref) (fun i σ H' => Same H H' ∧ H' d = some (.dK (FL.dFrom 0 (bss.take i))) ∧ ∃ o3 o4 o5, σ = [some (.ref a), some (.ref b), some (.ref d), o3, o4, o5, none, none, none])
    ⟨s1, by rw [upd_same]; rfl, _, _, _, rfl⟩ (fun i σ H' _ h => SqL.of (h.1 _ _ hB)) ?_ ?_
  · rintro i x σ H1 pp hx hpp ⟨sm, hd1, o3, o4, o5, rfl⟩
    rw [List.getElem?_map] at hx
    obtain ⟨p, hpx, rfl⟩ := Option.map_eq_some_iff.mp hx
    obtain ⟨bt, hb, hpb⟩ := Paired.get hps hpx
    simp_arith [r_listRng, r_kget1, r_iEnumT, r_sorted, r_all, r_any, r_insert, r_count, r_popAt, r_reverse, r_extend, blkZ_K]
    refine ⟨_, SqT.of upd_same, rfl, ?_⟩
    have s2 := Same.upd (o := .tup [.int i, .ref p]) hpp
    have sm2 := sm.trans s2
    simp_arith [r_listRng, r_kget1, r_iEnumT, r_sorted, r_all, r_any, r_insert, r_count, r_popAt, r_reverse, r_extend, blkZ_K]
    refine ⟨⟨_, SqL.of (sm2 _ _ hpb)⟩, ?_⟩
    refine fw_list (xs := bt.map V.int) (fun j σ H' => Same H H' ∧ H' d = some (.dK (FL.dAt bss i bt j)) ∧ ∃ o5, σ = [some (.ref a), some (.ref b), some (.ref d), some (.int i), some (.ref p), o5, none, none, none])
      ⟨sm2, by rw [FL.dAt_zero]; exact s2 _ _ hd1, _, rfl⟩ (fun j σ H' _ h => SqL.of (h.1 _ _ hpb)) ?_ ?_
    · rintro j x σ H2 hx ⟨s3, hd2, o5, rfl⟩
      rw [List.getElem?_map] at hx
      obtain ⟨z, hz, rfl⟩ := Option.map_eq_some_iff.mp hx
      simp_arith [r_listRng, r_kget1, r_iEnumT, r_sorted, r_all, r_any, r_insert, r_count, r_popAt, r_reverse, r_extend, blkZ_K]
      refine ⟨_, DPut.k (k := .inl z) hd2 ?_, s3.updM hd, ?_, _, rfl⟩
      · have := FL.dAt_len (j := j) hb
        rw [hP.len] at this
        rw [sizeLine_eq]; omega
      · rw [upd_same, FL.dAt_put hz (FL.fresh_at hb hz hP.nodup)]
    · rintro σ H2 ⟨s3, hd2, o5, rfl⟩
      rw [List.length_map, FL.dAt_all hb] at hd2
      exact ⟨s3, hd2, _, _, _, rfl⟩
  · rintro σ H1 ⟨sm, hd1, o3, o4, o5, rfl⟩
    rw [List.length_map, lps, List.take_length] at hd1
    simp_arith [r_listRng, r_kget1, r_iEnumT, r_sorted, r_all, r_any, r_insert, r_count, r_popAt, r_reverse, r_extend, blkZ_K]
    refine ⟨xs, .inl (sm.seq hS), by omega, by omega, ?_⟩
    rw [Int.toNat_natCast, lx]
    have val : ∀ k : Nat, k < ds.length → ∀ H', H' d = some (.dK (FL.dFrom 0 bss)) → DGet H' d (.int k) (some (.int (FL.atF bss k))) := fun k hk H' e => .inl ⟨_, .inl k, .inl e, rfl, (FL.atF_val (hP.mem.mpr (by omega))).symm⟩
    refine fw_range0 (fun k σ H' => Same H H' ∧ H' d = some (.dK (FL.dFrom 0 bss)) ∧ (∀ k', k' < k → ∀ j, j < k' → leanOk ds bss j k' = true) ∧ ∃ o6 o7 o8, σ = [some (.ref a), some (.ref b), some (.ref d), o3, o4, o5, o6, o7, o8]) ⟨sm, hd1, (fun _ z => absurd z (Nat.not_lt_zero _)), _, _, _, rfl⟩ ?_ ?_
    · rintro k σ H2 hk ⟨s2, hd2, hok, o6, o7, o8, rfl⟩
      simp_arith [r_listRng, r_kget1, r_iEnumT, r_sorted, r_all, r_any, r_insert, r_count, r_popAt, r_reverse, r_extend, blkZ_K]
      refine ⟨by omega, by omega, ?_⟩
      rw [Int.toNat_natCast]
      refine fw_range0 (fun j σ H' => Same H H' ∧ H' d = some (.dK (FL.dFrom 0 bss)) ∧ (∀ j', j' < j → leanOk ds bss j' k = true) ∧ ∃ o7 o8, σ = [some (.ref a), some (.ref b), some (.ref d), o3, o4, o5, some (.int k), o7, o8]) ⟨s2, hd2, (fun _ z => absurd z (Nat.not_lt_zero _)), _, _, rfl⟩ ?_ ?_
      · rintro j σ H3 hj ⟨s3, hd3, hok2, o7, o8, rfl⟩
        simp_arith [r_listRng, r_kget1, r_iEnumT, r_sorted, r_all, r_any, r_insert, r_count, r_popAt, r_reverse, r_extend, blkZ_K]
        obtain ⟨dj, hdj⟩ : ∃ e, ds[j]? = some e := ⟨_, List.getElem?_eq_getElem (by omega)⟩
        obtain ⟨dk, hdk⟩ : ∃ e, ds[k]? = some e := ⟨_, List.getElem?_eq_getElem hk⟩
        have eg : gapN ds j k = FB.gapD dj dk := by unfold gapN; rw [hdj, hdk]
        refine ⟨a, xs, ds, j, k, dj, dk, rfl, s3.seq hS, hds.ts s3.ts, hj, hdj, hdk, fun H4 s4 => ?_⟩
        have hd4 := s4 _ _ hd3
        have s5 := s3.trans s4
        cases hg : FB.gapD dj dk with
        | none =>
          have hl : leanOk ds bss j k = true := by unfold leanOk; rw [eg, hg]
          simp_arith [r_listRng, r_kget1, r_iEnumT, r_sorted, r_all, r_any, r_insert, r_count, r_popAt, r_reverse, r_extend, blkZ_K, FB.optV]
          refine ite_ndec (fun z => absurd trivial z) (fun _ => ⟨s5, hd4, fun j' hj' => ?_, _, _, rfl⟩)
          rcases Nat.lt_succ_iff_lt_or_eq.mp hj' with z | rfl
          · exact hok2 j' z
          · exact hl
        | some g =>
          have hl : leanOk ds bss j k = !decide (FL.atF bss k < FL.atF bss j + g) := by unfold leanOk; rw [eg, hg]
          simp_arith [r_listRng, r_kget1, r_iEnumT, r_sorted, r_all, r_any, r_insert, r_count, r_popAt, r_reverse, r_extend, blkZ_K, FB.optV]
          refine ite_ndec (fun _ => ?_) (fun z => by cases z)
          refine ⟨d, _, rfl, val k hk _ hd4, d, _, rfl, val j (by omega) _ hd4, ?_⟩
          simp_arith [r_listRng, r_kget1, r_iEnumT, r_sorted, r_all, r_any, r_insert, r_count, r_popAt, r_reverse, r_extend, blkZ_K]
          refine ite_dec (fun z => ?_) (fun z => ⟨s5, hd4, fun j' hj' => ?_, _, _, rfl⟩)
          · have w' := q _ s5
            rw [leanB_false hk hj (by rw [hl, decide_eq_true z]; rfl)] at w'
            exact w'
          · rcases Nat.lt_succ_iff_lt_or_eq.mp hj' with y | rfl
            · exact hok2 j' y
            · rw [hl, decide_eq_false z]; rfl
      · rintro σ H3 ⟨s3, hd3, hok2, o7, o8, rfl⟩
        refine ⟨s3, hd3, fun k' hk' j hj => ?_, _, _, _, rfl⟩
        rcases Nat.lt_succ_iff_lt_or_eq.mp hk' with z | rfl
        · exact hok k' z j hj
        · exact hok2 j hj
    · rintro σ H2 ⟨s2, hd2, hok, o6, o7, o8, rfl⟩
      simp_arith [r_listRng, r_kget1, r_iEnumT, r_sorted, r_all, r_any, r_insert, r_count, r_popAt, r_reverse, r_extend, blkZ_K]
      have z := q _ s2
      rw [leanB_true hok] at z
      exact z
theorem r_leanings {a b : Addr} {H : Hp} {Q : VK} {E : XK} : sp_leanings K [.ref a, .ref b] H Q E = ∃ (xs : List V) (ds : List FB.Deed) (bss : List (List Int)), SqL K H a xs ∧ DeedsV K H xs ds ∧ ds.length ≤ 1000 ∧ FL.BsV H b bss ∧ FL.PlacesP ds.length bss ∧ bss.length ≤ 1000 ∧
  ∀ H', Same H H' → Q (.bl (leanB ds bss)) H' := propext ⟨by rintro ⟨_, _, xs, ds, bss, e, q⟩; cases e; exact ⟨xs, ds, bss, q⟩, by rintro ⟨xs, ds, bss, q⟩; exact ⟨a, b, xs, ds, bss, rfl, q⟩⟩
end

end K31
set_option Elab.async false
set_option linter.all false
set_option maxRecDepth 100000
set_option maxHeartbeats 4000000
namespace K31
open PySem L2 PyProof.Rows FA
def layB (ds : List FB.Deed) (us : List Int) (bss : List (List Int)) : Bool := decide (FL.PlacesP ds.length bss) && (leanB ds bss && bss.all (loadB ds us))
structure LayIn (K : PySem.W.Frag) (H : Hp) (a b c : Addr) (xs : List V) (ds : List FB.Deed) (us : List Int) (bss : List (List Int)) : Prop where
  hS : SqL K H a xs
  hds : DeedsV K H xs ds
  hdl : ds.length ≤ 1000
  hU : SqT K H b (us.map V.int)
  h3 : us.length = 3
  hB : FL.BsV H c bss
  h64 : bss.flatten.length < 64
  hbl : bss.length ≤ 1000
def sp_is (K : PySem.W.Frag) : Sp := fun vs H Q _ => ∃ (a b c : Addr) (xs : List V) (ds : List FB.Deed) (us : List Int) (bss : List (List Int)), vs = [.ref a, .ref b, .ref c] ∧ LayIn K H a b c xs ds us bss ∧ ∀ H', Same H H' → Q (.bl (layB ds us bss)) H'
section
variable {P : Program} {w : World} {K : PySem.W.Frag} {mg : Str → Option Value} {base : Heap} {t : Ad}
theorem LayIn.same {H H' : Hp} {a b c : Addr} {xs : List V} {ds : List FB.Deed} {us : List Int} {bss : List (List Int)} (s : Same H H') (h : LayIn K H a b c xs ds us bss) : LayIn K H' a b c xs ds us bss := ⟨s.seq h.hS, h.hds.ts s.ts, h.hdl, s.seqT h.hU, h.h3, h.hB.same s, h.h64, h.hbl⟩
theorem ok_is (T : Txt K mg t) (hw : t.pr = w.params) : FnOk P w K mg base CX0 12 t.f_is_laying t.e_is_laying ["deeds", "units", "beats"] (sp_is K) := by
  have G_keeps_units := ok_units (P := P) (base := base) T hw
  have G_keeps_places := ok_places (P := P) (w := w) (base := base) T
  have G_keeps_leanings := ok_leanings (P := P) (w := w) (base := base) T
  refine T.d_is_laying.F.ok sc_is_laying (fun vs H Q E h => by obtain ⟨_, _, _, _, _, _, _, rfl, _⟩ := h; rfl) (fun cdv A outer s H vs Q E hr h => ?_)
  obtain ⟨a, b, c, xs, ds, us, bss, rfl, L, q⟩ := h
  have lx := L.hds.length
  refine ⟨_,
      (XSs.h
      (xpss_cons
        (xps_if (xPW_pt (xpw_or (xpt_not (xpt_val (xqe_callD T.d_keeps_places G_keeps_places (hr.mono (by first | decide | omega)) (xpa_cons (xqe_callB call_len_seq gl T.z_len PySem.boot_len (xpa_cons (xqv 0 vc) xpa_nil)) (xpa_cons (xqv 2 vl) xpa_nil)) gl))) (xpw_or1 (xpt_not (xpt_val (xqe_callD T.d_keeps_leanings G_keeps_leanings (hr.mono (by first | decide | omega)) (xpa_cons (xqv 0 vc) (xpa_cons (xqv 2 vl) xpa_nil)) gl))))))
          (xpss_one
            (xps_ret xpe_bl))
          xpss_nil)
      (xpss_one
        (xps_ret (xqe_callB (call_all rfl) gl T.z_all boot_all (xpa_cons (xpe_compG (tns := ["beat"]) (cns := ["deeds", "units"]) (ci := [0, 1]) rfl (CompSc.of (by kernel_rfl)) (xpi_list (xqv 2 vl)) (fun _ => (xpg_name (i := 1) (show List.Nodup [(".0" : Str), ("beat" : Str), ("deeds" : Str), ("units" : Str)] by decide +kernel) rfl ll (Or.inr (by kernel_rfl)))) (fun _ => xpf_nil) (fun _ => (xqe_callD T.d_keeps_units G_keeps_units (hr.mono (by first | decide | omega)) (xpa_cons (xqv 2 vc) (xpa_cons (xqv 3 vc) (xpa_cons (xqv 1 vl) xpa_nil))) gl))) xpa_nil)))))), ?_⟩
  rw [show start _ [V.ref a, V.ref b, V.ref c] = [some (.ref a), some (.ref b), some (.ref c)] from rfl]
  simp_arith [r_listRng, r_kget1, r_iEnumT, r_sorted, r_all, r_any, r_insert, r_count, r_popAt, r_reverse, r_extend, blkZ_K, r_places, r_leanings, r_units]
  refine ⟨xs, .inl L.hS, ds.length, bss, by rw [lx], L.hB, L.h64, L.hbl, L.hdl, fun H1 s1 => ?_⟩
  have L1 := L.same s1
  unfold layB at q
  refine ite_ndec (fun hP => ?_) (fun hP => ?_)
  · rw [decide_eq_false hP, Bool.false_and] at q
    simp only [if_true]
    exact q _ s1
  rw [decide_eq_true hP, Bool.true_and] at q
  refine ⟨xs, ds, bss, L1.hS, L1.hds, L.hdl, L1.hB, hP, L.hbl, fun H2 s2 => ?_⟩
  have L2 := L1.same s2
  have s3 := s1.trans s2
  cases hl : leanB ds bss with
  | false =>
    rw [hl, Bool.false_and] at q
    exact q _ s3
  | true =>
    rw [hl, Bool.true_and] at q
    obtain ⟨ps, hC, hps⟩ := L2.hB
    have lps := hps.length
    simp only [Bool.not_true, Bool.false_eq_true, if_false]
    refine ⟨⟨_, SqL.of hC⟩, fun acc hacc bk => ?_⟩
    refine cg_list (xs := ps.map V.ref) (fun i ys H' => Same H2 H' ∧ H' acc = some (.lst ys) ∧ ys = ((bss.take i).map (loadB ds us)).map V.bl) ⟨Same.upd hacc, upd_same, by simp⟩ (fun i ys H' _ h => SqL.of (h.1 _ _ hC)) ?_ ?_
    · rintro i x ys H' os hx ho ⟨sm, e1, ly⟩
      rw [List.getElem?_map] at hx
      obtain ⟨p, hpx, rfl⟩ := Option.map_eq_some_iff.mp hx
      obtain ⟨bt, hb, hpb⟩ := Paired.get hps hpx
      obtain ⟨hi, ei⟩ := List.getElem?_eq_some_iff.mp hb
      match os, ho with
      | [o], _ =>
        simp_arith [r_listRng, r_kget1, r_iEnumT, r_sorted, r_all, r_any, r_insert, r_count, r_popAt, r_reverse, r_extend, blkZ_K, r_units]
        refine ⟨⟨[some (.ref p)], rfl, rfl⟩, ?_⟩
        have L3 := L2.same sm
        have hm := List.mem_of_getElem? hb
        refine ⟨xs, ds, us, bt, L3.hS, L3.hds, L3.hU, L.h3, SqL.of (sm _ _ hpb), (by have := FL.len_le_flat hm; have := L.h64; omega), fun z hz => hP.mem.mp (List.mem_flatten.mpr ⟨bt, hm, hz⟩), fun H3 s4 => ?_⟩
        refine ⟨s4 _ _ e1, ?_, (sm.trans s4).updM hacc, upd_same, ?_⟩
        · rw [ly, List.length_map, List.length_map, List.length_take, sizeLine_eq]; have := L.hbl; omega
        · rw [ly, List.take_succ_eq_append_getElem hi, ei, List.map_append, List.map_append, List.map_singleton, List.map_singleton]
    · rintro ys H' ⟨sm, e1, ly⟩
      rw [List.length_map, lps, List.take_length] at ly
      refine ⟨_, SqL.of (by rw [e1, ly]), ?_⟩
      have z := q H' (s3.trans sm)
      rw [show bss.all (loadB ds us) = (bss.map (loadB ds us)).all id by rw [List.all_map]; rfl] at z
      exact z
theorem r_is {a b c : Addr} {H : Hp} {Q : VK} {E : XK} : sp_is K [.ref a, .ref b, .ref c] H Q E = ∃ (xs : List V) (ds : List FB.Deed) (us : List Int) (bss : List (List Int)), LayIn K H a b c xs ds us bss ∧ ∀ H', Same H H' → Q (.bl (layB ds us bss)) H' := propext ⟨by rintro ⟨_, _, _, xs, ds, us, bt, e, q⟩; cases e; exact ⟨xs, ds, us, bt, q⟩, by rintro ⟨xs, ds, us, bt, q⟩; exact ⟨a, b, c, xs, ds, us, bt, rfl, q⟩⟩
end

end K31
set_option Elab.async false
set_option linter.all false
set_option maxRecDepth 100000
set_option maxHeartbeats 4000000
namespace K31
open PySem L2 PyProof.Rows FA
def cnts (ds : List FB.Deed) (b : List Int) : List Int := (List.range 4).map fun s => (cnt ds b s : Int)
theorem sortD_lt (d : FB.Deed) : sortD d < 4 := by
  unfold sortD
  split
  · split
    · decide
    · split
      · decide
      · split <;> decide
  · decide
theorem cnts_snoc {ds : List FB.Deed} {b : List Int} {p : Int} : cnts ds (b ++ [p]) = (cnts ds b).set (sortD (dAtI ds p)) ((cnt ds b (sortD (dAtI ds p)) : Int) + 1) := by
  unfold cnts
  apply List.ext_getElem
  · simp
  · intro i h1 h2
    rw [List.getElem_set]
    simp only [List.getElem_map, List.getElem_range]
    unfold cnt
    rw [List.countP_append, List.countP_singleton]
    by_cases h : sortD (dAtI ds p) = i
    · subst h; simp
    · simp [h]
theorem cnts_get {ds : List FB.Deed} {b : List Int} {s : Nat} (h : s < 4) : (cnts ds b)[s]? = some (cnt ds b s : Int) := by
  unfold cnts
  rw [List.getElem?_map, List.getElem?_range h]; rfl
section
variable {P : Program} {w : World} {K : PySem.W.Frag} {mg : Str → Option Value} {base : Heap} {t : Ad}
theorem ok_lload (T : Txt K mg t) : FnOk P w K mg base CX0 2 t.f__law_load t.e__law_load ["_law_deeds_here", "_law_beat", "_law_units"] (fun vs H Q E => ∃ a b c, vs = [.ref a, .ref b, .ref c] ∧ sp_units K [.ref a, .ref c, .ref b] H Q E) := by
  have G__law_sort := ok_sort (P := P) (w := w) (base := base) T
  refine T.d__law_load.F.ok sc__law_load (fun vs H Q E h => by obtain ⟨_, _, _, rfl, _⟩ := h; rfl) (fun cdv A outer s H vs Q E hr h => ?_)
  obtain ⟨a, c, b, rfl, h⟩ := h
  rw [r_units] at h
  obtain ⟨xs, ds, us, bt, hS, hds, hU, h3, hB, h64, hp, q⟩ := h
  refine ⟨_,
      (XSs.h
      (xpss_cons
        (xps_set (i := 3) sc__law_load.nd rfl ll (xpe_lst (xpa_const (by rfl))))
      (xpss_cons
        (xps_for PassesOwn.never rfl (xpi_list (xqv 1 vl)) (xpg_name (i := 4) sc__law_load.nd rfl ll)
          (xpss_one
            (xps_asg (xpe_op op_add (xpe_ix ix_list (xqv 3 vl) (xqe_callD T.d__law_sort G__law_sort (hr.mono (by first | decide | omega)) (xpa_cons (xpe_ix ix_list (xqv 0 vl) (xqv 4 vl) (fun _ _ => rfl)) xpa_nil) gl) (fun _ _ => rfl)) xpe_int) (xpg_sub (xqv 3 vl) (xqe_callD T.d__law_sort G__law_sort (hr.mono (by first | decide | omega)) (xpa_cons (xpe_ix ix_list (xqv 0 vl) (xqv 4 vl) (fun _ _ => rfl)) xpa_nil) gl) set_list))))
      (xpss_one
        (xps_ret (xpe_and (xpe_cmpR op_le (xpe_ix ix_list (xqv 3 vl) xpe_int (fun _ _ => rfl)) (xpe_ix ix_tup (xqv 2 vl) xpe_int (fun _ _ => rfl)) (nomark _)) (xpe_and (xpe_cmpR op_le (xpe_ix ix_list (xqv 3 vl) xpe_int (fun _ _ => rfl)) (xpe_ix ix_tup (xqv 2 vl) xpe_int (fun _ _ => rfl)) (nomark _)) (xpe_one (xpe_cmpR op_le (xpe_ix ix_list (xqv 3 vl) xpe_int (fun _ _ => rfl)) (xpe_ix ix_tup (xqv 2 vl) xpe_int (fun _ _ => rfl)) (nomark _)))))))))), ?_⟩
  rw [show start _ [V.ref a, V.ref c, V.ref b] = [some (.ref a), some (.ref c), some (.ref b), none, none] from rfl]
  simp_arith [r_listRng, r_kget1, r_iEnumT, r_sorted, r_all, r_any, r_insert, r_count, r_popAt, r_reverse, r_extend, blkZ_K, r_sort]
  intro m hm
  have s1 : Same H (upd H m (.lst ([0, 0, 0, 0].map V.int))) := Same.upd hm
  refine ⟨⟨_, s1.seq hB⟩, ?_⟩
  refine fw_list (xs := bt.map V.int) (fun j σ H' => Same H H' ∧ H' m = some (.lst ((cnts ds (bt.take j)).map V.int)) ∧ ∃ o, σ = [some (.ref a), some (.ref c), some (.ref b), some (.ref m), o])
    ⟨s1, by rw [upd_same]; rfl, _, rfl⟩ (fun j σ H' _ h => h.1.seq hB) ?_ ?_
  · rintro j x σ H1 hx ⟨sm, hm1, o, rfl⟩
    rw [List.getElem?_map] at hx
    obtain ⟨p, hz, rfl⟩ := Option.map_eq_some_iff.mp hx
    obtain ⟨qx, g1, g2, g4⟩ := dAt_get (hds.ts sm.ts) (hp p (List.mem_of_getElem? hz))
    have hs4 := sortD_lt (dAtI ds p)
    simp_arith [r_listRng, r_kget1, r_iEnumT, r_sorted, r_all, r_any, r_insert, r_count, r_popAt, r_reverse, r_extend, blkZ_K, r_sort]
    refine ⟨_, _, sm.seq hS, g1, ?_⟩
    simp_arith [r_listRng, r_kget1, r_iEnumT, r_sorted, r_all, r_any, r_insert, r_count, r_popAt, r_reverse, r_extend, blkZ_K, r_sort]
    refine ⟨_, g2, fun H2 s2 => ⟨_, _, SqL.of (s2 _ _ hm1), atI_nat (by rw [List.getElem?_map, cnts_get hs4]; rfl), ?_⟩⟩
    simp_arith [r_listRng, r_kget1, r_iEnumT, r_sorted, r_all, r_any, r_insert, r_count, r_popAt, r_reverse, r_extend, blkZ_K, r_sort]
    refine ⟨_, _, (sm.trans s2).seq hS, g1, ?_⟩
    simp_arith [r_listRng, r_kget1, r_iEnumT, r_sorted, r_all, r_any, r_insert, r_count, r_popAt, r_reverse, r_extend, blkZ_K, r_sort]
    refine ⟨_, s2.seqT g2, fun H3 s3 => ?_⟩
    refine ⟨m, _, _, sortD (dAtI ds p), rfl, rfl, s3 _ _ (s2 _ _ hm1), FL.ixN_nat (by rw [List.length_map]; unfold cnts; rw [List.length_map, List.length_range]; exact hs4), ((sm.trans s2).trans s3).updM hm, ?_, _, rfl⟩
    obtain ⟨hj, ej⟩ := List.getElem?_eq_some_iff.mp hz
    rw [upd_same, List.take_succ_eq_append_getElem hj, ej, cnts_snoc, List.map_set]
  · rintro σ H1 ⟨sm, hm1, o, rfl⟩
    rw [List.length_map, List.take_length] at hm1
    simp_arith [r_listRng, r_kget1, r_iEnumT, r_sorted, r_all, r_any, r_insert, r_count, r_popAt, r_reverse, r_extend, blkZ_K, r_sort]
    obtain ⟨u0, u1, u2, rfl⟩ : ∃ u0 u1 u2, us = [u0, u1, u2] := by
      rcases us with _ | ⟨u0, _ | ⟨u1, _ | ⟨u2, _ | ⟨_, _⟩⟩⟩⟩ <;> simp at h3 ⊢
    have hM := SqL.of (K := K) hm1
    have hU1 := sm.seqT hU
    have z := q H1 sm
    have el : loadB ds [u0, u1, u2] bt = (decide ((cnt ds bt 0 : Int) ≤ u0) && (decide ((cnt ds bt 1 : Int) ≤ u1) && (decide ((cnt ds bt 2 : Int) ≤ u2) && true))) := rfl
    rw [el, Bool.and_true] at z
    refine ⟨_, .int (cnt ds bt 0), hM, rfl, _, .int u0, hU1, rfl, ?_⟩
    simp_arith [r_listRng, r_kget1, r_iEnumT, r_sorted, r_all, r_any, r_insert, r_count, r_popAt, r_reverse, r_extend, blkZ_K]
    refine ite_dec (fun h0 => ?_) (fun h0 => by rw [decide_eq_false h0] at z; exact z)
    rw [decide_eq_true h0, Bool.true_and] at z
    refine ⟨_, .int (cnt ds bt 1), hM, rfl, _, .int u1, hU1, rfl, ?_⟩
    simp_arith [r_listRng, r_kget1, r_iEnumT, r_sorted, r_all, r_any, r_insert, r_count, r_popAt, r_reverse, r_extend, blkZ_K]
    refine ite_dec (fun h0 => ?_) (fun h0 => by rw [decide_eq_false h0] at z; exact z)
    rw [decide_eq_true h0, Bool.true_and] at z
    refine ⟨_, .int (cnt ds bt 2), hM, rfl, _, .int u2, hU1, rfl, ?_⟩
    simp_arith [r_listRng, r_kget1, r_iEnumT, r_sorted, r_all, r_any, r_insert, r_count, r_popAt, r_reverse, r_extend, blkZ_K]
    exact z
end

end K31
set_option Elab.async false
set_option linter.all false
set_option maxRecDepth 100000
set_option maxHeartbeats 4000000
namespace K31
open PySem L2 PyProof.Rows FA
section
variable {P : Program} {w : World} {K : PySem.W.Frag} {mg : Str → Option Value} {base : Heap} {t : Ad}
theorem r_din {ty td : TE} {σ : L2.St} {H : Hp} {Q : VK} : tDIn ty td σ H Q = ty σ H fun y H1 => td σ H1 fun x H2 => ∃ a o, x = .ref a ∧ DGet H2 a y o ∧ Q (.bl o.isSome) H2 := rfl
theorem layB_no {ds : List FB.Deed} {us : List Int} {bss : List (List Int)} (h : ¬ FL.PlacesP ds.length bss) : layB ds us bss = false := by unfold layB; rw [decide_eq_false h]; rfl
theorem layB_lean {ds : List FB.Deed} {us : List Int} {bss : List (List Int)} (h : leanB ds bss = false) : layB ds us bss = false := by unfold layB; rw [h, Bool.false_and, Bool.and_false]
theorem layB_load {ds : List FB.Deed} {us : List Int} {bss : List (List Int)} {b : List Int} (hm : b ∈ bss) (h : loadB ds us b = false) : layB ds us bss = false := by
  unfold layB
  rw [show bss.all (loadB ds us) = false from List.all_eq_false.mpr ⟨b, hm, by rw [h]; simp⟩, Bool.and_false, Bool.and_false]
theorem layB_yes {ds : List FB.Deed} {us : List Int} {bss : List (List Int)} (h1 : FL.PlacesP ds.length bss) (h2 : leanB ds bss = true) (h3 : ∀ b ∈ bss, loadB ds us b = true) : layB ds us bss = true := by
  unfold layB
  rw [decide_eq_true h1, h2, List.all_eq_true.mpr h3]; rfl
theorem ok_kept (T : Txt K mg t) : FnOk P w K mg base CX0 12 t.f__law_kept t.e__law_kept ["_law_deeds_here", "_law_units", "_law_beats"] (sp_is K) := by
  have G__law_gap := ok_lgap (P := P) (w := w) (base := base) T
  have G__law_load := ok_lload (P := P) (w := w) (base := base) T
  refine T.d__law_kept.F.ok sc__law_kept (fun vs H Q E h => by obtain ⟨_, _, _, _, _, _, _, rfl, _⟩ := h; rfl) (fun cdv A outer s H vs Q E hr h => ?_)
  obtain ⟨a, b, c, xs, ds, us, bss, rfl, L, q⟩ := h
  have hu := hu_of hr
  have lx := L.hds.length
  have h64 := L.h64
  have hdl := L.hdl
  obtain ⟨ps, hC, hps⟩ := L.hB
  have lps := hps.length
  refine ⟨_,
      (XSs.h
      (xpss_cons
        (xps_set (i := 3) sc__law_kept.nd rfl ll xpe_dnewK)
      (xpss_cons
        (xps_for PassesOwn.never rfl (xpi_enum T.z_enumerate (xpa_cons (xqv 2 vl) xpa_nil) gl) (xpg_tup rfl (xpgs_cons (xpg_name (i := 4) sc__law_kept.nd rfl ll) (xpgs_cons (xpg_name (i := 5) sc__law_kept.nd rfl ll) xpgs_nil)))
          (xpss_cons
            (xps_if (xPW_pt (xpw_or (xpt_cmpR op_eq (xqe_callB call_len_seq gl T.z_len PySem.boot_len (xpa_cons (xqv 5 vl) xpa_nil)) xpe_int (nomark _)) (xpw_or1 (xpt_cmpR (op_neD (n := 0) (hu_n (by decide) hr)) (xqe_callB call_sorted gl T.z_sorted boot_sorted (xpa_cons (xqv 5 vl) xpa_nil)) (xqv 5 vl) (nomark _)))))
              (xpss_one
                (xps_ret xpe_bl))
              xpss_nil)
          (xpss_cons
            (xps_for PassesOwn.never rfl (xpi_list (xqv 5 vl)) (xpg_name (i := 6) sc__law_kept.nd rfl ll)
              (xpss_cons
                (xps_if (xPW_pt (xpw_or (xpt_cmpR op_lt (xqv 6 vl) xpe_int (nomark _)) (xpw_or (xpt_cmpR op_ge (xqv 6 vl) (xqe_callB call_len_seq gl T.z_len PySem.boot_len (xpa_cons (xqv 0 vl) xpa_nil)) (nomark _)) (xpw_or1 (xpt_cmp (xpc_din hu (xqv 6 vl) (xqv 3 vl)))))))
                  (xpss_one
                    (xps_ret xpe_bl))
                  xpss_nil)
              (xpss_one
                (xps_dput hu (xqv 3 vl) (xqv 6 vl) (xqv 4 vl) rfl))))
          (xpss_one
            (xps_if (xpt_not (xpt_val (xqe_callD T.d__law_load G__law_load (hr.mono (by first | decide | omega)) (xpa_cons (xqv 0 vl) (xpa_cons (xqv 5 vl) (xpa_cons (xqv 1 vl) xpa_nil))) gl)))
              (xpss_one
                (xps_ret xpe_bl))
              xpss_nil)))))
      (xpss_cons
        (xps_if (xpt_cmpR op_ne (xqe_callB call_lenD gl T.z_len PySem.boot_len (xpa_cons (xqv 3 vl) xpa_nil)) (xqe_callB call_len_seq gl T.z_len PySem.boot_len (xpa_cons (xqv 0 vl) xpa_nil)) (nomark _))
          (xpss_one
            (xps_ret xpe_bl))
          xpss_nil)
      (xpss_cons
        (xps_for PassesOwn.never rfl (xpi_range1 gl T.z_range (xpa_cons (xqe_callB call_len_seq gl T.z_len PySem.boot_len (xpa_cons (xqv 0 vl) xpa_nil)) xpa_nil)) (xpg_name (i := 6) sc__law_kept.nd rfl ll)
          (xpss_one
            (xps_for PassesOwn.never rfl (xpi_range1 gl T.z_range (xpa_cons (xqv 6 vl) xpa_nil)) (xpg_name (i := 7) sc__law_kept.nd rfl ll)
              (xpss_cons
                (xps_set (i := 8) sc__law_kept.nd rfl ll (xqe_callD T.d__law_gap G__law_gap (hr.mono (by first | decide | omega)) (xpa_cons (xpe_ix ix_list (xqv 0 vl) (xqv 7 vl) (fun _ _ => rfl)) (xpa_cons (xpe_ix ix_list (xqv 0 vl) (xqv 6 vl) (fun _ _ => rfl)) xpa_nil)) gl))
              (xpss_one
                (xps_if (xPW_pt (xpw_and (xpt_cmpR op_notN (xqv 8 vl) xpe_non (nomark _)) (xpw_and1 (xpt_cmpR op_lt (xpe_op op_sub (xpe_dget hu (xqv 3 vl) (xqv 6 vl) (fun _ _ => rfl)) (xpe_dget hu (xqv 3 vl) (xqv 7 vl) (fun _ _ => rfl))) (xqv 8 vl) (nomark _)))))
                  (xpss_one
                    (xps_ret xpe_bl))
                  xpss_nil))))))
      (xpss_one
        (xps_ret xpe_bl))))))), ?_⟩
  rw [show start _ [V.ref a, V.ref b, V.ref c] = [some (.ref a), some (.ref b), some (.ref c), none, none, none, none, none, none] from rfl]
  simp_arith [r_listRng, r_kget1, r_iEnumT, r_sorted, r_all, r_any, r_insert, r_count, r_popAt, r_reverse, r_extend, blkZ_K, r_lgap]
  intro d hd
  have s1 : Same H (upd H d (.dK [])) := Same.upd hd
  refine ⟨⟨_, SqL.of (s1 _ _ hC)⟩, ?_⟩
  refine fw_enum (xs := ps.map V.ref) (fun i σ H' => Same H H' ∧ H' d = some (.dK (FL.dFrom 0 (bss.take i))) ∧ ((∀ b' ∈ bss.take i, FL.GoodP b') ∧ (bss.take i).flatten.Nodup ∧ (∀ p ∈ (bss.take i).flatten, 0 ≤ p ∧ p < (ds.length : Int)) ∧ ∀ b' ∈ bss.take i, loadB ds us b' = true) ∧ ∃ o4 o5 o6, σ = [some (.ref a), some (.ref b), some (.ref c), some (.ref d), o4, o5, o6, none, none])
    ⟨s1, by rw [upd_same]; rfl, ⟨by simp, by simp, by simp, by simp⟩, _, _, _, rfl⟩ (fun i σ H' _ h => SqL.of (h.1 _ _ hC)) ?_ ?_
  · rintro i x σ H1 pp hx hpp ⟨sm, hd1, ⟨i1, i2, i3, i4⟩, o4, o5, o6, rfl⟩
    rw [List.getElem?_map] at hx
    obtain ⟨p, hpx, rfl⟩ := Option.map_eq_some_iff.mp hx
    obtain ⟨bt, hb, hpb⟩ := Paired.get hps hpx
    have hm := List.mem_of_getElem? hb
    have hbl := FL.len_le_flat hm
    obtain ⟨hi, ei⟩ := List.getElem?_eq_some_iff.mp hb
    simp_arith [r_listRng, r_kget1, r_iEnumT, r_sorted, r_all, r_any, r_insert, r_count, r_popAt, r_reverse, r_extend, blkZ_K]
    refine ⟨_, SqT.of upd_same, rfl, ?_⟩
    have s2 := Same.upd (o := .tup [.int i, .ref p]) hpp
    have sm2 := sm.trans s2
    have e2 := sm2 _ _ hpb
    simp_arith [r_listRng, r_kget1, r_iEnumT, r_sorted, r_all, r_any, r_insert, r_count, r_popAt, r_reverse, r_extend, blkZ_K]
    refine ⟨_, .inl (SqL.of e2), ?_⟩
    rw [List.length_map]
    have bad : ¬ FL.GoodP bt → layB ds us bss = false := fun z => layB_no fun w' => z (w'.good bt hm)
    refine ite_dec (fun e => ?_) (fun e => ?_)
    · have z := q _ sm2
      rw [bad fun w' => w'.1 (List.length_eq_zero_iff.mp (by omega))] at z
      first | exact z | (rw [if_pos trivial]; exact z)
    refine ⟨bt, SqL.of e2, by omega, fun l ns' hl1 pm pw => ⟨_, FL.rq_ints (xs := ns') (ys := bt) (SqL.of upd_same) (SqL.of (Same.upd hl1 _ _ e2)), _, rfl, ?_⟩⟩
    have s3 := sm2.updN (o := .lst (ns'.map V.int)) hl1
    refine ite_ndec (fun e3 => ?_) (fun e3 => ?_)
    · have z := q _ s3
      rw [bad fun w' => e3 ((FL.sorted_eq pm pw).mpr w'.2).symm] at z
      exact z
    have gd : FL.GoodP bt := ⟨fun z => e (by rw [z]; rfl), (FL.sorted_eq pm pw).mp e3.symm⟩
    have hd2 := Same.upd (o := .lst (ns'.map V.int)) hl1 _ _ (s2 _ _ hd1)
    refine ⟨⟨_, SqL.of (s3 _ _ hpb)⟩, ?_⟩
    refine fw_list (xs := bt.map V.int) (fun j σ H' => Same H H' ∧ H' d = some (.dK (FL.dAt bss i bt j)) ∧ (((bss.take i).flatten ++ bt.take j).Nodup ∧ (∀ p ∈ bt.take j, 0 ≤ p ∧ p < (ds.length : Int))) ∧ ∃ o6, σ = [some (.ref a), some (.ref b), some (.ref c), some (.ref d), some (.int i), some (.ref p), o6, none, none])
      ⟨s3, by rw [FL.dAt_zero]; exact hd2, ⟨by simpa using i2, by simp⟩, _, rfl⟩ (fun j σ H' _ h => SqL.of (h.1 _ _ hpb)) ?_ ?_
    · rintro j x σ H2 hx ⟨s4, hd3, ⟨j1, j2⟩, o6, rfl⟩
      rw [List.getElem?_map] at hx
      obtain ⟨z, hz, rfl⟩ := Option.map_eq_some_iff.mp hx
      obtain ⟨hj, ej⟩ := List.getElem?_eq_some_iff.mp hz
      have zm : z ∈ bss.flatten := List.mem_flatten.mpr ⟨bt, hm, List.mem_of_getElem? hz⟩
      simp_arith [r_listRng, r_kget1, r_iEnumT, r_sorted, r_all, r_any, r_insert, r_count, r_popAt, r_reverse, r_extend, blkZ_K]
      have bad2 : ¬ FL.PlacesP ds.length bss → Q (.bl false) H2 := fun no => by have y := q _ s4; rw [layB_no no] at y; exact y
      simp_arith [r_listRng, r_kget1, r_iEnumT, r_sorted, r_all, r_any, r_insert, r_count, r_popAt, r_reverse, r_extend, blkZ_K, r_din]
      refine ite_dec (fun z0 => ?_) (fun z0 => ⟨xs, .inl (s4.seq L.hS), ite_dec (fun z1 => ?_) (fun z1 => ?_)⟩)
      · rw [if_pos trivial]
        exact bad2 fun w' => by have := w'.mem.mp zm; omega
      · rw [if_pos trivial]
        exact bad2 fun w' => by have := w'.mem.mp zm; omega
      refine ⟨d, _, rfl, .inl ⟨_, .inl z, .inl hd3, rfl, rfl⟩, ?_⟩
      rw [FL.val_some FL.dAt_keys]
      refine ite_dec (fun z2 => bad2 fun w' => FL.fresh_at hb hz w'.nodup z2) (fun z2 => ?_)
      have hlen := FL.dAt_len (j := j) hb
      refine ⟨_, DPut.k (k := .inl z) hd3 (by rw [sizeLine_eq]; omega), s4.updM hd, by rw [upd_same, FL.dAt_put hz z2], ⟨?_, ?_⟩, _, rfl⟩
      · rw [List.take_succ_eq_append_getElem hj, ej, ← List.append_assoc, List.nodup_append]
        refine ⟨j1, by simp, fun u hu v hv e => ?_⟩
        rw [List.mem_singleton.mp hv] at e
        exact z2 (e ▸ hu)
      · intro p' hp'
        rw [List.take_succ_eq_append_getElem hj, ej, List.mem_append, List.mem_singleton] at hp'
        rcases hp' with hp' | rfl
        · exact j2 p' hp'
        · omega
    · rintro σ H2 ⟨s4, hd3, ⟨j1, j2⟩, o6, rfl⟩
      rw [List.length_map, FL.dAt_all hb] at hd3
      rw [List.length_map, List.take_length] at j1 j2
      have L4 := L.same s4
      simp_arith [r_listRng, r_kget1, r_iEnumT, r_sorted, r_all, r_any, r_insert, r_count, r_popAt, r_reverse, r_extend, blkZ_K]
      have hr1 : ∀ z ∈ bt, 0 ≤ z ∧ z < (ds.length : Int) := j2
      refine ⟨a, p, b, rfl, ?_⟩
      rw [r_units]
      refine ⟨xs, ds, us, bt, L4.hS, L4.hds, L4.hU, L.h3, SqL.of (s4 _ _ hpb), by omega, hr1, fun H3 s5 => ⟨_, rfl, ?_⟩⟩
      cases hld : loadB ds us bt with
      | false =>
        have y := q _ (s4.trans s5)
        rw [layB_load hm hld] at y
        exact y
      | true =>
        simp only [Bool.not_true, Bool.false_eq_true, if_false]
        have tk : bss.take (i + 1) = bss.take i ++ [bt] := by rw [List.take_succ_eq_append_getElem hi, ei]
        refine ⟨s4.trans s5, s5 _ _ hd3, ⟨fun b' hb' => ?_, by rw [FL.take_flat hb]; exact j1, fun p' hp' => ?_, fun b' hb' => ?_⟩, _, _, _, rfl⟩
        · rw [tk, List.mem_append, List.mem_singleton] at hb'
          rcases hb' with hb' | rfl
          · exact i1 b' hb'
          · exact gd
        · rw [FL.take_flat hb, List.mem_append] at hp'
          rcases hp' with hp' | hp'
          · exact i3 p' hp'
          · exact hr1 p' hp'
        · rw [tk, List.mem_append, List.mem_singleton] at hb'
          rcases hb' with hb' | rfl
          · exact i4 b' hb'
          · exact hld
  · rintro σ H1 ⟨sm, hd1, ⟨i1, i2, i3, i4⟩, o4, o5, o6, rfl⟩
    rw [List.length_map, lps, List.take_length] at hd1 i1 i2 i3 i4
    simp_arith [r_listRng, r_kget1, r_iEnumT, r_sorted, r_all, r_any, r_insert, r_count, r_popAt, r_reverse, r_extend, blkZ_K]
    have L1 := L.same sm
    refine ⟨d, _, rfl, hd1, xs, .inl L1.hS, ?_⟩
    rw [FL.dFrom_take_len, lx]
    refine ite_ndec (fun z => ?_) (fun z => ⟨xs, .inl L1.hS, by omega, by omega, ?_⟩)
    · have y := q _ sm
      rw [layB_no fun w' => z (by rw [w'.len])] at y
      exact y
    have hP : FL.PlacesP ds.length bss := .of i1 i2 i3 (by omega)
    rw [Int.toNat_natCast, lx]
    have val : ∀ k : Nat, k < ds.length → ∀ H', H' d = some (.dK (FL.dFrom 0 bss)) → DGet H' d (.int k) (some (.int (FL.atF bss k))) := fun k hk H' e => .inl ⟨_, .inl k, .inl e, rfl, (FL.atF_val (hP.mem.mpr (by omega))).symm⟩
    refine fw_range0 (fun k σ H' => Same H H' ∧ H' d = some (.dK (FL.dFrom 0 bss)) ∧ (∀ k', k' < k → ∀ j, j < k' → leanOk ds bss j k' = true) ∧ ∃ o6 o7 o8, σ = [some (.ref a), some (.ref b), some (.ref c), some (.ref d), o4, o5, o6, o7, o8]) ⟨sm, hd1, (fun _ z => absurd z (Nat.not_lt_zero _)), _, _, _, rfl⟩ ?_ ?_
    · rintro k σ H2 hk ⟨s2, hd2, hok, o6, o7, o8, rfl⟩
      simp_arith [r_listRng, r_kget1, r_iEnumT, r_sorted, r_all, r_any, r_insert, r_count, r_popAt, r_reverse, r_extend, blkZ_K]
      refine ⟨by omega, by omega, ?_⟩
      rw [Int.toNat_natCast]
      refine fw_range0 (fun j σ H' => Same H H' ∧ H' d = some (.dK (FL.dFrom 0 bss)) ∧ (∀ j', j' < j → leanOk ds bss j' k = true) ∧ ∃ o7 o8, σ = [some (.ref a), some (.ref b), some (.ref c), some (.ref d), o4, o5, some (.int k), o7, o8]) ⟨s2, hd2, (fun _ z => absurd z (Nat.not_lt_zero _)), _, _, rfl⟩ ?_ ?_
      · rintro j σ H3 hj ⟨s3, hd3, hok2, o7, o8, rfl⟩
        simp_arith [r_listRng, r_kget1, r_iEnumT, r_sorted, r_all, r_any, r_insert, r_count, r_popAt, r_reverse, r_extend, blkZ_K, r_lgap]
        have L3 := L.same s3
        obtain ⟨x, hx⟩ : ∃ x, xs[j]? = some x := ⟨_, List.getElem?_eq_getElem (by omega)⟩
        obtain ⟨y, hy⟩ : ∃ y, xs[k]? = some y := ⟨_, List.getElem?_eq_getElem (by omega)⟩
        obtain ⟨dj, hdj, fj, qx, rfl, hqx⟩ := Paired.get L3.hds hx
        obtain ⟨dk, hdk, fk, qy, rfl, hqy⟩ := Paired.get L3.hds hy
        have eg : gapN ds j k = FB.gapD dj dk := by unfold gapN; rw [hdj, hdk]
        refine ⟨_, _, L3.hS, atI_nat hx, _, _, L3.hS, atI_nat hy, ?_⟩
        simp_arith [r_listRng, r_kget1, r_iEnumT, r_sorted, r_all, r_any, r_insert, r_count, r_popAt, r_reverse, r_extend, blkZ_K, r_lgap]
        refine ⟨dj, dk, hqx, hqy, fj, fk, fun H4 s4 => ?_⟩
        have hd4 := s4 _ _ hd3
        have s5 := s3.trans s4
        cases hg : FB.gapD dj dk with
        | none =>
          have hl : leanOk ds bss j k = true := by unfold leanOk; rw [eg, hg]
          simp_arith [r_listRng, r_kget1, r_iEnumT, r_sorted, r_all, r_any, r_insert, r_count, r_popAt, r_reverse, r_extend, blkZ_K, FB.optV]
          refine ite_ndec (fun z => absurd trivial z) (fun _ => ⟨s5, hd4, fun j' hj' => ?_, _, _, rfl⟩)
          rcases Nat.lt_succ_iff_lt_or_eq.mp hj' with z | rfl
          · exact hok2 j' z
          · exact hl
        | some g =>
          have hl : leanOk ds bss j k = !decide (FL.atF bss k < FL.atF bss j + g) := by unfold leanOk; rw [eg, hg]
          simp_arith [r_listRng, r_kget1, r_iEnumT, r_sorted, r_all, r_any, r_insert, r_count, r_popAt, r_reverse, r_extend, blkZ_K, FB.optV]
          refine ite_ndec (fun _ => ?_) (fun z => by cases z)
          refine ⟨d, _, rfl, val k hk _ hd4, d, _, rfl, val j (by omega) _ hd4, ?_⟩
          simp_arith [r_listRng, r_kget1, r_iEnumT, r_sorted, r_all, r_any, r_insert, r_count, r_popAt, r_reverse, r_extend, blkZ_K]
          refine ite_dec (fun z => ?_) (fun z => ⟨s5, hd4, fun j' hj' => ?_, _, _, rfl⟩)
          · have w' := q _ s5
            rw [layB_lean (leanB_false hk hj (by rw [hl, decide_eq_true (by omega)]; rfl))] at w'
            exact w'
          · rcases Nat.lt_succ_iff_lt_or_eq.mp hj' with y | rfl
            · exact hok2 j' y
            · rw [hl, decide_eq_false (by omega)]; rfl
      · rintro σ H3 ⟨s3, hd3, hok2, o7, o8, rfl⟩
        refine ⟨s3, hd3, fun k' hk' j hj => ?_, _, _, _, rfl⟩
        rcases Nat.lt_succ_iff_lt_or_eq.mp hk' with z | rfl
        · exact hok k' z j hj
        · exact hok2 j hj
    · rintro σ H2 ⟨s2, hd2, hok, o6, o7, o8, rfl⟩
      simp_arith [r_listRng, r_kget1, r_iEnumT, r_sorted, r_all, r_any, r_insert, r_count, r_popAt, r_reverse, r_extend, blkZ_K]
      have z := q _ s2
      rw [layB_yes hP (leanB_true hok) i4] at z
      exact z
end

end K31
set_option Elab.async false
set_option linter.all false
set_option maxRecDepth 100000
set_option maxHeartbeats 4000000
namespace K31
open PySem L2 PyProof.Rows FA
def sp_early (K : PySem.W.Frag) : Sp := fun vs H Q _ => ∃ (a : Addr) (xs : List V) (ds : List FB.Deed) (b : Bool), vs = [.ref a, .bl b] ∧ SqL K H a xs ∧ DeedsV K H xs ds ∧ ds.length ≤ 8 ∧
  ∀ p ys bss H', FL.NewB H H' p ys bss → bss.length ≤ 8 → bss.flatten.length ≤ 8 → (∀ b ∈ bss, b ≠ []) → Q (.ref p) H'
section
variable {P : Program} {w : World} {K : PySem.W.Frag} {mg : Str → Option Value} {base : Heap} {t : Ad}
theorem newB_back {H H0 H' : Hp} {p : Addr} {ys : List V} {bss : List (List Int)} (s : Same H H0) (h : FL.NewB H0 H' p ys bss) : FL.NewB H H' p ys bss := by
  obtain ⟨s1, hp, e, ps, e2, pr, nd, fr⟩ := h
  exact ⟨s.trans s1, s.free hp, e, ps, e2, pr, nd, fun c hc => s.free (fr c hc)⟩
theorem ok_early (T : Txt K mg t) : FnOk P w K mg base CX0 3 t.f__law_early t.e__law_early ["_law_deeds_here", "_law_single"] (sp_early K) := by
  have G__law_gap := ok_lgap (P := P) (w := w) (base := base) T
  refine T.d__law_early.F.ok sc__law_early (fun vs H Q E h => by obtain ⟨_, _, _, _, rfl, _⟩ := h; rfl) (fun cdv A outer s H vs Q E hr h => ?_)
  obtain ⟨a, xs, ds, b, rfl, hS, hds, hl, q⟩ := h
  have lx := hds.length
  refine ⟨_,
      (XSs.h
      (xpss_cons
        (xps_set (i := 2) sc__law_early.nd rfl lc (xpe_lst xpa_nil))
      (xpss_mid
        (xps_for PassesOwn.never rfl (xpi_range1 gl T.z_range (xpa_cons (xqe_callB call_len_seq gl T.z_len PySem.boot_len (xpa_cons (xqv 0 vc) xpa_nil)) xpa_nil)) (xpg_name (i := 3) sc__law_early.nd rfl ll)
          (xpss_cons
            (xps_set (i := 4) sc__law_early.nd rfl ll xpe_int)
          (xpss_cons
            (xps_for PassesOwn.never rfl (xpi_range1 gl T.z_range (xpa_cons (xqv 3 vl) xpa_nil)) (xpg_name (i := 5) sc__law_early.nd rfl ll)
              (xpss_cons
                (xps_set (i := 6) sc__law_early.nd rfl ll (xqe_callD T.d__law_gap G__law_gap (hr.mono (by first | decide | omega)) (xpa_cons (xpe_ix ix_list (xqv 0 vc) (xqv 5 vl) (fun _ _ => rfl)) (xpa_cons (xpe_ix ix_list (xqv 0 vc) (xqv 3 vl) (fun _ _ => rfl)) xpa_nil)) gl))
              (xpss_one
                (xps_if (xpt_cmpR op_notN (xqv 6 vl) xpe_non (nomark _))
                  (xpss_one
                    (xps_set (i := 4) sc__law_early.nd rfl ll (xqe_callB (call_max2 rfl) gl T.z_max boot_max (xpa_cons (xqv 4 vl) (xpa_cons (xpe_op op_add (xpe_ix ix_list (xqv 2 vc) (xqv 5 vl) (fun _ _ => rfl)) (xqv 6 vl)) xpa_nil)))))
                  xpss_nil))))
          (xpss_one
            (xps_expr (xpe_bm PySem.F.plainAttrs_list PySem.F.slot_list_append PySem.F.type_list_append mt_append (xqv 2 vc) (xpa_cons (xqv 4 vl) xpa_nil)))))))
      (xpss_cons
        (xps_if (xpt_val (xqv 1 vl))
          (xpss_one
            (xps_ret (xpe_compG (tns := ["_law_k"]) (cns := []) (ci := []) rfl (CompSc.of (by kernel_rfl)) (xpi_range1 gl T.z_range (xpa_cons (xqe_callB call_len_seq gl T.z_len PySem.boot_len (xpa_cons (xqv 0 vc) xpa_nil)) xpa_nil)) (fun _ => (xpg_name (i := 1) (show List.Nodup [(".0" : Str), ("_law_k" : Str)] by decide +kernel) rfl ll (Or.inr (by kernel_rfl)))) (fun _ => xpf_nil) (fun _ => (xpe_lst (xpa_cons (xqv 1 vl) xpa_nil))))))
          xpss_nil)
      (xpss_one
        (xps_ret (xpe_compZ (z0 := "_law_beat") (tns := ["_law_beat"]) (cns := ["_law_deeds_here", "_law_at"]) (ci := [0, 2]) rfl (CompScZ.of (by kernel_rfl) (fun _ _ => rfl) (fun _ => rfl)) (xpi_range1 gl T.z_range (xpa_cons (xpe_op op_add (xqe_callB (call_maxL rfl) gl T.z_max boot_max (xpa_cons (xpe_op op_cat (xpe_lst (xpa_cons (xpe_un un_neg xpe_int) xpa_nil)) (xqv 2 vc)) xpa_nil)) xpe_int) xpa_nil)) (fun _ => (xpg_name (i := 1) (show List.Nodup [(".0" : Str), ("_law_beat" : Str), ("_law_deeds_here" : Str), ("_law_at" : Str)] by decide +kernel) rfl lc (Or.inl rfl))) (fun _ => xpf_nil) (fun _ => (xpe_compG (tns := ["_law_k"]) (cns := ["_law_beat", "_law_at"]) (ci := [1, 3]) rfl (CompSc.of (by kernel_rfl)) (xpi_range1 gl T.z_range (xpa_cons (xqe_callB call_len_seq gl T.z_len PySem.boot_len (xpa_cons (xqv 2 vc) xpa_nil)) xpa_nil)) (fun _ => (xpg_name (i := 1) (show List.Nodup [(".0" : Str), ("_law_k" : Str), ("_law_beat" : Str), ("_law_at" : Str)] by decide +kernel) rfl ll (Or.inr (by kernel_rfl)))) (fun _ => (xpf_one (xpt_cmpR op_eq (xpe_ix ix_list (xqv 3 vc) (xqv 1 vl) (fun _ _ => rfl)) (xqv 2 vc) (nomark _)))) (fun _ => (xqv 1 vl))))))))))), ?_⟩
  rw [show start _ [V.ref a, V.bl b] = [some (.ref a), some (.bl b), none, none, none, none, none] from rfl]
  simp_arith [r_listRng, r_kget1, r_iEnumT, r_sorted, r_all, r_any, r_insert, r_count, r_popAt, r_reverse, r_extend, blkZ_K, r_lgap]
  intro m hm
  refine ⟨fun σ H' => Same H H' ∧ ∃ at_ : List Nat, at_.length = ds.length ∧ FL.Early at_ ∧ H' m = some (.lst (at_.map fun v : Nat => V.int v)) ∧ ∃ o3 o4 o5 o6, σ = [some (.ref a), some (.bl b), some (.ref m), o3, o4, o5, o6], ?_, ?_⟩
  · refine ⟨xs, .inl ((Same.upd hm).seq hS), by omega, by omega, ?_⟩
    rw [Int.toNat_natCast, lx]
    refine fw_range0 (fun i σ H' => Same H H' ∧ ∃ at_ : List Nat, at_.length = i ∧ FL.Early at_ ∧ H' m = some (.lst (at_.map fun v : Nat => V.int v)) ∧ ∃ o3 o4 o5 o6, σ = [some (.ref a), some (.bl b), some (.ref m), o3, o4, o5, o6]) ⟨Same.upd hm, [], rfl, .nil, upd_same, _, _, _, _, rfl⟩ ?_ (fun σ H' h => h)
    rintro k σ H1 hk ⟨s1, at_, la, he, e1, o3, o4, o5, o6, rfl⟩
    simp_arith [r_listRng, r_kget1, r_iEnumT, r_sorted, r_all, r_any, r_insert, r_count, r_popAt, r_reverse, r_extend, blkZ_K, r_lgap]
    refine ⟨by omega, by omega, ?_⟩
    rw [Int.toNat_natCast]
    refine fw_range0 (fun _ σ H' => Same H H' ∧ H' m = some (.lst (at_.map fun v : Nat => V.int v)) ∧ ∃ f : Nat, f ≤ at_.length ∧ (f = 0 ∨ f - 1 ∈ at_) ∧ ∃ o5 o6, σ = [some (.ref a), some (.bl b), some (.ref m), some (.int k), some (.int f), o5, o6]) ⟨s1, e1, 0, Nat.zero_le _, .inl rfl, _, _, rfl⟩ ?_ ?_
    · rintro j σ H2 hj ⟨s2, e2, f, f1, f2, o5, o6, rfl⟩
      simp_arith [r_listRng, r_kget1, r_iEnumT, r_sorted, r_all, r_any, r_insert, r_count, r_popAt, r_reverse, r_extend, blkZ_K, r_lgap]
      obtain ⟨x, hx⟩ : ∃ x, xs[j]? = some x := ⟨_, List.getElem?_eq_getElem (by omega)⟩
      obtain ⟨y, hy⟩ : ∃ y, xs[k]? = some y := ⟨_, List.getElem?_eq_getElem (by omega)⟩
      have hd3 : DeedsV K H2 xs ds := hds.ts s2.ts
      obtain ⟨d, hd, fd, qx, rfl, hqx⟩ := Paired.get hd3 hx
      obtain ⟨e, hee, fe, qy, rfl, hqy⟩ := Paired.get hd3 hy
      have sa : SqL K H2 a xs := s2.seq hS
      refine ⟨_, _, sa, atI_nat hx, _, _, sa, atI_nat hy, ?_⟩
      simp_arith [r_listRng, r_kget1, r_iEnumT, r_sorted, r_all, r_any, r_insert, r_count, r_popAt, r_reverse, r_extend, blkZ_K, r_lgap]
      refine ⟨d, e, hqx, hqy, fd, fe, fun H3 s3 => ?_⟩
      obtain ⟨v, hv⟩ : ∃ v, at_[j]? = some v := ⟨_, List.getElem?_eq_getElem (by omega)⟩
      cases hg : FB.gapD d e with
      | none =>
        simp_arith [r_listRng, r_kget1, r_iEnumT, r_sorted, r_all, r_any, r_insert, r_count, r_popAt, r_reverse, r_extend, blkZ_K, FB.optV]
        exact ⟨s2.trans s3, s3 _ _ e2, f, f1, f2, _, _, rfl⟩
      | some g =>
        simp_arith [r_listRng, r_kget1, r_iEnumT, r_sorted, r_all, r_any, r_insert, r_count, r_popAt, r_reverse, r_extend, blkZ_K, FB.optV]
        refine ⟨_, _, SqL.of (s3 _ _ e2), atI_nat (by rw [List.getElem?_map, hv]; rfl), ?_⟩
        simp_arith [r_listRng, r_kget1, r_iEnumT, r_sorted, r_all, r_any, r_insert, r_count, r_popAt, r_reverse, r_extend, blkZ_K]
        obtain ⟨g', hg', eg⟩ : ∃ g' : Nat, (g' = 0 ∨ g' = 1) ∧ g = (g' : Int) := by
          rcases FL.gapD_01 hg with z | z
          · exact ⟨0, .inl rfl, z⟩
          · exact ⟨1, .inr rfl, z⟩
        obtain ⟨n1, n2⟩ := he.next hv (by omega) f1 f2 hg'
        refine ⟨s2.trans s3, s3 _ _ e2, if (v : Int) + g > f then v + g' else f, ?_, ?_, some (.int j), some (.int g), ?_⟩
        · split
          · exact n1
          · exact f1
        · split
          · exact n2
          · exact f2
        · rw [eg]
          split <;> simp
    · rintro σ H2 ⟨s2, e2, f, f1, f2, o5, o6, rfl⟩
      simp_arith [r_listRng, r_kget1, r_iEnumT, r_sorted, r_all, r_any, r_insert, r_count, r_popAt, r_reverse, r_extend, blkZ_K]
      refine ⟨.inl ⟨rfl, _, SqL.of e2⟩, _, e2, by rw [sizeLine_eq, List.length_map]; omega, s2.updM hm, at_ ++ [f], by rw [List.length_append, la]; rfl, he.snoc f1 f2, by rw [upd_same, List.map_append]; rfl, _, _, _, _, rfl⟩
  · rintro σ H1 ⟨s1, at_, la, he, e1, o3, o4, o5, o6, rfl⟩
    simp_arith [r_listRng, r_kget1, r_iEnumT, r_sorted, r_all, r_any, r_insert, r_count, r_popAt, r_reverse, r_extend, blkZ_K]
    cases b with
    | true =>
      refine ⟨xs, .inl (s1.seq hS), by omega, by omega, fun acc hacc bk => ?_⟩
      rw [Int.toNat_natCast, lx]
      refine FL.cg_newR (fun k : Nat => [(k : Int)]) (by rw [sizeLine_eq]; omega) hacc (fun i hi H2 Q' s2 h => ?_) (fun H2 ys hN => ?_)
      · simp_arith [r_listRng, r_kget1, r_iEnumT, r_sorted, r_all, r_any, r_insert, r_count, r_popAt, r_reverse, r_extend, blkZ_K]
        intro p hp
        exact h p _ (Same.upd hp) hp upd_same
      · refine q _ _ _ _ (newB_back s1 hN) ?_ ?_ ?_
        · rw [List.length_map, List.length_range]; omega
        · have := FL.ones_len ds.length; omega
        · intro b hb e
          obtain ⟨k, _, rfl⟩ := List.mem_map.mp hb
          cases e
    | false =>
      intro p1 hp1
      refine ⟨_, _, upd_same, (by rw [upd_ne (ne_of_none e1 hp1)]; exact e1), (by rw [sizeLine_eq, List.length_map]; simp only [List.length_cons, List.length_nil]; omega), fun p2 hp2 => ⟨p2, -1 :: at_.map fun v : Nat => (v : Int), rfl, SqL.of (by rw [upd_same, List.map_cons, List.map_map]; rfl), by simp, fun M h1 h2 => ?_⟩⟩
      obtain ⟨M', eM, hM⟩ : ∃ M' : Nat, M + 1 = (M' : Int) ∧ ∀ b, b < M' → b ∈ at_ := by
        rcases List.mem_cons.mp h1 with z | z
        · exact ⟨0, by omega, fun b hb => by omega⟩
        · obtain ⟨v, hv, ev⟩ := List.mem_map.mp z
          refine ⟨v + 1, by omega, fun b hb => ?_⟩
          have := he.down (v - b) v hv (by omega)
          rwa [show v - (v - b) = b by omega] at this
      have hM8 : M' ≤ 8 := by
        rcases Nat.eq_zero_or_pos M' with z | z
        · omega
        · obtain ⟨k, hk⟩ := List.mem_iff_getElem?.mp (hM (M' - 1) (by omega))
          have := he.le _ _ hk
          have := (List.getElem?_eq_some_iff.mp hk).1
          omega
      rw [eM]
      refine ⟨by omega, by omega, fun acc hacc bk => ?_⟩
      rw [Int.toNat_natCast]
      have s3 := (s1.updN (o := .lst [V.int (-1)]) hp1).updN (o := .lst ([V.int (-1)] ++ at_.map fun v : Nat => V.int v)) hp2
      refine FL.cg_newR (FL.blockOf ds.length at_) (by rw [sizeLine_eq]; omega) hacc (fun i hi H2 Q' s2 h => ?_) (fun H2 ys hN => ?_)
      · simp_arith [r_listRng, r_kget1, r_iEnumT, r_sorted, r_all, r_any, r_insert, r_count, r_popAt, r_reverse, r_extend, blkZ_K]
        refine ⟨xs, .inl ((s3.trans s2).seq hS), by omega, by omega, fun acc2 hacc2 bk2 => ?_⟩
        rw [Int.toNat_natCast, lx]
        have e3 : H2 m = some (.lst (at_.map fun v : Nat => V.int v)) := s2 _ _ ((Same.upd hp2) _ _ ((Same.upd hp1) _ _ e1))
        refine cg_sameR (fun k => decide (at_[k]? = some i)) (fun k : Nat => V.int k) (by rw [sizeLine_eq]; omega) hacc2 (fun k hk H4 Q4 s4 h4 => ?_) (fun k hk H4 Q4 s4 _ h4 => ?_) (fun H4 s4 hacc4 => ?_)
        · simp_arith [r_listRng, r_kget1, r_iEnumT, r_sorted, r_all, r_any, r_insert, r_count, r_popAt, r_reverse, r_extend, blkZ_K]
          obtain ⟨v, hv⟩ : ∃ v, at_[k]? = some v := ⟨_, List.getElem?_eq_getElem (by omega)⟩
          refine ⟨_, _, SqL.of (s4 _ _ e3), atI_nat (by rw [List.getElem?_map, hv]; rfl), ?_⟩
          simp_arith [r_listRng, r_kget1, r_iEnumT, r_sorted, r_all, r_any, r_insert, r_count, r_popAt, r_reverse, r_extend, blkZ_K]
          have z := h4 H4 (Same.refl _)
          rw [hv] at z
          refine (show ∀ {b1 b2 : Bool}, b1 = b2 → Q4 b1 H4 → Q4 b2 H4 from fun e z => e ▸ z) ?_ z
          rw [Bool.eq_iff_iff, decide_eq_true_iff, decide_eq_true_iff, Option.some.injEq]
          omega
        · simp_arith [r_listRng, r_kget1, r_iEnumT, r_sorted, r_all, r_any, r_insert, r_count, r_popAt, r_reverse, r_extend, blkZ_K]
          exact h4 H4 (Same.refl _)
        · refine h acc2 _ s4 hacc2 ?_
          rw [hacc4]
          unfold FL.blockOf
          rw [List.map_map]
          rfl
      · refine q _ _ _ _ (newB_back s3 hN) ?_ ?_ ?_
        · rw [List.length_map, List.length_range]; omega
        · have := FL.blocks_le ds.length M' at_; omega
        · intro b hb
          obtain ⟨k, hk, rfl⟩ := List.mem_map.mp hb
          exact FL.block_ne la (hM k (List.mem_range.mp hk))
theorem r_early {a : Addr} {b : Bool} {H : Hp} {Q : VK} {E : XK} : sp_early K [.ref a, .bl b] H Q E = ∃ (xs : List V) (ds : List FB.Deed), SqL K H a xs ∧ DeedsV K H xs ds ∧ ds.length ≤ 8 ∧
  ∀ p ys bss H', FL.NewB H H' p ys bss → bss.length ≤ 8 → bss.flatten.length ≤ 8 → (∀ b ∈ bss, b ≠ []) → Q (.ref p) H' := propext ⟨by rintro ⟨_, xs, ds, _, e, q⟩; cases e; exact ⟨xs, ds, q⟩, by rintro ⟨xs, ds, q⟩; exact ⟨a, xs, ds, b, rfl, q⟩⟩
end

end K31
set_option Elab.async false
set_option linter.all false
set_option maxRecDepth 100000
set_option maxHeartbeats 4000000
namespace K31
open PySem L2 PyProof.Rows FA
def sp_bent (K : PySem.W.Frag) : Sp := fun vs H Q _ => ∃ (c : Addr) (mx : Int) (n : Nat) (bss : List (List Int)), vs = [.ref c, .int mx, .int n] ∧ FL.BsV H c bss ∧ bss.length ≤ 8 ∧ bss.flatten.length ≤ 8 ∧ (∀ b ∈ bss, b ≠ []) ∧
  ∀ p bss' H', Same H H' → FL.BsV H' p bss' → bss'.length ≤ 10 → bss'.flatten.length ≤ 40 → Q (.ref p) H'
section
variable {P : Program} {w : World} {K : PySem.W.Frag} {mg : Str → Option Value} {base : Heap} {t : Ad}
theorem mod_nat {x : Int} {m : Nat} (h : 0 < m) : ∃ i : Nat, x % (m : Int) = (i : Int) ∧ i < m :=
  ⟨(x % (m : Int)).toNat, by have := Int.emod_nonneg x (show (m : Int) ≠ 0 by omega); omega, by have := Int.emod_lt_of_pos x (show (0 : Int) < m by omega); have := Int.emod_nonneg x (show (m : Int) ≠ 0 by omega); omega⟩
theorem bs1 {H : Hp} {a p : Addr} {b : List Int} (h : H a = some (.lst [V.ref p])) (hp : H p = some (.lst (b.map V.int))) : FL.BsV H a [b] := ⟨[p], h, .cons hp .nil⟩
theorem spot_nat {x : Int} {m : Nat} (h : 0 < m) : ∃ k : Nat, x % (if (m : Int) > 1 then (m : Int) else 1) = k ∧ k < m := by
  split
  · exact mod_nat h
  · exact ⟨0, by omega, h⟩
/-- behind the ways -/
def BentM (H : Hp) (σ : L2.St) (H' : Hp) : Prop := ∃ p bss' o0 o1 o2 o4 o5 o6 o7 o8, σ = [o0, o1, o2, some (.ref p), o4, o5, o6, o7, o8] ∧ Same H H' ∧ FL.BsV H' p bss' ∧ bss'.length ≤ 10 ∧ bss'.flatten.length ≤ 40
theorem seqIx {k n : Nat} (h : k < n) : seqIndex? (k : Int) n = some k := (ixN_seq (FL.ixN_nat h)).1
theorem map_erase {α β : Type} (f : α → β) : ∀ (l : List α) (k : Nat), (l.map f).eraseIdx k = (l.eraseIdx k).map f
  | [], _ => rfl
  | _ :: _, 0 => rfl
  | a :: l, k + 1 => by rw [List.map_cons, List.eraseIdx_cons_succ, List.eraseIdx_cons_succ, List.map_cons, map_erase f l k]
theorem set_get {α : Type} {l : List α} {i j : Nat} {a : α} (h : j < l.length) : ∃ b, (l.set i a)[j]? = some b := ⟨_, List.getElem?_eq_getElem (by rw [List.length_set]; exact h)⟩
theorem bentM {H H' : Hp} {p : Addr} {bss' : List (List Int)} {o0 o1 o2 o4 o5 o6 o7 o8 : Option V} (s : Same H H') (h : FL.BsV H' p bss') (l1 : bss'.length ≤ 10) (l2 : bss'.flatten.length ≤ 40) : BentM H [o0, o1, o2, some (.ref p), o4, o5, o6, o7, o8] H' := ⟨p, bss', _, _, _, _, _, _, _, _, rfl, s, h, l1, l2⟩
theorem ok_bent (T : Txt K mg t) : FnOk P w K mg base CX0 1 t.f__law_bent t.e__law_bent ["_law_beats", "_law_mixed_here", "_law_many"] (sp_bent K) := by
  refine T.d__law_bent.F.ok sc__law_bent (fun vs H Q E h => by obtain ⟨_, _, _, _, rfl, _⟩ := h; rfl) (fun cdv A outer s H vs Q E hr h => ?_)
  obtain ⟨c, mx, n, bss, rfl, hB, l8, f8, ne, q⟩ := h
  obtain ⟨ps0, hC, hps⟩ := hB
  refine ⟨_,
      (XSs.h
      (xpss_cons
        (xps_setComp (i := 3) sc__law_bent.nd rfl ll rfl (by kernel_rfl) (tns := ["_law_beat"]) (cns := []) (ci := []) rfl (CompSc.of (by kernel_rfl)) (xpi_list (xqv 0 vl)) (fun _ => (xpg_name (i := 1) (show List.Nodup [(".0" : Str), ("_law_beat" : Str)] by decide +kernel) rfl ll (Or.inr (by kernel_rfl)))) (fun _ => xpf_nil) (fun _ => (xqe_callTy call_list_of gl T.z_list boot_list (xpa_cons (xqv 1 vl) xpa_nil))))
      (xpss_cons
        (xps_set (i := 4) sc__law_bent.nd rfl lc (xpe_op op_mod (xqv 1 vl) xpe_int))
      (xpss_cons
        (xps_if (xpt_cmpR op_eq (xqe_callB call_len_seq gl T.z_len PySem.boot_len (xpa_cons (xqv 3 vl) xpa_nil)) xpe_int (nomark _))
          (xpss_one
            (xps_ret (xpe_ix ix_list (xpe_lst (xpa_cons (xqv 3 vl) (xpa_cons (xpe_lst (xpa_cons (xpe_lst xpa_nil) xpa_nil)) (xpa_cons (xpe_lst (xpa_cons (xpe_lst (xpa_cons xpe_int xpa_nil)) xpa_nil)) (xpa_cons (xpe_lst (xpa_cons (xpe_lst (xpa_cons (xpe_un un_neg xpe_int) xpa_nil)) xpa_nil)) xpa_nil))))) (xpe_op op_mod (xqv 4 vc) xpe_int) (fun _ _ => rfl))))
          xpss_nil)
      (xpss_cons
        (xps_set (i := 5) sc__law_bent.nd rfl ll (xpe_op op_mod (xpe_op op_fdivB (xqv 1 vl) xpe_int) (xqe_callB call_len_seq gl T.z_len PySem.boot_len (xpa_cons (xqv 3 vl) xpa_nil))))
      (xpss_cons
        (xps_set (i := 6) sc__law_bent.nd rfl ll (xpe_op op_mod (xpe_op op_fdivB (xqv 1 vl) xpe_int) (xqe_callB call_len_seq gl T.z_len PySem.boot_len (xpa_cons (xqv 3 vl) xpa_nil))))
      (xpss_cons
        (xps_set (i := 7) sc__law_bent.nd rfl ll (xpe_op op_mod (xpe_op op_fdivB (xqv 1 vl) xpe_int) (xqe_callB (call_max2 rfl) gl T.z_max boot_max (xpa_cons xpe_int (xpa_cons (xqe_callB call_len_seq gl T.z_len PySem.boot_len (xpa_cons (xpe_ix ix_list (xqv 3 vl) (xqv 5 vl) (fun _ _ => rfl)) xpa_nil)) xpa_nil)))))
      (xpss_mid
        (xps_if (xPW_pt (xpw_and (xpt_cmpR op_lt (xqv 4 vc) xpe_int (nomark _)) (xpw_and1 (xpt_cmpR op_gt (xqe_callB call_len_seq gl T.z_len PySem.boot_len (xpa_cons (xpe_ix ix_list (xqv 3 vl) (xqv 5 vl) (fun _ _ => rfl)) xpa_nil)) xpe_int (nomark _)))))
          (xpss_cons
            (xps_asg (xqe_callB call_sorted gl T.z_sorted boot_sorted (xpa_cons (xpe_op op_cat (xpe_ix ix_list (xqv 3 vl) (xqv 6 vl) (fun _ _ => rfl)) (xpe_lst (xpa_cons (xpe_bm PySem.F.plainAttrs_list PySem.F.slot_list_pop PySem.F.type_list_pop mt_popAt (xpe_ix ix_list (xqv 3 vl) (xqv 5 vl) (fun _ _ => rfl)) (xpa_cons (xqv 7 vl) xpa_nil)) xpa_nil))) xpa_nil)) (xpg_sub (xqv 3 vl) (xqv 6 vl) set_list))
          (xpss_one
            (xps_setComp (i := 3) sc__law_bent.nd rfl ll rfl (by kernel_rfl) (tns := ["_law_beat"]) (cns := ["_law_way"]) (ci := [4]) rfl (CompSc.of (by kernel_rfl)) (xpi_list (xqv 3 vl)) (fun _ => (xpg_name (i := 1) (show List.Nodup [(".0" : Str), ("_law_beat" : Str), ("_law_way" : Str)] by decide +kernel) rfl ll (Or.inr (by kernel_rfl)))) (fun _ => (xpf_one (xPW_pt (xpw_or (xpt_cmpR op_gt (xqe_callB call_len_seq gl T.z_len PySem.boot_len (xpa_cons (xqv 1 vl) xpa_nil)) xpe_int (nomark _)) (xpw_or1 (xpt_cmpR op_eq (xqv 2 vc) xpe_int (nomark _))))))) (fun _ => (xqv 1 vl)))))
          (xpss_one
            (xps_if (xpt_cmpR op_eq (xqv 4 vc) xpe_int (nomark _))
              (xpss_cons
                (xps_set (i := 8) sc__law_bent.nd rfl ll (xpe_ix ix_list (xqv 3 vl) (xqv 5 vl) (fun _ _ => rfl)))
              (xpss_cons
                (xps_asg (xpe_ix ix_list (xqv 3 vl) (xqv 6 vl) (fun _ _ => rfl)) (xpg_sub (xqv 3 vl) (xqv 5 vl) set_list))
              (xpss_one
                (xps_asg (xqv 8 vl) (xpg_sub (xqv 3 vl) (xqv 6 vl) set_list)))))
              (xpss_one
                (xps_if (xpt_cmpR op_eq (xqv 4 vc) xpe_int (nomark _))
                  (xpss_one
                    (xps_expr (xpe_bm PySem.F.plainAttrs_list PySem.F.slot_list_pop PySem.F.type_list_pop mt_popAt (xpe_ix ix_list (xqv 3 vl) (xqv 5 vl) (fun _ _ => rfl)) (xpa_cons (xqv 7 vl) xpa_nil))))
                  (xpss_one
                    (xps_if (xpt_cmpR op_eq (xqv 4 vc) xpe_int (nomark _))
                      (xpss_one
                        (xps_asg (xpe_op op_cat (xpe_ix ix_list (xqv 3 vl) (xqv 6 vl) (fun _ _ => rfl)) (xpe_lst (xpa_cons (xpe_ix ix_list (xpe_ix ix_list (xqv 3 vl) (xqv 5 vl) (fun _ _ => rfl)) (xqv 7 vl) (fun _ _ => rfl)) xpa_nil))) (xpg_sub (xqv 3 vl) (xqv 6 vl) set_list)))
                      (xpss_one
                        (xps_if (xpt_cmpR op_eq (xqv 4 vc) xpe_int (nomark _))
                          (xpss_one
                            (xps_asg (xpe_ix ix_list (xpe_lst (xpa_cons (xqv 2 vl) (xpa_cons (xpe_un un_neg xpe_int) (xpa_cons (xpe_un un_neg (xqv 2 vl)) (xpa_cons (xpe_op op_pow xpe_int xpe_int) (xpa_cons xpe_int xpa_nil)))))) (xpe_op op_mod (xpe_op op_fdivB (xqv 1 vl) xpe_int) xpe_int) (fun _ _ => rfl)) (xpg_sub (xpe_ix ix_list (xqv 3 vl) (xqv 5 vl) (fun _ _ => rfl)) (xqv 7 vl) set_list)))
                          (xpss_one
                            (xps_if (xpt_cmpR op_eq (xqv 4 vc) xpe_int (nomark _))
                              (xpss_one
                                (xps_expr (xpe_bm PySem.F.plainAttrs_list PySem.F.slot_list_insert PySem.F.type_list_insert mt_insert (xqv 3 vl) (xpa_cons (xqv 5 vl) (xpa_cons (xpe_lst xpa_nil) xpa_nil)))))
                              (xpss_one
                                (xps_if (xpt_cmpR op_eq (xqv 4 vc) xpe_int (nomark _))
                                  (xpss_one
                                    (xps_expr (xpe_bm0 PySem.F.plainAttrs_list PySem.F.slot_list_reverse PySem.F.type_list_reverse mt_reverse (xpe_ix ix_list (xqv 3 vl) (xqv 5 vl) (fun _ _ => rfl)))))
                                  (xpss_one
                                    (xps_if (xpt_cmpR op_eq (xqv 4 vc) xpe_int (nomark _))
                                      (xpss_one
                                        (xps_set (i := 3) sc__law_bent.nd rfl ll (xpe_op op_cat (xpe_op op_cat (xpe_slice sl_list (xqv 3 vl) xpo_none (xpo_some (xqv 5 vl))) (xpe_lst (xpa_cons (xpe_slice sl_list (xpe_ix ix_list (xqv 3 vl) (xqv 5 vl) (fun _ _ => rfl)) xpo_none (xpo_some xpe_int)) (xpa_cons (xpe_slice sl_list (xpe_ix ix_list (xqv 3 vl) (xqv 5 vl) (fun _ _ => rfl)) (xpo_some xpe_int) xpo_none) xpa_nil)))) (xpe_slice sl_list (xqv 3 vl) (xpo_some (xpe_op op_add (xqv 5 vl) xpe_int)) xpo_none))))
                                      xpss_nil)))))))))))))))
      (xpss_one
        (xps_ret (xqv 3 vl))))))))))), ?_⟩
  rw [show start _ [V.ref c, V.int mx, V.int n] = [some (.ref c), some (.int mx), some (.int n), none, none, none, none, none, none] from rfl]
  simp_arith [r_listRng, r_kget1, r_iEnumT, r_sorted, r_all, r_any, r_insert, r_count, r_popAt, r_reverse, r_extend, blkZ_K]
  refine ⟨⟨_, SqL.of hC⟩, fun acc hacc bk => ?_⟩
  refine FL.cg_newL id (by rw [sizeLine_eq]; omega) hC hps hacc (fun p b hb H1 Q' s1 hp h => ?_) (fun H1 ys hN => ?_)
  · simp_arith [r_listRng, r_kget1, r_iEnumT, r_sorted, r_all, r_any, r_insert, r_count, r_popAt, r_reverse, r_extend, blkZ_K]
    exact ⟨_, .inl (SqL.of hp), fun l hl => h l _ (Same.upd hl) hl upd_same⟩
  rw [List.map_id] at hN
  have ly := hN.len
  have e1 : H1 acc = some (.lst ys) := hN.2.2.1
  have s1 := hN.1
  refine ⟨ys, .inl (SqL.of e1), ite_dec (fun h0 => ?_) (fun h0 => ?_)⟩
  · have hb0 : bss = [] := List.length_eq_zero_iff.mp (by omega)
    subst hb0
    intro p0 h0' p1 h1 p2 h2 p3 h3 p4 h4 p5 h5 p6 h6
    have t0 := Same.upd (o := .lst []) h0'
    have t1 := Same.upd (o := .lst [V.ref p0]) h1
    have t2 := Same.upd (o := .lst [V.int 0]) h2
    have t3 := Same.upd (o := .lst [V.ref p2]) h3
    have t4 := Same.upd (o := .lst [V.int (-1)]) h4
    have t5 := Same.upd (o := .lst [V.ref p4]) h5
    have t6 := Same.upd (o := .lst [V.ref acc, V.ref p1, V.ref p3, V.ref p5]) h6
    have t56 := t5.trans t6
    have t46 := t4.trans t56
    have t36 := t3.trans t46
    have t26 := t2.trans t36
    have t16 := t1.trans t26
    have t06 := t0.trans t16
    have sa := s1.trans t06
    rcases (by omega : mx % 11 % 4 = 0 ∨ mx % 11 % 4 = 1 ∨ mx % 11 % 4 = 2 ∨ mx % 11 % 4 = 3) with e | e | e | e <;> rw [e]
    · exact ⟨_, _, SqL.of upd_same, rfl, q acc [] _ sa (hN.bs.same t06) (by simp) (by simp)⟩
    · exact ⟨_, _, SqL.of upd_same, rfl, q p1 [[]] _ sa (bs1 (t26 _ _ upd_same) (t16 _ _ upd_same)) (by simp) (by simp)⟩
    · exact ⟨_, _, SqL.of upd_same, rfl, q p3 [[0]] _ sa (bs1 (t46 _ _ upd_same) (t36 _ _ upd_same)) (by simp) (by simp)⟩
    · exact ⟨_, _, SqL.of upd_same, rfl, q p5 [[-1]] _ sa (bs1 (t6 _ _ upd_same) (t56 _ _ upd_same)) (by simp) (by simp)⟩
  have lb : 0 < bss.length := by omega
  obtain ⟨i, ei, hi⟩ := mod_nat (x := mx / 11) lb
  obtain ⟨j, ej, hj⟩ := mod_nat (x := mx / 100) lb
  obtain ⟨bi, hbi⟩ : ∃ b, bss[i]? = some b := ⟨_, List.getElem?_eq_getElem hi⟩
  obtain ⟨bj, hbj⟩ : ∃ b, bss[j]? = some b := ⟨_, List.getElem?_eq_getElem hj⟩
  obtain ⟨qi, hqi, eqi, nqi, qip, put⟩ := hN.get hbi
  obtain ⟨qj, hqj, eqj, nqj, qjp, _⟩ := hN.get hbj
  have lbi := FL.len_le_flat (List.mem_of_getElem? hbi)
  have lbj := FL.len_le_flat (List.mem_of_getElem? hbj)
  have pbi : 0 < bi.length := List.length_pos_iff.mpr (ne bi (List.mem_of_getElem? hbi))
  obtain ⟨k, ek, hk⟩ := spot_nat (x := mx / 1000) pbi
  obtain ⟨v, hv⟩ : ∃ v, bi[k]? = some v := ⟨_, List.getElem?_eq_getElem hk⟩
  have hvm : (bi.map V.int)[k]? = some (V.int v) := by rw [List.getElem?_map, hv]; rfl
  refine ⟨CDivB.small (by decide) (by decide), ys, .inl (SqL.of e1), by omega, CDivB.small (by decide) (by decide), ys, .inl (SqL.of e1), by omega, CDivB.small (by decide) (by decide), ys, .ref qi, SqL.of e1, by rw [ly, ei]; exact atI_nat hqi, qi, bi.map V.int, rfl, .inl (SqL.of eqi), by split <;> omega, ?_⟩
  rw [List.length_map, ly, ei, ej, ek]
  refine ⟨BentM H, ?_, ?_⟩
  · refine ite_dec (fun hw => ⟨ys, _, SqL.of e1, atI_nat hqi, qi, _, rfl, .inl (SqL.of eqi), ite_dec (fun _ => ?_) (fun z => absurd (by rw [List.length_map]; omega) z)⟩) (fun hw => ?_)
    · -- ways 0, 1, 2
      refine ⟨ys, _, SqL.of e1, atI_nat hqj, ys, _, SqL.of e1, atI_nat hqi, ?_⟩
      simp_arith [r_listRng, r_kget1, r_iEnumT, r_sorted, r_all, r_any, r_insert, r_count, r_popAt, r_reverse, r_extend, blkZ_K]
      have hvl := List.length_eraseIdx (l := bi) (i := k)
      rw [if_pos hk] at hvl
      refine ⟨.inl ⟨rfl, _, SqL.of eqi⟩, _, k, _, eqi, by omega, by omega, by rw [List.length_map]; exact seqIx hk, hvm, fun p hp => ?_⟩
      rw [map_erase] at hp ⊢
      have N2 := put (bi.eraseIdx k)
      obtain ⟨bj', hbj'⟩ := set_get (l := bss) (i := i) (a := bi.eraseIdx k) hj
      obtain ⟨qj2, hqj2, eqj2, _⟩ := N2.get hbj'
      rw [hqj] at hqj2
      cases hqj2
      have f2 := FL.flat_set (bi.eraseIdx k) bss i
      have lbj' := FL.len_le_flat (List.mem_of_getElem? hbj')
      have t3 := Same.upd (o := .lst [V.int v]) hp
      refine ⟨_, _, t3 _ _ eqj2, upd_same, by rw [sizeLine_eq, List.length_map]; simp only [List.length_cons, List.length_nil]; omega, fun p1 hp1 => ?_⟩
      have t4 := Same.upd (o := .lst (bj'.map V.int ++ [V.int v])) hp1
      refine ⟨bj' ++ [v], SqL.of (by rw [upd_same, List.map_append]; rfl), by rw [List.length_append, List.length_singleton]; omega, fun l ns' hl hperm _ => ?_⟩
      have t5 := Same.upd (o := .lst (ns'.map V.int)) hl
      have N5 := N2.more ((t3.trans t4).trans t5)
      have hlp : l ≠ acc := fun z => by rw [z, (t3.trans t4) _ _ N2.2.2.1] at hl; cases hl
      obtain ⟨s6, b6⟩ := N5.slot j (r := l) upd_same hlp
      have ln := hperm.length_eq
      rw [List.length_append, List.length_singleton] at ln
      have f6 := FL.flat_set ns' (bss.set i (bi.eraseIdx k)) j
      refine ⟨acc, ys, _, j, rfl, rfl, N5.2.2.1, FL.ixN_nat (by omega), ⟨_, SqL.of upd_same⟩, fun acc2 hacc2 bk2 => ?_⟩
      generalize hH6 : upd _ acc _ = H6 at s6 b6 hacc2 ⊢
      have e6 : H6 acc = some (.lst (ys.set j (V.ref l))) := by rw [← hH6]; exact upd_same
      obtain ⟨ps6, ep6, pr6⟩ := id b6
      refine cg_sameL (fun x => match x with | .ref q => (match H6 q with | some (.lst l) => decide (0 < l.length) || decide (mx % 11 = 2) | _ => false) | _ => false) id (by rw [sizeLine_eq, List.length_set]; omega) (SqL.of e6) hacc2 (fun x hx H7 Q' s7 h7 => ?_) (fun x hx H7 Q' s7 _ h7 => ?_) (fun H7 s7 h7 => ?_)
      · rw [e6] at ep6
        have ep7 := HO.lst.inj (Option.some.inj ep6)
        rw [ep7] at hx
        obtain ⟨r, hr1, rfl⟩ := List.mem_map.mp hx
        obtain ⟨b, _, hb⟩ := FL.Paired.mem pr6 r hr1
        have z := h7 H7 (Same.refl _)
        simp only [hb] at z
        simp_arith [r_listRng, r_kget1, r_iEnumT, r_sorted, r_all, r_any, r_insert, r_count, r_popAt, r_reverse, r_extend, blkZ_K]
        refine ⟨_, .inl (SqL.of (s7 _ _ hb)), ite_dec (fun h => ?_) (fun h => ?_)⟩
        · rw [decide_eq_true (by omega), Bool.true_or] at z; exact z
        · rw [decide_eq_false (by omega), Bool.false_or] at z; exact z
      · simp_arith [r_listRng, r_kget1, r_iEnumT, r_sorted, r_all, r_any, r_insert, r_count, r_popAt, r_reverse, r_extend, blkZ_K]
        exact h7 H7 (Same.refl _)
      · obtain ⟨bss', h8, sub⟩ := FL.BsV.filt _ b6 e6 s7 h7
        have sl := sub.length_le
        have sf := FL.flat_sub sub
        rw [List.length_set, List.length_set] at sl
        exact bentM (s6.trans s7) h8 (by omega) (by omega)
    refine ite_dec (fun _ => ?_) (fun hw3 => ?_)
    · -- way 3
      obtain ⟨a1, a2, g1, g2, sw⟩ := hN.swap hbi hbj
      rw [hqi] at g1
      rw [hqj] at g2
      cases g1
      cases g2
      obtain ⟨sa, sb⟩ := sw (.lst (ys.set i (.ref qj)))
      have f1 := FL.flat_set bj bss i
      have f2 := FL.flat_set bi (bss.set i bj) j
      refine ⟨ys, _, SqL.of e1, atI_nat hqi, ys, _, SqL.of e1, atI_nat hqj, acc, ys, _, i, rfl, rfl, e1, FL.ixN_nat (by omega), acc, _, _, j, rfl, rfl, upd_same, FL.ixN_nat (by rw [List.length_set]; omega), bentM sa sb (by rw [List.length_set, List.length_set]; omega) (by omega)⟩
    refine ite_dec (fun _ => ?_) (fun hw4 => ?_)
    · -- way 4
      have f1 := FL.flat_set (bi.eraseIdx k) bss i
      have l1 := List.length_eraseIdx_le bi k
      refine ⟨ys, _, SqL.of e1, atI_nat hqi, .inl ⟨rfl, _, SqL.of eqi⟩, qi, _, _, k, _, rfl, rfl, eqi, by omega, by omega, by rw [List.length_map]; exact seqIx hk, hvm, ?_⟩
      rw [map_erase]
      exact bentM (put _).1 (put _).bs (by rw [List.length_set]; omega) (by omega)
    refine ite_dec (fun _ => ?_) (fun hw5 => ?_)
    · -- way 5
      refine ⟨ys, _, SqL.of e1, atI_nat hqj, ys, _, SqL.of e1, atI_nat hqi, ?_⟩
      simp_arith [r_listRng, r_kget1, r_iEnumT, r_sorted, r_all, r_any, r_insert, r_count, r_popAt, r_reverse, r_extend, blkZ_K]
      refine ⟨_, _, SqL.of eqi, atI_nat hvm, fun p hp => ?_⟩
      have t3 := Same.upd (o := .lst [V.int v]) hp
      refine ⟨_, _, t3 _ _ eqj, upd_same, by rw [sizeLine_eq, List.length_map]; simp only [List.length_cons, List.length_nil]; omega, fun p1 hp1 => ?_⟩
      have t4 := Same.upd (o := .lst (bj.map V.int ++ [V.int v])) hp1
      have N5 := hN.more (t3.trans t4)
      have hlp : p1 ≠ acc := fun z => by rw [z, t3 _ _ e1] at hp1; cases hp1
      obtain ⟨s6, b6⟩ := N5.slot j (r := p1) (b := bj ++ [v]) (by rw [upd_same, List.map_append]; rfl) hlp
      have f6 := FL.flat_set (bj ++ [v]) bss j
      rw [List.length_append, List.length_singleton] at f6
      exact ⟨acc, ys, _, j, rfl, rfl, N5.2.2.1, FL.ixN_nat (by omega), bentM s6 b6 (by rw [List.length_set]; omega) (by omega)⟩
    refine ite_dec (fun _ => ?_) (fun hw6 => ?_)
    · -- way 6
      refine ⟨⟨by decide, by decide, by decide⟩, fun p hp => ⟨CDivB.small (by decide) (by decide), ?_⟩⟩
      obtain ⟨z, hz⟩ : ∃ z : Int, atI [V.int n, V.int (-1), V.int (-n), V.int (10 ^ Int.toNat 30), V.int 63] (mx / 7000 % 5) = some (V.int z) := by
        rcases (by omega : mx / 7000 % 5 = 0 ∨ mx / 7000 % 5 = 1 ∨ mx / 7000 % 5 = 2 ∨ mx / 7000 % 5 = 3 ∨ mx / 7000 % 5 = 4) with e | e | e | e | e <;> rw [e]
        · exact ⟨_, rfl⟩
        · exact ⟨_, rfl⟩
        · exact ⟨_, rfl⟩
        · exact ⟨_, rfl⟩
        · exact ⟨_, rfl⟩
      have t3 := Same.upd (o := .lst [V.int n, V.int (-1), V.int (-n), V.int (10 ^ Int.toNat 30), V.int 63]) hp
      have N3 := hN.more t3
      obtain ⟨q2, hq2, eq2, nq2, q2p, put2⟩ := N3.get hbi
      have f1 := FL.flat_set (bi.set k z) bss i
      rw [List.length_set] at f1
      refine ⟨_, _, SqL.of upd_same, hz, ys, _, SqL.of N3.2.2.1, atI_nat hq2, q2, _, _, k, rfl, rfl, eq2, FL.ixN_nat (by rw [List.length_map]; exact hk), ?_⟩
      rw [← List.map_set]
      exact bentM (put2 _).1 (put2 _).bs (by rw [List.length_set]; omega) (by omega)
    refine ite_dec (fun _ => ?_) (fun hw7 => ?_)
    · -- way 7
      refine ⟨.inl ⟨rfl, _, SqL.of e1⟩, fun p hp => ?_⟩
      obtain ⟨sa, sb⟩ := hN.ins i hp
      have l1 := FL.len_take_ins (bss := bss) i
      refine ⟨ys, by rw [upd_ne (ne_of_none e1 hp)]; exact e1, by omega, by omega, by rw [sizeLine_eq]; omega, ?_⟩
      rw [show insK (i : Int) ys.length = i by unfold insK; rw [if_neg (by omega), Int.toNat_natCast]; omega]
      exact bentM sa sb (by omega) (by omega)
    refine ite_dec (fun _ => ?_) (fun hw8 => ?_)
    · -- way 8
      refine ⟨ys, _, SqL.of e1, atI_nat hqi, .inl ⟨rfl, _, SqL.of eqi⟩, ?_⟩
      simp_arith [r_listRng, r_kget1, r_iEnumT, r_sorted, r_all, r_any, r_insert, r_count, r_popAt, r_reverse, r_extend, blkZ_K]
      refine ⟨_, eqi, ?_⟩
      have f1 := FL.flat_set bi.reverse bss i
      rw [List.length_reverse] at f1
      rw [← List.map_reverse]
      exact bentM (put _).1 (put _).bs (by rw [List.length_set]; omega) (by omega)
    refine ite_dec (fun _ => ?_) (fun hw9 => ?_)
    · -- way 9
      refine ⟨ys, SqL.of e1, fun p hp => ?_⟩
      rw [cutV_to (by omega), Int.toNat_natCast]
      have t2 := Same.upd (o := .lst (ys.take i)) hp
      refine ⟨ys, _, SqL.of (t2 _ _ e1), atI_nat hqi, ?_⟩
      simp_arith [r_listRng, r_kget1, r_iEnumT, r_sorted, r_all, r_any, r_insert, r_count, r_popAt, r_reverse, r_extend, blkZ_K]
      refine ⟨_, SqL.of (t2 _ _ eqi), fun r1 hr1 => ?_⟩
      rw [cutV_to (by decide), show Int.toNat 1 = 1 from rfl, ← List.map_take]
      have t3 := Same.upd (o := .lst ((bi.take 1).map V.int)) hr1
      refine ⟨ys, _, SqL.of (t3 _ _ (t2 _ _ e1)), atI_nat hqi, ?_⟩
      simp_arith [r_listRng, r_kget1, r_iEnumT, r_sorted, r_all, r_any, r_insert, r_count, r_popAt, r_reverse, r_extend, blkZ_K]
      refine ⟨_, SqL.of (t3 _ _ (t2 _ _ eqi)), fun r2 hr2 p1 hp1 => ?_⟩
      rw [cutV_from (by decide), show Int.toNat 1 = 1 from rfl, ← List.map_drop] at hp1 ⊢
      have t4 := Same.upd (o := .lst ((bi.drop 1).map V.int)) hr2
      have t5 := Same.upd (o := .lst [V.ref r1, V.ref r2]) hp1
      refine ⟨_, _, t5 _ _ (t4 _ _ (t3 _ _ upd_same)), upd_same, by rw [sizeLine_eq, List.length_take]; simp only [List.length_cons, List.length_nil]; omega, fun p2 hp2 => ?_⟩
      have t6 := Same.upd (o := .lst (ys.take i ++ [V.ref r1, V.ref r2])) hp2
      have t26 := ((t2.trans t3).trans (t4.trans t5)).trans t6
      refine ⟨ys, SqL.of (t26 _ _ e1), fun p3 hp3 => ?_⟩
      rw [cutV_from (by omega), show ((i : Int) + 1).toNat = i + 1 by omega] at *
      have t7 := Same.upd (o := .lst (ys.drop (i + 1))) hp3
      refine ⟨_, _, t7 _ _ upd_same, upd_same, by rw [sizeLine_eq, List.length_append, List.length_take, List.length_drop]; simp only [List.length_cons, List.length_nil]; omega, fun p4 hp4 => ?_⟩
      have t8 := Same.upd (o := .lst (ys.take i ++ [V.ref r1, V.ref r2] ++ ys.drop (i + 1))) hp4
      have t78 := t7.trans t8
      have sl := FL.split_len i (List.mem_of_getElem? hbi)
      refine bentM (s1.trans (t26.trans t78)) (FL.BsV.split (b1 := bi.take 1) (b2 := bi.drop 1) i hN (t26.trans t78) ((((t4.trans t5).trans t6).trans t78) _ _ upd_same) (((t5.trans t6).trans t78) _ _ upd_same) upd_same) ?_ (by omega)
      rw [List.length_append, List.length_append, List.length_take, List.length_drop]
      simp only [List.length_cons, List.length_nil]
      omega
    exact bentM s1 hN.bs (by omega) (by omega)
  · rintro σ H2 ⟨p, bss', o0, o1, o2, o4, o5, o6, o7, o8, rfl, sm, hb, l1, l2⟩
    simp_arith [r_listRng, r_kget1, r_iEnumT, r_sorted, r_all, r_any, r_insert, r_count, r_popAt, r_reverse, r_extend, blkZ_K]
    exact q p bss' H2 sm hb l1 l2
theorem r_bent {c : Addr} {mx i : Int} {H : Hp} {Q : VK} {E : XK} : sp_bent K [.ref c, .int mx, .int i] H Q E = ∃ (n : Nat) (bss : List (List Int)), i = n ∧ FL.BsV H c bss ∧ bss.length ≤ 8 ∧ bss.flatten.length ≤ 8 ∧ (∀ b ∈ bss, b ≠ []) ∧
  ∀ p bss' H', Same H H' → FL.BsV H' p bss' → bss'.length ≤ 10 → bss'.flatten.length ≤ 40 → Q (.ref p) H' := propext ⟨by rintro ⟨_, _, n, bss, e, q⟩; cases e; exact ⟨n, bss, rfl, q⟩, by rintro ⟨n, bss, e, q⟩; subst e; exact ⟨c, mx, n, bss, rfl, q⟩⟩
end

end K31
set_option Elab.async false
set_option linter.all false
set_option maxRecDepth 100000
set_option maxHeartbeats 4000000
namespace K31
open PySem L2 PyProof.Rows FA
section
variable {P : Program} {w : World} {K : PySem.W.Frag} {mg : Str → Option Value} {base : Heap} {t : Ad}
def sp_mixedW : Sp := fun vs H Q _ => ∃ c k : Int, vs = [.int c, .int k] ∧ Builtin.Int.intBits c ≤ 2 ^ 20 + 64 ∧ 0 ≤ k ∧ k ≤ 1000 ∧ Q (.int (mixed c k)) H
theorem r_mixedW {c k : Int} {H : Hp} {Q : VK} {E : XK} : sp_mixedW [.int c, .int k] H Q E = (Builtin.Int.intBits c ≤ 2 ^ 20 + 64 ∧ 0 ≤ k ∧ k ≤ 1000 ∧ Q (.int (mixed c k)) H) := propext ⟨by rintro ⟨_, _, e, q⟩; cases e; exact q, by intro q; exact ⟨c, k, rfl, q⟩⟩
theorem ok_mixedW (T : Txt K mg t) : FnOk P w K mg base CX0 1 t.f__law_mixed t.e__law_mixed ["_law_cell", "_law_k"] sp_mixedW := by
  refine T.d__law_mixed.F.ok sc__law_mixed (fun vs H Q E h => by obtain ⟨_, _, rfl, _⟩ := h; rfl) (fun cdv A outer s H vs Q E hr h => ?_)
  obtain ⟨c, k, rfl, hb, k0, k1, q⟩ := h
  refine ⟨_,
      (XSs.h
      (xpss_cons
        (xps_if (xpt_cmpR op_ge (xqv 0 vl) (xpe_op op_pow xpe_int xpe_int) (nomark _))
          (xpss_one
            (xps_ret (xpe_op op_mod (xpe_op op_fdivB (xpe_op op_sub (xqv 0 vl) (xpe_op op_pow xpe_int xpe_int)) (xpe_op op_shl xpe_int (xpe_op op_mul xpe_int (xpe_op op_mod (xqv 1 vl) xpe_int)))) (xpe_op op_shl xpe_int xpe_int))))
          xpss_nil)
      (xpss_cons
        (xps_set (i := 2) sc__law_mixed.nd rfl ll (xpe_op op_mod (xpe_op op_mul (xpe_op op_add (xpe_op op_add (xpe_op op_add (xpe_op op_mulB (xqv 0 vl) (xqv 0 vl)) (xpe_op op_mul xpe_int (xqv 0 vl))) (xpe_op op_mul xpe_int (xqv 1 vl))) xpe_int) xpe_int) xpe_int))
      (xpss_one
        (xps_ret (xpe_op op_mod (xpe_op op_add (xpe_op op_mul (xqv 2 vl) (xqv 2 vl)) xpe_int) xpe_int)))))), ?_⟩
  rw [show start _ [V.int c, V.int k] = [some (.int c), some (.int k), none] from rfl]
  simp_arith [r_listRng, r_kget1, r_iEnumT, r_sorted, r_all, r_any, r_insert, r_count, r_popAt, r_reverse, r_extend, blkZ_K]
  unfold mixed at q
  have cp : CPow 10 40 := ⟨by decide, by decide, by decide⟩
  refine ⟨cp, ite_dec (fun e => ?_) (fun e => ?_)⟩
  · rw [if_pos e] at q
    have m0 : 0 ≤ k % 60 := Int.emod_nonneg _ (by decide)
    have m1 : k % 60 < 60 := Int.emod_lt_of_pos _ (by decide)
    refine ⟨cp, .inl ⟨by decide, by decide⟩, ⟨by omega, by omega, by decide⟩, CDivB.pow (by omega), ⟨by decide, by decide, by decide⟩, by decide, q⟩
  · rw [if_neg e] at q
    have n0 : 0 ≤ (c * c + 3 * c + 7919 * k + 1) * 48271 % 2147483629 := Int.emod_nonneg _ (by decide)
    have n1 : (c * c + 3 * c + 7919 * k + 1) * 48271 % 2147483629 < 2147483629 := Int.emod_lt_of_pos _ (by decide)
    refine ⟨IntMulOk.of_le hb hb (by decide), .inl ⟨by decide, by decide⟩, .inl ⟨by decide, by decide⟩, .inr ⟨by decide, by decide⟩, .inl ⟨by omega, by omega⟩, q⟩
theorem ok_law (T : Txt K mg t) (hw : t.pr = w.params) : FnOk P w K mg base CX0 13 t.f_law t.e_law ["_law_script"] (sp_law K) := by
  have G__law_deeds := ok_deeds (P := P) (w := w) (base := base) T
  have G__law_mixed := ok_mixedW (P := P) (w := w) (base := base) T
  have G__law_early := ok_early (P := P) (w := w) (base := base) T
  have G__law_bent := ok_bent (P := P) (w := w) (base := base) T
  have G__law_kept := ok_kept (P := P) (w := w) (base := base) T
  have G_is_laying := ok_is (P := P) (base := base) T hw
  refine T.d_law.F.ok sc_law (fun vs H Q E h => by obtain ⟨_, _, rfl, _⟩ := h; rfl) (fun cdv A outer s H vs Q E hr h => ?_)
  obtain ⟨a, ns, rfl, hS, hlen, hbits, q⟩ := h
  have hu := hu_of hr
  refine ⟨_,
      (XSs.h
      (xpss_cons
        (xps_set (i := 1) sc_law.nd rfl ll (xqe_callB (call_sum rfl) gl T.z_sum boot_sum (xpa_cons (xpe_slice sl_list (xqv 0 vl) xpo_none (xpo_some xpe_int)) xpa_nil)))
      (xpss_cons
        (xps_set (i := 2) sc_law.nd rfl ll (xqe_callD T.d__law_deeds G__law_deeds (hr.mono (by first | decide | omega)) (xpa_cons (xpe_slice sl_list (xqv 0 vl) xpo_none (xpo_some xpe_int)) (xpa_cons (xpe_op op_mod (xqv 1 vl) xpe_int) (xpa_cons (xpe_op op_add xpe_int (xpe_op op_mod (xpe_op op_fdivB (xqv 1 vl) xpe_int) xpe_int)) xpa_nil))) gl))
      (xpss_cons
        (xps_set (i := 3) sc_law.nd rfl ll (xpe_tup (xpa_cons (xpe_op op_add xpe_int (xpe_op op_mod (xpe_op op_fdivB (xqv 1 vl) xpe_int) xpe_int)) (xpa_cons (xpe_op op_add xpe_int (xpe_op op_mod (xpe_op op_fdivB (xqv 1 vl) xpe_int) xpe_int)) (xpa_cons (xpe_op op_add xpe_int (xpe_op op_mod (xpe_op op_fdivB (xqv 1 vl) xpe_int) xpe_int)) xpa_nil)))))
      (xpss_cons
        (xps_set (i := 4) sc_law.nd rfl ll (xqe_callD T.d__law_early G__law_early (hr.mono (by first | decide | omega)) (xpa_cons (xqv 2 vl) (xpa_cons (xpe_cmpR op_eq (xpe_op op_mod (xpe_op op_fdivB (xqv 1 vl) xpe_int) xpe_int) xpe_int (nomark _)) xpa_nil)) gl))
      (xpss_cons
        (xps_for PassesOwn.never rfl (xpi_range1 gl T.z_range (xpa_cons xpe_int xpa_nil)) (xpg_name (i := 5) sc_law.nd rfl ll)
          (xpss_cons
            (xps_set (i := 6) sc_law.nd rfl ll (xqe_callD T.d__law_bent G__law_bent (hr.mono (by first | decide | omega)) (xpa_cons (xqv 4 vl) (xpa_cons (xqe_callD T.d__law_mixed G__law_mixed (hr.mono (by first | decide | omega)) (xpa_cons (xpe_op op_add (xqv 1 vl) (xqv 5 vl)) (xpa_cons (xpe_op op_add xpe_int (xqv 5 vl)) xpa_nil)) gl) (xpa_cons (xqe_callB call_len_seq gl T.z_len PySem.boot_len (xpa_cons (xqv 2 vl) xpa_nil)) xpa_nil))) gl))
          (xpss_cons
            (xps_set (i := 7) sc_law.nd rfl ll (xpe_lst (xpa_cons (xqe_callTy call_list_of gl T.z_list boot_list (xpa_cons (xqv 2 vl) xpa_nil)) (xpa_cons (xpe_compG (tns := ["_law_beat"]) (cns := []) (ci := []) rfl (CompSc.of (by kernel_rfl)) (xpi_list (xqv 6 vl)) (fun _ => (xpg_name (i := 1) (show List.Nodup [(".0" : Str), ("_law_beat" : Str)] by decide +kernel) rfl ll (Or.inr (by kernel_rfl)))) (fun _ => xpf_nil) (fun _ => (xqe_callTy call_list_of gl T.z_list boot_list (xpa_cons (xqv 1 vl) xpa_nil)))) xpa_nil))))
          (xpss_cons
            (xps_set (i := 8) sc_law.nd rfl ll (xqe_callD T.d_is_laying G_is_laying (hr.mono (by first | decide | omega)) (xpa_cons (xpe_ix ix_list (xqv 7 vl) xpe_int (fun _ _ => rfl)) (xpa_cons (xqv 3 vl) (xpa_cons (xpe_ix ix_list (xqv 7 vl) xpe_int (fun _ _ => rfl)) xpa_nil))) gl))
          (xpss_one
            (xps_if (xPW_pt (xpw_or (xpt_not (xpt_val (xqe_callB call_isi gl T.z_isinstance boot_isinstance (xpa_cons (xqv 8 vl) (xpa_cons (xqe_bltn (v := .ty "bool") gl T.z_bool boot_bool rfl) xpa_nil))))) (xpw_or (xpt_cmpR op_ne (xqv 8 vl) (xqe_callD T.d__law_kept G__law_kept (hr.mono (by first | decide | omega)) (xpa_cons (xqv 2 vl) (xpa_cons (xqv 3 vl) (xpa_cons (xqv 6 vl) xpa_nil))) gl) (nomark _)) (xpw_or1 (xpt_cmpR (op_neD (n := 3) (hu_n (by decide) hr)) (xqv 7 vl) (xpe_lst (xpa_cons (xqv 2 vl) (xpa_cons (xqv 6 vl) xpa_nil))) (nomark _))))))
              (xpss_one
                (xps_ret xpe_bl))
              xpss_nil))))))
      (xpss_cons
        (xps_set (i := 8) sc_law.nd rfl ll (xqe_callD T.d_is_laying G_is_laying (hr.mono (by first | decide | omega)) (xpa_cons (xqv 2 vl) (xpa_cons (xqv 3 vl) (xpa_cons (xqv 4 vl) xpa_nil))) gl))
      (xpss_one
        (xps_ret (xpe_and (xqe_callB call_isi gl T.z_isinstance boot_isinstance (xpa_cons (xqv 8 vl) (xpa_cons (xqe_bltn (v := .ty "bool") gl T.z_bool boot_bool rfl) xpa_nil))) (xpe_one (xpe_cmpR op_eq (xqv 8 vl) (xqe_callD T.d__law_kept G__law_kept (hr.mono (by first | decide | omega)) (xpa_cons (xqv 2 vl) (xpa_cons (xqv 3 vl) (xpa_cons (xqv 4 vl) xpa_nil))) gl) (nomark _))))))))))))), ?_⟩
  rw [show start _ [V.ref a] = [some (.ref a), none, none, none, none, none, none, none, none] from rfl]
  simp_arith [r_listRng, r_kget1, r_iEnumT, r_sorted, r_all, r_any, r_insert, r_count, r_popAt, r_reverse, r_extend, blkZ_K, r_deeds]
  have ec : cutV (ns.map V.int) none (some 63) = ns.map V.int := by rw [cutV_to (by decide), List.take_of_length_le (by rw [List.length_map]; exact hlen)]
  refine ⟨_, hS, fun p hp => ⟨p, ns, rfl, SqL.of (by rw [upd_same, ec]), _, (Same.upd hp).seq hS, fun p1 hp1 => ⟨CDivB.small (by decide) (by decide), ns, SqL.of (by rw [upd_same, ec]), hlen, hbits, Int.emod_nonneg _ (by decide), ?_, fun p2 xs H2 s2 hp2 hxs hds => ⟨CDivB.small (by decide) (by decide), CDivB.small (by decide) (by decide), CDivB.small (by decide) (by decide), fun p3 hp3 => ?_⟩⟩⟩⟩
  · have := Int.emod_nonneg (ns.sum / 9) (show (6 : Int) ≠ 0 by decide); omega
  have h8 : (deedsF (List.take (ns.sum % 9).toNat ns) (1 + ns.sum / 9 % 6).toNat).length ≤ 8 := by
    unfold deedsF
    rw [List.length_mapIdx, List.length_take]
    have := Int.emod_lt_of_pos ns.sum (show (0 : Int) < 9 by decide)
    omega
  generalize deedsF (List.take (ns.sum % 9).toNat ns) (1 + ns.sum / 9 % 6).toNat = ds at hds h8
  have lx := hds.length
  obtain ⟨us, hus, h3⟩ : ∃ us : List Int, [V.int (1 + ns.sum / 54 % 3), V.int (1 + ns.sum / 162 % 3), V.int (1 + ns.sum / 486 % 3)] = us.map V.int ∧ us.length = 3 := ⟨[1 + ns.sum / 54 % 3, 1 + ns.sum / 162 % 3, 1 + ns.sum / 486 % 3], rfl, rfl⟩
  rw [hus]
  have s3 := Same.upd (o := .tup (us.map V.int)) hp3
  have e3 : (upd H2 p3 (.tup (us.map V.int))) p3 = some (.tup (us.map V.int)) := upd_same
  obtain ⟨H3, hH3⟩ : ∃ H3, H3 = upd H2 p3 (.tup (us.map V.int)) := ⟨_, rfl⟩
  rw [← hH3] at s3 e3 ⊢
  have x3 := s3 _ _ hxs
  have d3 : DeedsV K H3 xs ds := hds.ts s3.ts
  have hsum : Builtin.Int.intBits ns.sum ≤ 2 ^ 20 + 63 := Nat.le_trans (FL.sum_bits hbits) (by omega)
  generalize ns.sum = fs at hsum
  refine ⟨CDivB.small (by decide) (by decide), ?_⟩
  simp_arith [r_listRng, r_kget1, r_iEnumT, r_sorted, r_all, r_any, r_insert, r_count, r_popAt, r_reverse, r_extend, blkZ_K, r_early]
  refine ⟨xs, ds, SqL.of x3, d3, h8, fun p4 ys bss H4 hN l8 f8 bne => ?_⟩
  have s4 := hN.1
  have hB4 := hN.bs
  have x4 := s4 _ _ x3
  have e4 := s4 _ _ e3
  have d4 : DeedsV K H4 xs ds := d3.ts s4.ts
  have refs : ∀ y ∈ xs, ∃ q, y = V.ref q := fun y hy => by
    obtain ⟨i, hi, rfl⟩ := List.mem_iff_getElem.mp hy
    obtain ⟨d, _, _, qx, e, _⟩ := Paired.get d4 (List.getElem?_eq_getElem hi)
    exact ⟨qx, e⟩
  have lay : ∀ {H' : Hp} {a' c' : Addr} {bss' : List (List Int)}, Same H4 H' → H' a' = some (.lst xs) → FL.BsV H' c' bss' → bss'.flatten.length < 64 → bss'.length ≤ 1000 → LayIn K H' a' p3 c' xs ds us bss' :=
    fun sm ha hb hf hl => ⟨SqL.of ha, d4.ts sm.ts, by omega, SqT.of (sm _ _ e4), h3, hb, hf, hl⟩
  refine ⟨by decide, by decide, ?_⟩
  refine fw_range0 (fun i σ H' => Same H4 H' ∧ ∃ o5 o6 o7 o8, σ = [some (.ref a), some (.int fs), some (.ref p2), some (.ref p3), some (.ref p4), o5, o6, o7, o8]) ⟨Same.refl _, _, _, _, _, rfl⟩ ?_ ?_
  · rintro k σ H5 hk ⟨s5, o5, o6, o7, o8, rfl⟩
    simp_arith [r_listRng, r_kget1, r_iEnumT, r_sorted, r_all, r_any, r_insert, r_count, r_popAt, r_reverse, r_extend, blkZ_K, r_mixedW, r_bent, r_is]
    have hk64 : Builtin.Int.intBits ((k : Nat) : Int) ≤ 64 := intBits_cast_le (by rw [sizeLine_eq]; omega)
    have hbk := intBits_add_le hsum hk64
    refine ⟨by have : max (2 ^ 20 + 63) 64 = 2 ^ 20 + 63 := by decide
               omega, by omega, by omega, xs, .inl (SqL.of (s5 _ _ x4)), ds.length, bss, by rw [lx], hB4.same s5, l8, f8, bne, fun p5 bss' H6 s6 hB6 l10 f40 => ?_⟩
    have s46 := s5.trans s6
    refine ⟨xs, .inl (SqL.of (s46 _ _ x4)), fun l hl => ?_⟩
    have s7 := Same.upd (o := .lst xs) hl
    obtain ⟨ps6, ep6, pr6⟩ := hB6.same s7
    refine ⟨⟨_, SqL.of ep6⟩, fun acc hacc bk => ?_⟩
    refine FL.cg_newL id (by rw [sizeLine_eq]; omega) ep6 pr6 hacc (fun p b hb H8 Q' s8 hp h => ?_) (fun H8 zs hN8 => ?_)
    · simp_arith [r_listRng, r_kget1, r_iEnumT, r_sorted, r_all, r_any, r_insert, r_count, r_popAt, r_reverse, r_extend, blkZ_K]
      exact ⟨_, .inl (SqL.of hp), fun l hl => h l _ (Same.upd hl) hl upd_same⟩
    rw [List.map_id] at hN8
    intro p9 hp9
    have s9 := Same.upd (o := .lst [V.ref l, V.ref acc]) hp9
    have s79 := (s7.trans hN8.1).trans s9
    have s49 := s46.trans s79
    refine ⟨_, _, SqL.of upd_same, rfl, _, _, SqL.of upd_same, rfl, ?_⟩
    simp_arith [r_listRng, r_kget1, r_iEnumT, r_sorted, r_all, r_any, r_insert, r_count, r_popAt, r_reverse, r_extend, blkZ_K, r_is]
    refine ⟨xs, ds, us, bss', lay s49 (s9 _ _ (hN8.1 _ _ upd_same)) (hN8.bs.same s9) (by omega) (by omega), fun H10 s10 => ?_⟩
    have s410 := s49.trans s10
    refine ⟨xs, ds, us, bss', lay s410 (s410 _ _ x4) ((hB6.same s79).same s10) (by omega) (by omega), fun H11 s11 => ?_⟩
    have s411 := s410.trans s11
    have s911 := s10.trans s11
    refine ⟨rfl, _, rfl, ?_⟩
    rw [decide_eq_true rfl, Bool.not_true, if_neg Bool.false_ne_true]
    intro pz hpz
    have sz := Same.upd (o := .lst [V.ref p2, V.ref p5]) hpz
    have rq : Rq K (upd H11 pz (.lst [V.ref p2, V.ref p5])) 3 (.ref p9) (.ref pz) true := by
      have sA := s911.trans sz
      refine FL.rq_two (sA _ _ upd_same) upd_same ?_ ?_
      · refine FL.dq_lists (SqL.of (sA _ _ (s9 _ _ (hN8.1 _ _ upd_same)))) (SqL.of ((s411.trans sz) _ _ x4)) rfl fun j x y hx hy => ?_
        rw [hx] at hy; cases hy
        obtain ⟨r, rfl⟩ := refs x (List.mem_of_getElem? hx)
        exact .same
      · exact FL.dq_bs ((hN8.bs.same s9).same sA) ((hB6.same s79).same sA)
    refine ⟨true, rq, _, rfl, ?_⟩
    rw [Bool.not_true, if_neg Bool.false_ne_true]
    exact ⟨s411.trans sz, _, _, _, _, rfl⟩
  · rintro σ H5 ⟨s5, o5, o6, o7, o8, rfl⟩
    simp_arith [r_listRng, r_kget1, r_iEnumT, r_sorted, r_all, r_any, r_insert, r_count, r_popAt, r_reverse, r_extend, blkZ_K, r_is]
    refine ⟨xs, ds, us, bss, lay s5 (s5 _ _ x4) (hB4.same s5) (by omega) (by omega), fun H6 s6 => ?_⟩
    rw [if_pos trivial]
    have s46 := s5.trans s6
    refine ⟨xs, ds, us, bss, lay s46 (s46 _ _ x4) (hB4.same s46) (by omega) (by omega), fun H7 s7 => ?_⟩
    rw [decide_eq_true rfl]
    exact q H7
end

end K31
set_option Elab.async false
set_option linter.all false
set_option maxRecDepth 100000
set_option maxHeartbeats 4000000
namespace K31
open PySem L2 PyProof.Rows FA
section
variable {P : Program} {w : World} {K : PySem.W.Frag} {mg : Str → Option Value} {base : Heap} {t : Ad}
theorem law_binds (T : Txt K mg t) : ∀ (s : Shared) (u : Value), BindsTo s t.e_law ⟨[u], []⟩ [("_law_script", u)] := by
  obtain ⟨oc, od, kV, doc, pm, an, cdv, ct, osl, e, _, _⟩ := T.d_law.F.ex
  intro s u
  rw [e]
  exact .of_eq rfl
end
theorem walk {l : PySem.W.OpenLaw} {q : Program} {loose : List Str} {XP : (Str → Option Value) → Heap → Prop} {YP : World → Heap → Prop} {d : DefRec} {K : Params → PySem.W.Frag} (hn : l.most = some 63) (hdf : d.params.defaults = []) (hd : d.name = "law")
    (hY : ∀ (w : World) (h : Heap), YP w h → (K w.params).In h)
    (F : ∀ (w : World) (mg : Str → Option Value) (h : Heap), (K w.params).In h → h.Ns mainGlobals mg → ∃ t, Txt (K w.params) mg t ∧ t.pr = w.params) :
    PySem.W.WalkO q loose XP YP l.row.toRowW d [] (fun f vs => PySem.call f vs) := by
  refine L2.walk_ofL (n := 63) (k := 100) (x := "_law_script") (CX := fun _ => CX0) (sp := fun w => sp_law (K w.params)) hn (by decide) hdf ⟨rfl, by decide, by decide⟩ hY (fun w mg fa h KX G hmg => ?_) (fun _ _ a ns hl hb _ hS => ⟨a, ns, rfl, hS, hl, hb, fun _ => rfl⟩) fun _ _ _ _ _ z => z
  obtain ⟨t, T, hw⟩ := F w mg h KX G
  rw [hd] at hmg
  have e0 := hmg.symm.trans T.d_law.M
  cases e0
  exact ⟨t.e_law, law_binds T, fun base _ _ => (ok_law T hw).mono (by decide)⟩

end K31
set_option Elab.async false
set_option linter.all false
set_option maxRecDepth 100000
set_option maxHeartbeats 4000000
open PySem PySem.W PyProof.Rows
set_option maxRecDepth 100000 in
set_option maxHeartbeats 0 in
theorem PySem.Challenge.cw_deedloom_k31_what_is_a_laying_holds : PySem.Challenge.rw_deedloom_k31_what_is_a_laying.Holds := by
  w_on; o_law; k_head; (case hw => w_witness2)
  k_fill
  refine K31.walk (l := PySem.Challenge.rw_deedloom_k31_what_is_a_laying) rfl rfl rfl (fun w h Y => PySem.W.kIn_of Y) ?F
  case F =>
    intro w mg h KX G
    refine' K31.all_mk KX G w.params ?aD_SORTS ?lD_SORTS ?sD_SORTS ?hD_SORTS ?a0 ?l0 ?c0 ?k0 ?a1 ?l1 ?c1 ?k1 ?a2 ?l2 ?c2 ?k2 ?a3 ?l3 ?c3 ?k3 ?a4 ?l4 ?c4 ?k4 ?a5 ?l5 ?c5 ?k5 ?a6 ?l6 ?c6 ?k6 ?a7 ?l7 ?c7 ?k7 ?a8 ?l8 ?c8 ?k8 ?a9 ?l9 ?c9 ?k9 ?a10 ?l10 ?c10 ?k10 ?a11 ?l11 ?c11 ?k11 ?a12 ?l12 ?c12 ?k12 ?a13 ?l13 ?c13 ?k13 ?a14 ?l14 ?c14 ?k14 ?a15 ?l15 ?c15 ?k15 ?a16 ?l16 ?c16 ?k16 ?a17 ?l17 ?c17 ?k17 ?a18 ?l18 ?c18 ?k18 ?a19 ?l19 ?c19 ?k19 ?a20 ?l20 ?c20 ?k20 ?z_range ?z_isinstance ?z_int ?z_bool ?z_str ?z_enumerate ?z_len ?z_list ?z_sum ?z_max ?z_all ?z_sorted
    (case aD_SORTS => k_is)
    (case lD_SORTS => k_is)
    (case sD_SORTS => first | rfl | kernel_rfl | decide)
    (case hD_SORTS => first | rfl | kernel_rfl | decide)
    (case a0 => k_is)
    (case l0 => k_is)
    (case c0 => k_is)
    (case k0 => k_is)
    (case a1 => k_is)
    (case l1 => k_is)
    (case c1 => k_is)
    (case k1 => k_is)
    (case a2 => k_is)
    (case l2 => k_is)
    (case c2 => k_is)
    (case k2 => k_is)
    (case a3 => k_is)
    (case l3 => k_is)
    (case c3 => k_is)
    (case k3 => k_is)
    (case a4 => k_is)
    (case l4 => k_is)
    (case c4 => k_is)
    (case k4 => k_is)
    (case a5 => k_is)
    (case l5 => k_is)
    (case c5 => k_is)
    (case k5 => k_is)
    (case a6 => k_is)
    (case l6 => k_is)
    (case c6 => k_is)
    (case k6 => k_is)
    (case a7 => k_is)
    (case l7 => k_is)
    (case c7 => k_is)
    (case k7 => k_is)
    (case a8 => k_is)
    (case l8 => k_is)
    (case c8 => k_is)
    (case k8 => k_is)
    (case a9 => k_is)
    (case l9 => k_is)
    (case c9 => k_is)
    (case k9 => k_is)
    (case a10 => k_is)
    (case l10 => k_is)
    (case c10 => k_is)
    (case k10 => k_is)
    (case a11 => k_is)
    (case l11 => k_is)
    (case c11 => k_is)
    (case k11 => k_is)
    (case a12 => k_is)
    (case l12 => k_is)
    (case c12 => k_is)
    (case k12 => k_is)
    (case a13 => k_is)
    (case l13 => k_is)
    (case c13 => k_is)
    (case k13 => k_is)
    (case a14 => k_is)
    (case l14 => k_is)
    (case c14 => k_is)
    (case k14 => k_is)
    (case a15 => k_is)
    (case l15 => k_is)
    (case c15 => k_is)
    (case k15 => k_is)
    (case a16 => k_is)
    (case l16 => k_is)
    (case c16 => k_is)
    (case k16 => k_is)
    (case a17 => k_is)
    (case l17 => k_is)
    (case c17 => k_is)
    (case k17 => k_is)
    (case a18 => k_is)
    (case l18 => k_is)
    (case c18 => k_is)
    (case k18 => k_is)
    (case a19 => k_is)
    (case l19 => k_is)
    (case c19 => k_is)
    (case k19 => k_is)
    (case a20 => k_is)
    (case l20 => k_is)
    (case c20 => k_is)
    (case k20 => k_is)
    (case z_range => k_is)
    (case z_isinstance => k_is)
    (case z_int => k_is)
    (case z_bool => k_is)
    (case z_str => k_is)
    (case z_enumerate => k_is)
    (case z_len => k_is)
    (case z_list => k_is)
    (case z_sum => k_is)
    (case z_max => k_is)
    (case z_all => k_is)
    (case z_sorted => k_is)

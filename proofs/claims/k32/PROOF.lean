import PyProof.Rows.All
import Wide.All
import OpenK.AllK
import Wide.FinOn
import PyProof.EqAt
import PyProof.EqKinds
import PyProof.TupleCall
import PyProof.NeKinds
import PyProof.CompUse
import PyProof.IsiSeqPairs
import PyProof.IsiNone
import PyProof.Rows.SumAny
import KE.KDictOf
import KE.KEqDict
import PyProof.DictCopy
import PyProof.Rows.StrJoin2
import PyProof.Rows.SortWalk
import PyProof.ConsumeWalk
import PyProof.EnumMake
import KE.KDictList
import PyProof.DictValues
import PyProof.Cells
import KE.IntBitsLaws
import PyProof.DictItems
import PyProof.CollectIter
import PyProof.TupleOfStr
import PyProof.ListRange
import PyProof.Rows.TupDisplay
import PyProof.Rows.CallKwBuiltin
import KE.KMinBuiltin
import PySem.Challenge.RW_deedloom_k32_whole_least_layings
set_option genSizeOf false
set_option compiler.extract_closed false
set_option Elab.async false
set_option linter.all false
set_option maxRecDepth 100000
namespace L2
open PySem PySem.Spec PyProof.Rows
noncomputable abbrev Key := Sum Int Str
noncomputable def keyIs : Key → Value → Bool
  | .inl k, v => Value.isInt k v
  | .inr x, v => Value.isStrOf x v
noncomputable def keyH (w : World) : Key → Int
  | .inl k => hashInt k
  | .inr x => hashStr w x
theorem keyIs_shape : ∀ {k : Key} {v : Value}, keyIs k v = true → (∃ i t, k = Sum.inl i ∧ v = Value.int i t) ∨ (∃ x t, k = Sum.inr x ∧ v = Value.str x t)
  | .inl i, v, h => by
    obtain ⟨t, e⟩ := Value.isInt_shape (k := i) (v := v) h
    exact .inl ⟨i, t, rfl, e⟩
  | .inr x, v, h => by
    obtain ⟨t, e⟩ := Value.isStrOf_shape (x := x) (v := v) h
    exact .inr ⟨x, t, rfl, e⟩
theorem keyIs_int (i : Int) (t : Tok) : keyIs (.inl i) (.int i t) = true := by simp [keyIs, Value.isInt]
theorem keyIs_str (x : Str) (t : Tok) : keyIs (.inr x) (.str x t) = true := by simp [keyIs, Value.isStrOf]
theorem key_ll (a b : Int) : decide ((Sum.inl a : Key) = Sum.inl b) = (a == b) := by
  by_cases e : a = b
  · subst e; simp
  · have h : ¬ (Sum.inl a : Key) = Sum.inl b := fun q => e (Sum.inl.inj q)
    rw [decide_eq_false h]
    exact (beq_eq_false_iff_ne.mpr e).symm
theorem key_rr (a b : Str) : decide ((Sum.inr a : Key) = Sum.inr b) = decide (a = b) := by
  by_cases e : a = b
  · subst e; simp
  · have h : ¬ (Sum.inr a : Key) = Sum.inr b := fun q => e (Sum.inr.inj q)
    rw [decide_eq_false h, decide_eq_false e]
theorem key_lr (a : Int) (b : Str) : decide ((Sum.inl a : Key) = Sum.inr b) = false := decide_eq_false (fun q => nomatch q)
theorem key_rl (a : Str) (b : Int) : decide ((Sum.inr a : Key) = Sum.inl b) = false := decide_eq_false (fun q => nomatch q)
noncomputable def mixKind (prog : Program) (w : World) : PySem.KeyKind prog w Key where
  is := keyIs
  hash := keyH w
  inj := fun v a b ha hb => by
    rcases keyIs_shape ha with ⟨i, t, rfl, rfl⟩ | ⟨x, t, rfl, rfl⟩
    · rcases keyIs_shape hb with ⟨j, u, rfl, e⟩ | ⟨y, u, rfl, e⟩
      · injection e with e1 _; rw [e1]
      · exact nomatch e
    · rcases keyIs_shape hb with ⟨j, u, rfl, e⟩ | ⟨y, u, rfl, e⟩
      · exact nomatch e
      · injection e with e1 _; rw [e1]
  byValue := fun k v h => by
    rcases keyIs_shape h with ⟨i, t, rfl, rfl⟩ | ⟨x, t, rfl, rfl⟩ <;> rfl
  pyHash := fun hv h => by
    rcases keyIs_shape hv with ⟨i, t, rfl, rfl⟩ | ⟨x, t, rfl, rfl⟩
    · exact wpAny_pyHash_int h
    · exact wpAny_pyHash_str h
  eqBool := fun hu hv h => by
    rcases keyIs_shape hu with ⟨i, t, rfl, rfl⟩ | ⟨x, t, rfl, rfl⟩
    · rcases keyIs_shape hv with ⟨j, u, rfl, rfl⟩ | ⟨y, u, rfl, rfl⟩
      · rw [key_ll] at h; exact wpAny_eqBool_int h
      · rw [key_lr] at h; exact SeqAt.EqAt.int_str i t y u _ _ _ _ h
    · rcases keyIs_shape hv with ⟨j, u, rfl, rfl⟩ | ⟨y, u, rfl, rfl⟩
      · rw [key_rl] at h; exact SeqAt.EqAt.str_int x t j u _ _ _ _ h
      · rw [key_rr] at h; exact wpAny_eqBool_str h
  «strs» := fun k x t v h => by
    rcases keyIs_shape h with ⟨i, u, rfl, e⟩ | ⟨y, u, rfl, e⟩
    · exact nomatch e
    · injection e with e1 _
      subst e1
      cases v <;> rfl
theorem mixKind_int (prog : Program) (w : World) (i : Int) (t : Tok) : (mixKind prog w).is (.inl i) (.int i t) = true := keyIs_int i t
theorem mixKind_str (prog : Program) (w : World) (x : Str) (t : Tok) : (mixKind prog w).is (.inr x) (.str x t) = true := keyIs_str x t
end L2
namespace L2
open PySem PySem.Spec PyProof.Rows
inductive V where
  | non | bl (b : Bool) | int (i : Int) | str (x : Str) | byt (b : Array UInt8) | flt (b : UInt64) | ref (a : Addr) | ty (n : String)
  deriving DecidableEq
noncomputable def RelV : V → Value → Prop
  | .non, u => u = Value.none
  | .bl b, u => u = Value.bool b
  | .int i, u => ∃ t, u = Value.int i t
  | .str x, u => ∃ t, u = Value.str x t
  | .byt b, u => ∃ t, u = Value.bytes b t
  | .flt b, u => ∃ t, u = Value.float b t
  | .ref a, u => u = Value.ref a
  | .ty n, u => u = Value.type n
noncomputable abbrev Vals : List V → List Value → Prop := Paired RelV
theorem Vals.length {xs : List V} {us : List Value} (r : Vals xs us) : xs.length = us.length := Paired.length r
theorem Vals.get : ∀ {xs : List V} {us : List Value} {i : Nat} {x : V}, Vals xs us → xs[i]? = some x → ∃ u, us[i]? = some u ∧ RelV x u
  | _, _, _, _, .nil, e => by simp at e
  | _, _, 0, _, .cons r _, e => by simp at e; subst e; exact ⟨_, rfl, r⟩
  | _, _, i + 1, x, .cons _ t, e => by
    obtain ⟨u, h1, h2⟩ := Vals.get (i := i) (x := x) t (by simpa using e)
    exact ⟨u, by simpa using h1, h2⟩
theorem Vals.set {x : V} {u : Value} (r : RelV x u) : ∀ {xs : List V} {us : List Value} (i : Nat), Vals xs us → Vals (xs.set i x) (us.set i u)
  | _, _, _, .nil => .nil
  | _, _, 0, .cons _ t => .cons r t
  | _, _, i + 1, .cons q t => .cons q (Vals.set r i t)
theorem Vals.append : ∀ {xs ys : List V} {us ws : List Value}, Vals xs us → Vals ys ws → Vals (xs ++ ys) (us ++ ws)
  | _, _, _, _, .nil, s => s
  | _, _, _, _, .cons r t, s => .cons r (Vals.append t s)
theorem Vals.take : ∀ {xs : List V} {us : List Value} (n : Nat), Vals xs us → Vals (xs.take n) (us.take n)
  | _, _, 0, _ => .nil
  | _, _, _ + 1, .nil => .nil
  | _, _, n + 1, .cons r t => .cons r (Vals.take n t)
theorem Vals.drop : ∀ {xs : List V} {us : List Value} (n : Nat), Vals xs us → Vals (xs.drop n) (us.drop n)
  | _, _, 0, r => r
  | _, _, _ + 1, .nil => .nil
  | _, _, n + 1, .cons _ t => Vals.drop n t
noncomputable def RelO : Option V → Option Value → Prop
  | some v, some u => RelV v u
  | none, none => True
  | _, _ => False
noncomputable def KV {κ : Type} : List (κ × V) → List (κ × Value) → Prop := Paired fun (p : κ × V) (q : κ × Value) => p.1 = q.1 ∧ RelV p.2 q.2
noncomputable def kV : Key → V
  | .inl i => .int i
  | .inr x => .str x
inductive HO where
  /-- a list -/
  | lst (xs : List V)
  /-- a tuple (never changes) -/
  | tup (xs : List V)
  /-- a dict whose keys are ints and texts; one whose keys are tuples of ints and texts (the empty one is both) -/
  | dK (kvs : List (Key × V)) | dT (kvs : List (List Key × V))
  /-- a set of ints: its members, its size -/
  | set (S : Int → Bool) (n : Nat)
  /-- an instance of the class at C, its dict at dx, its attributes -/
  | ins (C dx : Addr) (fs : List (Str × V))
  /-- the dict of the instance at x -/
  | own (x : Addr)
  /-- the dict of an exception -/
  | xd (fs : List (Str × V))
  /-- a bound method, f of x -/
  | met (f x : Addr)
  /-- a range object lo, lo + 1, .. below hi -/
  | rng (lo hi : Int)
  /-- a thing that is known to the object (the script; a dict while a loop walks it): read, never written while it is so -/
  | frz (o : Obj) (u : HO)
  /-- a code object's table -/
  | tbl (ps : Array Value)
  /-- any other thing, by what is true of its one object (a def of one's own: SetO a S n := HO.ext fun h => ..) -/
  | ext (φ : Heap → Prop)
noncomputable abbrev Hp := Addr → Option HO
noncomputable def upd (H : Hp) (a : Addr) (o : HO) : Hp := fun b => if b = a then some o else H b
theorem upd_same {H : Hp} {a : Addr} {o : HO} : upd H a o a = some o := by unfold upd; rw [if_pos rfl]
theorem upd_ne {H : Hp} {a b : Addr} {o : HO} (h : b ≠ a) : upd H a o b = H b := by unfold upd; rw [if_neg h]
theorem upd_upd {H : Hp} {a : Addr} {o u : HO} : upd (upd H a o) a u = upd H a u := by
  funext b; unfold upd; split <;> rfl
theorem ne_of {H : Hp} {a b : Addr} {o u : HO} (h : H a = some o) (h' : H b = some u) (d : o ≠ u) : a ≠ b := by
  intro e; subst e; rw [h] at h'; exact d (Option.some.inj h')
theorem ne_of_none {H : Hp} {a b : Addr} {o : HO} (h : H a = some o) (h' : H b = none) : a ≠ b := by
  intro e; subst e; rw [h] at h'; cases h'
section
variable (P : Program) (w : World)
noncomputable def ObjOk (H : Hp) (h : Heap) (a : Addr) : HO → Prop
  | .lst xs => xs.length ≤ sizeLine ∧ ∃ (its : List Value) (n : Nat), Vals xs its ∧ h.get? a = some { cls := .type "list", data := .seq its.toArray n }
  | .tup xs => xs.length ≤ sizeLine ∧ ∃ its : List Value, Vals xs its ∧ IsTup h a its.toArray
  | .dK kvs => kvs.length ≤ sizeLine ∧ (a == sysModules) = false ∧ ∃ vs, KV kvs vs ∧ h.DictOf (mixKind P w) a vs
  | .dT kvs => kvs.length ≤ sizeLine ∧ (a == sysModules) = false ∧ ∃ xs : List (List Key × Addr × Value),
      Paired (fun (p : List Key × V) (q : List Key × Addr × Value) => p.1 = q.1 ∧ H q.2.1 = some (.tup (p.1.map kV)) ∧ RelV p.2 q.2.2) kvs xs ∧
      ∃ o es ep, h.get? a = some o ∧ o.ExactDict ∧ o.data = .dict es ep ∧ es.toList = xs.map (entryOfKey (tupleKind (mixKind P w))) ∧ (xs.map (·.1)).Nodup
  | .set S n => h.SetOf (intKind P w) a S n
  | .ins C dx fs => H dx = some (.own a) ∧ fs.length ≤ 1000 ∧ dx ≠ a ∧ h.get? a = some (PySem.W.instObj C dx) ∧
      ∃ mA, h.Ns1 dx mA ∧ (∀ f, RelO (fs.lookup f) (mA f)) ∧ PySem.Within mA (fs.map (·.1))
  | .own _ => ∃ o, h.get? a = some o
  | .xd fs => ∃ mA, h.Ns1 a mA ∧ ∀ f, RelO (fs.lookup f) (mA f)
  | .rng lo hi => ∃ t u v, h.get? a = some { cls := .type "range", data := .fields #[.int lo t, .int hi u, .int 1 v] }
  | .frz o u => h.get? a = some o ∧ ObjOk H h a u
  | .tbl ps => h.get? a = some { cls := .none, data := .fields ps }
  | .met f x => h.get? a = some (PySem.W.methodObj (.ref f) (.ref x))
  | .ext φ => φ h ∧ (∃ o, h.get? a = some o) ∧ ∀ h1 h2 : Heap, φ h1 → (∀ o, h1.get? a = some o → h2.get? a = some o) → φ h2
noncomputable def HOk (H : Hp) (h : Heap) : Prop := ∀ a o, H a = some o → ObjOk P w H h a o
end
section
variable {P : Program} {w : World} {H H' : Hp} {h h' : Heap} {a : Addr} {o : HO}
theorem ObjOk.lt (x : ObjOk P w H h a o) : a < h.objs.size := by
  cases o with
  | lst xs => obtain ⟨_, _, _, _, e⟩ := x; exact Heap.lt_size e
  | tup xs => obtain ⟨_, _, _, p⟩ := x; exact p.lt
  | dK kvs => obtain ⟨_, _, _, _, o, _, _, e, _⟩ := x; exact Heap.lt_size e
  | dT kvs => obtain ⟨_, _, _, _, o, _, _, e, _⟩ := x; exact Heap.lt_size e
  | set S n => obtain ⟨o, _, _, _, e, _⟩ := x; exact Heap.lt_size e
  | ins C dx fs => obtain ⟨_, _, _, e, _⟩ := x; exact Heap.lt_size e
  | own y => obtain ⟨_, e⟩ := x; exact Heap.lt_size e
  | xd fs => obtain ⟨_, ⟨_, _, _, e, _⟩, _⟩ := x; exact Heap.lt_size e
  | rng lo hi => obtain ⟨_, _, _, e⟩ := x; exact Heap.lt_size e
  | frz ob u => obtain ⟨e, _⟩ := x; exact Heap.lt_size e
  | tbl ps => exact Heap.lt_size (show h.get? a = some _ from x)
  | met f y => exact Heap.lt_size (show h.get? a = some _ from x)
  | ext φ => obtain ⟨_, ⟨_, e⟩, _⟩ := x; exact Heap.lt_size e
theorem Paired.mapP {α β : Type} {F G : α → β → Prop} : ∀ {l₁ : List α} {l₂ : List β}, Paired F l₁ l₂ → (∀ a b, F a b → G a b) → Paired G l₁ l₂
  | _, _, .nil, _ => .nil
  | _, _, .cons r t, f => .cons (f _ _ r) (Paired.mapP t f)
theorem ObjOk.stay (x : ObjOk P w H h a o) (k : ∀ b u, (b = a ∨ H b = some (.own a)) → h.get? b = some u → h'.get? b = some u)
    (ho : ∀ b, H b = some (.own a) → H' b = some (.own a)) (ht : ∀ b xs, H b = some (.tup xs) → H' b = some (.tup xs)) : ObjOk P w H' h' a o := by
  induction o with
  | lst xs => obtain ⟨z, its, n, r, e⟩ := x; exact ⟨z, its, n, r, k _ _ (.inl rfl) e⟩
  | tup xs => obtain ⟨z, its, r, ob, e, c⟩ := x; exact ⟨z, its, r, ob, k _ _ (.inl rfl) e, c⟩
  | dK kvs => obtain ⟨z, y, vs, r, ob, es, ep, e, c⟩ := x; exact ⟨z, y, vs, r, ob, es, ep, k _ _ (.inl rfl) e, c⟩
  | dT kvs =>
    obtain ⟨z, y, xs, r, ob, es, ep, e, c⟩ := x
    exact ⟨z, y, xs, Paired.mapP r fun p q z => ⟨z.1, ht _ _ z.2.1, z.2.2⟩, ob, es, ep, k _ _ (.inl rfl) e, c⟩
  | set S n => obtain ⟨ob, es, ep, t, e, c⟩ := x; exact ⟨ob, es, ep, t, k _ _ (.inl rfl) e, c⟩
  | ins C dx fs =>
    obtain ⟨d, z, ne, e, mA, ⟨od, es, ep, e2, c⟩, r⟩ := x
    exact ⟨ho _ d, z, ne, k _ _ (.inl rfl) e, mA, ⟨od, es, ep, k _ _ (.inr d) e2, c⟩, r⟩
  | own y => obtain ⟨ob, e⟩ := x; exact ⟨ob, k _ _ (.inl rfl) e⟩
  | xd fs => obtain ⟨mA, ⟨od, es, ep, e, c⟩, r⟩ := x; exact ⟨mA, ⟨od, es, ep, k _ _ (.inl rfl) e, c⟩, r⟩
  | rng lo hi => obtain ⟨t, u, v, e⟩ := x; exact ⟨t, u, v, k _ _ (.inl rfl) e⟩
  | frz ob u ih => obtain ⟨e, q⟩ := x; exact ⟨k _ _ (.inl rfl) e, ih q⟩
  | tbl ps =>
    have e : h.get? a = some { cls := .none, data := .fields ps } := x
    show h'.get? a = some { cls := .none, data := .fields ps }
    exact k a _ (.inl rfl) e
  | met f y =>
    have e : h.get? a = some (PySem.W.methodObj (.ref f) (.ref y)) := x
    show h'.get? a = some (PySem.W.methodObj (.ref f) (.ref y))
    exact k a _ (.inl rfl) e
  | ext φ => obtain ⟨p, ⟨o, e⟩, st⟩ := x; exact ⟨st _ _ p fun o q => k _ _ (.inl rfl) q, ⟨o, k _ _ (.inl rfl) e⟩, st⟩
theorem HOk.lt (x : HOk P w H h) (e : H a = some o) : a < h.objs.size := (x a o e).lt
theorem HOk.fresh (x : HOk P w H h) (e : h.objs.size ≤ a) : H a = none := by
  cases q : H a with
  | none => rfl
  | some u => exact absurd (Nat.lt_of_lt_of_le (x.lt q) e) (Nat.lt_irrefl _)
theorem HOk.kept (x : HOk P w H h) (k : ∀ b u, h.get? b = some u → h'.get? b = some u) : HOk P w H h' := fun a o e =>
  (x a o e).stay (fun b u _ q => k b u q) (fun _ q => q) fun _ _ q => q
theorem HOk.laid (x : HOk P w H h) (k : ∀ b u, h.get? b = some u → h'.get? b = some u) (hp : h.objs.size ≤ a) (new : ObjOk P w (upd H a o) h' a o) : HOk P w (upd H a o) h' := fun b u e => by
  have hn := x.fresh hp
  by_cases hb : b = a
  · subst hb; rw [upd_same] at e; cases e; exact new
  · rw [upd_ne hb] at e
    exact (x b u e).stay (fun c v _ q => k c v q) (fun c q => by rw [upd_ne (ne_of_none q hn)]; exact q) fun c xs q => by rw [upd_ne (ne_of_none q hn)]; exact q
end
noncomputable def Rd (H : Hp) (a : Addr) (u : HO) : Prop := H a = some u ∨ ∃ o, H a = some (.frz o u)
theorem Rd.ok {P : Program} {w : World} {H : Hp} {h : Heap} {a : Addr} {u : HO} (r : Rd H a u) (x : HOk P w H h) : ObjOk P w H h a u := by
  rcases r with r | ⟨o, r⟩
  · exact x a u r
  · obtain ⟨_, q⟩ := x a _ r
    exact q
noncomputable def Mut : Option HO → Prop
  | some (.lst _) => True
  | some (.dK _) => True
  | some (.dT _) => True
  | some (.set _ _) => True
  | some (.ins _ _ _) => True
  | some (.ext _) => True
  | _ => False
section
variable {P : Program} {w : World} {H : Hp} {h h' : Heap} {x e : Addr} {o' : HO}
theorem HOk.write (ok : HOk P w H h) (mu : Mut (H x)) (he : e = x ∨ H e = some (.own x)) (k : ∀ b u, b ≠ e → h.get? b = some u → h'.get? b = some u) (heo : ∃ u, h'.get? e = some u)
    (new : ObjOk P w (upd H x o') h' x o') : HOk P w (upd H x o') h' := fun b u q => by
  have nown : ∀ c y, H c = some (.own y) → c ≠ x := fun c y r z => by subst z; rw [r] at mu; exact mu
  have ntup : ∀ c xs, H c = some (.tup xs) → c ≠ x := fun c xs r z => by subst z; rw [r] at mu; exact mu
  by_cases hb : b = x
  · subst hb; rw [upd_same] at q; cases q; exact new
  · rw [upd_ne hb] at q
    by_cases hbe : b = e
    · have q' : H b = some (.own x) := by
        rcases he with z | z
        · exact absurd (hbe.trans z) hb
        · rw [hbe]; exact z
      rw [q] at q'; cases q'
      obtain ⟨v, hv⟩ := heo
      exact ⟨v, by rw [hbe]; exact hv⟩
    · refine (ok b u q).stay (fun c v hc r => k c v ?_ r) (fun c r => by rw [upd_ne (nown c b r)]; exact r) fun c xs r => by rw [upd_ne (ntup c xs r)]; exact r
      rcases hc with rfl | hc
      · exact hbe
      · rintro rfl
        rcases he with z | z
        · exact nown c b hc z
        · rw [hc] at z; cases z; exact hb rfl
end
structure Un (fs ex : List Addr) (H H' : Hp) (h h' : Heap) : Prop where
  keep : ∀ b o, h.get? b = some o → H b = none → b ∉ fs → b ∉ ex → h'.get? b = some o
  slot : ∀ b o, h.get? b = some o → H b = none → b ∈ fs → b ∉ ex → ∃ sl, h'.get? b = some { o with slots := sl }
  free : ∀ b o, h.get? b = some o → H b = none → b ∉ ex → H' b = none
  there : ∀ b o, h.get? b = some o → b ∉ ex → ∃ o', h'.get? b = some o'
  tups : ∀ b xs, H b = some (.tup xs) → H' b = some (.tup xs)
  frzs : ∀ b o u, H b = some (.frz o u) → H' b = some (.frz o u)
  tbls : ∀ b ps, H b = some (.tbl ps) → ∃ more, H' b = some (.tbl (ps ++ more))
section
variable {fs fs' ex ex' : List Addr} {H H1 H2 : Hp} {h h1 h2 h' : Heap} {a x e : Addr} {o : HO}
theorem Un.any (u : Un fs ex H H1 h h1) {b : Addr} {ob : Obj} (q : h.get? b = some ob) (n : H b = none) (hx : b ∉ ex) : ∃ sl, h1.get? b = some { ob with slots := sl } := by
  by_cases hb : b ∈ fs
  · exact u.slot b ob q n hb hx
  · exact ⟨ob.slots, u.keep b ob q n hb hx⟩
theorem Un.kept (k : ∀ b u, h.get? b = some u → h'.get? b = some u) : Un fs ex H H h h' :=
  ⟨fun b ob q _ _ _ => k b ob q, fun b ob q _ _ _ => ⟨ob.slots, k b ob q⟩, fun _ _ _ n _ => n, fun b ob q _ => ⟨ob, k b ob q⟩, fun _ _ q => q, fun _ _ _ q => q, fun _ ps q => ⟨#[], by rw [q]; simp⟩⟩
theorem Un.refl : Un fs ex H H h h := Un.kept fun _ _ q => q
theorem Un.laid (k : ∀ b u, h.get? b = some u → h'.get? b = some u) (hp : h.objs.size ≤ a) (hn : H a = none) : Un fs ex H (upd H a o) h h' where
  keep := fun b u q _ _ _ => k b u q
  slot := fun b u q _ _ _ => ⟨u.slots, k b u q⟩
  free := fun b u q n _ => by rw [upd_ne (Nat.ne_of_lt (Nat.lt_of_lt_of_le (Heap.lt_size q) hp))]; exact n
  there := fun b u q _ => ⟨u, k b u q⟩
  tups := fun b xs q => by rw [upd_ne (ne_of_none q hn)]; exact q
  frzs := fun b u xs q => by rw [upd_ne (ne_of_none q hn)]; exact q
  tbls := fun b ps q => ⟨#[], by rw [upd_ne (ne_of_none q hn), q]; simp⟩
theorem Un.write (mu : Mut (H x)) (he : e = x ∨ H e = some (.own x)) (k : ∀ b u, b ≠ e → h.get? b = some u → h'.get? b = some u) (heo : ∃ u, h'.get? e = some u) : Un fs ex H (upd H x o) h h' := by
  have hx : ∀ b, H b = none → b ≠ x := fun b n z => by subst z; rw [n] at mu; exact mu
  have hb : ∀ b, H b = none → b ≠ e := fun b n z => by
    subst z
    rcases he with r | r
    · exact hx b n r
    · rw [n] at r; cases r
  have hm : ∀ b u, H b = some u → ¬ Mut (some u) → b ≠ x := fun b u q nm z => by subst z; rw [q] at mu; exact nm mu
  refine ⟨fun b u q n _ _ => k b u (hb b n) q, fun b u q n _ _ => ⟨u.slots, k b u (hb b n) q⟩, fun b u q n _ => by rw [upd_ne (hx b n)]; exact n, fun b u q _ => ?_,
    fun b xs q => by rw [upd_ne (hm b _ q fun z => z)]; exact q, fun b u xs q => by rw [upd_ne (hm b _ q fun z => z)]; exact q, fun b ps q => ⟨#[], by rw [upd_ne (hm b _ q fun z => z), q]; simp⟩⟩
  by_cases hbe : b = e
  · subst hbe; exact heo
  · exact ⟨u, k b u hbe q⟩
end
noncomputable def trk (h : Heap) (H : Hp) : List Addr := (List.range h.objs.size).filter fun a => (H a).isSome
noncomputable def hidT (h : Heap) (H : Hp) : Heap := PySem.W.hideAll h (trk h H)
theorem hidT_size (h : Heap) (H : Hp) : (hidT h H).objs.size = h.objs.size := PySem.W.hideAll_size _ _
theorem hidT_get {h : Heap} {H : Hp} {b : Addr} {o : Obj} (e : h.get? b = some o) (n : H b = none) : (hidT h H).get? b = some o :=
  PySem.W.hideAll_get _ e fun hm => by
    have q : (H b).isSome = true := (List.mem_filter.mp hm).2
    rw [n] at q; simp at q
theorem of_hidT {h : Heap} {H : Hp} {b : Addr} {o : Obj} (e : (hidT h H).get? b = some o) : h.get? b = some o ∧ H b = none := by
  have e' : h.get? b = some o := PySem.W.of_hideAll (trk h H) e
  refine ⟨e', ?_⟩
  cases q : H b with
  | none => rfl
  | some x =>
    have hm : b ∈ trk h H := List.mem_filter.mpr ⟨List.mem_range.mpr (Heap.lt_size e'), by simp [q]⟩
    have z : (hidT h H).get? b = none := PySem.W.hideAll_none (trk h H) hm
    rw [z] at e; cases e
noncomputable def allNews (g h : Heap) (L : Addr) : List (Addr × Obj) := (List.range h.objs.size).filterMap fun a => if a = L ∨ (g.get? a).isSome = true then none else (h.get? a).map fun o => (a, o)
noncomputable def rest (g h : Heap) (L d : Addr) : List (Addr × Obj) := (allNews g h L).filter fun p => decide (p.1 ≠ d)
end L2
namespace L2
open PySem PySem.Spec PyProof.Rows
structure Mod (K : PySem.W.Frag) (mg : Str → Option Value) (base : Heap) : Prop where
  kin : K.In base
  glob : base.Ns mainGlobals mg
  blt : ∃ mb, base.Ns builtinsNs mb ∧ ∀ x : Str, x ≠ "__name__" → mb x = bootBuiltins x
  nolimit : base.NoLimit
structure Cx where
  prog : Program
  w : World
  K : PySem.W.Frag
  mg : Str → Option Value
  base : Heap
  A : Around
  N : List Str
  s₀ : Shared
  H₀ : Hp
  env : Env
  outer : List Env
  stack : List Env
  ex : List Addr
  fn : Str → Bool
  calm : Bool
  pn : List (Addr × Obj)
  xe : Value → Shared → Prop
noncomputable def frs (l : List Env) : List Addr := l.filterMap (·.frame)
noncomputable abbrev Cx.fs (X : Cx) : List Addr := frs X.outer
noncomputable def Vis (sc : Scope) (x : Str) : Prop := sc.names.lookup x = some .local ∨ sc.names.lookup x = some .cell ∨ sc.names.lookup x = some .free
noncomputable def Loc (sc : Scope) (x : Str) : Prop := sc.names.lookup x = some .local ∨ sc.names.lookup x = some .cell
noncomputable def Look (env : Env) (h : Heap) (m : Str → Option Value) (x : Str) (u : Value) : Prop :=
  (env.kindOf x = some .local ∧ m x = some u) ∨ ((env.kindOf x = some .cell ∨ env.kindOf x = some .free) ∧ ∃ c, env.cells.lookup x = some c ∧ h.IsCell c (some u))
structure Cx.Ok (X : Cx) : Prop where
  mod : Mod X.K X.mg X.base
  kind : X.env.scope.kind = .function
  glob : X.env.globals = mainGlobals
  blt : X.env.builtins = builtinsNs
  above : X.s₀.heap.objs.size ≤ X.env.locals
  inj : ∀ x y c, X.env.cells.lookup x = some c → X.env.cells.lookup y = some c → x = y
  has : ∀ x, (X.env.kindOf x = some .cell ∨ X.env.kindOf x = some .free) → ∃ c, X.env.cells.lookup x = some c
  cab : ∀ x c, X.fn x = true → X.env.cells.lookup x = some c → X.s₀.heap.objs.size ≤ c
  hd : X.calm = true → X.A.handled = none
  frames : X.A.frames = some X.stack
  stk : X.stack = X.outer ∨ (X.stack = X.env :: X.outer ∧ X.env.frame = some X.env.locals)
  exf : ∀ b ∈ X.ex, b ≠ X.env.locals ∧ ∀ x c, X.env.cells.lookup x = some c → c ≠ b
  bs : ∀ b o, X.base.get? b = some o → X.s₀.heap.get? b = some o ∧ X.H₀ b = none
  bsz : X.base.objs.size ≤ X.s₀.heap.objs.size
  noex : ∀ b o, X.base.get? b = some o → b ∉ X.ex
  exfs : ∀ b ∈ X.ex, b ∉ X.fs
  funs : X.s₀.heap.FunFrames X.base X.outer
  frf : ∀ b ∈ X.fs, X.H₀ b = none
structure Inv (X : Cx) (pins : List (Addr × Obj)) (σ : List (Option V)) (H : Hp) (s : Shared) : Prop where
  ok : X.Ok
  os : s.os = X.s₀.os
  bare : AllBare s.gens
  base : Un X.fs X.ex X.H₀ H X.s₀.heap s.heap
  loc : ∃ m, s.heap.Ns X.env.locals m ∧ ∀ (i : Nat) (x : Str) (v : V), X.N[i]? = some x → σ[i]? = some (some v) → Vis X.env.scope x → ∃ u, RelV v u ∧ Look X.env s.heap m x u
  cell : ∀ x c, X.env.cells.lookup x = some c → ∃ v, s.heap.IsCell c v
  free : H X.env.locals = none
  freeC : ∀ x c, X.env.cells.lookup x = some c → H c = none
  pin : ∀ p ∈ X.pn ++ pins, s.heap.get? p.1 = some p.2 ∧ H p.1 = none ∧ p.1 ≠ X.env.locals ∧ p.1 ∉ X.fs ∧ ∀ v, p.2.data ≠ .cell v
  hok : HOk X.prog X.w H s.heap
  len : σ.length = X.N.length
section
variable {X : Cx} {pins : List (Addr × Obj)} {σ : List (Option V)} {H H' : Hp} {s : Shared} {h' : Heap}
theorem Cx.Ok.nofr (ok : X.Ok) {b : Addr} {o : Obj} (e : X.base.get? b = some o) : b ∉ X.fs := fun hb => by
  have := (ok.funs.mem hb).1
  rw [e] at this; cases this
theorem Inv.bs (I : Inv X pins σ H s) : ∀ b o, X.base.get? b = some o → s.heap.get? b = some o ∧ H b = none := fun b o e =>
  ⟨I.base.keep b o (I.ok.bs b o e).1 (I.ok.bs b o e).2 (I.ok.nofr e) (I.ok.noex b o e), I.base.free b o (I.ok.bs b o e).1 (I.ok.bs b o e).2 (I.ok.noex b o e)⟩
theorem Inv.bk (I : Inv X pins σ H s) : ∀ b o, X.base.get? b = some o → s.heap.get? b = some o := fun b o e => (I.bs b o e).1
theorem Inv.mod (I : Inv X pins σ H s) : Mod X.K X.mg X.base := I.ok.mod
theorem Inv.kIn (I : Inv X pins σ H s) : X.K.In s.heap := I.ok.mod.kin.keeps I.bk
theorem Inv.lt (I : Inv X pins σ H s) : X.env.locals < s.heap.objs.size := let ⟨_, hn, _⟩ := I.loc; hn.lt
theorem Inv.sz (I : Inv X pins σ H s) : X.s₀.heap.objs.size ≤ s.heap.objs.size := Nat.le_trans I.ok.above (Nat.le_of_lt I.lt)
theorem Inv.nofs (I : Inv X pins σ H s) {a : Addr} (h : s.heap.objs.size ≤ a) : a ∉ X.fs := fun hb => by
  obtain ⟨_, o, ho, _⟩ := I.ok.funs.mem hb
  exact absurd (Nat.lt_of_lt_of_le (Heap.lt_size ho) (Nat.le_trans I.sz h)) (Nat.lt_irrefl _)
theorem Inv.cne (I : Inv X pins σ H s) : ∀ x c, X.env.cells.lookup x = some c → c ≠ X.env.locals := fun x c e z => by
  obtain ⟨v, o, ho, hd⟩ := I.cell x c e
  obtain ⟨m, ⟨o', es, ep, ho', hd', _⟩, _⟩ := I.loc
  rw [z, ho'] at ho; cases ho; rw [hd'] at hd; cases hd
theorem Inv.funs (I : Inv X pins σ H s) : s.heap.FunFrames X.base X.outer := by
  have all : ∀ (l : List Env), (∀ b ∈ frs l, b ∈ X.fs) → X.s₀.heap.FunFrames X.base l → s.heap.FunFrames X.base l := by
    intro l
    induction l with
    | nil => intro _ _; trivial
    | cons env r ih =>
      intro hs hl
      obtain ⟨hk, ⟨L, o, hf, hn, ho, hd⟩, hr⟩ := hl
      have hL : L ∈ X.fs := hs L (by unfold frs; rw [List.filterMap_cons, hf]; exact List.mem_cons_self)
      obtain ⟨sl, e⟩ := I.base.slot L o ho (I.ok.frf L hL) hL fun z => I.ok.exfs L z hL
      exact ⟨hk, ⟨L, _, hf, hn, e, hd⟩, ih (fun b hb => hs b (by unfold frs; rw [List.filterMap_cons, hf]; exact List.mem_cons_of_mem _ hb)) hr⟩
  exact all X.outer (fun _ hb => hb) I.ok.funs
theorem Inv.stack (I : Inv X pins σ H s) : s.heap.FunFrames X.base X.stack := by
  rcases I.ok.stk with e | ⟨e, hf⟩
  · rw [e]; exact I.funs
  · rw [e]
    obtain ⟨m, hn, _⟩ := I.loc
    refine .cons (by rw [I.ok.kind]; decide) hf hn ?_ I.funs
    exact Heap.get?_none_of_le (Nat.le_trans I.ok.bsz I.ok.above)
theorem Inv.stkSub (I : Inv X pins σ H s) : ∀ b ∈ frs X.stack, b ∈ X.env.locals :: X.fs := fun b hb => by
  rcases I.ok.stk with e | ⟨e, hf⟩
  · rw [e] at hb; exact List.mem_cons_of_mem _ hb
  · rw [e] at hb
    unfold frs at hb
    rw [List.filterMap_cons, hf] at hb
    exact hb
theorem Inv.stkFree (I : Inv X pins σ H s) : ∀ b ∈ frs X.stack, H b = none := fun b hb => by
  rcases List.mem_cons.mp (I.stkSub b hb) with e | hb
  · rw [e]; exact I.free
  · obtain ⟨_, o, ho, _⟩ := I.ok.funs.mem hb
    exact I.base.free b o ho (I.ok.frf b hb) fun z => I.ok.exfs b z hb
theorem Inv.step {g' : Array GenState} {t' : Nat} {d' : Drawn} {ch : List Addr} (I : Inv X pins σ H s)
    (hch : ∀ b ∈ ch, (b ∈ X.ex ∨ X.s₀.heap.objs.size ≤ b) ∧ b ≠ X.env.locals ∧ (∀ x c, X.env.cells.lookup x = some c → c ≠ b) ∧ ∀ p ∈ X.pn ++ pins, p.1 ≠ b)
    (keep : ∀ b o, b ≠ X.env.locals → b ∉ X.fs → b ∉ ch → s.heap.get? b = some o → H b = none → h'.get? b = some o)
    (slot : ∀ b o, b ≠ X.env.locals → b ∈ X.fs → b ∉ ch → s.heap.get? b = some o → H b = none → ∃ sl, h'.get? b = some { o with slots := sl }) (free : ∀ b o, b ∉ ch → s.heap.get? b = some o → H b = none → H' b = none)
    (there : ∀ b o, b ∉ ch → s.heap.get? b = some o → ∃ o', h'.get? b = some o')
    (tups : ∀ b xs, H b = some (.tup xs) → H' b = some (.tup xs)) (frzs : ∀ b o u, H b = some (.frz o u) → H' b = some (.frz o u)) (tbls : ∀ b ps, H b = some (.tbl ps) → ∃ more, H' b = some (.tbl (ps ++ more)))
    (ns : ∀ m, s.heap.Ns X.env.locals m → h'.Ns X.env.locals m) (hok : HOk X.prog X.w H' h') (hg : AllBare g') :
    Inv X pins σ H' { s with heap := h', gens := g', drawn := d', toks := t' } := by
  have neL : ∀ b o, X.s₀.heap.get? b = some o → b ≠ X.env.locals := fun b o e => Nat.ne_of_lt (Nat.lt_of_lt_of_le (Heap.lt_size e) I.ok.above)
  have neC : ∀ b o, X.s₀.heap.get? b = some o → b ∉ X.ex → b ∉ ch := fun b o e hx hb => by
    rcases (hch b hb).1 with z | z
    · exact hx z
    · exact absurd (Nat.lt_of_lt_of_le (Heap.lt_size e) z) (Nat.lt_irrefl _)
  have cellK : ∀ x c, X.env.cells.lookup x = some c → ∀ v, s.heap.IsCell c v → h'.IsCell c v := fun x c e v ⟨o, ho, hd⟩ => by
    have nch : c ∉ ch := fun z => (hch c z).2.2.1 x c e rfl
    by_cases hc : c ∈ X.fs
    · obtain ⟨sl, q⟩ := slot c o (I.cne x c e) hc nch ho (I.freeC x c e)
      exact ⟨_, q, hd⟩
    · exact ⟨o, keep c o (I.cne x c e) hc nch ho (I.freeC x c e), hd⟩
  refine ⟨I.ok, I.os, hg, ⟨fun b o e n hb hx => ?_, fun b o e n hb hx => ?_, fun b o e n hx => ?_, fun b o e hx => ?_, fun b xs e => tups b xs (I.base.tups b xs e), fun b o xs e => frzs b o xs (I.base.frzs b o xs e), fun b ps e => ?_⟩, ?_, fun x c e => ?_, ?_, fun x c e => ?_, fun p hp => ?_, hok, I.len⟩
  · exact keep b o (neL b o e) hb (neC b o e hx) (I.base.keep b o e n hb hx) (I.base.free b o e n hx)
  · obtain ⟨sl, e1⟩ := I.base.slot b o e n hb hx
    obtain ⟨sl', e2⟩ := slot b _ (neL b o e) hb (neC b o e hx) e1 (I.base.free b o e n hx)
    exact ⟨sl', e2⟩
  · obtain ⟨o', e1⟩ := I.base.there b o e hx
    exact free b o' (neC b o e hx) e1 (I.base.free b o e n hx)
  · obtain ⟨o', e1⟩ := I.base.there b o e hx
    exact there b o' (neC b o e hx) e1
  · obtain ⟨m1, e1⟩ := I.base.tbls b ps e
    obtain ⟨m2, e2⟩ := tbls b _ e1
    exact ⟨m1 ++ m2, by rw [e2, Array.append_assoc]⟩
  · obtain ⟨m, hn, hl⟩ := I.loc
    refine ⟨m, ns m hn, fun i x v e1 e2 e3 => ?_⟩
    obtain ⟨u, r, l⟩ := hl i x v e1 e2 e3
    refine ⟨u, r, ?_⟩
    rcases l with l | ⟨k, c, e, z⟩
    · exact .inl l
    · exact .inr ⟨k, c, e, cellK x c e _ z⟩
  · obtain ⟨v, z⟩ := I.cell x c e
    exact ⟨v, cellK x c e v z⟩
  · obtain ⟨m, ⟨o, _, _, ho, _⟩, _⟩ := I.loc
    exact free _ o (fun z => (hch _ z).2.1 rfl) ho I.free
  · obtain ⟨v, o, ho, hd⟩ := I.cell x c e
    exact free c o (fun z => (hch c z).2.2.1 x c e rfl) ho (I.freeC x c e)
  · obtain ⟨e, n, ne, nf, d⟩ := I.pin p hp
    have nch : p.1 ∉ ch := fun z => (hch p.1 z).2.2.2 p hp rfl
    exact ⟨keep p.1 p.2 ne nf nch e n, free p.1 p.2 nch e n, ne, nf, d⟩
theorem Inv.un {t' : Nat} (I : Inv X pins σ H s) (u : Un X.fs [] H H' s.heap h') (hok : HOk X.prog X.w H' h') : Inv X pins σ H' { s with heap := h', toks := t' } := by
  obtain ⟨m, ⟨o, es, ep, ho, r⟩, _⟩ := id I.loc
  obtain ⟨sl, hL⟩ := u.any ho I.free (by simp)
  exact I.step (g' := s.gens) (d' := s.drawn) (ch := []) (fun _ z => nomatch z) (fun b o _ hb _ e n => u.keep b o e n hb (by simp)) (fun b o _ hb _ e n => u.slot b o e n hb (by simp)) (fun b o _ e n => u.free b o e n (by simp)) (fun b o _ e => u.there b o e (by simp)) u.tups u.frzs u.tbls (fun m' hm => by
    obtain ⟨o', es', ep', ho', r'⟩ := hm
    rw [ho] at ho'; cases ho'
    exact ⟨_, es', ep', hL, r'⟩) hok I.bare
theorem Inv.call {g' : Array GenState} {t' : Nat} {d' : Drawn} {ch : List Addr} (I : Inv X pins σ H s) (u : Un (frs X.stack) ch H H' s.heap h') (hok : HOk X.prog X.w H' h') (hg : AllBare g')
    (hch : ∀ b ∈ ch, (b ∈ X.ex ∨ X.s₀.heap.objs.size ≤ b) ∧ b ≠ X.env.locals ∧ (∀ x c, X.env.cells.lookup x = some c → c ≠ b) ∧ ∀ p ∈ X.pn ++ pins, p.1 ≠ b) :
    Inv X pins σ H' { s with heap := h', gens := g', drawn := d', toks := t' } := by
  obtain ⟨m, ⟨o, es, ep, ho, r⟩, _⟩ := id I.loc
  obtain ⟨sl, hL⟩ := u.any ho I.free fun z => (hch _ z).2.1 rfl
  exact I.step (ch := ch) hch (fun b o hL hb hc e n => u.keep b o e n (fun z => (List.mem_cons.mp (I.stkSub b z)).elim hL hb) hc) (fun b o _ _ hc e n => u.any e n hc) (fun b o hc e n => u.free b o e n hc) (fun b o hc e => u.there b o e hc) u.tups u.frzs u.tbls (fun m' hm => by
    obtain ⟨o', es', ep', ho', r'⟩ := hm
    rw [ho] at ho'; cases ho'
    exact ⟨_, es', ep', hL, r'⟩) hok hg
theorem Inv.turned {t' : Nat} {it : Addr} (I : Inv X pins σ H s) (k : ∀ b o, b ≠ it → s.heap.get? b = some o → h'.get? b = some o) (hn : H it = none) (hL : it ≠ X.env.locals)
    (h1 : it ∈ X.ex ∨ X.s₀.heap.objs.size ≤ it) (h2 : ∀ x c, X.env.cells.lookup x = some c → c ≠ it) (h3 : ∀ p ∈ X.pn ++ pins, p.1 ≠ it) : Inv X pins σ H { s with heap := h', toks := t' } := by
  have nit : ∀ b u, H b = some u → b ≠ it := fun b u e z => by rw [z, hn] at e; cases e
  refine I.step (g' := s.gens) (d' := s.drawn) (ch := [it]) (fun b hb => ?_) (fun b o _ _ hc e _ => k b o (fun z => hc (by simp [z])) e) (fun b o _ _ hc e _ => ⟨o.slots, k b o (fun z => hc (by simp [z])) e⟩) (fun _ _ _ _ n => n)
    (fun b o hc e => ⟨o, k b o (fun z => hc (by simp [z])) e⟩) (fun _ _ e => e) (fun _ _ _ e => e) (fun b ps e => ⟨#[], by rw [e]; simp⟩) (fun m hm => ?_) (fun b u e => ?_) I.bare
  · have e : b = it := by simpa using hb
    subst e
    exact ⟨h1, hL, h2, h3⟩
  · obtain ⟨o, es, ep, ho, r⟩ := hm
    exact ⟨o, es, ep, k _ o (Ne.symm hL) ho, r⟩
  · refine (I.hok b u e).stay (fun c v hc q => k c v ?_ q) (fun _ q => q) fun _ _ q => q
    rcases hc with z | z
    · rw [z]; exact nit b u e
    · exact nit c _ z
theorem Inv.tok (I : Inv X pins σ H s) (t : Nat) : Inv X pins σ H { s with toks := t } := I.un (h' := s.heap) (t' := t) Un.refl I.hok
theorem Inv.kept {t' : Nat} (I : Inv X pins σ H s) (k : ∀ b u, s.heap.get? b = some u → h'.get? b = some u) : Inv X pins σ H { s with heap := h', toks := t' } := I.un (Un.kept k) (I.hok.kept k)
theorem Inv.laid {a : Addr} {o : HO} {t' : Nat} (I : Inv X pins σ H s) (k : ∀ b u, s.heap.get? b = some u → h'.get? b = some u) (hp : s.heap.objs.size ≤ a) (new : ObjOk X.prog X.w (upd H a o) h' a o) :
    Inv X pins σ (upd H a o) { s with heap := h', toks := t' } := I.un (Un.laid k hp (I.hok.fresh hp)) (I.hok.laid k hp new)
theorem Inv.write {x e : Addr} {o : HO} {t' : Nat} (I : Inv X pins σ H s) (mu : Mut (H x)) (he : e = x ∨ H e = some (.own x)) (k : ∀ b u, b ≠ e → s.heap.get? b = some u → h'.get? b = some u) (heo : ∃ u, h'.get? e = some u)
    (new : ObjOk X.prog X.w (upd H x o) h' x o) : Inv X pins σ (upd H x o) { s with heap := h', toks := t' } := I.un (Un.write mu he k heo) (I.hok.write mu he k heo new)
theorem Inv.pins_of {pins' : List (Addr × Obj)} (I : Inv X pins σ H s) (h : ∀ p ∈ pins', s.heap.get? p.1 = some p.2 ∧ H p.1 = none ∧ p.1 ≠ X.env.locals ∧ p.1 ∉ X.fs ∧ ∀ v, p.2.data ≠ .cell v) : Inv X pins' σ H s :=
  ⟨I.ok, I.os, I.bare, I.base, I.loc, I.cell, I.free, I.freeC, fun p hp => (List.mem_append.mp hp).elim (fun z => I.pin p (List.mem_append_left _ z)) (h p), I.hok, I.len⟩
theorem nodup_ix {N : List Str} (hN : N.Nodup) {i j : Nat} {x : Str} (a : N[i]? = some x) (b : N[j]? = some x) : i = j := by
  obtain ⟨h1, e1⟩ := List.getElem?_eq_some_iff.mp a
  obtain ⟨h2, e2⟩ := List.getElem?_eq_some_iff.mp b
  exact (List.getElem_inj hN).mp (e1.trans e2.symm)
theorem store_ok2 {M : Model} {A : Around} {E : Value → Shared → Prop} {i : Nat} {x : Str} {v : V} {u : Value} {Q : Unit → Shared → Prop} (I : Inv X pins σ H s) (hN : X.N.Nodup) (hi : X.N[i]? = some x) (hx : Loc X.env.scope x) (r : RelV v u)
    (h : ∀ s', Inv X pins (σ.set i (some v)) H s' → (∃ a, Heap.SameBut a s.heap s'.heap ∧ (a = X.env.locals ∨ X.env.cells.lookup x = some a)) → Q () s') (hf : X.fn x = true ∨ X.env.scope.names.lookup x = some .local := by first | exact .inl rfl | exact .inr rfl | assumption) : wpAny M A (storeName X.env x u) Q E s := by
  obtain ⟨m, hn, hl⟩ := id I.loc
  have hcls : (X.env.scope.kind == .class || (X.env.scope.kind == .module && X.env.locals != X.env.globals)) = false := by rw [I.ok.kind]; rfl
  have hiσ : i < σ.length := by rw [I.len]; exact (List.getElem?_eq_some_iff.mp hi).1
  have cne := I.cne
  have tracked : ∀ {a : Addr} {h' : Heap}, (∃ o, s.heap.get? a = some o ∧ H a = none) → Heap.SameBut a s.heap h' → HOk X.prog X.w H h' := fun {a h'} ha hs b ob e => by
    obtain ⟨_, _, hfree⟩ := ha
    refine (I.hok b ob e).stay (fun c w' hc q => (hs.2 c ?_).trans q) (fun _ q => q) fun _ _ q => q
    rintro rfl
    rcases hc with rfl | hc
    · rw [hfree] at e; cases e
    · rw [hfree] at hc; cases hc
  rcases hx with hk | hk
  · refine wpAny_storeName_local hk hn (fun h' hn' hs => ?_) hcls
    obtain ⟨oL, _, _, hoL, _⟩ := id hn
    refine h _ ⟨I.ok, I.os, I.bare, ⟨fun b o e n hb hx => ?_, fun b o e n hb hx => ?_, I.base.free, fun b o e hx => ?_, I.base.tups, I.base.frzs, I.base.tbls⟩, ⟨_, hn', fun j y v' e1 e2 e3 => ?_⟩, fun y c e => ?_, I.free, I.freeC, fun p hp => ?_, tracked ⟨oL, hoL, I.free⟩ hs, by simpa using I.len⟩ ⟨_, hs, .inl rfl⟩
    · exact (hs.2 b (Nat.ne_of_lt (Nat.lt_of_lt_of_le (Heap.lt_size e) I.ok.above))).trans (I.base.keep b o e n hb hx)
    · obtain ⟨sl, e1⟩ := I.base.slot b o e n hb hx
      exact ⟨sl, (hs.2 b (Nat.ne_of_lt (Nat.lt_of_lt_of_le (Heap.lt_size e) I.ok.above))).trans e1⟩
    · obtain ⟨o', e1⟩ := I.base.there b o e hx
      exact ⟨o', (hs.2 b (Nat.ne_of_lt (Nat.lt_of_lt_of_le (Heap.lt_size e) I.ok.above))).trans e1⟩
    · by_cases hj : j = i
      · subst hj
        rw [hi] at e1; cases e1
        rw [List.getElem?_set_self hiσ] at e2
        cases e2
        exact ⟨u, r, .inl ⟨hk, by simp⟩⟩
      · rw [List.getElem?_set_ne (Ne.symm hj)] at e2
        obtain ⟨u', r', q⟩ := hl j y v' e1 e2 e3
        refine ⟨u', r', ?_⟩
        rcases q with ⟨k, e⟩ | ⟨k, c, e, z⟩
        · refine .inl ⟨k, ?_⟩
          have : y ≠ x := fun e => hj (nodup_ix hN e1 (e ▸ hi))
          simp [this, e]
        · exact .inr ⟨k, c, e, z.sameBut hs (cne y c e)⟩
    · obtain ⟨w', z⟩ := I.cell y c e
      exact ⟨w', z.sameBut hs (cne y c e)⟩
    · obtain ⟨e, n, ne, nf, d⟩ := I.pin p hp
      exact ⟨(hs.2 p.1 ne).trans e, n, ne, nf, d⟩
  · have hfn : X.fn x = true := by
      rcases hf with z | z
      · exact z
      · rw [z] at hk; cases hk
    obtain ⟨c, hc⟩ := I.ok.has x (.inl hk)
    obtain ⟨w', z⟩ := I.cell x c hc
    refine wpAny_storeName_cell I.ok.kind hk hc z (fun h' hc' hs => ?_)
    obtain ⟨oc, hoc, hocd⟩ := id z
    refine h { s with heap := h' } ⟨I.ok, I.os, I.bare, ⟨fun b o e n hb hx => ?_, fun b o e n hb hx => ?_, I.base.free, fun b o e hx => ?_, I.base.tups, I.base.frzs, I.base.tbls⟩, ⟨m, hn.sameBut hs (Ne.symm (cne x c hc)), fun j y v' e1 e2 e3 => ?_⟩, fun y c' e => ?_, I.free, I.freeC, fun p hp => ?_, tracked ⟨oc, hoc, I.freeC x c hc⟩ hs, by simpa using I.len⟩ ⟨c, hs, .inr hc⟩
    · exact (hs.2 b (Nat.ne_of_lt (Nat.lt_of_lt_of_le (Heap.lt_size e) (I.ok.cab x c hfn hc)))).trans (I.base.keep b o e n hb hx)
    · obtain ⟨sl, e1⟩ := I.base.slot b o e n hb hx
      exact ⟨sl, (hs.2 b (Nat.ne_of_lt (Nat.lt_of_lt_of_le (Heap.lt_size e) (I.ok.cab x c hfn hc)))).trans e1⟩
    · obtain ⟨o', e1⟩ := I.base.there b o e hx
      exact ⟨o', (hs.2 b (Nat.ne_of_lt (Nat.lt_of_lt_of_le (Heap.lt_size e) (I.ok.cab x c hfn hc)))).trans e1⟩
    · by_cases hj : j = i
      · subst hj
        rw [hi] at e1; cases e1
        rw [List.getElem?_set_self hiσ] at e2
        cases e2
        exact ⟨u, r, .inr ⟨.inl hk, c, hc, hc'⟩⟩
      · rw [List.getElem?_set_ne (Ne.symm hj)] at e2
        obtain ⟨u', r', q⟩ := hl j y v' e1 e2 e3
        refine ⟨u', r', ?_⟩
        rcases q with q | ⟨k, c', e, z'⟩
        · exact .inl q
        · refine .inr ⟨k, c', e, z'.sameBut hs ?_⟩
          rintro rfl
          exact hj (nodup_ix hN e1 (I.ok.inj _ _ _ e hc ▸ hi))
    · by_cases hcc : c' = c
      · subst hcc; exact ⟨_, hc'⟩
      · obtain ⟨w2, z2⟩ := I.cell y c' e
        exact ⟨w2, z2.sameBut hs hcc⟩
    · obtain ⟨e, n, ne, nf, d⟩ := I.pin p hp
      refine ⟨(hs.2 p.1 ?_).trans e, n, ne, nf, d⟩
      intro q
      rw [q, hoc] at e
      have q' : oc = p.2 := Option.some.inj e
      exact d w' (by rw [← q']; exact hocd)
theorem store_ok {M : Model} {A : Around} {E : Value → Shared → Prop} {i : Nat} {x : Str} {v : V} {u : Value} {Q : Unit → Shared → Prop} (I : Inv X pins σ H s) (hN : X.N.Nodup) (hi : X.N[i]? = some x) (hx : Loc X.env.scope x) (r : RelV v u)
    (h : ∀ s', Inv X pins (σ.set i (some v)) H s' → Q () s') (hf : X.fn x = true ∨ X.env.scope.names.lookup x = some .local := by first | exact .inl rfl | exact .inr rfl | assumption) : wpAny M A (storeName X.env x u) Q E s :=
  store_ok2 I hN hi hx r (fun s' I' _ => h s' I') hf
theorem Inv.call' {s' : Shared} {ch : List Addr} (I : Inv X pins σ H s) (ho : s'.os = s.os) (u : Un (frs X.stack) ch H H' s.heap s'.heap) (hok : HOk X.prog X.w H' s'.heap) (hg : AllBare s'.gens)
    (hch : ∀ b ∈ ch, (b ∈ X.ex ∨ X.s₀.heap.objs.size ≤ b) ∧ b ≠ X.env.locals ∧ (∀ x c, X.env.cells.lookup x = some c → c ≠ b) ∧ ∀ p ∈ X.pn ++ pins, p.1 ≠ b) : Inv X pins σ H' s' := by
  obtain ⟨h', g', d', t', o'⟩ := s'
  have e : o' = s.os := ho
  subst e
  exact I.call (g' := g') (t' := t') (d' := d') u hok hg hch
end
noncomputable abbrev XK := Value → Option Addr → Hp → Prop
noncomputable abbrev St := List (Option V)
noncomputable abbrev VK := V → Hp → Prop
noncomputable abbrev TE := St → Hp → VK → Prop
noncomputable abbrev TT := St → Hp → (Bool → Hp → Prop) → Prop
noncomputable abbrev TA := St → Hp → (List V → Hp → Prop) → Prop
structure Ends where
  nx : St → Hp → Prop
  rt : VK
  bk : St → Hp → Prop := fun _ _ => False
  ct : St → Hp → Prop := fun _ _ => False
noncomputable abbrev TS := Ends → St → Hp → Prop
noncomputable def EP (X : Cx) (pins : List (Addr × Obj)) (σ : St) (Q : VK) (u : Value) (s' : Shared) : Prop := ∃ v H', Inv X pins σ H' s' ∧ RelV v u ∧ Q v H'
noncomputable def TP (X : Cx) (pins : List (Addr × Obj)) (σ : St) (Q : Bool → Hp → Prop) (b : Bool) (s' : Shared) : Prop := ∃ H', Inv X pins σ H' s' ∧ Q b H'
noncomputable def AP (X : Cx) (pins : List (Addr × Obj)) (σ : St) (Q : List V → Hp → Prop) (us : List Value) (s' : Shared) : Prop := ∃ vs H', Inv X pins σ H' s' ∧ Vals vs us ∧ Q vs H'
noncomputable def SP (X : Cx) (pins : List (Addr × Obj)) (D : Ends) (f : Flow) (s' : Shared) : Prop :=
  match f with
  | .next => ∃ σ' H', Inv X pins σ' H' s' ∧ D.nx σ' H'
  | .brk => ∃ σ' H', Inv X pins σ' H' s' ∧ D.bk σ' H'
  | .cont => ∃ σ' H', Inv X pins σ' H' s' ∧ D.ct σ' H'
  | .ret u => ∃ v σ' H', Inv X pins σ' H' s' ∧ RelV v u ∧ D.rt v H'
noncomputable def PE (X : Cx) (e : Expr) (t : TE) : Prop :=
  ∀ (pins : List (Addr × Obj)) (s : Shared) (σ : St) (H : Hp) (Q : VK), Inv X pins σ H s → t σ H Q → wpAny (model X.prog X.w) X.A (eval e X.env) (EP X pins σ Q) X.xe s
noncomputable def PT (X : Cx) (e : Expr) (t : TT) : Prop :=
  ∀ (pins : List (Addr × Obj)) (s : Shared) (σ : St) (H : Hp) (Q : Bool → Hp → Prop), Inv X pins σ H s → t σ H Q → wpAny (model X.prog X.w) X.A (isTrue e X.env (eval e X.env)) (TP X pins σ Q) X.xe s
noncomputable def PW (X : Cx) (e : Expr) (t : TT) : Prop :=
  ∀ (whole : Sem Value) (pins : List (Addr × Obj)) (s : Shared) (σ : St) (H : Hp) (Q : Bool → Hp → Prop), Inv X pins σ H s → t σ H Q → wpAny (model X.prog X.w) X.A (isTrue e X.env whole) (TP X pins σ Q) X.xe s
theorem PW.pt {X : Cx} {e : Expr} {t : TT} (h : PW X e t) : PT X e t := h _
noncomputable def PA (X : Cx) (es : List Expr) (t : TA) : Prop :=
  ∀ (pos : Pos) (pins : List (Addr × Obj)) (s : Shared) (σ : St) (H : Hp) (Q : List V → Hp → Prop), Inv X pins σ H s → t σ H Q → wpAny (model X.prog X.w) X.A (spliced (backTo pos (starEach es X.env))) (AP X pins σ Q) X.xe s
noncomputable def PS (X : Cx) (st : Stmt) (t : TS) : Prop :=
  ∀ (pins : List (Addr × Obj)) (s : Shared) (σ : St) (H : Hp) (D : Ends), Inv X pins σ H s → t D σ H → wpAny (model X.prog X.w) X.A (exec st X.env) (SP X pins D) X.xe s
noncomputable def PSs (X : Cx) (st : List Stmt) (t : TS) : Prop :=
  ∀ (pins : List (Addr × Obj)) (s : Shared) (σ : St) (H : Hp) (D : Ends), Inv X pins σ H s → t D σ H → wpAny (model X.prog X.w) X.A (execs st X.env) (SP X pins D) X.xe s
theorem thn {α : Type} {t : Sem α} {Q Q' : α → Shared → Prop} {M : Model} {A : Around} {E : Value → Shared → Prop} {s : Shared} (h : wpAny M A t Q E s) (hQ : ∀ a s, Q a s → Q' a s) : wpAny M A t Q' E s := wpAny_mono h hQ fun _ _ x => x
end L2
namespace L2
open PySem PySem.Spec PyProof.Rows
section
variable {X : Cx}
theorem bin {a b : Expr} {ta tb : TE} (ha : PE X a ta) (hb : PE X b tb) {pins : List (Addr × Obj)} {s : Shared} {σ : St} {H : Hp} {R : V → V → Hp → Prop} (I : Inv X pins σ H s) (h : ta σ H fun x H1 => tb σ H1 fun y H2 => R x y H2)
    {α : Type} {Q : α → Shared → Prop} {f : Value → Value → Sem α}
    (hf : ∀ v u s2 x y H2, Inv X pins σ H2 s2 → RelV x v → RelV y u → R x y H2 → wpAny (model X.prog X.w) X.A (f v u) Q X.xe s2) :
    wpAny (model X.prog X.w) X.A (eval a X.env) (fun v s₁ => wpAny (model X.prog X.w) X.A (eval b X.env) (fun u s₂ => wpAny (model X.prog X.w) X.A (f v u) Q X.xe s₂) X.xe s₁) X.xe s := by
  refine thn (ha pins s σ H _ I h) fun v s1 hhx => ?_
  obtain ⟨x, H1, I1, r1, q1⟩ := hhx
  refine thn (hb pins s1 σ H1 _ I1 q1) fun u s2 hhx => ?_
  obtain ⟨y, H2, I2, r2, q2⟩ := hhx
  exact hf v u s2 x y H2 I2 r1 r2 q2
noncomputable def tVar (i : Nat) : TE := fun σ H Q => ∃ v, σ[i]? = some (some v) ∧ Q v H
noncomputable def tC (v : V) : TE := fun _ H Q => Q v H
theorem pe_var {i : Nat} {x : Str} {pos : Pos} (hN : X.N[i]? = some x) (hv : Vis X.env.scope x) (hd : (x == ("__debug__" : Str)) = false := by decide) (hcd : (x == ("__classdict__" : Str)) = false := by decide) : PE X (.Name x pos) (tVar i) := by
  intro pins s σ H Q I h
  obtain ⟨v, e, h⟩ := h
  obtain ⟨m, hn, hl⟩ := I.loc
  obtain ⟨u, r, l⟩ := hl i x v hN e hv
  have fin : EP X pins σ Q u s := ⟨v, H, I, r, h⟩
  rcases l with ⟨hk, hm⟩ | ⟨hk, c, hc, hcell⟩
  · exact wpAny_Name (wpAny_loadName_local I.ok.kind hk hn hm fin) hd
  · rcases hk with hk | hk
    · exact wpAny_Name (wpAny_loadName_cell I.ok.kind hk hc hcell fin) hd
    · exact wpAny_Name (wpAny_loadName_free I.ok.kind hk hc hcell fin hcd) hd
theorem pe_int {i j pos} : PE X (.Constant (.int i) j pos) (tC (.int i)) := fun _ _ _ H _ I h => wpAny_Constant_int ⟨.int i, H, I.tok _, ⟨_, rfl⟩, h⟩
theorem pe_bl {b j pos} : PE X (.Constant (.bool b) j pos) (tC (.bl b)) := fun _ _ _ H _ I h => Constant_bool ⟨.bl b, H, I, rfl, h⟩
theorem pe_non {j pos} : PE X (.Constant .none j pos) (tC .non) := fun _ _ _ H _ I h => Constant_none ⟨.non, H, I, rfl, h⟩
theorem pe_str {x j pos} : PE X (.Constant (.str x) j pos) (tC (.str x)) := fun _ _ _ H _ I h => Calls.Constant_str ⟨.str x, H, I.tok _, ⟨_, rfl⟩, h⟩
noncomputable def Gl (X : Cx) (x : Str) : Prop := X.env.kindOf x = some .globalImplicit
theorem ld_glob {E : Value → Shared → Prop} {pins : List (Addr × Obj)} {s : Shared} {σ : St} {H : Hp} {x : Str} {u : Value} {pos : Pos} {Q : Value → Shared → Prop} (I : Inv X pins σ H s) (hg : Gl X x) (hm : X.mg x = some u) (h : Q u s)
    (hd : (x == ("__debug__" : Str)) = false := by decide) : wpAny (model X.prog X.w) X.A (eval (.Name x pos) X.env) Q E s :=
  Calls.Name_function_global I.ok.kind hg (Calls.loadGlobal_global (by rw [I.ok.glob]; exact I.mod.glob.keeps I.bk) hm h) hd
theorem ld_blt {E : Value → Shared → Prop} {pins : List (Addr × Obj)} {s : Shared} {σ : St} {H : Hp} {x : Str} {u : Value} {pos : Pos} {Q : Value → Shared → Prop} (I : Inv X pins σ H s) (hg : Gl X x) (hm : X.mg x = none) (hv : bootBuiltins x = some u) (h : Q u s)
    (hn : x ≠ "__name__" := by decide) (hd : (x == ("__debug__" : Str)) = false := by decide) : wpAny (model X.prog X.w) X.A (eval (.Name x pos) X.env) Q E s := by
  obtain ⟨mb, h1, h2⟩ := I.mod.blt
  exact Calls.Name_function_global I.ok.kind hg (Calls.loadGlobal_builtin (by rw [I.ok.glob]; exact I.mod.glob.keeps I.bk) hm (by rw [I.ok.blt]; exact h1.keeps I.bk) ((h2 x hn).trans hv) h) hd
theorem pe_bltn {x : Str} {v : V} {u : Value} {pos : Pos} (hg : Gl X x) (hm : X.mg x = none) (hv : bootBuiltins x = some u) (r : RelV v u) (hn : x ≠ "__name__" := by decide) (hd : (x == ("__debug__" : Str)) = false := by decide) : PE X (.Name x pos) (tC v) :=
  fun _ _ _ H _ I h => ld_blt I hg hm hv ⟨v, H, I, r, h⟩ hn hd
variable {a b : Expr} {ta tb : TE} {pos : Pos}
noncomputable def PC (X : Cx) (op : CmpOp) (a b : Expr) (t : TE) : Prop :=
  ∀ (pins : List (Addr × Obj)) (s : Shared) (σ : St) (H : Hp) (Q : VK), Inv X pins σ H s → t σ H Q →
    wpAny (model X.prog X.w) X.A (eval a X.env) (fun v s₁ => wpAny (model X.prog X.w) X.A (eval b X.env) (fun u s₂ => wpAny (model X.prog X.w) X.A (compareOp op v u) (EP X pins σ Q) X.xe s₂) X.xe s₁) X.xe s
theorem nobehind (b : Expr) {op : CmpOp} (h : op ≠ .In) (h2 : op ≠ .NotIn) : behindInMarks op b = false := by
  have e1 : (op == CmpOp.In) = false := by cases op <;> first | rfl | exact absurd rfl h
  have e2 : (op == CmpOp.NotIn) = false := by cases op <;> first | rfl | exact absurd rfl h2
  cases b <;> simp [behindInMarks, e1, e2]
noncomputable def tB (t : TE) : TT := fun σ H Q => t σ H fun x H1 => ∃ c, x = .bl c ∧ Q c H1
theorem pt_cmp {op : CmpOp} {t : TE} (h : PC X op a b t) (h1 : behindInMarks op b = false := by first | exact nobehind _ (by decide) (by decide) | rfl) : PT X (.Compare a [op] [b] pos) (tB t) := by
  intro pins s σ H Q I hw
  refine wpAny_isTrue_Compare1 (thn (h pins s σ H _ I hw) fun v s1 h1 => thn h1 fun u s2 h2 => thn h2 fun c s3 hhx => ?_) h1
  obtain ⟨x, H1, I1, r1, q1⟩ := hhx
  obtain ⟨d, rfl, q⟩ := q1
  cases r1
  exact wpAny_truthy_bool ⟨H1, I1, q⟩
theorem pt_val {e : Expr} {t : TE} (h : PE X e t) (he : ∀ whole, isTrue e X.env whole = (do let v ← whole; standAt e.pos; holding [v] (truthy v)) := by intro _; rfl) : PT X e (tB t) := by
  intro pins s σ H Q I hw
  refine isTrue_plain (thn (h pins s σ H _ I hw) fun v s1 hhx => ?_) (he _)
  obtain ⟨x, H1, I1, r1, q1⟩ := hhx
  obtain ⟨d, rfl, q⟩ := q1
  cases r1
  exact wpAny_truthy_bool ⟨H1, I1, q⟩
variable {tA tB' : TT} {rest : List Expr}
noncomputable def tAnd (t u : TT) : TT := fun σ H Q => t σ H fun c H1 => if c = true then u σ H1 Q else Q false H1
noncomputable def tOr (t u : TT) : TT := fun σ H Q => t σ H fun c H1 => if c = true then Q true H1 else u σ H1 Q
noncomputable def tNot (t : TT) : TT := fun σ H Q => t σ H fun c H1 => Q (!c) H1
theorem pw_and1 (ha : PT X a tA) : PW X (.BoolOp .And [a] pos) tA := by
  intro wh pins s σ H Q I h
  refine isTrue_and (thn (ha pins s σ H Q I h) fun c s1 e => ?_)
  cases c with
  | true => exact isTrue_and_nil e
  | false => exact e
theorem pw_or1 (ha : PT X a tA) : PW X (.BoolOp .Or [a] pos) tA := by
  intro wh pins s σ H Q I h
  refine isTrue_or (thn (ha pins s σ H Q I h) fun c s1 e => ?_)
  cases c with
  | false => exact isTrue_or_nil e
  | true => exact e
theorem pw_and (ha : PT X a tA) (hb : PW X (.BoolOp .And (b :: rest) pos) tB') : PW X (.BoolOp .And (a :: b :: rest) pos) (tAnd tA tB') := by
  intro wh pins s σ H Q I h
  refine isTrue_and (thn (ha pins s σ H _ I h) fun c s1 hhx => ?_)
  obtain ⟨H1, I1, q1⟩ := hhx
  cases c with
  | true => exact hb wh pins s1 σ H1 Q I1 q1
  | false => exact ⟨H1, I1, q1⟩
theorem pw_or (ha : PT X a tA) (hb : PW X (.BoolOp .Or (b :: rest) pos) tB') : PW X (.BoolOp .Or (a :: b :: rest) pos) (tOr tA tB') := by
  intro wh pins s σ H Q I h
  refine isTrue_or (thn (ha pins s σ H _ I h) fun c s1 hhx => ?_)
  obtain ⟨H1, I1, q1⟩ := hhx
  cases c with
  | true => exact ⟨H1, I1, q1⟩
  | false => exact hb wh pins s1 σ H1 Q I1 q1
theorem pt_not (ha : PT X a tA) : PT X (.UnaryOp .Not a pos) (tNot tA) := by
  intro pins s σ H Q I h
  exact isTrue_not (ha pins s σ H (fun c H1 => Q (!c) H1) I h)
noncomputable def tAndV (ta tb : TE) : TE := fun σ H Q => ta σ H fun x H1 => ∃ c, x = .bl c ∧ if c = true then tb σ H1 Q else Q (.bl false) H1
noncomputable def tOrV (ta tb : TE) : TE := fun σ H Q => ta σ H fun x H1 => ∃ c, x = .bl c ∧ if c = true then Q (.bl true) H1 else tb σ H1 Q
noncomputable def tNotV (ta : TE) : TE := fun σ H Q => ta σ H fun x H1 => ∃ c, x = .bl c ∧ Q (.bl (!c)) H1
theorem pe_one {op} {t : TE} (h : PE X a t) : PE X (.BoolOp op [a] pos) t := fun pins s σ H Q I hw => BoolOp_one (h pins s σ H Q I hw)
theorem pe_and (ha : PE X a ta) (hb : PE X (.BoolOp .And (b :: rest) pos) tb) : PE X (.BoolOp .And (a :: b :: rest) pos) (tAndV ta tb) := by
  intro pins s σ H Q I h
  refine BoolOp_and (thn (ha pins s σ H _ I h) fun v s1 hhx => ?_)
  obtain ⟨x, H1, I1, r1, q1⟩ := hhx
  obtain ⟨c, rfl, q1⟩ := q1
  cases r1
  refine wpAny_truthy_bool ?_
  cases c with
  | true => exact hb pins s1 σ H1 Q I1 q1
  | false => exact ⟨.bl false, H1, I1, rfl, q1⟩
theorem pe_or (ha : PE X a ta) (hb : PE X (.BoolOp .Or (b :: rest) pos) tb) : PE X (.BoolOp .Or (a :: b :: rest) pos) (tOrV ta tb) := by
  intro pins s σ H Q I h
  refine BoolOp_or (thn (ha pins s σ H _ I h) fun v s1 hhx => ?_)
  obtain ⟨x, H1, I1, r1, q1⟩ := hhx
  obtain ⟨c, rfl, q1⟩ := q1
  cases r1
  refine wpAny_truthy_bool ?_
  cases c with
  | false => exact hb pins s1 σ H1 Q I1 q1
  | true => exact ⟨.bl true, H1, I1, rfl, q1⟩
theorem pe_not (ha : PE X a ta) : PE X (.UnaryOp .Not a pos) (tNotV ta) := by
  intro pins s σ H Q I h
  refine UnaryOp_ (thn (ha pins s σ H _ I h) fun v s1 hhx => ?_)
  obtain ⟨x, H1, I1, r1, q1⟩ := hhx
  obtain ⟨c, rfl, q1⟩ := q1
  cases r1
  exact not_of (wpAny_truthy_bool ⟨.bl (!c), H1, I1, rfl, q1⟩)
noncomputable def tIf (t : TT) (ta tb : TE) : TE := fun σ H Q => t σ H fun c H1 => if c = true then ta σ H1 Q else tb σ H1 Q
theorem pe_ifExp {c : Expr} (hc : PT X c tA) (ha : PE X a ta) (hb : PE X b tb) : PE X (.IfExp c a b pos) (tIf tA ta tb) := by
  intro pins s σ H Q I h
  refine wpAny_IfExp (thn (hc pins s σ H _ I h) fun d s1 hhx => ?_)
  obtain ⟨H1, I1, q1⟩ := hhx
  cases d with
  | true => exact ha pins s1 σ H1 Q I1 q1
  | false => exact hb pins s1 σ H1 Q I1 q1
end
end L2
namespace L2
open PySem PySem.Spec PyProof.Rows
noncomputable def SqL (K : PySem.W.Frag) (H : Hp) (a : Addr) (xs : List V) : Prop :=
  Rd H a (.lst xs) ∨
    ∃ (o : Obj) (its : Array Value) (n : Nat), K.lookup a = some o ∧ o.cls = .type "list" ∧ o.dict = none ∧ o.data = .seq its n ∧ its.size ≤ sizeLine ∧ Vals xs its.toList
noncomputable def SqT (K : PySem.W.Frag) (H : Hp) (a : Addr) (xs : List V) : Prop :=
  Rd H a (.tup xs) ∨
    ∃ (o : Obj) (its : Array Value) (n : Nat), K.lookup a = some o ∧ o.cls = .type "tuple" ∧ o.data = .seq its n ∧ its.size ≤ sizeLine ∧ Vals xs its.toList
noncomputable def absV : Value → Option V
  | .none => some .non
  | .bool b => some (.bl b)
  | .int i _ => some (.int i)
  | .str x _ => some (.str x)
  | .bytes b _ => some (.byt b)
  | .float b _ => some (.flt b)
  | .ref a => some (.ref a)
  | .type n => some (.ty n)
  | _ => none
theorem RelV.abs {x : V} {u : Value} (r : RelV x u) : absV u = some x := by
  cases x with
  | non => cases r; rfl
  | bl _ => cases r; rfl
  | int _ => obtain ⟨t, rfl⟩ := r; rfl
  | str _ => obtain ⟨t, rfl⟩ := r; rfl
  | byt _ => obtain ⟨t, rfl⟩ := r; rfl
  | flt _ => obtain ⟨t, rfl⟩ := r; rfl
  | ref _ => cases r; rfl
  | ty _ => cases r; rfl
theorem RelV.inj {x y : V} {u : Value} (r : RelV x u) (q : RelV y u) : x = y := Option.some.inj (r.abs.symm.trans q.abs)
theorem Vals.inj : ∀ {xs ys : List V} {us : List Value}, Vals xs us → Vals ys us → xs = ys
  | _, _, _, .nil, .nil => rfl
  | _, _, _, .cons r t, .cons r' t' => by rw [r.inj r', Vals.inj t t']
section
variable {X : Cx} {pins : List (Addr × Obj)} {σ : St} {H : Hp} {s : Shared} {a : Addr} {xs ys : List V}
theorem SqL.of {K : PySem.W.Frag} (h : H a = some (.lst xs)) : SqL K H a xs := .inl (.inl h)
theorem SqT.of {K : PySem.W.Frag} (h : H a = some (.tup xs)) : SqT K H a xs := .inl (.inl h)
theorem Inv.list (I : Inv X pins σ H s) (h : SqL X.K H a xs) : ∃ its : List Value, Vals xs its ∧ PlainL s.heap a its.toArray ∧ xs.length ≤ sizeLine := by
  rcases h with h | ⟨o, its, n, hk, hc, hd, hs, hz, r⟩
  · obtain ⟨z, its, n, r, e⟩ := h.ok I.hok
    exact ⟨its, r, ⟨_, n, e, rfl, rfl, rfl⟩, z⟩
  · refine ⟨its.toList, r, ⟨o, n, I.kIn a o hk, hc, hd, by simpa using hs⟩, ?_⟩
    have e := r.length
    simp only [Array.length_toList] at e
    omega
theorem Inv.tuple (I : Inv X pins σ H s) (h : SqT X.K H a xs) : ∃ its : List Value, Vals xs its ∧ IsTup s.heap a its.toArray ∧ xs.length ≤ sizeLine := by
  rcases h with h | ⟨o, its, n, hk, hc, hs, hz, r⟩
  · obtain ⟨z, its, r, p⟩ := h.ok I.hok
    exact ⟨its, r, p, z⟩
  · refine ⟨its.toList, r, ⟨o, I.kIn a o hk, hc, n, by simpa using hs⟩, ?_⟩
    have e := r.length
    simp only [Array.length_toList] at e
    omega
theorem Inv.list_inj (I : Inv X pins σ H s) (h : SqL X.K H a xs) (h' : SqL X.K H a ys) : xs = ys := by
  obtain ⟨its, r, ⟨o, n, e, _, _, d⟩, _⟩ := I.list h
  obtain ⟨its', r', ⟨o', n', e', _, _, d'⟩, _⟩ := I.list h'
  rw [e] at e'; cases e'
  rw [d] at d'
  injection d' with d1 _
  have : its = its' := by simpa using congrArg Array.toList d1
  subst this
  exact r.inj r'
theorem Inv.tuple_inj (I : Inv X pins σ H s) (h : SqT X.K H a xs) (h' : SqT X.K H a ys) : xs = ys := by
  obtain ⟨its, r, ⟨o, e, _, n, d⟩, _⟩ := I.tuple h
  obtain ⟨its', r', ⟨o', e', _, n', d'⟩, _⟩ := I.tuple h'
  rw [e] at e'; cases e'
  rw [d] at d'
  injection d' with d1 _
  have : its = its' := by simpa using congrArg Array.toList d1
  subst this
  exact r.inj r'
end
noncomputable abbrev Cx.wish (X : Cx) (E : Value → Shared → Prop) : Cx := { X with xe := E }
noncomputable abbrev Cx.nox (X : Cx) : Cx := X.wish fun _ _ => False
theorem Cx.Ok.wish {X : Cx} (ok : X.Ok) (E : Value → Shared → Prop) : (X.wish E).Ok :=
  ⟨ok.mod, ok.kind, ok.glob, ok.blt, ok.above, ok.inj, ok.has, ok.cab, ok.hd, ok.frames, ok.stk, ok.exf, ok.bs, ok.bsz, ok.noex, ok.exfs, ok.funs, ok.frf⟩
theorem Cx.Ok.unwish {X : Cx} {E : Value → Shared → Prop} (ok : (X.wish E).Ok) : X.Ok :=
  ⟨ok.mod, ok.kind, ok.glob, ok.blt, ok.above, ok.inj, ok.has, ok.cab, ok.hd, ok.frames, ok.stk, ok.exf, ok.bs, ok.bsz, ok.noex, ok.exfs, ok.funs, ok.frf⟩
section
variable {X : Cx} {pins : List (Addr × Obj)} {σ : St} {H : Hp} {s : Shared} {E : Value → Shared → Prop}
theorem Inv.wish (I : Inv X pins σ H s) (E : Value → Shared → Prop) : Inv (X.wish E) pins σ H s := ⟨I.ok.wish E, I.os, I.bare, I.base, I.loc, I.cell, I.free, I.freeC, I.pin, I.hok, I.len⟩
theorem Inv.unwish (I : Inv (X.wish E) pins σ H s) : Inv X pins σ H s := ⟨I.ok.unwish, I.os, I.bare, I.base, I.loc, I.cell, I.free, I.freeC, I.pin, I.hok, I.len⟩
theorem SP.unwish {D : Ends} {f : Flow} {s' : Shared} (h : SP (X.wish E) pins D f s') : SP X pins D f s' := by
  cases f with
  | next => obtain ⟨σ', H', I, q⟩ := h; exact ⟨σ', H', I.unwish, q⟩
  | brk => obtain ⟨σ', H', I, q⟩ := h; exact ⟨σ', H', I.unwish, q⟩
  | cont => obtain ⟨σ', H', I, q⟩ := h; exact ⟨σ', H', I.unwish, q⟩
  | ret u => obtain ⟨v, σ', H', I, r, q⟩ := h; exact ⟨v, σ', H', I.unwish, r, q⟩
theorem PSs.nox {st : List Stmt} {t : TS} (h : PSs X.nox st t) : PSs X st t := fun pins s σ H D I hw =>
  wpAny_mono (h pins s σ H D (I.wish _) hw) (fun _ _ q => q.unwish) fun _ _ z => False.elim z
end
section
variable {X : Cx} {st : Stmt} {rest : List Stmt} {t u : TS} {e : Expr} {te : TE} {pos : Pos}
noncomputable def tNext : TS := fun D σ H => D.nx σ H
noncomputable def tSeq (t u : TS) : TS := fun D σ H => t { D with nx := u D } σ H
theorem pss_nil : PSs X [] tNext := fun _ _ σ H _ I h => wpAny_execs_nil ⟨σ, H, I, h⟩
theorem pss_cons (h1 : PS X st t) (h2 : PSs X rest u) : PSs X (st :: rest) (tSeq t u) := by
  intro pins s σ H D I h
  refine wpAny_execs_cons (thn (h1 pins s σ H { D with nx := u D } I h) fun f s1 q => ?_)
  cases f with
  | next =>
    obtain ⟨σ', H', I', q⟩ := q
    exact h2 pins s1 σ' H' D I' q
  | ret v => exact q
  | brk => exact q
  | cont => exact q
theorem pss_one (h1 : PS X st t) : PSs X [st] t := by
  intro pins s σ H D I h
  refine wpAny_execs_cons (thn (h1 pins s σ H D I h) fun f s1 q => ?_)
  cases f with
  | next => exact wpAny_execs_nil q
  | ret v => exact q
  | brk => exact q
  | cont => exact q
noncomputable def tBreak : TS := fun D σ H => D.bk σ H
noncomputable def tCont : TS := fun D σ H => D.ct σ H
theorem Inv.quiet {pins : List (Addr × Obj)} {σ : St} {H : Hp} {s : Shared} (I : Inv X pins σ H s) : interactive X.env = false := by simp [interactive, I.ok.kind]
noncomputable def tDrop (te : TE) : TS := fun D σ H => te σ H fun _ H1 => D.nx σ H1
theorem ps_expr (he : PE X e te) (hs : swapsWith e none pos.line X.env = pure false := by rfl) : PS X (.Expr e pos) (tDrop te) := by
  intro pins s σ H D I h
  exact wpAny_Expr_any (thn (he pins s σ H _ I h) fun v s1 ⟨x, H1, I1, r1, q1⟩ => ⟨σ, H1, I1, q1⟩) I.quiet hs
noncomputable def tRet (te : TE) : TS := fun D σ H => te σ H D.rt
theorem ps_ret (he : PE X e te) : PS X (.Return (some e) pos) (tRet te) := by
  intro pins s σ H D I h
  exact wpAny_Return_some (thn (he pins s σ H _ I h) fun v s1 ⟨x, H1, I1, r1, q1⟩ => ⟨x, σ, H1, I1, r1, q1⟩)
noncomputable def tRetN : TS := fun D _ H => D.rt .non H
noncomputable def tIfS (c : TT) (t u : TS) : TS := fun D σ H => c σ H fun b H1 => if b = true then t D σ H1 else u D σ H1
theorem ps_if {c : Expr} {a b : List Stmt} {tc : TT} (hc : PT X c tc) (ha : PSs X a t) (hb : PSs X b u) : PS X (.If c a b pos) (tIfS tc t u) := by
  intro pins s σ H D I h
  refine wpAny_If (thn (hc pins s σ H _ I h) fun d s1 hhx => ?_)
  obtain ⟨H1, I1, q1⟩ := hhx
  cases d with
  | true => exact ha pins s1 σ H1 D I1 q1
  | false => exact hb pins s1 σ H1 D I1 q1
end
noncomputable abbrev TG := V → St → Hp → (St → Hp → Prop) → Prop
noncomputable abbrev TGs := List V → St → Hp → (St → Hp → Prop) → Prop
noncomputable def PG (X : Cx) (target : Expr) (t : TG) : Prop :=
  ∀ (pins : List (Addr × Obj)) (s : Shared) (σ : St) (H : Hp) (v : V) (u : Value) (Q : St → Hp → Prop), Inv X pins σ H s → RelV v u → t v σ H Q →
    wpAny (model X.prog X.w) X.A (assign target X.env u) (fun _ s' => ∃ σ' H', Inv X pins σ' H' s' ∧ Q σ' H') X.xe s
noncomputable def PGs (X : Cx) (ts : List Expr) (t : TGs) : Prop :=
  ∀ (pins : List (Addr × Obj)) (s : Shared) (σ : St) (H : Hp) (vs : List V) (us : List Value) (Q : St → Hp → Prop), Inv X pins σ H s → Vals vs us → t vs σ H Q →
    wpAny (model X.prog X.w) X.A (assignInOrder ((assignEach ts X.env).map (·.2)) us) (fun _ s' => ∃ σ' H', Inv X pins σ' H' s' ∧ Q σ' H') X.xe s
noncomputable abbrev TSet := V → V → V → Hp → (Hp → Prop) → Prop
noncomputable def PSet (X : Cx) (t : TSet) : Prop :=
  ∀ (pins : List (Addr × Obj)) (s : Shared) (σ : St) (H : Hp) (o i v : V) (ov iv u : Value) (Q : Hp → Prop), Inv X pins σ H s → RelV o ov → RelV i iv → RelV v u → t o i v H Q →
    wpAny (model X.prog X.w) X.A (setItem ov iv u) (fun _ s' => ∃ H', Inv X pins σ H' s' ∧ Q H') X.xe s
section
variable {X : Cx} {pos : Pos}
noncomputable def gName (i : Nat) : TG := fun v σ H Q => Q (σ.set i (some v)) H
theorem pg_name {i : Nat} {x : Str} (hN : X.N.Nodup) (hi : X.N[i]? = some x) (hx : Loc X.env.scope x) (hf : X.fn x = true ∨ X.env.scope.names.lookup x = some .local := by first | exact .inl rfl | exact .inr rfl | assumption) : PG X (.Name x pos) (gName i) := by
  intro pins s σ H v u Q I r h
  exact wpAny_assign_Name (store_ok I hN hi hx r (fun s' I' => ⟨_, H, I', h⟩) hf)
noncomputable def gNil : TGs := fun vs σ H Q => vs = [] ∧ Q σ H
noncomputable def gCons (t : TG) (u : TGs) : TGs := fun vs σ H Q => ∃ v r, vs = v :: r ∧ t v σ H fun σ' H' => u r σ' H' Q
theorem pgs_nil : PGs X [] gNil := by
  intro pins s σ H vs us Q I r h
  obtain ⟨e, h⟩ := h
  subst e
  cases r
  exact assignInOrder_nil ⟨σ, H, I, h⟩
theorem pgs_cons {e : Expr} {es : List Expr} {t : TG} {u : TGs} (h1 : PG X e t) (h2 : PGs X es u)
    (hs : (assignEach (e :: es) X.env).map (·.2) = assign e X.env :: (assignEach es X.env).map (·.2) := by rfl) : PGs X (e :: es) (gCons t u) := by
  intro pins s σ H vs us Q I r h
  obtain ⟨v, vr, e1, h⟩ := h
  subst e1
  cases r with
  | cons r rr =>
    rw [hs]
    refine assignInOrder_cons (thn (h1 pins s σ H _ _ _ I r h) fun _ s1 hhx => ?_)
    obtain ⟨σ1, H1, I1, q1⟩ := hhx
    exact h2 pins s1 σ1 H1 _ _ Q I1 rr q1
noncomputable def gTup (K : PySem.W.Frag) (n : Nat) (t : TGs) : TG := fun v σ H Q => ∃ a xs, v = .ref a ∧ SqT K H a xs ∧ xs.length = n ∧ t xs σ H Q
theorem pg_tup {es : List Expr} {k : Nat} {t : TGs} {n : Nat} (hc : X.calm = true) (h : PGs X es t)
    (hn : (assignEach es X.env).length = n := by rfl) (hst : (assignEach es X.env).findIdx? (·.1) = none := by rfl) : PG X (.Tuple es k pos) (gTup X.K n t) := by
  intro pins s σ H v u Q I r hw
  obtain ⟨a, xs, e1, hq, hl, hw⟩ := hw
  subst e1
  cases r
  obtain ⟨its, rv, ht, hz⟩ := I.tuple hq
  refine assign_Tuple_tuple (I.ok.hd hc) ht (by simp [hn, ← hl, rv.length]) hst fun h' hx => ?_
  have I1 : Inv X pins σ H { s with heap := h' } := I.kept (t' := s.toks) fun b o e => hx b o (Nat.ne_of_lt (Heap.lt_size e)) e
  exact h pins _ σ H xs _ Q I1 (by simpa using rv) hw
noncomputable def gSub (to ti : TE) (t : TSet) : TG := fun v σ H Q => to σ H fun o H1 => ti σ H1 fun i H2 => t o i v H2 fun H3 => Q σ H3
theorem pg_sub {o i : Expr} {to ti : TE} {t : TSet} (ho : PE X o to) (hi : PE X i ti) (hs : PSet X t)
    (ha : ∀ v, assign (.Subscript o i pos) X.env v = (do
      let ov ← holding [v] (eval o X.env)
      let iv ← holding [v, ov] (eval i X.env)
      standAt pos
      holding [v, ov, iv] (setItem ov iv v)
      release [v, ov, iv] []) := by intro _; rfl) : PG X (.Subscript o i pos) (gSub to ti t) := by
  intro pins s σ H v u Q I r h
  rw [ha]
  refine wpAny_bind (wpAny_holding (thn (ho pins s σ H _ I h) fun ov s1 hhx => ?_))
  obtain ⟨x, H1, I1, r1, q1⟩ := hhx
  refine wpAny_bind (wpAny_holding (thn (hi pins s1 σ H1 _ I1 q1) fun iv s2 hhx => ?_))
  obtain ⟨y, H2, I2, r2, q2⟩ := hhx
  refine wpAny_bind (wpAny_standAt (wpAny_bind (wpAny_holding (thn (hs pins s2 σ H2 x y v ov iv u _ I2 r1 r2 r q2) fun _ s3 hhx => ?_))))
  obtain ⟨H3, I3, q3⟩ := hhx
  exact wpAny_release ⟨σ, H3, I3, q3⟩
noncomputable def tAsg (te : TE) (g : TG) : TS := fun D σ H => te σ H fun x H1 => g x σ H1 D.nx
theorem ps_asg {tg e : Expr} {te : TE} {g : TG} (he : PE X e te) (hg : PG X tg g) (hs : swapsWithSole [tg] e pos.line X.env = pure false := by rfl) (hw : swappedStores [tg] e X.env = pure none := by rfl)
    (h1 : (assignEach [tg] X.env).map (·.2) = [assign tg X.env] := by rfl) : PS X (.Assign [tg] e pos) (tAsg te g) := by
  intro pins s σ H D I h
  refine wpAny_Assign_stores (thn (he pins s σ H _ I h) fun v s1 hhx => ?_) hs hw
  obtain ⟨x, H1, I1, r1, q1⟩ := hhx
  rw [h1]
  exact thn (hg pins s1 σ H1 x v _ I1 r1 q1) fun _ s2 q => q
theorem ps_set {i : Nat} {x : Str} {e : Expr} {te : TE} {pos' : Pos} (hN : X.N.Nodup) (hi : X.N[i]? = some x) (hx : Loc X.env.scope x) (he : PE X e te) (hs : swapsWith e (some (.Name x pos')) pos.line X.env = pure false := by rfl) (hf : X.fn x = true ∨ X.env.scope.names.lookup x = some .local := by first | exact .inl rfl | exact .inr rfl | assumption) :
    PS X (.Assign [.Name x pos'] e pos) (tAsg te (gName i)) := by
  intro pins s σ H D I h
  refine wpAny_Assign_Name (thn (he pins s σ H _ I h) fun v s1 hhx => ?_) hs
  obtain ⟨y, H1, I1, r1, q1⟩ := hhx
  exact store_ok I1 hN hi hx r1 (fun s2 I2 => ⟨_, H1, I2, q1⟩) hf
end
section
variable {X : Cx} {pos : Pos}
noncomputable def tWhile (c : TT) (tb : TS) : TS := fun D σ H => ∃ W : Nat → St → Hp → Prop, (∃ m, W m σ H) ∧ ∀ m σ H, W m σ H →
  c σ H fun b H1 => if b = true then ∃ N : St → Hp → Prop, (∀ σ' H', N σ' H' → ∃ m', m' < m ∧ W m' σ' H') ∧ tb { D with nx := N, ct := N, bk := D.nx } σ H1 else D.nx σ H1
theorem ps_while {c : Expr} {body : List Stmt} {tc : TT} {tb : TS} (hp : PassesOwn (model X.prog X.w) X.A X.env X.xe) (hc : PT X c tc) (hb : PSs X body tb) : PS X (.While c body [] pos) (tWhile tc tb) := by
  intro pins s σ H D I h
  obtain ⟨W, ⟨m0, w0⟩, turn⟩ := h
  refine wpAny_While (codeAny_whileLoop (fun n s' => ∃ σ' H', Inv X pins σ' H' s' ∧ W n σ' H') ?_ m0 ⟨σ, H, I, w0⟩)
  rintro n s1 ⟨σ1, H1, I1, w1⟩
  refine wpAny_passesOwn hp (thn (hc pins s1 σ1 H1 _ I1 (turn n σ1 H1 w1)) fun b s2 hhx => ?_)
  obtain ⟨H2, I2, q2⟩ := hhx
  cases b with
  | true =>
    obtain ⟨N, hN, q2⟩ := q2
    rw [if_pos rfl]
    refine wpAny_passesOwn hp (thn (hb pins s2 σ1 H2 _ I2 q2) fun f s3 q3 => ?_)
    cases f with
    | next =>
      obtain ⟨σ3, H3, I3, n3⟩ := q3
      obtain ⟨m', hm, w3⟩ := hN σ3 H3 n3
      exact ⟨m', hm, σ3, H3, I3, w3⟩
    | cont =>
      obtain ⟨σ3, H3, I3, n3⟩ := q3
      obtain ⟨m', hm, w3⟩ := hN σ3 H3 n3
      exact ⟨m', hm, σ3, H3, I3, w3⟩
    | brk => exact q3
    | ret v => exact q3
  | false =>
    rw [if_neg Bool.false_ne_true]
    exact wpAny_execs_nil ⟨σ1, H2, I2, q2⟩
end
structure It where
  go : Nat → Hp → Prop
  yld : Nat → Hp → V → Hp → Prop
  stop : Nat → Hp → Prop
noncomputable def FpOk (X : Cx) (pins : List (Addr × Obj)) (H : Hp) (b : Addr) : Prop :=
  H b = none ∧ b ≠ X.env.locals ∧ b ∉ X.fs ∧ (b ∈ X.ex ∨ X.s₀.heap.objs.size ≤ b) ∧ (∀ x c, X.env.cells.lookup x = some c → c ≠ b) ∧ ∀ p ∈ X.pn ++ pins, p.1 ≠ b
theorem Inv.fpOk {X : Cx} {pins : List (Addr × Obj)} {σ : St} {H H' : Hp} {s : Shared} {b : Addr} (I : Inv X pins σ H s) (hb : s.heap.objs.size ≤ b) (hn : H' b = none) : FpOk X pins H' b := by
  refine ⟨hn, Nat.ne_of_gt (Nat.lt_of_lt_of_le I.lt hb), I.nofs hb, .inr (Nat.le_trans I.sz hb), fun x c e z => ?_, fun p hp z => ?_⟩
  · obtain ⟨v, q⟩ := I.cell x c e
    exact absurd (Nat.lt_of_lt_of_le q.lt (by rw [z]; exact hb)) (Nat.lt_irrefl _)
  · exact absurd (Nat.lt_of_lt_of_le (Heap.lt_size (I.pin p hp).1) (by rw [z]; exact hb)) (Nat.lt_irrefl _)
structure Turn (P : Program) (w : World) (K : PySem.W.Frag) (tg : Expr) (J : It) (fp : List Addr) (it : Addr) (tn : Nat → Heap → Prop) : Prop where
  mem : it ∈ fp
  obj : ∀ i h, tn i h → ∀ b ∈ fp, ∃ o, h.get? b = some o ∧ ∀ v, o.data ≠ .cell v
  keep : ∀ i h h', tn i h → (∀ b ∈ fp, ∀ o, h.get? b = some o → h'.get? b = some o) → tn i h'
  item : ∀ (X : Cx), X.prog = P → X.w = w → X.K = K → X.calm = true → ∀ (i : Nat) (pins : List (Addr × Obj)) (s : Shared) (σ : St) (H : Hp) (E : Value → Shared → Prop), Inv X pins σ H s → (∀ b ∈ fp, FpOk X pins H b) → tn i s.heap → J.go i H →
    wpAny (model P w) X.A (pyNext (.ref it)) (fun r s1 => ∃ u, r = some u ∧
      wpAny (model P w) X.A (letOwnedTupleGo tg (.ref it) u) (fun _ s2 => ∃ x H', Inv X pins σ H' s2 ∧ RelV x u ∧ J.yld i H x H' ∧ tn (i + 1) s2.heap ∧ ∀ b ∈ fp, H' b = none) E s1) E s
  done : ∀ (X : Cx), X.prog = P → X.w = w → X.K = K → X.calm = true → ∀ (i : Nat) (pins : List (Addr × Obj)) (s : Shared) (σ : St) (H : Hp) (E : Value → Shared → Prop), Inv X pins σ H s → (∀ b ∈ fp, FpOk X pins H b) → tn i s.heap → J.stop i H →
    wpAny (model P w) X.A (pyNext (.ref it)) (fun r s1 => r = none ∧ Inv X pins σ H s1) E s
  self : ∀ (A : Around) (i : Nat) (s : Shared) (Q : Value → Shared → Prop) (E : Value → Shared → Prop), tn i s.heap → Q (.ref it) s → wpAny (model P w) A (pyIter (.ref it)) Q E s
noncomputable abbrev TI := St → Hp → (It → Hp → Prop) → Prop
noncomputable def PIE (X : Cx) (pins : List (Addr × Obj)) (σ : St) (tg : Expr) (R : It → Hp → Prop) (itv : Value) (s2 : Shared) : Prop :=
  ∃ (it : Addr) (fp : List Addr) (tn : Nat → Heap → Prop) (J : It) (H' : Hp), itv = .ref it ∧ Inv X pins σ H' s2 ∧ Turn X.prog X.w X.K tg J fp it tn ∧ tn 0 s2.heap ∧ (∀ b ∈ fp, FpOk X pins H' b) ∧ R J H'
noncomputable def PI (X : Cx) (tg iter : Expr) (wi : TI) : Prop :=
  ∀ (pins : List (Addr × Obj)) (s : Shared) (σ : St) (H : Hp) (R : It → Hp → Prop), Inv X pins σ H s → wi σ H R →
    wpAny (model X.prog X.w) X.A (eval iter X.env) (fun v s1 => wpAny (model X.prog X.w) X.A (pyIter v) (PIE X pins σ tg R) X.xe s1) X.xe s
theorem go_of {M : Model} {A : Around} {E : Value → Shared → Prop} {s : Shared} {tg : Expr} {it : Addr} {u : Value} {o : Obj} {n : String} {vs : Array Value} {Q : Unit → Shared → Prop} (ho : s.heap.get? it = some o) (hc : o.cls = .type n) (hd : o.data = .fields vs)
    (hn : ["enumerate", "zip", "dict_itemiterator", "dict_reverseitemiterator", "odict_iterator", "itertools.zip_longest", "itertools.pairwise"].contains n = false) (hQ : Q () s) : wpAny M A (letOwnedTupleGo tg (.ref it) u) Q E s := by
  unfold letOwnedTupleGo
  cases tg <;> first
    | exact wpAny_pure hQ
    | (cases u <;> first
        | exact wpAny_pure hQ
        | (refine wpAny_bind (wpAny_load ho ?_)
           rw [hc, hd]
           show wpAny M A (if (["enumerate", "zip", "dict_itemiterator", "dict_reverseitemiterator", "odict_iterator", "itertools.zip_longest", "itertools.pairwise"].contains n && vs[0]? == some (rawInt _)) = true then _ else _) Q E s
           rw [if_neg (by intro h; rw [hn, Bool.false_and] at h; cases h)]
           exact wpAny_pure hQ))
noncomputable def Itl (K : PySem.W.Frag) (a : Addr) : It :=
  ⟨fun i H => ∃ xs x, SqL K H a xs ∧ xs[i]? = some x, fun i H x H' => H' = H ∧ ∀ xs, SqL K H a xs → xs[i]? = some x, fun i H => ∃ xs, SqL K H a xs ∧ xs.length ≤ i⟩
noncomputable def Itt (K : PySem.W.Frag) (a : Addr) : It :=
  ⟨fun i H => ∃ xs x, SqT K H a xs ∧ xs[i]? = some x, fun i H x H' => H' = H ∧ ∀ xs, SqT K H a xs → xs[i]? = some x, fun i H => ∃ xs, SqT K H a xs ∧ xs.length ≤ i⟩
noncomputable def Itr (lo : Int) (n : Nat) : It := ⟨fun i _ => i < n, fun i H x H' => H' = H ∧ x = .int (lo + i), fun i _ => n ≤ i⟩
theorem turn_list {P : Program} {w : World} {K : PySem.W.Frag} {tg : Expr} (a it : Addr) : Turn P w K tg (Itl K a) [it] it (fun i h => h.IsListIter it a i) where
  mem := by simp
  obj := fun i h st b hb => by
    have e : b = it := by simpa using hb
    subst e
    obtain ⟨o, e, c, d⟩ := st
    exact ⟨o, e, fun v z => by rw [d] at z; cases z⟩
  keep := fun i h h' st k => st.at fun o e => k it (by simp) o e
  item := by
    intro X hP hw hK hc i pins s σ H E I hf st hg
    subst hP hw hK
    obtain ⟨xs, x, hq, hx⟩ := hg
    obtain ⟨its, rv, p, hz⟩ := I.list hq
    obtain ⟨u, hu, ru⟩ := rv.get hx
    obtain ⟨f0, f1, f2, f3, f4, f5⟩ := hf it (by simp)
    refine wpAny_pyNext_list_item st p.isList (x := u) (by simpa using hu) fun h' st' sb => ?_
    have I1 : Inv X pins σ H { s with heap := h' } := I.turned (t' := s.toks) (fun b o hb e => (sb.2 b hb).trans e) f0 f1 f3 f4 f5
    obtain ⟨o, e, c, d⟩ := id st'
    exact ⟨u, rfl, go_of (s := { s with heap := h' }) e c d (by decide) ⟨x, H, I1, ru, ⟨rfl, fun ys hy => by rw [I.list_inj hy hq]; exact hx⟩, st', fun b hb => (hf b hb).1⟩⟩
  done := by
    intro X hP hw hK hc i pins s σ H E I hf st hg
    subst hP hw hK
    obtain ⟨xs, hq, hx⟩ := hg
    obtain ⟨its, rv, p, hz⟩ := I.list hq
    obtain ⟨f0, f1, f2, f3, f4, f5⟩ := hf it (by simp)
    have hl := rv.length
    exact wpAny_pyNext_list_end (I.ok.hd hc) st p.isList (by simp; omega) fun h' eb => ⟨rfl, I.turned (t' := s.toks) (fun b o hb e => eb b o hb e) f0 f1 f3 f4 f5⟩
  self := fun _ _ _ _ _ st h => wpAny_pyIter_listiter st h
theorem turn_tuple {P : Program} {w : World} {K : PySem.W.Frag} {tg : Expr} (a it : Addr) : Turn P w K tg (Itt K a) [it] it (fun i h => h.IsTupleIter it a i) where
  mem := by simp
  obj := fun i h st b hb => by
    have e : b = it := by simpa using hb
    subst e
    obtain ⟨o, e, c, d⟩ := st
    exact ⟨o, e, fun v z => by rw [d] at z; cases z⟩
  keep := fun i h h' st k => st.at fun o e => k it (by simp) o e
  item := by
    intro X hP hw hK hc i pins s σ H E I hf st hg
    subst hP hw hK
    obtain ⟨xs, x, hq, hx⟩ := hg
    obtain ⟨its, rv, p, hz⟩ := I.tuple hq
    obtain ⟨u, hu, ru⟩ := rv.get hx
    obtain ⟨f0, f1, f2, f3, f4, f5⟩ := hf it (by simp)
    refine wpAny_pyNext_tuple_item st (show s.heap.IsTuple a its.toArray from p) (x := u) (by simpa using hu) fun h' st' sb => ?_
    have I1 : Inv X pins σ H { s with heap := h' } := I.turned (t' := s.toks) (fun b o hb e => (sb.2 b hb).trans e) f0 f1 f3 f4 f5
    obtain ⟨o, e, c, d⟩ := id st'
    exact ⟨u, rfl, go_of (s := { s with heap := h' }) e c d (by decide) ⟨x, H, I1, ru, ⟨rfl, fun ys hy => by rw [I.tuple_inj hy hq]; exact hx⟩, st', fun b hb => (hf b hb).1⟩⟩
  done := by
    intro X hP hw hK hc i pins s σ H E I hf st hg
    subst hP hw hK
    obtain ⟨xs, hq, hx⟩ := hg
    obtain ⟨its, rv, p, hz⟩ := I.tuple hq
    obtain ⟨f0, f1, f2, f3, f4, f5⟩ := hf it (by simp)
    have hl := rv.length
    exact wpAny_pyNext_tuple_end (I.ok.hd hc) st (show s.heap.IsTuple a its.toArray from p) (by simp; omega) fun h' eb => ⟨rfl, I.turned (t' := s.toks) (fun b o hb e => eb b o hb e) f0 f1 f3 f4 f5⟩
  self := fun _ _ _ _ _ st h => wpAny_pyIter_tupleiter st h
theorem turn_range {P : Program} {w : World} {K : PySem.W.Frag} {tg : Expr} (it : Addr) (lo : Int) (n : Nat) : Turn P w K tg (Itr lo n) [it] it (fun i h => IsRangeIter h it (lo + (i : Nat) * 1) ((n : Int) - (i : Nat)) 1) where
  mem := by simp
  obj := fun i h st b hb => by
    have e : b = it := by simpa using hb
    subst e
    exact ⟨_, st, fun v z => by
      have z' : Data.fields _ = Data.cell v := z
      cases z'⟩
  keep := fun i h h' st k => k it (by simp) _ st
  item := by
    intro X hP hw hK hc i pins s σ H E I hf st hg
    subst hP hw hK
    obtain ⟨f0, f1, f2, f3, f4, f5⟩ := hf it (by simp)
    have W := Walks.range (prog := X.prog) (w := X.w) (I.ok.hd hc) it lo 1 n
    refine W.item i s _ _ hg st fun v h' tk hv st' kk => ?_
    obtain ⟨t, rfl⟩ := hv
    have I1 : Inv X pins σ H { s with heap := h', toks := tk } := I.turned (fun b o hb e => kk b o (by simpa using hb) e) f0 f1 f3 f4 f5
    refine ⟨_, rfl, go_of (s := { s with heap := h', toks := tk }) (n := "range_iterator") st' rfl rfl (by decide) ⟨.int (lo + i), H, I1, ⟨t, ?_⟩, ⟨rfl, rfl⟩, st', fun b hb => (hf b hb).1⟩⟩
    rw [Int.mul_one]
  done := by
    intro X hP hw hK hc i pins s σ H E I hf st hg
    subst hP hw hK
    obtain ⟨f0, f1, f2, f3, f4, f5⟩ := hf it (by simp)
    exact wpAny_pyNext_range_end (I.ok.hd hc) st (by have : n ≤ i := hg; omega) fun h' eb => ⟨rfl, I.turned (t' := s.toks) (fun b o hb e => eb b o hb e) f0 f1 f3 f4 f5⟩
  self := fun _ _ _ _ _ st h => wpAny_pyIter_rangeiter st h
end L2
namespace L2
open PySem PySem.Spec PyProof.Rows
section
variable {X : Cx} {tg : Expr}
noncomputable def iList (K : PySem.W.Frag) (tl : TE) : TI := fun σ H R => tl σ H fun x H1 => ∃ a, x = .ref a ∧ (∃ xs, SqL K H1 a xs) ∧ R (Itl K a) H1
noncomputable def iTup (K : PySem.W.Frag) (tl : TE) : TI := fun σ H R => tl σ H fun x H1 => ∃ a, x = .ref a ∧ (∃ xs, SqT K H1 a xs) ∧ R (Itt K a) H1
theorem pi_list {l : Expr} {tl : TE} (hl : PE X l tl) : PI X tg l (iList X.K tl) := by
  intro pins s σ H R I h
  refine thn (hl pins s σ H _ I h) fun v s1 hhx => ?_
  obtain ⟨x, H1, I1, r1, q1⟩ := hhx
  obtain ⟨a, e, ⟨xs, hq⟩, q⟩ := q1
  subst e
  cases r1
  obtain ⟨its, rv, p, hz⟩ := I1.list hq
  refine wpAny_pyIter_list p.isList ?_
  refine ⟨s1.heap.objs.size, [s1.heap.objs.size], _, _, H1, rfl, I1.kept (t' := s1.toks) fun b o e => Heap.get?_push_of_some _ e, turn_list a _, ⟨_, Heap.get?_push_size _ rfl, rfl, rfl⟩, fun b hb => ?_, q⟩
  have e : b = s1.heap.objs.size := by simpa using hb
  subst e
  exact I1.fpOk (Nat.le_refl _) (I1.hok.fresh (Nat.le_refl _))
theorem pi_tup {l : Expr} {tl : TE} (hl : PE X l tl) : PI X tg l (iTup X.K tl) := by
  intro pins s σ H R I h
  refine thn (hl pins s σ H _ I h) fun v s1 hhx => ?_
  obtain ⟨x, H1, I1, r1, q1⟩ := hhx
  obtain ⟨a, e, ⟨xs, hq⟩, q⟩ := q1
  subst e
  cases r1
  obtain ⟨its, rv, p, hz⟩ := I1.tuple hq
  refine wpAny_pyIter_tuple (show s1.heap.IsTuple a its.toArray from p) ?_
  refine ⟨s1.heap.objs.size, [s1.heap.objs.size], _, _, H1, rfl, I1.kept (t' := s1.toks) fun b o e => Heap.get?_push_of_some _ e, turn_tuple a _, ⟨_, Heap.get?_push_size _ rfl, rfl, rfl⟩, fun b hb => ?_, q⟩
  have e : b = s1.heap.objs.size := by simpa using hb
  subst e
  exact I1.fpOk (Nat.le_refl _) (I1.hok.fresh (Nat.le_refl _))
theorem range_it {pins : List (Addr × Obj)} {σ : St} {H : Hp} {s : Shared} {R : It → Hp → Prop} {E : Value → Shared → Prop} {lo hi : Int} {t u v : Tok} {tk : Nat} (I : Inv X pins σ H s) (h1 : -(2 ^ 62) ≤ lo) (h2 : lo < 2 ^ 62) (h3 : -(2 ^ 62) ≤ hi) (h4 : hi < 2 ^ 62)
    (q : R (Itr lo (hi - lo).toNat) H) : wpAny (model X.prog X.w) X.A (pyIter (.ref s.heap.objs.size)) (PIE X pins σ tg R) E { s with heap := s.heap.push { cls := .type "range", data := .fields #[.int lo t, .int hi u, .int 1 v] }, toks := tk } := by
  refine wpAny_pyIter_range (IsRange.new ..) (small_one h1 h2 h3 h4) ?_
  have I1 : Inv X pins σ H { s with heap := s.heap.push { cls := .type "range", data := .fields #[.int lo t, .int hi u, .int 1 v] }, toks := tk } := I.kept fun b o e => Heap.get?_push_of_some _ e
  refine ⟨(s.heap.push { cls := .type "range", data := .fields #[.int lo t, .int hi u, .int 1 v] }).objs.size, [(s.heap.push { cls := .type "range", data := .fields #[.int lo t, .int hi u, .int 1 v] }).objs.size], _, _, H, rfl,
    I1.kept (t' := tk) fun b o e => Heap.get?_push_of_some _ e, turn_range _ lo (hi - lo).toNat, ?_, fun b hb => ?_, q⟩
  · have e1 : lo + ((0 : Nat) : Int) * 1 = lo := by simp
    have e2 : (((hi - lo).toNat : Nat) : Int) - ((0 : Nat) : Int) = Builtin.Range.rangeSize lo hi 1 := by rw [rangeSize_one]; split <;> omega
    show IsRangeIter _ _ (lo + ((0 : Nat) : Int) * 1) ((((hi - lo).toNat : Nat) : Int) - ((0 : Nat) : Int)) 1
    rw [e1, e2]
    exact Heap.get?_push_size _ rfl
  · have e : b = (s.heap.push { cls := .type "range", data := .fields #[.int lo t, .int hi u, .int 1 v] }).objs.size := by simpa using hb
    subst e
    exact I1.fpOk (Nat.le_refl _) (I1.hok.fresh (Nat.le_refl _))
noncomputable def iRng1 (ta : TA) : TI := fun σ H R => ta σ H fun vs H1 => ∃ j : Int, vs = [.int j] ∧ -(2 ^ 62) ≤ j ∧ j < 2 ^ 62 ∧ R (Itr 0 j.toNat) H1
noncomputable def iRng2 (ta : TA) : TI := fun σ H R => ta σ H fun vs H1 => ∃ i j : Int, vs = [.int i, .int j] ∧ (-(2 ^ 62) ≤ i ∧ i < 2 ^ 62 ∧ -(2 ^ 62) ≤ j ∧ j < 2 ^ 62) ∧ R (Itr i (j - i).toNat) H1
theorem pi_range1 {a : Expr} {ta : TA} {p pos : Pos} (hg : Gl X "range") (hm : X.mg "range" = none) (ha : PA X [a] ta) (hs : starEach [a] X.env = [(false, eval a X.env)] := by rfl) : PI X tg (.Call (.Name "range" p) [a] [] pos) (iRng1 ta) := by
  intro pins s σ H R I h
  refine Call_ (ld_blt I hg hm boot_range (PyProof.Rows.callWith_type1 (thn (ha pos pins s σ H _ I h) fun us s1 hhx => ?_) hs rfl))
  obtain ⟨vs, H1, I1, r1, q1⟩ := hhx
  obtain ⟨j, e, q1, q2, q⟩ := q1
  subst e
  cases r1 with
  | cons r rr =>
    cases rr
    obtain ⟨t, rfl⟩ := r
    exact call_range_1 (range_it I1 (by omega) (by omega) q1 q2 (by simpa using q))
noncomputable def tFor (wi : TI) (g : TG) (tb : TS) : TS := fun D σ H => wi σ H fun J H1 => ∃ W : Nat → Nat → St → Hp → Prop, (∃ m, W 0 m σ H1) ∧ ∀ i m σ H, W i m σ H →
  (J.stop i H ∧ D.nx σ H) ∨ (J.go i H ∧ ∃ N : St → Hp → Prop, (∀ σ' H', N σ' H' → ∃ m', m' < m ∧ W (i + 1) m' σ' H') ∧ ∀ x H', J.yld i H x H' → g x σ H' fun σ2 H2 => tb { D with nx := N, ct := N, bk := D.nx } σ2 H2)
noncomputable def pinsAt (fp : List Addr) (h : Heap) : List (Addr × Obj) := fp.filterMap fun b => (h.get? b).map fun o => (b, o)
theorem mem_pinsAt {fp : List Addr} {h : Heap} {b : Addr} {o : Obj} (hb : b ∈ fp) (e : h.get? b = some o) : (b, o) ∈ pinsAt fp h := List.mem_filterMap.mpr ⟨b, hb, by rw [e]; rfl⟩
theorem of_pinsAt {fp : List Addr} {h : Heap} {p : Addr × Obj} (hp : p ∈ pinsAt fp h) : p.1 ∈ fp ∧ h.get? p.1 = some p.2 := by
  obtain ⟨b, hb, e⟩ := List.mem_filterMap.mp hp
  cases q : h.get? b with
  | none => rw [q] at e; cases e
  | some o =>
    rw [q] at e
    have e' : (b, o) = p := Option.some.inj e
    subst e'
    exact ⟨hb, q⟩
theorem Inv.pinned {pins : List (Addr × Obj)} {σ : St} {H : Hp} {s : Shared} {fp : List Addr} (I : Inv X pins σ H s) (hf : ∀ b ∈ fp, FpOk X pins H b) (ho : ∀ b ∈ fp, ∃ o, s.heap.get? b = some o ∧ ∀ v, o.data ≠ .cell v) : Inv X (pins ++ pinsAt fp s.heap) σ H s :=
  I.pins_of fun p hp => (List.mem_append.mp hp).elim (fun z => I.pin p (List.mem_append_right _ z)) fun z => by
    obtain ⟨hb, e⟩ := of_pinsAt z
    obtain ⟨f0, f1, f2, _⟩ := hf p.1 hb
    obtain ⟨o, e', d⟩ := ho p.1 hb
    rw [e] at e'; cases e'
    exact ⟨e, f0, f1, f2, d⟩
theorem Inv.unpinned {pins pl : List (Addr × Obj)} {σ : St} {H : Hp} {s : Shared} (I : Inv X (pins ++ pl) σ H s) : Inv X pins σ H s := I.pins_of fun p hp => I.pin p (List.mem_append_right _ (List.mem_append_left _ hp))
theorem ps_for {iter : Expr} {body : List Stmt} {wi : TI} {g : TG} {tb : TS} {pos : Pos} (hp : PassesOwn (model X.prog X.w) X.A X.env X.xe) (hc : X.calm = true) (hi : PI X tg iter wi) (hg : PG X tg g) (hb : PSs X body tb)
    (hs : ∀ x, foldedSetIterable iter X.env x = pure x := by intro _; rfl) : PS X (.For tg iter body [] pos) (tFor wi g tb) := by
  intro pins s σ H D I h
  refine wpAny_For (thn (hi pins s σ H _ I h) fun v s1 h1 => thn h1 fun itv s2 h2 => ?_) hs
  obtain ⟨it, fp, tn, J, H2, e, I2, T, st2, f2, W, ⟨m0, w0⟩, turn⟩ := h2
  subst e
  -- what stays true of the iterator's objects through the loop
  have stat : ∀ {H' : Hp}, (∀ b ∈ fp, H' b = none) → ∀ b ∈ fp, FpOk X pins H' b := fun hn b hb => ⟨hn b hb, (f2 b hb).2⟩
  refine codeAny_forLoop_any (fun n s' => ∃ i σ' H', Inv X pins σ' H' s' ∧ tn i s'.heap ∧ (∀ b ∈ fp, H' b = none) ∧ W i n σ' H') ?_ m0 ⟨0, σ, H2, I2, st2, fun b hb => (f2 b hb).1, w0⟩
  rintro n s3 ⟨i, σ3, H3, I3, st3, fr3, w3⟩
  rcases turn i n σ3 H3 w3 with ⟨stop, qn⟩ | ⟨go, N, hN, step⟩
  · refine wpAny_passesOwn hp (thn (T.done X rfl rfl rfl hc i pins s3 σ3 H3 X.xe I3 (stat fr3) st3 stop) fun r s4 ⟨hr, I4⟩ => ?_)
    subst hr
    exact wpAny_execs_nil ⟨σ3, H3, I4, qn⟩
  · refine wpAny_passesOwn hp (thn (T.item X rfl rfl rfl hc i pins s3 σ3 H3 X.xe I3 (stat fr3) st3 go) fun r s4 ⟨u, hr, h4⟩ => ?_)
    subst hr
    refine wpAny_passesOwn hp (thn h4 fun _ s5 hhx => ?_)
    obtain ⟨x, H5, I5, r5, y5, st5, fr5⟩ := hhx
    have I5' := I5.pinned (stat fr5) (T.obj _ _ st5)
    refine wpAny_passesOwn hp (thn (hg _ s5 σ3 H5 x u _ I5' r5 (step x H5 y5)) fun _ s6 hhx => ?_)
    obtain ⟨σ6, H6, I6, q6⟩ := hhx
    refine wpAny_passesOwn hp (thn (hb _ s6 σ6 H6 _ I6 q6) fun f s7 q7 => ?_)
    have again : ∀ {σ7 : St} {H7 : Hp}, Inv X (pins ++ pinsAt fp s5.heap) σ7 H7 s7 → N σ7 H7 → ∃ m, m < n ∧ ∃ i σ' H', Inv X pins σ' H' s7 ∧ tn i s7.heap ∧ (∀ b ∈ fp, H' b = none) ∧ W i m σ' H' := fun {σ7 H7} I7 n7 => by
      obtain ⟨m', hm, w7⟩ := hN σ7 H7 n7
      refine ⟨m', hm, i + 1, σ7, H7, I7.unpinned, T.keep _ _ _ st5 fun b hb o e => (I7.pin (b, o) (List.mem_append_right _ (List.mem_append_right _ (mem_pinsAt hb e)))).1, fun b hb => ?_, w7⟩
      obtain ⟨o, e, d⟩ := T.obj _ _ st5 b hb
      exact (I7.pin (b, o) (List.mem_append_right _ (List.mem_append_right _ (mem_pinsAt hb e)))).2.1
    cases f with
    | next => obtain ⟨σ7, H7, I7, n7⟩ := q7; exact again I7 n7
    | cont => obtain ⟨σ7, H7, I7, n7⟩ := q7; exact again I7 n7
    | brk => obtain ⟨σ7, H7, I7, q7⟩ := q7; exact ⟨σ7, H7, I7.unpinned, q7⟩
    | ret v => obtain ⟨x7, σ7, H7, I7, r7, q7⟩ := q7; exact ⟨x7, σ7, H7, I7.unpinned, r7, q7⟩
end
theorem for_list {K : PySem.W.Frag} {a : Addr} {xs : List V} {g : TG} {tb : TS} {D : Ends} {σ : St} {H : Hp} (Pv : Nat → St → Hp → Prop) (h0 : Pv 0 σ H) (hl : ∀ i σ H, i ≤ xs.length → Pv i σ H → SqL K H a xs)
    (hs : ∀ i x σ H, xs[i]? = some x → Pv i σ H → g x σ H fun σ2 H2 => tb { D with nx := Pv (i + 1), ct := Pv (i + 1), bk := D.nx } σ2 H2) (hd : ∀ σ H, Pv xs.length σ H → D.nx σ H) :
    ∃ W : Nat → Nat → St → Hp → Prop, (∃ m, W 0 m σ H) ∧ ∀ i m σ H, W i m σ H →
      ((Itl K a).stop i H ∧ D.nx σ H) ∨ ((Itl K a).go i H ∧ ∃ N : St → Hp → Prop, (∀ σ' H', N σ' H' → ∃ m', m' < m ∧ W (i + 1) m' σ' H') ∧ ∀ x H', (Itl K a).yld i H x H' → g x σ H' fun σ2 H2 => tb { D with nx := N, ct := N, bk := D.nx } σ2 H2) := by
  refine ⟨fun i m σ H => m = xs.length - i ∧ i ≤ xs.length ∧ Pv i σ H, ⟨xs.length, by simp, Nat.zero_le _, h0⟩, ?_⟩
  rintro i m σ H ⟨rfl, hi, p⟩
  have q := hl i σ H hi p
  by_cases hlt : i < xs.length
  · refine .inr ⟨⟨xs, xs[i], q, by simp [hlt]⟩, Pv (i + 1), fun σ' H' p' => ⟨xs.length - (i + 1), by omega, rfl, hlt, p'⟩, fun x H' y => ?_⟩
    obtain ⟨e, y⟩ := y
    subst e
    exact hs i x σ _ (y xs q) p
  · have e : i = xs.length := by omega
    subst e
    exact .inl ⟨⟨xs, q, Nat.le_refl _⟩, hd σ H p⟩
theorem for_range {lo : Int} {n : Nat} {g : TG} {tb : TS} {D : Ends} {σ : St} {H : Hp} (Pv : Nat → St → Hp → Prop) (h0 : Pv 0 σ H)
    (hs : ∀ i σ H, i < n → Pv i σ H → g (.int (lo + i)) σ H fun σ2 H2 => tb { D with nx := Pv (i + 1), ct := Pv (i + 1), bk := D.nx } σ2 H2) (hd : ∀ σ H, Pv n σ H → D.nx σ H) :
    ∃ W : Nat → Nat → St → Hp → Prop, (∃ m, W 0 m σ H) ∧ ∀ i m σ H, W i m σ H →
      ((Itr lo n).stop i H ∧ D.nx σ H) ∨ ((Itr lo n).go i H ∧ ∃ N : St → Hp → Prop, (∀ σ' H', N σ' H' → ∃ m', m' < m ∧ W (i + 1) m' σ' H') ∧ ∀ x H', (Itr lo n).yld i H x H' → g x σ H' fun σ2 H2 => tb { D with nx := N, ct := N, bk := D.nx } σ2 H2) := by
  refine ⟨fun i m σ H => m = n - i ∧ i ≤ n ∧ Pv i σ H, ⟨n, by simp, Nat.zero_le _, h0⟩, ?_⟩
  rintro i m σ H ⟨rfl, hi, p⟩
  by_cases hlt : i < n
  · refine .inr ⟨hlt, Pv (i + 1), fun σ' H' p' => ⟨n - (i + 1), by omega, rfl, hlt, p'⟩, fun x H' y => ?_⟩
    obtain ⟨e, y⟩ := y
    subst e y
    exact hs i σ _ hlt p
  · have e : i = n := by omega
    subst e
    exact .inl ⟨Nat.le_refl _, hd σ H p⟩
end L2
namespace L2
open PySem PySem.Spec PyProof.Rows
noncomputable abbrev R2 := V → V → Hp → VK → Prop
noncomputable def OpR (X : Cx) (f : Value → Value → Sem Value) (r : R2) : Prop :=
  ∀ (pins : List (Addr × Obj)) (s : Shared) (σ : St) (H : Hp) (x y : V) (v u : Value) (Q : VK), Inv X pins σ H s → RelV x v → RelV y u → r x y H Q →
    wpAny (model X.prog X.w) X.A (f v u) (EP X pins σ Q) X.xe s
noncomputable def UnR (X : Cx) (f : Value → Sem Value) (r : V → Hp → VK → Prop) : Prop :=
  ∀ (pins : List (Addr × Obj)) (s : Shared) (σ : St) (H : Hp) (x : V) (v : Value) (Q : VK), Inv X pins σ H s → RelV x v → r x H Q →
    wpAny (model X.prog X.w) X.A (f v) (EP X pins σ Q) X.xe s
noncomputable def CallR (X : Cx) (f : Value) (r : List V → Hp → VK → Prop) : Prop :=
  ∀ (pins : List (Addr × Obj)) (s : Shared) (σ : St) (H : Hp) (xs : List V) (us : List Value) (Q : VK), Inv X pins σ H s → Vals xs us → r xs H Q →
    wpAny (model X.prog X.w) X.A (call f us) (EP X pins σ Q) X.xe s
noncomputable def tOp (r : R2) (ta tb : TE) : TE := fun σ H Q => ta σ H fun x H1 => tb σ H1 fun y H2 => r x y H2 Q
noncomputable def tUn (r : V → Hp → VK → Prop) (ta : TE) : TE := fun σ H Q => ta σ H fun x H1 => r x H1 Q
noncomputable def rI (C : Int → Int → Prop) (g : Int → Int → V) : R2 := fun x y H Q => ∃ i j, x = .int i ∧ y = .int j ∧ C i j ∧ Q (g i j) H
noncomputable def rI0 (g : Int → Int → V) : R2 := fun x y H Q => ∃ i j, x = .int i ∧ y = .int j ∧ Q (g i j) H
noncomputable def rU (g : Int → V) : V → Hp → VK → Prop := fun x H Q => ∃ i, x = .int i ∧ Q (g i) H
section
variable {X : Cx} {a b c : Expr} {ta tb tc : TE} {pos : Pos}
theorem binT (ha : PE X a ta) (hb : PE X b tb) {pins : List (Addr × Obj)} {s : Shared} {σ : St} {H : Hp} {R : V → V → Hp → Prop} (I : Inv X pins σ H s)
    (h : ta σ H fun x H1 => tb σ H1 fun y H2 => R x y H2) {Q : Value → Shared → Prop} {f : Value → Value → Sem Value}
    (hf : ∀ v u s2 x y H2, Inv X pins σ H2 s2 → RelV x v → RelV y u → R x y H2 → wpAny (model X.prog X.w) X.A (f v u) Q X.xe s2) :
    wpAny (model X.prog X.w) X.A (eval a X.env) (fun v s₁ => wpAny (model X.prog X.w) X.A (eval b X.env) (fun u s₂ => wpAny (model X.prog X.w) X.A (f v u) Q X.xe s₂) X.xe s₁) X.xe s := by
  refine thn (ha pins s σ H _ I h) fun v s1 hhx => ?_
  obtain ⟨x, H1, I1, r1, q1⟩ := hhx
  refine thn (hb pins s1 σ H1 _ I1 q1) fun u s2 hhx => ?_
  obtain ⟨y, H2, I2, r2, q2⟩ := hhx
  exact hf v u s2 x y H2 I2 r1 r2 q2
theorem pe_op {op : Operator} {r : R2} (ho : OpR X (binaryOp op) r) (ha : PE X a ta) (hb : PE X b tb) : PE X (.BinOp a op b pos) (tOp r ta tb) := by
  intro pins s σ H Q I h
  exact wpAny_BinOp (binT ha hb I h fun v u s2 x y H2 I2 rx ry q => ho pins s2 σ H2 x y v u Q I2 rx ry q)
theorem pe_un {op : UnaryOp} {r : V → Hp → VK → Prop} (ho : UnR X (unaryOp op) r) (ha : PE X a ta) : PE X (.UnaryOp op a pos) (tUn r ta) := by
  intro pins s σ H Q I h
  exact UnaryOp_ (thn (ha pins s σ H _ I h) fun v s1 ⟨x, H1, I1, r1, q1⟩ => ho pins s1 σ H1 x v Q I1 r1 q1)
theorem opI {f : Value → Value → Sem Value} {C : Int → Int → Prop} {g : Int → Int → Int}
    (rule : ∀ (i j : Int) (t u : Tok) (s : Shared) (Q : Value → Shared → Prop) (E : Value → Shared → Prop), C i j → Q (.int (g i j) s.toks) { s with toks := s.toks + 1 } → wpAny (model X.prog X.w) X.A (f (.int i t) (.int j u)) Q E s) :
    OpR X f (rI C fun i j => .int (g i j)) := by
  intro pins s σ H x y v u Q I rx ry h
  obtain ⟨i, j, rfl, rfl, hc, q⟩ := h
  obtain ⟨t, rfl⟩ := rx
  obtain ⟨t', rfl⟩ := ry
  exact rule i j t t' s _ _ hc ⟨.int (g i j), H, I.tok _, ⟨_, rfl⟩, q⟩
theorem opI0 {f : Value → Value → Sem Value} {g : Int → Int → Int}
    (rule : ∀ (i j : Int) (t u : Tok) (s : Shared) (Q : Value → Shared → Prop) (E : Value → Shared → Prop), Q (.int (g i j) s.toks) { s with toks := s.toks + 1 } → wpAny (model X.prog X.w) X.A (f (.int i t) (.int j u)) Q E s) :
    OpR X f (rI0 fun i j => .int (g i j)) := by
  intro pins s σ H x y v u Q I rx ry h
  obtain ⟨i, j, rfl, rfl, q⟩ := h
  obtain ⟨t, rfl⟩ := rx
  obtain ⟨t', rfl⟩ := ry
  exact rule i j t t' s _ _ ⟨.int (g i j), H, I.tok _, ⟨_, rfl⟩, q⟩
theorem opB0 {f : Value → Value → Sem Value} {g : Int → Int → Bool}
    (rule : ∀ (i j : Int) (t u : Tok) (s : Shared) (Q : Value → Shared → Prop) (E : Value → Shared → Prop), Q (.bool (g i j)) s → wpAny (model X.prog X.w) X.A (f (.int i t) (.int j u)) Q E s) :
    OpR X f (rI0 fun i j => .bl (g i j)) := by
  intro pins s σ H x y v u Q I rx ry h
  obtain ⟨i, j, rfl, rfl, q⟩ := h
  obtain ⟨t, rfl⟩ := rx
  obtain ⟨t', rfl⟩ := ry
  exact rule i j t t' s _ _ ⟨.bl (g i j), H, I, rfl, q⟩
noncomputable def CPow (i j : Int) : Prop := 0 ≤ j ∧ j ≤ 1000000 ∧ i.natAbs < 2 ^ 64
noncomputable def CMul (i j : Int) : Prop := (-(2 ^ 64) < i ∧ i < 2 ^ 64) ∨ (-(2 ^ 64) < j ∧ j < 2 ^ 64)
theorem CMul.ok {i j : Int} (h : CMul i j) : IntMulOk i j := by
  rcases h with ⟨h1, h2⟩ | ⟨h1, h2⟩
  · exact .of_left (intBits_le_64 h1 h2)
  · exact .of_right (intBits_le_64 h1 h2)
theorem two_pow_nn (k : Nat) : (0 : Int) ≤ 2 ^ k := by
  rw [two_pow_cast]
  exact Int.natCast_nonneg _
theorem op_add : OpR X (binaryOp .Add) (rI0 fun i j => .int (i + j)) := opI0 fun _ _ _ _ _ _ _ q => add_int q
theorem op_sub : OpR X (binaryOp .Sub) (rI0 fun i j => .int (i - j)) := opI0 fun _ _ _ _ _ _ _ q => sub_int q
theorem op_mul : OpR X (binaryOp .Mult) (rI CMul fun i j => .int (i * j)) := opI fun _ _ _ _ _ _ _ hc q => mul_int q hc.ok
theorem op_mod : OpR X (binaryOp .Mod) (rI (fun _ j => 0 < j) fun i j => .int (i % j)) := opI fun i j _ _ _ _ _ hc q => by
  have h1 : (0 : Int) < j := hc
  exact mod_int' (by omega) (by rw [Int.fmod_eq_emod_of_nonneg i (by omega)]; exact q)
theorem op_pow : OpR X (binaryOp .Pow) (rI CPow fun i j => .int (i ^ j.toNat)) := opI fun _ _ _ _ _ _ _ hc q => pow_int_small hc.1 hc.2.1 hc.2.2 q
theorem op_shl : OpR X (binaryOp .LShift) (rI CPow fun i j => .int (i * 2 ^ j.toNat)) := opI fun _ _ _ _ _ _ _ hc q => lshift_int_small hc.1 hc.2.1 hc.2.2 q
theorem op_shr : OpR X (binaryOp .RShift) (rI (fun _ j => 0 ≤ j) fun i j => .int (i / 2 ^ j.toNat)) := opI fun i j _ _ _ _ _ hc q =>
  rshift_int hc (by rw [Int.fdiv_eq_ediv_of_nonneg i (two_pow_nn _)]; exact q)
theorem op_and : OpR X (binaryOp .BitAnd) (rI0 fun i j => .int (Builtin.bitAnd i j)) := opI0 fun _ _ _ _ _ _ _ q => and_int q
theorem op_or : OpR X (binaryOp .BitOr) (rI0 fun i j => .int (Builtin.bitOr i j)) := opI0 fun _ _ _ _ _ _ _ q => or_int q
theorem unI {f : Value → Sem Value} {g : Int → Int}
    (rule : ∀ (i : Int) (t : Tok) (s : Shared) (Q : Value → Shared → Prop) (E : Value → Shared → Prop), Q (.int (g i) s.toks) { s with toks := s.toks + 1 } → wpAny (model X.prog X.w) X.A (f (.int i t)) Q E s) :
    UnR X f (rU fun i => .int (g i)) := by
  intro pins s σ H x v Q I rx h
  obtain ⟨i, rfl, q⟩ := h
  obtain ⟨t, rfl⟩ := rx
  exact rule i t s _ _ ⟨.int (g i), H, I.tok _, ⟨_, rfl⟩, q⟩
theorem un_neg : UnR X (unaryOp .USub) (rU fun i => .int (-i)) := unI fun _ _ _ _ _ q => neg_int q
end
noncomputable def scal : V → V → Bool
  | .non, .non => true | .non, .int _ => true | .int _, .non => true | .non, .bl _ => true | .bl _, .non => true | .non, .str _ => true | .str _, .non => true
  | .int _, .int _ => true | .bl _, .bl _ => true | .str _, .str _ => true | .byt _, .byt _ => true
  | .int _, .str _ => true | .str _, .int _ => true | .bl _, .str _ => true | .str _, .bl _ => true
  | _, _ => false
noncomputable def rEq : R2 := fun x y H Q => scal x y = true ∧ Q (.bl (decide (x = y))) H
noncomputable def rNe : R2 := fun x y H Q => scal x y = true ∧ Q (.bl (!decide (x = y))) H
theorem dec_int {i j : Int} : decide (V.int i = V.int j) = (i == j) := by
  rw [Bool.eq_iff_iff]
  simp
theorem dec_bl {i j : Bool} : decide (V.bl i = V.bl j) = (i == j) := by
  rw [Bool.eq_iff_iff]
  simp
theorem dec_str {i j : Str} : decide (V.str i = V.str j) = (i == j) := by
  rw [Bool.eq_iff_iff]
  simp
theorem dec_byt {i j : Array UInt8} : decide (V.byt i = V.byt j) = (i.toList == j.toList) := by
  rw [Bool.eq_iff_iff]
  cases i
  cases j
  simp
section
variable {X : Cx} {a b c : Expr} {ta tb tc : TE} {pos : Pos}
theorem fin_bl {pins : List (Addr × Obj)} {σ : St} {H : Hp} {s : Shared} {Q : VK} {k k' : Bool} (I : Inv X pins σ H s) (q : Q (.bl k) H) (e : k = k') : EP X pins σ Q (.bool k') s := by
  subst e
  exact ⟨.bl k, H, I, rfl, q⟩
theorem op_eq : OpR X (compareOp .Eq) rEq := by
  intro pins s σ H x y v u Q I rx ry h
  obtain ⟨hs, q⟩ := h
  cases x with
  | non =>
    cases rx
    cases y with
    | non => cases ry; exact PySem.EqNone.eq_none_none (fin_bl I q (by simp))
    | bl j => cases ry; exact PySem.EqNone.eq_none_bool (fin_bl I q (by simp))
    | int j => obtain ⟨t', rfl⟩ := ry; exact PySem.EqNone.eq_none_int (fin_bl I q (by simp))
    | str j => obtain ⟨t', rfl⟩ := ry; exact PySem.EqNone.eq_none_str (fin_bl I q (by simp))
    | _ => exact absurd (show false = true from hs) Bool.false_ne_true
  | bl i =>
    cases rx
    cases y with
    | non => cases ry; exact PySem.EqNone.eq_bool_none (fin_bl I q (by simp))
    | bl j => cases ry; exact eq_bool (fin_bl I q dec_bl)
    | str j => obtain ⟨t', rfl⟩ := ry; exact PySem.EqMixed.eq_bool_str (fin_bl I q (by simp))
    | _ => exact absurd (show false = true from hs) Bool.false_ne_true
  | int i =>
    obtain ⟨t, rfl⟩ := rx
    cases y with
    | non => cases ry; exact PySem.EqNone.eq_int_none (fin_bl I q (by simp))
    | int j => obtain ⟨t', rfl⟩ := ry; exact eq_int (fin_bl I q dec_int)
    | str j => obtain ⟨t', rfl⟩ := ry; exact PySem.EqMixed.eq_int_str (fin_bl I q (by simp))
    | _ => exact absurd (show false = true from hs) Bool.false_ne_true
  | str i =>
    obtain ⟨t, rfl⟩ := rx
    cases y with
    | non => cases ry; exact PySem.EqNone.eq_str_none (fin_bl I q (by simp))
    | bl j => cases ry; exact PySem.EqMixed.eq_str_bool (fin_bl I q (by simp))
    | int j => obtain ⟨t', rfl⟩ := ry; exact PySem.EqMixed.eq_str_int (fin_bl I q (by simp))
    | str j => obtain ⟨t', rfl⟩ := ry; exact eq_str (fin_bl I q dec_str)
    | _ => exact absurd (show false = true from hs) Bool.false_ne_true
  | byt i =>
    obtain ⟨t, rfl⟩ := rx
    cases y with
    | byt j => obtain ⟨t', rfl⟩ := ry; exact PySem.W.eq_bytes (fin_bl I q dec_byt)
    | _ => exact absurd (show false = true from hs) Bool.false_ne_true
  | _ => cases y <;> exact absurd (show false = true from hs) Bool.false_ne_true
theorem op_ne : OpR X (compareOp .NotEq) rNe := by
  intro pins s σ H x y v u Q I rx ry h
  obtain ⟨hs, q⟩ := h
  cases x with
  | non =>
    cases rx
    cases y with
    | non => cases ry; exact PySem.EqNone.ne_none_none (fin_bl I q (by simp))
    | bl j => cases ry; exact PySem.EqNone.ne_none_bool (fin_bl I q (by simp))
    | int j => obtain ⟨t', rfl⟩ := ry; exact PySem.EqNone.ne_none_int (fin_bl I q (by simp))
    | str j => obtain ⟨t', rfl⟩ := ry; exact PySem.EqNone.ne_none_str (fin_bl I q (by simp))
    | _ => exact absurd (show false = true from hs) Bool.false_ne_true
  | bl i =>
    cases rx
    cases y with
    | non => cases ry; exact PySem.EqNone.ne_bool_none (fin_bl I q (by simp))
    | bl j => cases ry; exact ne_bool (fin_bl I q (congrArg not dec_bl))
    | str j => obtain ⟨t', rfl⟩ := ry; exact PySem.EqMixed.ne_bool_str (fin_bl I q (by simp))
    | _ => exact absurd (show false = true from hs) Bool.false_ne_true
  | int i =>
    obtain ⟨t, rfl⟩ := rx
    cases y with
    | non => cases ry; exact PySem.EqNone.ne_int_none (fin_bl I q (by simp))
    | int j => obtain ⟨t', rfl⟩ := ry; exact ne_int (fin_bl I q (congrArg not dec_int))
    | str j => obtain ⟨t', rfl⟩ := ry; exact PySem.EqMixed.ne_int_str (fin_bl I q (by simp))
    | _ => exact absurd (show false = true from hs) Bool.false_ne_true
  | str i =>
    obtain ⟨t, rfl⟩ := rx
    cases y with
    | non => cases ry; exact PySem.EqNone.ne_str_none (fin_bl I q (by simp))
    | bl j => cases ry; exact PySem.EqMixed.ne_str_bool (fin_bl I q (by simp))
    | int j => obtain ⟨t', rfl⟩ := ry; exact PySem.EqMixed.ne_str_int (fin_bl I q (by simp))
    | str j => obtain ⟨t', rfl⟩ := ry; exact ne_str (fin_bl I q (congrArg not dec_str))
    | _ => exact absurd (show false = true from hs) Bool.false_ne_true
  | byt i =>
    obtain ⟨t, rfl⟩ := rx
    cases y with
    | byt j => obtain ⟨t', rfl⟩ := ry; exact PySem.W.ne_bytes (fin_bl I q (congrArg not dec_byt))
    | _ => exact absurd (show false = true from hs) Bool.false_ne_true
  | _ => cases y <;> exact absurd (show false = true from hs) Bool.false_ne_true
theorem op_lt : OpR X (compareOp .Lt) (rI0 fun i j => .bl (decide (i < j))) := opB0 fun _ _ _ _ _ _ _ q => lt_int q
theorem op_le : OpR X (compareOp .LtE) (rI0 fun i j => .bl (decide (i ≤ j))) := opB0 fun _ _ _ _ _ _ _ q => le_int q
theorem op_gt : OpR X (compareOp .Gt) (rI0 fun i j => .bl (decide (j < i))) := opB0 fun _ _ _ _ _ _ _ q => gt_int q
theorem op_ge : OpR X (compareOp .GtE) (rI0 fun i j => .bl (decide (j ≤ i))) := opB0 fun _ _ _ _ _ _ _ q => ge_int q
theorem op_notN : OpR X (compareOp .IsNot) (fun x y H Q => y = .non ∧ Q (.bl (!decide (x = .non))) H) := by
  intro pins s σ H x y v u Q I rx ry h
  obtain ⟨rfl, q⟩ := h
  cases ry
  refine isnot_none_gen (fin_bl I q ?_)
  cases x <;> first
    | (cases rx; rfl)
    | (obtain ⟨t, rfl⟩ := rx; rfl)
theorem nomark (b : Expr) {op : CmpOp} (h : op ≠ .In := by decide) (h2 : op ≠ .NotIn := by decide) : behindInMarks op b = false := by
  have e1 : (op == CmpOp.In) = false := by cases op <;> first | rfl | exact absurd rfl h
  have e2 : (op == CmpOp.NotIn) = false := by cases op <;> first | rfl | exact absurd rfl h2
  cases b <;> simp [behindInMarks, e1, e2]
theorem pe_cmpR {op : CmpOp} {r : R2} (ho : OpR X (compareOp op) r) (ha : PE X a ta) (hb : PE X b tb) (hm : behindInMarks op b = false) : PE X (.Compare a [op] [b] pos) (tOp r ta tb) := by
  intro pins s σ H Q I h
  exact wpAny_Compare1 (binT ha hb I h fun v u s2 x y H2 I2 rx ry q => ho pins s2 σ H2 x y v u Q I2 rx ry q) hm
noncomputable def tTest (t : TE) : TT := fun σ H Q => t σ H fun x H' => ∃ k, x = .bl k ∧ Q k H'
theorem pt_cmpR {op : CmpOp} {r : R2} (ho : OpR X (compareOp op) r) (ha : PE X a ta) (hb : PE X b tb) (hm : behindInMarks op b = false) : PT X (.Compare a [op] [b] pos) (tTest (tOp r ta tb)) := by
  intro pins s σ H Q I h
  refine wpAny_isTrue_Compare1 (thn (ha pins s σ H _ I h) fun v s1 ⟨x, H1, I1, r1, q1⟩ => thn (hb pins s1 σ H1 _ I1 q1) fun u s2 ⟨y, H2, I2, r2, q2⟩ =>
    thn (ho pins s2 σ H2 x y v u _ I2 r1 r2 q2) fun c s3 ⟨z, H3, I3, r3, k, e, q3⟩ => ?_) hm
  subst e
  cases r3
  exact wpAny_truthy_bool ⟨H3, I3, q3⟩
theorem line63 : (sizeLine : Nat) < 2 ^ 63 := by rw [sizeLine_eq]; decide
theorem vals1 {x : V} {us : List Value} (r : Vals [x] us) : ∃ u, us = [u] ∧ RelV x u := by
  cases r with
  | cons r1 r2 => cases r2; exact ⟨_, rfl, r1⟩
theorem vals2 {x y : V} {us : List Value} (r : Vals [x, y] us) : ∃ u w', us = [u, w'] ∧ RelV x u ∧ RelV y w' := by
  cases r with
  | cons r1 r2 =>
    cases r2 with
    | cons r3 r4 => cases r4; exact ⟨_, _, rfl, r1, r3⟩
end
end L2
namespace L2
open PySem PySem.Spec PyProof.Rows
structure ObjM (h : Heap) (x dx C : Addr) (mA : Str → Option Value) : Prop where
  obj : h.get? x = some (PySem.W.instObj C dx)
  ns : h.Ns1 dx mA
  ne : dx ≠ x
theorem lookIn_ns {h : Heap} {dx : Addr} {mA : Str → Option Value} (n : h.Ns1 dx mA) : ∃ od, h.get? dx = some od ∧ ∀ name, PySem.W.lookIn name od = some (mA name) := by
  obtain ⟨o, es, ep, ho, hd, hk, _, hm⟩ := n
  refine ⟨o, ho, fun name => ?_⟩
  have e := hm name
  unfold nsFind findBy at e
  rw [← Array.find?_toList] at e
  unfold PySem.W.lookIn
  rw [hd]
  dsimp only
  split
  · rename_i y q
    rw [q] at e
    exact congrArg some e
  · rename_i q
    rw [q] at e
    have a : es.toList.any (·.refKey) = false := by
      rw [List.any_eq_false]
      intro y hy
      obtain ⟨z, t, hkey⟩ := hk y (Array.mem_toList_iff.mp hy)
      simp [DictEntry.refKey, hkey]
    have a' : ¬ es.toList.any (·.refKey) = true := by rw [a]; exact Bool.false_ne_true
    rw [if_neg a']
    exact congrArg some e
theorem ObjM.look {h : Heap} {x dx C : Addr} {mA : Str → Option Value} (I : ObjM h x dx C mA) : ∃ od, PySem.W.InstAt h x (PySem.W.instObj C dx) C (some od) ∧ ∀ name, PySem.W.lookIn name od = some (mA name) :=
  let ⟨od, ho, hl⟩ := lookIn_ns I.ns
  ⟨od, ⟨I.obj, rfl, rfl, ho⟩, hl⟩
section
variable {prog : Program} {w : World} {A : Around} {E : Value → Shared → Prop} {s : Shared} {K : PySem.W.Frag} {x dx C f : Addr} {mA : Str → Option Value} {name : Str} {v : Value}
theorem get_map {expr : Bool} {Q : Value → Shared → Prop} (X : K.In s.heap) (I : ObjM s.heap x dx C mA) (hg : PySem.W.plainGet K C name = true) (hh : PySem.W.hasDictIn K C = true)
    (ha : PySem.W.findIn K (.ref C) name = some none) (hv : mA name = some v) (hv' : PySem.W.handedIn v = true) (h : Q v { s with toks := s.toks + 1 }) :
    wpAny (model prog w) A (getAttr (.ref x) name expr) Q E s := by
  obtain ⟨od, J, hl⟩ := I.look
  exact PySem.W.get_value X J (PySem.W.plainGet_of hg).1 (PySem.W.findObj_own hh ha rfl (by rw [hl, hv])) hv' h
theorem get_meth {pl : Sem Bool} {Q : Value × List Value → Shared → Prop} (X : K.In s.heap) (I : ObjM s.heap x dx C mA) (hg : PySem.W.plainGet K C name = true)
    (hf : PySem.W.findIn K (.ref C) name = some (some (.ref f))) (ht : PySem.W.isFn K (.ref f) = true) (hv : mA name = none) (h : Q (.ref f, [.ref x]) s) :
    wpAny (model prog w) A (getMethod (.ref x) name pl) Q E s := by
  obtain ⟨od, J, hl⟩ := I.look
  exact PySem.W.method_fn X J (PySem.W.plainGet_of hg).1 (PySem.W.plainGet_of hg).2 hf (beq_iff_eq.mp ht) (by show (PySem.W.lookIn name od).map (·.isSome) = some false; rw [hl, hv]; rfl) h
theorem set_map {ns : List Str} {Q : Unit → Shared → Prop} (X : K.In s.heap) (I : ObjM s.heap x dx C mA)
    (hs : PySem.W.findIn K (.ref C) "__setattr__" = some (some (.builtin "object.__setattr__"))) (hp : PySem.W.plainOver K C = true) (ht : PySem.W.takerIn K C name = some none) (hh : PySem.W.hasDictIn K C = true)
    (hw : PySem.Within mA ns) (hsz : ns.length ≤ sizeLine)
    (h : ∀ h', ObjM h' x dx C (fun y => if y = name then some v else mA y) → Heap.SameBut dx s.heap h' → Q () { s with heap := h', toks := s.toks + 2 }) :
    wpAny (model prog w) A (setAttr (.ref x) name v) Q E s := by
  obtain ⟨od, J, hl⟩ := I.look
  refine PySem.W.set_plain X J hs (PySem.W.osa_open (s := { s with toks := s.toks + 1 }) (r := none) X J hp ht fun b => ?_)
  obtain ⟨cd, hc, hd'⟩ := PySem.W.any_some hh
  have hx : s.heap.get? x = some ⟨.ref C, some dx, .plain, #[]⟩ := I.obj
  refine wpAny_bind (wpAny_pure (wpAny_bind (wpAny_bind (wpAny_loadPart hx (wpAny_bind (PySem.W.Looks.here (s := { s with toks := s.toks + 1 }) (PySem.W.looks_clsIn X hc) ?_))))))
  rw [hd']
  refine wpAny_pure (a := some dx) (wpAny_bind (wpAny_pure (wpAny_bind ?_)))
  refine wpAny_nsSet1 (s := { s with toks := s.toks + 1 }) I.ns fun h' hn2 hs2 => ?_
  obtain ⟨oD, esD, epD, hoD, hdD, hcD⟩ := hn2.count (PySem.Within.cons name v hw)
  refine wpAny_bind (wpAny_lookBehind hoD (by rw [hdD]; exact pastItsLine_dict (Nat.le_trans hcD (by rw [List.length_cons]; omega))) ?_)
  exact wpAny_pure (h _ ⟨(hs2.2 _ (Ne.symm I.ne)).trans I.obj, hn2, I.ne⟩ hs2)
theorem make_map {R : Result → Shared → Prop} {vs : List Value} {kw : List (Str × Value)} (X : K.In s.heap) (hm : PySem.W.makesIn K C = true)
    (hi : PySem.W.findIn K (.ref C) "__init__" = some (some (.ref f))) (hf : PySem.W.typeIn K (.ref f) = some (.type "function"))
    (h : codeAny (model prog w) (A.under (.builtin "type.__call__" ⟨.ref C :: vs, kw⟩)) (.call (.ref f) ⟨.ref (s.heap.objs.size + 1) :: vs, kw⟩) (PySem.W.InitBack (s.heap.objs.size + 1) R)
      { s with heap := (s.heap.push PySem.W.emptyDict).push (PySem.W.instObj C s.heap.objs.size) }) :
    codeAny (model prog w) A (.call (.ref C) ⟨vs, kw⟩) R s := by
  obtain ⟨hh, g, d, t, os⟩ := s
  exact PySem.W.make_core (PySem.W.makes_of X hm) (PySem.W.looks_findIn X hi) (fun self => PySem.W.bind_fn X self hf) (.inl rfl) h
end
noncomputable def putF (f : Str) (v : V) : List (Str × V) → List (Str × V)
  | [] => [(f, v)]
  | (g, x) :: r => if g = f then (g, v) :: r else (g, x) :: putF f v r
theorem lookup_putF (f g : Str) (v : V) : ∀ fs : List (Str × V), (putF f v fs).lookup g = if g = f then some v else fs.lookup g
  | [] => by
    show List.lookup g [(f, v)] = _
    by_cases h : g = f
    · have hb : (g == f) = true := beq_iff_eq.mpr h
      simp only [List.lookup, hb, if_pos h]
    · have hb : (g == f) = false := beq_eq_false_iff_ne.mpr h
      simp only [List.lookup, hb, if_neg h]
  | (k, x) :: r => by
    have ih := lookup_putF f g v r
    rw [show putF f v ((k, x) :: r) = (if k = f then (k, v) :: r else (k, x) :: putF f v r) from rfl]
    by_cases hk : k = f
    · rw [if_pos hk]
      by_cases h : g = k
      · have hb : (g == k) = true := beq_iff_eq.mpr h
        simp only [List.lookup, hb, if_pos (h.trans hk)]
      · have hb : (g == k) = false := beq_eq_false_iff_ne.mpr h
        simp only [List.lookup, hb, if_neg (fun e : g = f => h (e.trans hk.symm))]
    · rw [if_neg hk]
      by_cases h : g = k
      · have hb : (g == k) = true := beq_iff_eq.mpr h
        simp only [List.lookup, hb, if_neg (fun e : g = f => hk (h.symm.trans e))]
      · have hb : (g == k) = false := beq_eq_false_iff_ne.mpr h
        simp only [List.lookup, hb]
        exact ih
theorem keys_putF (f : Str) (v : V) : ∀ fs : List (Str × V), f ∈ (putF f v fs).map (·.1) ∧ ∀ g, g ∈ fs.map (·.1) → g ∈ (putF f v fs).map (·.1)
  | [] => ⟨by simp [putF], fun g h => by simp at h⟩
  | (k, x) :: r => by
    obtain ⟨i1, i2⟩ := keys_putF f v r
    rw [show putF f v ((k, x) :: r) = (if k = f then (k, v) :: r else (k, x) :: putF f v r) from rfl]
    by_cases hk : k = f
    · rw [if_pos hk]
      subst hk
      exact ⟨by simp, fun g h => by simpa using h⟩
    · rw [if_neg hk]
      refine ⟨?_, fun g h => ?_⟩
      · rw [List.map_cons]
        exact List.mem_cons_of_mem _ i1
      · rw [List.map_cons] at h ⊢
        rcases List.mem_cons.mp h with e | e
        · exact List.mem_cons.mpr (.inl e)
        · exact List.mem_cons_of_mem _ (i2 g e)
theorem length_putF (f : Str) (v : V) : ∀ fs : List (Str × V), (putF f v fs).length ≤ fs.length + 1
  | [] => by simp [putF]
  | (k, x) :: r => by
    have ih := length_putF f v r
    rw [show putF f v ((k, x) :: r) = (if k = f then (k, v) :: r else (k, x) :: putF f v r) from rfl]
    by_cases hk : k = f
    · rw [if_pos hk, List.length_cons, List.length_cons]; omega
    · rw [if_neg hk, List.length_cons, List.length_cons]; omega
theorem RelO.some_of {v : V} {o : Option Value} (r : RelO (some v) o) : ∃ u, o = some u ∧ RelV v u := by
  cases o with
  | none => exact (show False from r).elim
  | some u => exact ⟨u, rfl, r⟩
theorem RelO.none_of {o : Option Value} (r : RelO none o) : o = none := by
  cases o with
  | none => rfl
  | some u => exact (show False from r).elim
theorem handed_of {v : V} {u : Value} (r : RelV v u) : PySem.W.handedIn u = true := by
  cases v with
  | non => cases (show u = Value.none from r); rfl
  | bl b => cases (show u = Value.bool b from r); rfl
  | int i => obtain ⟨t, e⟩ := (show ∃ t, u = Value.int i t from r); cases e; rfl
  | str x => obtain ⟨t, e⟩ := (show ∃ t, u = Value.str x t from r); cases e; rfl
  | byt b => obtain ⟨t, e⟩ := (show ∃ t, u = Value.bytes b t from r); cases e; rfl
  | flt b => obtain ⟨t, e⟩ := (show ∃ t, u = Value.float b t from r); cases e; rfl
  | ref a => cases (show u = Value.ref a from r); rfl
  | ty n => cases (show u = Value.type n from r); rfl
section
variable {P : Program} {w : World} {H H' : Hp} {h h' : Heap} {a C dx : Addr} {fs fs' : List (Str × V)}
theorem ins_get (hok : HOk P w H h) (e : H a = some (.ins C dx fs)) : ∃ mA, ObjM h a dx C mA ∧ (∀ f, RelO (fs.lookup f) (mA f)) ∧ PySem.Within mA (fs.map (·.1)) ∧ fs.length ≤ 1000 ∧ H dx = some (.own a) := by
  obtain ⟨d, z, ne, ob, mA, n, r, q⟩ := (show ObjOk P w H h a (.ins C dx fs) from hok a _ e)
  exact ⟨mA, ⟨ob, n, ne⟩, r, q, z, d⟩
end
structure Cls (K : PySem.W.Frag) (C : Addr) : Prop where
  pg : PySem.W.plainGet K C Str.empty = true
  hd : PySem.W.hasDictIn K C = true
  po : PySem.W.plainOver K C = true
  sa : PySem.W.findIn K (.ref C) "__setattr__" = some (some (.builtin "object.__setattr__"))
theorem Cls.get {K : PySem.W.Frag} {C : Addr} (c : Cls K C) (f : Str) : PySem.W.plainGet K C f = true := c.pg
noncomputable def NoAttr (K : PySem.W.Frag) (C : Addr) (f : Str) : Prop := PySem.W.findIn K (.ref C) f = some none
theorem NoAttr.taker {K : PySem.W.Frag} {C : Addr} {f : Str} (n : NoAttr K C f) : PySem.W.takerIn K C f = some none := by
  unfold PySem.W.takerIn
  rw [show PySem.W.findIn K (.ref C) f = some none from n]
  rfl
structure Meth (K : PySem.W.Frag) (C : Addr) (m : Str) (f : Addr) : Prop where
  at_ : PySem.W.findIn K (.ref C) m = some (some (.ref f))
  fn : PySem.W.isFn K (.ref f) = true
  kp : PySem.W.keepIn K (.ref f) = true
section
variable {X : Cx} {pins : List (Addr × Obj)} {σ : St} {H : Hp} {s : Shared} {a C dx : Addr} {fs : List (Str × V)} {f : Str} {v : V} {A : Around} {E : Value → Shared → Prop}
theorem getattr_ok {b : Bool} {Q : Value → Shared → Prop} (I : Inv X pins σ H s) (e : H a = some (.ins C dx fs)) (c : Cls X.K C) (n : NoAttr X.K C f) (l : fs.lookup f = some v)
    (h : ∀ u s', Inv X pins σ H s' → RelV v u → Q u s') : wpAny (model X.prog X.w) A (getAttr (.ref a) f b) Q E s := by
  obtain ⟨mA, O, r, _, _, _⟩ := ins_get I.hok e
  obtain ⟨u, hu, ru⟩ := RelO.some_of (v := v) (o := mA f) (by rw [← l]; exact r f)
  exact get_map I.kIn O (c.get f) c.hd n hu (handed_of ru) (h u _ (I.tok _) ru)
theorem getmeth_ok {m : Str} {g : Addr} {pl : Sem Bool} {Q : Value × List Value → Shared → Prop} (I : Inv X pins σ H s) (e : H a = some (.ins C dx fs)) (c : Cls X.K C) (k : Meth X.K C m g) (l : fs.lookup m = none)
    (h : Q (.ref g, [.ref a]) s) : wpAny (model X.prog X.w) A (getMethod (.ref a) m pl) Q E s := by
  obtain ⟨mA, O, r, _, _, _⟩ := ins_get I.hok e
  have hn : mA m = none := RelO.none_of (by rw [← l]; exact r m)
  exact get_meth I.kIn O (c.get m) k.at_ k.fn hn h
theorem setattr_ok {y : V} {u : Value} {Q : Unit → Shared → Prop} (I : Inv X pins σ H s) (e : H a = some (.ins C dx fs)) (c : Cls X.K C) (n : NoAttr X.K C f) (hl : fs.length < 1000) (ry : RelV y u)
    (h : ∀ s', Inv X pins σ (upd H a (.ins C dx (putF f y fs))) s' → Q () s') : wpAny (model X.prog X.w) A (setAttr (.ref a) f u) Q E s := by
  obtain ⟨mA, O, r, wi, _, ho⟩ := ins_get I.hok e
  have hz : (fs.map (·.1)).length ≤ sizeLine := by rw [List.length_map, sizeLine_eq]; omega
  refine set_map I.kIn O c.sa c.po n.taker c.hd wi hz fun h' O' sb => h _ ?_
  have hd : ∃ o, h'.get? dx = some o := let ⟨o, _, _, e', _⟩ := O'.ns; ⟨o, e'⟩
  refine I.write (x := a) (e := dx) (by rw [e]; exact True.intro) (.inr ho) (fun b q hb z => (sb.2 b hb).trans z) hd ?_
  refine ⟨by rw [upd_ne O.ne]; exact ho, ?_, O.ne, O'.obj, _, O'.ns, fun g => ?_, fun g hg => ?_⟩
  · have := length_putF f y fs; omega
  · show RelO ((putF f y fs).lookup g) (if g = f then some u else mA g)
    rw [lookup_putF]
    by_cases q : g = f
    · rw [if_pos q, if_pos q]; exact ry
    · rw [if_neg q, if_neg q]; exact r g
  · by_cases q : g = f
    · rw [q]; exact (keys_putF f y fs).1
    · refine (keys_putF f y fs).2 g (wi g fun z => hg ?_)
      show (if g = f then some u else mA g) = none
      rw [if_neg q]; exact z
theorem Inv.made (I : Inv X pins σ H s) : Inv X pins σ (upd (upd H s.heap.objs.size (.own (s.heap.objs.size + 1))) (s.heap.objs.size + 1) (.ins C s.heap.objs.size []))
    { s with heap := (s.heap.push PySem.W.emptyDict).push (PySem.W.instObj C s.heap.objs.size) } := by
  have e1 : (s.heap.push PySem.W.emptyDict).get? s.heap.objs.size = some PySem.W.emptyDict := Heap.get?_push_size s.heap rfl
  have e2 : ((s.heap.push PySem.W.emptyDict).push (PySem.W.instObj C s.heap.objs.size)).get? (s.heap.objs.size + 1) = some (PySem.W.instObj C s.heap.objs.size) := by
    have := Heap.get?_push_size (s.heap.push PySem.W.emptyDict) (o := PySem.W.instObj C s.heap.objs.size) rfl
    rwa [Heap.size_push] at this
  have e3 : (s.heap.push PySem.W.emptyDict).Ns s.heap.objs.size (fun _ => none) := ⟨PySem.W.emptyDict, #[], _, e1, rfl, (fun e he => absurd he (by simp)), fun _ => rfl⟩
  have I1 := I.laid (a := s.heap.objs.size) (o := .own (s.heap.objs.size + 1)) (h' := s.heap.push PySem.W.emptyDict) (t' := s.toks) (fun b u q => Heap.get?_push_of_some _ q) (Nat.le_refl _) ⟨_, e1⟩
  refine I1.laid (a := s.heap.objs.size + 1) (o := .ins C s.heap.objs.size []) (t' := s.toks) (fun b u q => Heap.get?_push_of_some _ q) (Nat.le_of_eq (Heap.size_push _ _)) ?_
  have ne : s.heap.objs.size ≠ s.heap.objs.size + 1 := Nat.ne_of_lt (Nat.lt_succ_self _)
  refine ⟨by rw [upd_ne ne, upd_same], Nat.zero_le _, ne, e2, fun _ => none, (Heap.Ns1.of_empty e3).at fun o q => Heap.get?_push_of_some _ q, fun _ => True.intro, fun y hy => absurd rfl hy⟩
theorem attr_of {prog : Program} {w : World} {env : Env} {e : Expr} {f : Str} {pos : Pos} {s : Shared} {Q : Value → Shared → Prop} (hb : attributeBase e f env (eval e env) = eval e env)
    (h : wpAny (model prog w) A (eval e env) (fun o s₁ => wpAny (model prog w) A (getAttr o f true) Q E s₁) E s) : wpAny (model prog w) A (eval (.Attribute e f pos) env) Q E s :=
  Attribute_any_ h (by rw [arm_eval_Attribute, hb])
end
noncomputable def tFld (K : PySem.W.Frag) (ta : TE) (f : Str) : TE := fun σ H Q => ta σ H fun x H1 => ∃ a C dx fs v, x = .ref a ∧ H1 a = some (.ins C dx fs) ∧ Cls K C ∧ NoAttr K C f ∧ fs.lookup f = some v ∧ Q v H1
noncomputable def sFld (K : PySem.W.Frag) (ta tv : TE) (f : Str) : TS := fun D σ H => tv σ H fun y H1 => ta σ H1 fun x H2 => ∃ a C dx fs, x = .ref a ∧ H2 a = some (.ins C dx fs) ∧ Cls K C ∧ NoAttr K C f ∧ fs.length < 1000 ∧
  D.nx σ (upd H2 a (.ins C dx (putF f y fs)))
section
variable {X : Cx} {o e value : Expr} {f : Str} {pos pos' tpos : Pos} {ta tv : TE}
theorem pe_fld (he : PE X e ta) (hb : attributeBase e f X.env (eval e X.env) = eval e X.env) : PE X (.Attribute e f pos) (tFld X.K ta f) := by
  intro pins s σ H Q I h
  refine attr_of hb (thn (he pins s σ H _ I h) fun u s1 hhx => ?_)
  obtain ⟨x, H1, I1, rx, a, C, dx, fs, v, ex, ea, c, n, l, q⟩ := hhx
  subst ex
  obtain rfl : u = Value.ref a := rx
  exact getattr_ok I1 ea c n l fun u' s2 I2 ru => ⟨v, H1, I2, ru, q⟩
theorem ps_fld (ha : PE X o ta) (hv : PE X value tv) (hs : swapsWith value (some (.Attribute o f pos')) pos.line X.env = pure false) : PS X (.Assign [.Attribute o f pos'] value pos) (sFld X.K ta tv f) := by
  intro pins s σ H D I h
  refine plainObj_wpAny_Assign_Attribute (thn (hv pins s σ H _ I h) fun u s1 ⟨y, H1, I1, ry, q⟩ => thn (ha pins s1 σ H1 _ I1 q) fun ov s2 hhx => ?_) hs
  obtain ⟨x, H2, I2, rx, a, C, dx, fs, ex, ea, c, n, l, q2⟩ := hhx
  subst ex
  obtain rfl : ov = Value.ref a := rx
  exact setattr_ok I2 ea c n l ry fun s3 I3 => ⟨σ, _, I3, q2⟩
theorem methcall_of {pl : Sem Bool} {m : Str} {apos : Pos} {args : List Expr} {pins : List (Addr × Obj)} {s : Shared} {σ : St} {H : Hp} {Q : Value → Shared → Prop} {te : TE} (he : PE X e te) (I : Inv X pins σ H s)
    (h : te σ H fun x H1 => ∃ a C dx fs g, x = .ref a ∧ H1 a = some (.ins C dx fs) ∧ Cls X.K C ∧ Meth X.K C m g ∧ fs.lookup m = none ∧
      ∀ s1, Inv X pins σ H1 s1 → wpAny (model X.prog X.w) X.A (callWith pos (.ref g) [.ref a] (backTo pos (starEach args X.env)) (backToKw pos (keywordEach [] X.env))) Q X.xe s1)
    (ht : eval (.Call (.Attribute e m apos) args [] pos) X.env = (do
      let ov ← eval e X.env
      standAt apos.atName
      let (f, first) ← holding [ov] (getMethod ov m pl)
      callWith pos f first (backTo pos (starEach args X.env)) (backToKw pos (keywordEach [] X.env)))) :
    wpAny (model X.prog X.w) X.A (eval (.Call (.Attribute e m apos) args [] pos) X.env) Q X.xe s := by
  refine PySem.W.methodCall_KW (pl := pl) (thn (he pins s σ H _ I h) fun u s1 hhx => ?_) ht
  obtain ⟨x, H1, I1, rx, a, C, dx, fs, g, ex, ea, c, k, l, q⟩ := hhx
  subst ex
  obtain rfl : u = Value.ref a := rx
  exact getmeth_ok I1 ea c k l (q s1 I1)
end
section
variable {X : Cx} {pins : List (Addr × Obj)} {σ : St} {H : Hp} {s : Shared} {A : Around} {E : Value → Shared → Prop} {Q : Value → Shared → Prop} {c : Value} {b : Bool}
end
end L2
namespace L2
open PySem PySem.Spec PyProof.Rows
structure Room (k : Nat) (A : Around) : Prop where
  hd : A.handled = none
  dp : A.depth + 3 * k + 5 < recursionLimit
  un : A.units + 16 * k + 200 < cLine
theorem Room.mono {j k : Nat} {A : Around} (r : Room k A) (h : j ≤ k) : Room j A := ⟨r.hd, by have := r.dp; omega, by have := r.un; omega⟩
theorem Room.deeper {k : Nat} {A : Around} (r : Room (k + 1) A) (env : Env) : Room k (A.deeper env) :=
  ⟨r.hd, by have := r.dp; show A.depth + 1 + 3 * k + 5 < _; omega, by have := r.un; show A.units + 3 + 16 * k + 200 < _; omega⟩
theorem make_depth {A : Around} {C : Addr} {us : List Value} {kw : List (Str × Value)} : (A.under (.builtin "type.__call__" ⟨.ref C :: us, kw⟩)).depth = A.depth + 1 := by
  first | rfl | simp [Around.under, Code.weight, Code.isCreation, Code.isGuard, Code.isCaller, Code.frames, Code.isFrame, guardIds]
theorem make_units {A : Around} {C : Addr} {us : List Value} {kw : List (Str × Value)} : (A.under (.builtin "type.__call__" ⟨.ref C :: us, kw⟩)).units = A.units + 1 := by
  first | rfl | simp [Around.under, Code.cUnits, Code.frames, Code.isFrame]
theorem Room.make {k : Nat} {A : Around} (r : Room (k + 1) A) (C : Addr) (us : List Value) (kw : List (Str × Value)) : Room k (A.under (.builtin "type.__call__" ⟨.ref C :: us, kw⟩)) :=
  ⟨r.hd, by have := r.dp; rw [make_depth]; omega, by have := r.un; rw [make_units]; omega⟩
theorem Room.depth {k : Nat} {A : Around} (r : Room k A) : A.depth < recursionLimit := by have := r.dp; omega
theorem Room.units {k : Nat} {A : Around} (r : Room k A) : A.units + 64 < cLine := by have := r.un; omega
noncomputable def tNil : TA := fun _ H Q => Q [] H
noncomputable def tCons (ta : TE) (tr : TA) : TA := fun σ H Q => ta σ H fun x H1 => tr σ H1 fun xs H2 => Q (x :: xs) H2
section
variable {X : Cx} {e : Expr} {es : List Expr} {te : TE} {t : TA} {pos : Pos}
theorem pa_nil : PA X [] tNil := fun _ _ _ _ H Q I h => Calls.spliced_nil ⟨[], H, I, .nil, h⟩
theorem pa_cons (ha : PE X e te) (hr : PA X es t) (hs : starEach (e :: es) X.env = (false, eval e X.env) :: starEach es X.env := by rfl) : PA X (e :: es) (tCons te t) := by
  intro pos pins s σ H Q I h
  rw [hs]
  show wpAny _ _ (spliced ((false, eval e X.env) :: backTo pos (starEach es X.env))) _ _ s
  refine Calls.spliced_cons (thn (ha pins s σ H _ I h) fun u s1 hhx => ?_)
  obtain ⟨x, H1, I1, r1, q1⟩ := hhx
  exact thn (hr pos pins s1 σ H1 _ I1 q1) fun us s2 ⟨xs, H2, I2, r2, q2⟩ => ⟨x :: xs, H2, I2, .cons r1 r2, q2⟩
noncomputable def tTup (t : TA) : TE := fun σ H Q => t σ H fun xs H1 => xs.length ≤ sizeLine ∧ ∀ p, H1 p = none → Q (.ref p) (upd H1 p (.tup xs))
noncomputable def tLst (t : TA) : TE := fun σ H Q => t σ H fun xs H1 => xs.length ≤ sizeLine ∧ ∀ p, H1 p = none → Q (.ref p) (upd H1 p (.lst xs))
theorem pe_tup {x1} (h : PA X es t) : PE X (.Tuple es x1 pos) (tTup t) := by
  intro pins s σ H Q I hq
  refine wpAny_Tuple_spliced (thn (h pos pins s σ H _ I hq) fun us s1 ⟨xs, H1, I1, r, z, q⟩ => ⟨by rw [← r.length]; exact z, ?_⟩)
  have hf : H1 s1.heap.objs.size = none := I1.hok.fresh (Nat.le_refl _)
  refine ⟨.ref s1.heap.objs.size, upd H1 s1.heap.objs.size (.tup xs), I1.laid (t' := s1.toks) (fun b u e => Heap.get?_push_of_some _ e) (Nat.le_refl _) ?_, rfl, q _ hf⟩
  exact ⟨z, us, r, ⟨_, Heap.get?_push_size _ rfl, rfl, _, rfl⟩⟩
theorem pe_lst (h : PA X es t) : PE X (.List es pos) (tLst t) := by
  intro pins s σ H Q I hq
  refine wpAny_List_spliced (thn (h pos pins s σ H _ I hq) fun us s1 ⟨xs, H1, I1, r, z, q⟩ => ⟨by rw [← r.length]; exact z, ?_⟩)
  have hf : H1 s1.heap.objs.size = none := I1.hok.fresh (Nat.le_refl _)
  refine ⟨.ref s1.heap.objs.size, upd H1 s1.heap.objs.size (.lst xs), I1.laid (t' := s1.toks) (fun b u e => Heap.get?_push_of_some _ e) (Nat.le_refl _) ?_, rfl, q _ hf⟩
  exact ⟨z, us, 0, r, Heap.get?_push_size _ rfl⟩
end
noncomputable abbrev Sp := List V → Hp → VK → XK → Prop
noncomputable abbrev CXT := List Env → Hp → Shared → XK → Value → Shared → Prop
structure Env0 (P : Program) (w : World) (K : PySem.W.Frag) (mg : Str → Option Value) (base : Heap) (A : Around) (outer : List Env) (s : Shared) (H : Hp) : Prop where
  frames : A.frames = some outer
  mod : Mod K mg base
  bs : ∀ b o, base.get? b = some o → s.heap.get? b = some o ∧ H b = none
  bsz : base.objs.size ≤ s.heap.objs.size
  funs : s.heap.FunFrames base outer
  frf : ∀ b ∈ frs outer, H b = none
  hok : HOk P w H s.heap
  bare : AllBare s.gens
noncomputable def CE (outer : List Env) (P : Program) (w : World) (H : Hp) (s : Shared) (Q : VK) (u : Value) (s' : Shared) : Prop :=
  ∃ v H', s'.os = s.os ∧ AllBare s'.gens ∧ Un (frs outer) [] H H' s.heap s'.heap ∧ HOk P w H' s'.heap ∧ RelV v u ∧ Q v H'
noncomputable def CR (CX : CXT) (outer : List Env) (P : Program) (w : World) (H : Hp) (s : Shared) (Q : VK) (E : XK) (r : Result) (s' : Shared) : Prop :=
  match r with
  | .ok (.ret u) => CE outer P w H s Q u s'
  | .ok _ => False
  | .error e => CX outer H s E e s'
structure FnOk (P : Program) (w : World) (K : PySem.W.Frag) (mg : Str → Option Value) (base : Heap) (CX : CXT) (k : Nat) (f : Addr) (fd : FuncData) (ps : List Str) (sp : Sp) : Prop where
  len : ∀ vs H Q E, sp vs H Q E → vs.length = ps.length
  run : ∀ (A : Around) (outer : List Env) (s : Shared) (H : Hp) (args : Args) (us : List Value) (vs : List V) (Q : VK) (E : XK), Room k A → Env0 P w K mg base A outer s H → BindsTo s fd args (ps.zip us) → Vals vs us → sp vs H Q E →
    codeAny (model P w) A (.call (.ref f) args) (CR CX outer P w H s Q E) s
theorem FnOk.mono {P : Program} {w : World} {K : PySem.W.Frag} {mg : Str → Option Value} {base : Heap} {CX : CXT} {j k : Nat} {f : Addr} {fd : FuncData} {ps : List Str} {sp : Sp} (F : FnOk P w K mg base CX j f fd ps sp) (h : j ≤ k) :
    FnOk P w K mg base CX k f fd ps sp := ⟨F.len, fun A outer s H args us vs Q E hr => F.run A outer s H args us vs Q E (hr.mono h)⟩
theorem Env0.make {P : Program} {w : World} {K : PySem.W.Frag} {mg : Str → Option Value} {base : Heap} {A : Around} {outer : List Env} {s : Shared} {H : Hp} (e : Env0 P w K mg base A outer s H) (C : Addr) (us : List Value) (kw : List (Str × Value)) :
    Env0 P w K mg base (A.under (.builtin "type.__call__" ⟨.ref C :: us, kw⟩)) outer s H := ⟨by first | exact e.frames | (simpa [Around.under, Code.envs, Code.isFrame, pushEnvs] using e.frames), e.mod, e.bs, e.bsz, e.funs, e.frf, e.hok, e.bare⟩
section
variable {X : Cx} {pins : List (Addr × Obj)} {σ : St} {H : Hp} {s s' : Shared}
theorem Inv.env0 (I : Inv X pins σ H s) : Env0 X.prog X.w X.K X.mg X.base X.A X.stack s H :=
  ⟨I.ok.frames, I.ok.mod, I.bs, Nat.le_trans I.ok.bsz I.sz, I.stack, I.stkFree, I.hok, I.bare⟩
theorem Inv.after {Q : VK} {u : Value} (I : Inv X pins σ H s) (h : CE X.stack X.prog X.w H s Q u s') : EP X pins σ Q u s' := by
  obtain ⟨v, H', os, bare, un, hok, r, q⟩ := h
  obtain ⟨hh, g, d, t, os'⟩ := s'
  obtain rfl : os' = s.os := os
  exact ⟨v, H', I.call (h' := hh) (g' := g) (d' := d) (t' := t) (ch := []) un hok bare (fun b z => absurd z (by simp)), r, q⟩
end
noncomputable def tCall (sp : Sp) (dvs : List V) (E : XK) (t : TA) : TE := fun σ H Q => t σ H fun vs H1 => sp (vs ++ dvs) H1 Q E
noncomputable def tMeth (C : Addr) (m : Str) (sp : Sp) (dvs : List V) (E : XK) (ta : TE) (t : TA) : TE := fun σ H Q => ta σ H fun x H1 => ∃ a dx fs, x = .ref a ∧ H1 a = some (.ins C dx fs) ∧ fs.lookup m = none ∧
  t σ H1 fun vs H2 => sp (x :: (vs ++ dvs)) H2 Q E
noncomputable def tMake (C : Addr) (sp : Sp) (dvs : List V) (E : XK) (t : TA) : TE := fun σ H Q => t σ H fun vs H1 => ∀ x dx, H1 x = none → H1 dx = none → dx ≠ x →
  sp (.ref x :: (vs ++ dvs)) (upd (upd H1 dx (.own x)) x (.ins C dx [])) (fun v H2 => v = .non ∧ Q (.ref x) H2) E
noncomputable def Binds (K : PySem.W.Frag) (fd : FuncData) (ps : List Str) (ds : List Value) : Prop :=
  ∀ (s : Shared) (us : List Value), K.In s.heap → (us ++ ds).length = ps.length → BindsTo s fd ⟨us, []⟩ (ps.zip (us ++ ds))
theorem Binds.all {K : PySem.W.Frag} {fd : FuncData} {ps : List Str} (h : ∀ us : List Value, us.length = ps.length → bindArgs fd ⟨us, []⟩ = pure (ps.zip us)) : Binds K fd ps [] := fun s us _ hl => by
  rw [List.append_nil] at hl ⊢
  exact .of_eq (h us hl)
noncomputable def Passes (CX : CXT) (X : Cx) (E : XK) : Prop := ∀ (pins : List (Addr × Obj)) (σ : St) (H : Hp) (s : Shared) (e : Value) (s' : Shared), Inv X pins σ H s → CX X.stack H s E e s' → X.xe e s'
section
variable {X : Cx} {CX : CXT} {k : Nat} {f C : Addr} {fd : FuncData} {ps : List Str} {sp : Sp} {dvs : List V} {ds : List Value} {E : XK} {x m : Str} {p pos apos : Pos} {e o : Expr} {es : List Expr} {ta : TE} {t : TA}
theorem run_fn {pins : List (Addr × Obj)} {σ : St} {H : Hp} {s : Shared} {Q : VK} {us : List Value} {vs : List V} (F : FnOk X.prog X.w X.K X.mg X.base CX k f fd ps sp) (hr : Room k X.A) (hb : Binds X.K fd ps ds) (hd : Vals dvs ds) (hx : Passes CX X E)
    (I : Inv X pins σ H s) (r : Vals vs us) (h : sp (vs ++ dvs) H Q E) : wpAny (model X.prog X.w) X.A (call (.ref f) us) (EP X pins σ Q) X.xe s := by
  have r2 : Vals (vs ++ dvs) (us ++ ds) := r.append hd
  have hl : (us ++ ds).length = ps.length := by rw [← r2.length]; exact F.len _ _ _ _ h
  refine wpAny_call (codeAny_mono (F.run X.A X.stack s H ⟨us, []⟩ (us ++ ds) (vs ++ dvs) Q E hr I.env0 (hb s us I.kIn hl) r2 h) fun r s' hq => ?_)
  cases r with
  | error e => exact hx pins σ H s e s' I hq
  | ok fl =>
    cases fl with
    | ret u => exact I.after hq
    | next => exact False.elim hq
    | brk => exact False.elim hq
    | cont => exact False.elim hq
theorem pe_call (F : FnOk X.prog X.w X.K X.mg X.base CX k f fd ps sp) (hr : Room k X.A) (hg : Gl X x) (hm : X.mg x = some (.ref f)) (hk : PySem.W.keepIn X.K (.ref f) = true) (hb : Binds X.K fd ps ds) (hd : Vals dvs ds) (hx : Passes CX X E)
    (ha : PA X (e :: es) t) (hdb : (x == ("__debug__" : Str)) = false := by decide) (he : starEach (e :: es) X.env = (false, eval e X.env) :: starEach es X.env := by rfl) (hpl : (backTo pos (starEach es X.env)).any (·.1) = false := by rfl) :
    PE X (.Call (.Name x p) (e :: es) [] pos) (tCall sp dvs E t) := by
  intro pins s σ H Q I h
  refine wpAny_Call_Name_kw (ld_glob I hg hm ?_ hdb)
  refine PySem.W.callWith_K (h₀ := X.base) I.ok.mod.kin hk (thn (ha pos pins s σ H _ I h) fun us s1 ⟨vs, H1, I1, r, q⟩ => ⟨I1.kIn, ?_⟩) he hpl
  exact run_fn F hr hb hd hx I1 r q
theorem pe_meth {pl : Sem Bool} (he : PE X o ta) (c : Cls X.K C) (hm : Meth X.K C m f) (F : FnOk X.prog X.w X.K X.mg X.base CX k f fd ps sp) (hr : Room k X.A) (hb : Binds X.K fd ps ds) (hd : Vals dvs ds) (hx : Passes CX X E) (ha : PA X (e :: es) t)
    (hst : starEach (e :: es) X.env = (false, eval e X.env) :: starEach es X.env := by rfl) (hpl : (backTo pos (starEach es X.env)).any (·.1) = false := by rfl)
    (ht : eval (.Call (.Attribute o m apos) (e :: es) [] pos) X.env = (do
      let ov ← eval o X.env
      standAt apos.atName
      let (f, first) ← holding [ov] (getMethod ov m pl)
      callWith pos f first (backTo pos (starEach (e :: es) X.env)) (backToKw pos (keywordEach [] X.env))) := by rfl) :
    PE X (.Call (.Attribute o m apos) (e :: es) [] pos) (tMeth C m sp dvs E ta t) := by
  intro pins s σ H Q I h
  refine PySem.W.methodCall_KW (pl := pl) (thn (he pins s σ H _ I h) fun u s1 hhx => ?_) ht
  obtain ⟨x, H1, I1, rx, a, dx, fs, ex, ea, l, q⟩ := hhx
  subst ex
  obtain rfl : u = Value.ref a := rx
  refine getmeth_ok I1 ea c hm l ?_
  refine PySem.W.callWith_K (first := [.ref a]) (h₀ := X.base) I.ok.mod.kin hm.kp (thn (ha pos pins s1 σ H1 _ I1 q) fun us s2 ⟨vs, H2, I2, r, q2⟩ => ⟨I2.kIn, ?_⟩) hst hpl
  exact run_fn (us := .ref a :: us) (vs := .ref a :: vs) F hr hb hd hx I2 (.cons rfl r) q2
structure Mk (K : PySem.W.Frag) (C f : Addr) : Prop where
  makes : PySem.W.makesIn K C = true
  init : PySem.W.findIn K (.ref C) "__init__" = some (some (.ref f))
  fn : PySem.W.isFn K (.ref f) = true
  kp : PySem.W.keepIn K (.ref C) = true
theorem run_make {pins : List (Addr × Obj)} {σ : St} {H : Hp} {s : Shared} {Q : VK} {us : List Value} {vs : List V} (M : Mk X.K C f) (F : FnOk X.prog X.w X.K X.mg X.base CX k f fd ps sp) (hr : Room (k + 1) X.A) (hb : Binds X.K fd ps ds) (hd : Vals dvs ds)
    (hx : Passes CX X E) (I : Inv X pins σ H s) (r : Vals vs us)
    (h : ∀ x dx, H x = none → H dx = none → dx ≠ x → sp (.ref x :: (vs ++ dvs)) (upd (upd H dx (.own x)) x (.ins C dx [])) (fun v H2 => v = .non ∧ Q (.ref x) H2) E) :
    wpAny (model X.prog X.w) X.A (call (.ref C) us) (EP X pins σ Q) X.xe s := by
  have hq := h (s.heap.objs.size + 1) s.heap.objs.size (I.hok.fresh (Nat.le_succ _)) (I.hok.fresh (Nat.le_refl _)) (Nat.ne_of_lt (Nat.lt_succ_self _))
  have I2 := Inv.made (C := C) I
  have r2 : Vals (V.ref (s.heap.objs.size + 1) :: (vs ++ dvs)) (Value.ref (s.heap.objs.size + 1) :: (us ++ ds)) := .cons rfl (r.append hd)
  have hl : (Value.ref (s.heap.objs.size + 1) :: us ++ ds).length = ps.length := by
    have e := r2.length
    rw [F.len _ _ _ _ hq] at e
    exact e.symm
  refine wpAny_call (make_map (f := f) I.kIn M.makes M.init (beq_iff_eq.mp M.fn) (codeAny_mono (F.run _ X.stack _ _ ⟨Value.ref (s.heap.objs.size + 1) :: us, []⟩ (Value.ref (s.heap.objs.size + 1) :: (us ++ ds)) _ _ E (hr.make C us [])
    (I2.env0.make C us []) (hb _ (Value.ref (s.heap.objs.size + 1) :: us) I2.kIn hl) r2 hq) fun r s' hq' => ?_))
  cases r with
  | error e => exact hx pins σ _ _ e s' I2 hq'
  | ok fl =>
    cases fl with
    | ret u =>
      obtain ⟨v, H', I3, rv, ev, q3⟩ := I2.after hq'
      subst ev
      exact ⟨rv, ⟨V.ref (s.heap.objs.size + 1), H', I3, rfl, q3⟩⟩
    | next => exact False.elim hq'
    | brk => exact False.elim hq'
    | cont => exact False.elim hq'
theorem pe_make (M : Mk X.K C f) (F : FnOk X.prog X.w X.K X.mg X.base CX k f fd ps sp) (hr : Room (k + 1) X.A) (hg : Gl X x) (hm : X.mg x = some (.ref C)) (hb : Binds X.K fd ps ds) (hd : Vals dvs ds) (hx : Passes CX X E)
    (ha : PA X (e :: es) t) (hdb : (x == ("__debug__" : Str)) = false := by decide) (he : starEach (e :: es) X.env = (false, eval e X.env) :: starEach es X.env := by rfl) (hpl : (backTo pos (starEach es X.env)).any (·.1) = false := by rfl) :
    PE X (.Call (.Name x p) (e :: es) [] pos) (tMake C sp dvs E t) := by
  intro pins s σ H Q I h
  refine wpAny_Call_Name_kw (ld_glob I hg hm ?_ hdb)
  refine PySem.W.callWith_K (h₀ := X.base) I.ok.mod.kin M.kp (thn (ha pos pins s σ H _ I h) fun us s1 ⟨vs, H1, I1, r, q⟩ => ⟨I1.kIn, ?_⟩) he hpl
  exact run_make M F hr hb hd hx I1 r q
end
section
variable {X : Cx} {CX : CXT} {k : Nat} {f C : Addr} {fd : FuncData} {ps ks : List Str} {sp : Sp} {E : XK} {x m : Str} {p pos apos kpos : Pos} {e o : Expr} {es : List Expr} {kws : List Keyword} {te ta : TE} {t tk : TA} {nm : Option Str}
variable {g : List Value → List Value → List Value} {gV : List V → List V → List V}
end
structure FnScope (N P : List Str) (sc : Scope) : Prop where
  kind : sc.kind = .function
  co : sc.isCoroutine = false
  gen : sc.isGenerator = false
  nd : N.Nodup
  pre : N.take P.length = P
  par : ∀ x ∈ P, sc.names.lookup x = some .local ∨ sc.names.lookup x = some .cell
  nofree : ∀ y ∈ sc.names, y.2 ≠ .free
theorem bindL_out {kindOf : Str → Option NameKind} {x : Str} : ∀ {binds : List (Str × Value)} {m : Str → Option Value}, (∀ v, (x, v) ∉ binds) → bindL kindOf binds m x = m x
  | [], _, _ => rfl
  | (n, v) :: r, m, h => by
    unfold bindL
    rw [bindL_out fun w hw => h w (List.mem_cons_of_mem _ hw)]
    split
    · have : x ≠ n := by rintro rfl; exact h v List.mem_cons_self
      simp [this]
    · rfl
theorem bindC_out {kindOf : Str → Option NameKind} {x : Str} : ∀ {binds : List (Str × Value)} {m : Str → Option Value}, (∀ v, (x, v) ∉ binds) → bindC kindOf binds m x = m x
  | [], _, _ => rfl
  | (n, v) :: r, m, h => by
    unfold bindC
    rw [bindC_out fun w hw => h w (List.mem_cons_of_mem _ hw)]
    split
    · rfl
    · have : x ≠ n := by rintro rfl; exact h v List.mem_cons_self
      simp [this]
theorem bindL_get {kindOf : Str → Option NameKind} {x : Str} {v : Value} : ∀ {P : List Str} {vs : List Value} {i : Nat} {m : Str → Option Value}, P.Nodup → P[i]? = some x → vs[i]? = some v → kindOf x = some .local →
    bindL kindOf (P.zip vs) m x = some v
  | [], _, _, _, _, h, _, _ => by simp at h
  | _ :: _, [], _, _, _, _, h, _ => by simp at h
  | p :: P, w :: vs, 0, m, nd, h1, h2, hk => by
    simp at h1 h2; subst h1; subst h2
    show bindL kindOf ((p, w) :: P.zip vs) m p = _
    unfold bindL
    rw [bindL_out fun v hv => (List.nodup_cons.mp nd).1 (List.of_mem_zip hv).1, if_pos hk]
    simp
  | p :: P, w :: vs, i + 1, m, nd, h1, h2, hk => by
    show bindL kindOf ((p, w) :: P.zip vs) m x = _
    unfold bindL
    exact bindL_get (i := i) (List.nodup_cons.mp nd).2 (by simpa using h1) (by simpa using h2) hk
theorem bindC_get {kindOf : Str → Option NameKind} {x : Str} {v : Value} : ∀ {P : List Str} {vs : List Value} {i : Nat} {m : Str → Option Value}, P.Nodup → P[i]? = some x → vs[i]? = some v → kindOf x ≠ some .local →
    bindC kindOf (P.zip vs) m x = some v
  | [], _, _, _, _, h, _, _ => by simp at h
  | _ :: _, [], _, _, _, _, h, _ => by simp at h
  | p :: P, w :: vs, 0, m, nd, h1, h2, hk => by
    simp at h1 h2; subst h1; subst h2
    show bindC kindOf ((p, w) :: P.zip vs) m p = _
    unfold bindC
    rw [bindC_out fun v hv => (List.nodup_cons.mp nd).1 (List.of_mem_zip hv).1, if_neg hk]
    simp
  | p :: P, w :: vs, i + 1, m, nd, h1, h2, hk => by
    show bindC kindOf ((p, w) :: P.zip vs) m x = _
    unfold bindC
    exact bindC_get (i := i) (List.nodup_cons.mp nd).2 (by simpa using h1) (by simpa using h2) hk
noncomputable def start (N : List Str) (vs : List V) : St := vs.map some ++ List.replicate (N.length - vs.length) none
noncomputable def cxOf (CX : CXT) (P : Program) (w : World) (K : PySem.W.Frag) (mg : Str → Option Value) (base : Heap) (N : List Str) (qual : Str) (scope : Scope) (f : Addr) (cd : Value) (A : Around) (outer : List Env) (s : Shared) (H : Hp) (E : XK) : Cx where
  prog := P
  w := w
  K := K
  mg := mg
  base := base
  A := A.deeper (envOfC qual scope s.heap.objs.size f cd)
  N := N
  s₀ := s
  H₀ := H
  env := envOfC qual scope s.heap.objs.size f cd
  outer := outer
  stack := envOfC qual scope s.heap.objs.size f cd :: outer
  ex := []
  calm := true
  fn := fun _ => true
  pn := []
  xe := fun e s' => wpAny (model P w) (A.deeper (envOfC qual scope s.heap.objs.size f cd)) (leaving (envOfC qual scope s.heap.objs.size f cd) e) (fun _ s'' => CX outer H s E e s'') (fun e' s'' => CX outer H s E e' s'') s'
theorem cell_has {sc : Scope} {n : Nat} {x : Str} (h : sc.names.lookup x = some .cell) : ∃ c, (cellsFrom n sc.names []).lookup x = some c := by
  have q := PySem.W.cellsFrom_some sc.names n [] (.inl h)
  exact Option.isSome_iff_exists.mp q
theorem inv_start {CX : CXT} {P : Program} {w : World} {K : PySem.W.Frag} {mg : Str → Option Value} {base : Heap} {N ps : List Str} {qual : Str} {scope : Scope} {f : Addr} {cd : Value} {A : Around} {outer : List Env} {s s1 : Shared} {H : Hp} {E : XK} {us : List Value} {vs : List V}
    (S : FnScope N ps scope) (hd : A.handled = none) (e0 : Env0 P w K mg base A outer s H) (hl : vs.length = ps.length) (r : Vals vs us)
    (x : InCallC s s.heap.objs.size (bindL (envOfC qual scope s.heap.objs.size f cd).kindOf (ps.zip us) fun _ => none) (cellsFrom (s.heap.objs.size + 1) scope.names []) (bindC (envOfC qual scope s.heap.objs.size f cd).kindOf (ps.zip us) fun _ => none) s1) :
    Inv (cxOf CX P w K mg base N qual scope f cd A outer s H E) [] (start N vs) H s1 := by
  have hpl : ps.length ≤ N.length := by have := congrArg List.length S.pre; rw [List.length_take] at this; omega
  obtain ⟨h1, tk, rfl, hk⟩ := x.done
  have noA : ∀ b : Addr, b ∉ (cxOf CX P w K mg base N qual scope f cd A outer s H E).ex := fun b z => absurd (show b ∈ ([] : List Addr) from z) (by simp)
  refine ⟨⟨e0.mod, S.kind, rfl, rfl, Nat.le_refl _, fun y z c h1 h2 => ?_, fun y hy => ?_, fun y c _ h => ?_, fun _ => hd, Around.frames_deeper e0.frames, .inr ⟨rfl, rfl⟩, fun b z => absurd z (noA b), e0.bs, e0.bsz, fun b _ _ => noA b, fun b z => absurd z (noA b), e0.funs, e0.frf⟩,
    rfl, e0.bare, Un.kept hk, ⟨_, x.toInCall.ns, fun i y v h1 h2 h3 => ?_⟩, fun y c h => ⟨_, x.cell y c h⟩, e0.hok.fresh (Nat.le_refl _), fun y c h => ?_, fun p hp => absurd (show p ∈ ([] : List (Addr × Obj)) from hp) (by simp), e0.hok.kept hk, ?_⟩
  · exact name_of_addr x.apart (PySem.mem_of_lookup h1) (PySem.mem_of_lookup h2)
  · have hy : scope.names.lookup y = some .cell ∨ scope.names.lookup y = some .free := hy
    rcases hy with hy | hy
    · exact cell_has hy
    · exact absurd rfl (S.nofree _ (PySem.mem_of_lookup hy))
  · exact Nat.le_of_lt (x.above y c (PySem.mem_of_lookup h))
  · have hi : i < vs.length := by
      unfold start at h2
      by_cases hi : i < vs.length
      · exact hi
      · rw [List.getElem?_append_right (by simpa using hi)] at h2
        rw [List.getElem?_replicate] at h2
        split at h2 <;> cases h2
    have ha : vs[i]? = some v := by
      unfold start at h2
      rw [List.getElem?_append_left (by simpa using hi), List.getElem?_map] at h2
      cases e : vs[i]? with
      | none => rw [e] at h2; cases h2
      | some a => rw [e] at h2; cases h2; rfl
    obtain ⟨u, hu, rv⟩ := r.get ha
    have hp : ps[i]? = some y := by
      rw [← S.pre, List.getElem?_take_of_lt (by omega)]; exact h1
    have ndP : ps.Nodup := by rw [← S.pre]; exact S.nd.sublist (List.take_sublist _ _)
    refine ⟨u, rv, ?_⟩
    rcases S.par y (List.mem_of_getElem? hp) with k | k
    · exact .inl ⟨k, bindL_get ndP hp hu k⟩
    · obtain ⟨c, e⟩ := cell_has (n := s.heap.objs.size + 1) k
      refine .inr ⟨.inl k, c, e, ?_⟩
      have q := x.cell y c e
      rw [bindC_get ndP hp hu (by show scope.names.lookup y ≠ _; rw [k]; decide)] at q
      exact q
  · exact e0.hok.fresh (Nat.le_of_lt (x.above y c (PySem.mem_of_lookup h)))
  · unfold start
    show _ = N.length
    rw [List.length_append, List.length_map, List.length_replicate]
    omega
theorem fn_of {CX : CXT} {P : Program} {w : World} {K : PySem.W.Frag} {mg : Str → Option Value} {base : Heap} {k : Nat} {f : Addr} {name qual : Str} {params : Arguments} {body : List Stmt} {scope : Scope} {dV kV doc pm cdv ct oc : Value} {an od : Option Addr}
    {osl : Array (Option Value)} {N ps : List Str} {sp : Sp} (lk : K.lookup f = some ⟨oc, od, .func (PySem.W.fnOf name qual params body scope dV kV doc pm an cdv ct), osl⟩) (hcd : PySem.W.codeIn K cdv qual = true) (S : FnScope N ps scope)
    (len : ∀ vs H Q E, sp vs H Q E → vs.length = ps.length)
    (hbody : ∀ (A : Around) (outer : List Env) (s : Shared) (H : Hp) (vs : List V) (Q : VK) (E : XK), Room k (A.deeper (envOfC qual scope s.heap.objs.size f cdv)) → sp vs H Q E →
      ∃ t, PSs (cxOf CX P w K mg base N qual scope f cdv A outer s H E) body t ∧ t { nx := fun _ H' => Q .non H', rt := Q } (start N vs) H) :
    FnOk P w K mg base CX (k + 1) f (PySem.W.fnOf name qual params body scope dV kV doc pm an cdv ct) ps sp := by
  refine ⟨len, fun A outer s H args us vs Q E hr e0 hb r hsp => ?_⟩
  have hl := len _ _ _ _ hsp
  have KX : K.In s.heap := e0.mod.kin.keeps fun b o e => (e0.bs b o e).1
  have lim : s.heap.NoLimit := e0.mod.nolimit.keeps fun b o e => (e0.bs b o e).1
  have hkind : ∀ y ∈ ps.zip us, scope.names.lookup y.1 = some .local ∨ (scope.names.lookup y.1 = some .cell ∧ ((cellsFrom (s.heap.objs.size + 1) scope.names []).lookup y.1).isSome = true) := fun ⟨n, v⟩ hy => by
    rcases S.par n (List.of_mem_zip hy).1 with q | q
    · exact .inl q
    · exact .inr ⟨q, PySem.W.cellsFrom_some _ _ _ (.inl q)⟩
  refine codeAny_call_function hr.depth (KX _ _ lk) rfl S.co S.gen rfl (PySem.W.codeRec_of KX hcd) (hb _ _ _ _ ?_)
  refine wpAny_newFunctionEnv_cells S.kind hkind fun env he s1 x => ?_
  subst he
  refine ⟨lim.keeps x.toInCall.keep, codeAny_func ?_⟩
  obtain ⟨t, ht, hq⟩ := hbody A outer s H vs Q E (hr.deeper _) hsp
  have I : Inv (cxOf CX P w K mg base N qual scope f cdv A outer s H E) [] (start N vs) H s1 := inv_start S hr.hd e0 hl r x
  refine wpAny_mono (ht [] s1 (start N vs) H _ I hq) (fun fl s' hs => ?_) fun e s' hs => hs
  have fin : ∀ {σ' : St} {H' : Hp} {v : V} {u : Value}, Inv (cxOf CX P w K mg base N qual scope f cdv A outer s H E) [] σ' H' s' → RelV v u → Q v H' → CE outer P w H s Q u s' :=
    fun {σ' H' v u} J rv q => ⟨v, H', J.os, J.bare, J.base, J.hok, rv, q⟩
  cases fl with
  | ret u =>
    obtain ⟨v, σ', H', J, rv, q⟩ := hs
    exact fin J rv q
  | next =>
    obtain ⟨σ', H', J, q⟩ := hs
    exact fin (v := V.non) (u := Value.none) J rfl q
  | brk =>
    obtain ⟨_, _, _, q⟩ := hs
    exact False.elim q
  | cont =>
    obtain ⟨_, _, _, q⟩ := hs
    exact False.elim q
end L2
namespace L2
open PySem PySem.Spec PyProof.Rows
section
variable {X : Cx} {x : Str} {p pos : Pos} {e : Expr} {es : List Expr} {t : TA} {id T : String} {r : List V → Hp → VK → Prop}
noncomputable def tCB (r : List V → Hp → VK → Prop) (t : TA) : TE := fun σ H Q => t σ H fun vs H1 => r vs H1 Q
theorem pe_callB (hc : CallR X (.builtin id) r) (hg : Gl X x) (hm : X.mg x = none) (hv : bootBuiltins x = some (.builtin id)) (ha : PA X (e :: es) t) (hn : x ≠ "__name__" := by decide) (hdb : (x == ("__debug__" : Str)) = false := by decide)
    (he : starEach (e :: es) X.env = (false, eval e X.env) :: starEach es X.env := by rfl) (hpl : (backTo pos (starEach es X.env)).any (·.1) = false := by rfl) : PE X (.Call (.Name x p) (e :: es) [] pos) (tCB r t) := by
  intro pins s σ H Q I h
  refine wpAny_Call_Name_kw (ld_blt I hg hm hv ?_ hn hdb)
  exact PyProof.Rows.callWith_builtin1 (thn (ha pos pins s σ H _ I h) fun us s1 ⟨vs, H1, I1, r1, q1⟩ => hc pins s1 σ H1 vs us Q I1 r1 q1) he hpl
theorem pe_callTy (hc : CallR X (.type T) r) (hg : Gl X x) (hm : X.mg x = none) (hv : bootBuiltins x = some (.type T)) (ha : PA X (e :: es) t) (hn : x ≠ "__name__" := by decide) (hdb : (x == ("__debug__" : Str)) = false := by decide)
    (he : starEach (e :: es) X.env = (false, eval e X.env) :: starEach es X.env := by rfl) (hpl : (backTo pos (starEach es X.env)).any (·.1) = false := by rfl) : PE X (.Call (.Name x p) (e :: es) [] pos) (tCB r t) := by
  intro pins s σ H Q I h
  refine wpAny_Call_Name_kw (ld_blt I hg hm hv ?_ hn hdb)
  exact PyProof.Rows.callWith_type1 (thn (ha pos pins s σ H _ I h) fun us s1 ⟨vs, H1, I1, r1, q1⟩ => hc pins s1 σ H1 vs us Q I1 r1 q1) he hpl
end
end L2
namespace HT
open PySem PyProof.Rows
section
open PySem.SeqAt
open PySem.AutoSeq1 (wpAny_loadPart')
open PySem.MeetsSeq PySem.MeetsSeq2 PySem.MeetsSeq3
end
section
variable {prog : Program} {w : World} {A : Around} {E : Value → Shared → Prop} {s : Shared}
noncomputable def sIx (n d : Nat) : Option Int → Nat
  | none => d
  | some v => if v < 0 then (v + (n : Int)).toNat else min v.toNat n
theorem sIx_none (n d : Nat) : sIx n d none = d := rfl
theorem sIx_nat (n d k : Nat) : sIx n d (some (k : Int)) = min k n := by
  show (if (k : Int) < 0 then ((k : Int) + (n : Int)).toNat else min (k : Int).toNat n) = min k n
  rw [if_neg (by omega), Int.toNat_natCast]
theorem sIx_le (n d : Nat) (hd : d ≤ n) (o : Option Int) : sIx n d o ≤ n := by
  cases o with
  | none => exact hd
  | some v =>
    show (if v < 0 then (v + (n : Int)).toNat else min v.toNat n) ≤ n
    by_cases hv : v < 0
    · rw [if_pos hv]; omega
    · rw [if_neg hv]; exact Nat.min_le_right _ _
theorem clip_eq (v : Int) (n d : Nat) : (if v < 0 then max (v + (n : Int)) 0 else min v (n : Int)) = ((sIx n d (some v) : Nat) : Int) := by
  show (if v < 0 then max (v + (n : Int)) 0 else min v (n : Int)) = (((if v < 0 then (v + (n : Int)).toNat else min v.toNat n) : Nat) : Int)
  by_cases hv : v < 0
  · simp only [if_pos hv]; omega
  · simp only [if_neg hv]; omega
theorem adjust_gen (lo hi : Option Int) (n : Nat) : Builtin.Slice.sliceAdjust lo hi 1 (n : Int) = (((sIx n 0 lo : Nat) : Int), ((sIx n n hi : Nat) : Int)) := by
  have h1 : ¬ ((1 : Int) < 0) := by omega
  unfold Builtin.Slice.sliceAdjust
  simp only [h1, if_false]
  refine Prod.ext ?_ ?_
  · cases lo with
    | none => rfl
    | some v => exact clip_eq v n 0
  · cases hi with
    | none => rfl
    | some v => exact clip_eq v n n
theorem places_gen (i j : Nat) : Builtin.Slice.slicePlaces (i : Int) (j : Int) 1 = j - i := by
  unfold Builtin.Slice.slicePlaces
  have h1 : (1 : Int) > 0 := by omega
  simp only [h1, if_true, Int.ediv_one]
  split <;> omega
theorem slicePart_ {v : Value} {o : Option Int} {Q : Option Int → Shared → Prop} (p : IsPart v o) (h : Q o s) : wpAny (model prog w) A (Builtin.Slice.slicePartIndex v) Q E s := by
  cases p with
  | none => exact slicePart_none h
  | int i t => exact slicePart_int h
theorem sliceApplied_gen {sl : Addr} {vl vu : Value} {lo hi : Option Int} {n : Nat} {Q : Int × Int × Nat → Shared → Prop} (hs : s.heap.IsSliceOf sl vl vu .none) (pl : IsPart vl lo) (pu : IsPart vu hi)
    (h : Q (((sIx n 0 lo : Nat) : Int), 1, sIx n n hi - sIx n 0 lo) s) : wpAny (model prog w) A (Builtin.Slice.sliceApplied (.ref sl) (pure (n : Int))) Q E s := by
  obtain ⟨os, hos, hcs, hds⟩ := id hs
  unfold Builtin.Slice.sliceApplied Builtin.Slice.sliceFields
  refine wpAny_bind (wpAny_bind (wpAny_field hos hds (x := vl) rfl (wpAny_bind (wpAny_field hos hds (x := vu) rfl (wpAny_bind (wpAny_field hos hds (x := .none) rfl (wpAny_pure ?_)))))))
  refine wpAny_bind (slicePart_none ?_)
  show wpAny _ _ (if ((1 : Int) == 0) = true then _ else _) _ _ s
  rw [if_neg (by decide)]
  refine wpAny_bind (slicePart_ pl (wpAny_bind (slicePart_ pu (wpAny_bind (wpAny_pure ?_)))))
  show wpAny _ _ (match Builtin.Slice.sliceAdjust lo hi 1 (n : Int) with | (lo, hi) => pure (lo, (1 : Int), Builtin.Slice.slicePlaces lo hi 1)) _ _ s
  rw [adjust_gen lo hi n]
  show wpAny _ _ (pure (((sIx n 0 lo : Nat) : Int), (1 : Int), Builtin.Slice.slicePlaces ((sIx n 0 lo : Nat) : Int) ((sIx n n hi : Nat) : Int) 1)) _ _ s
  rw [places_gen]
  exact wpAny_pure h
theorem pick_gen (xs : Array Value) (i k : Nat) : ((List.range k).filterMap fun (m : Nat) => xs[((i : Int) + (m : Int) * 1).toNat]?).toArray = ((xs.toList.drop i).take k).toArray := by
  have e : (fun (m : Nat) => xs[((i : Int) + (m : Int) * 1).toNat]?) = fun m => xs[i + m]? := by
    funext m
    have : ((i : Int) + (m : Int) * 1).toNat = i + m := by omega
    rw [this]
  rw [e]
  have := pick_run xs i k
  rw [List.filterMap_map] at this
  have e2 : ((fun x => xs[x]?) ∘ fun x => i + x) = fun m => xs[i + m]? := rfl
  rw [e2] at this
  rw [this]
theorem getItem_tuple_cut {t sl : Addr} {items : Array Value} {vl vu : Value} {lo hi : Option Int} {Q : Value → Shared → Prop} (ht : IsTup s.heap t items) (hs : s.heap.IsSliceOf sl vl vu .none) (pl : IsPart vl lo) (pu : IsPart vu hi)
    (hw : ¬ (sIx items.size 0 lo = 0 ∧ sIx items.size items.size hi = items.size))
    (h : Q (.ref s.heap.objs.size) { s with heap := s.heap.push { cls := .type "tuple", data := .seq ((items.toList.drop (sIx items.size 0 lo)).take (sIx items.size items.size hi - sIx items.size 0 lo)).toArray } })
    (hsz : items.size ≤ sizeLine) : wpAny (model prog w) A (getItem (.ref t) (.ref sl)) Q E s := by
  have htake : sizeOk (.seq ((items.toList.drop (sIx items.size 0 lo)).take (sIx items.size items.size hi - sIx items.size 0 lo)).toArray) := by
    show ((items.toList.drop (sIx items.size 0 lo)).take (sIx items.size items.size hi - sIx items.size 0 lo)).toArray.size ≤ sizeLine
    rw [List.size_toArray, List.length_take, List.length_drop, Array.length_toList]
    omega
  have hj : sIx items.size items.size hi ≤ items.size := sIx_le _ _ (Nat.le_refl _) hi
  obtain ⟨os, hos, hcs, hds⟩ := id hs
  have hTs : s.TypeIs (.ref sl) "slice" := ⟨os, hos, hcs⟩
  unfold getItem
  try with_reducible refine wpAny_holding ?_
  first | refine wpAny_bind (wpAny_pure ?_) | skip
  refine wpAny_bind (wpAny_sequenceKey ht.typeIs (by decide) ?_)
  refine wpAny_bind (wpAny_callSpecial?_slot (name := Str.ofString "__getitem__") ht.typeIs PyProof.Rows.slot_tuple_getitem
    (wpAny_call_entry PyProof.Rows.slot_tuple_getitem ht.typeIs entry_tuple_getitem ?_ (args_tuple_getitem _ _)))
  show wpAny _ _ (Builtin.Tuple.tupleItemsOf (.ref t) >>= _) _ _ s
  refine wpAny_bind (tupleItemsOf_ ht ?_)
  refine wpAny_bind (wpAny_typeOf hTs ?_)
  rw [if_pos (by decide)]
  refine wpAny_bind (sliceApplied_gen hs pl pu ?_)
  have hno : ¬ ((((sIx items.size 0 lo : Nat) : Int) == 0 && (1 : Int) == 1 && (sIx items.size items.size hi - sIx items.size 0 lo) == items.size) = true) := by
    intro q
    rw [Bool.and_eq_true, Bool.and_eq_true] at q
    have q1 : ((sIx items.size 0 lo : Nat) : Int) = 0 := eq_of_beq q.1.1
    have q2 : sIx items.size items.size hi - sIx items.size 0 lo = items.size := eq_of_beq q.2
    exact hw ⟨by omega, by omega⟩
  show wpAny _ _ (if (((sIx items.size 0 lo : Nat) : Int) == 0 && (1 : Int) == 1 && (sIx items.size items.size hi - sIx items.size 0 lo) == items.size) = true then _ else _) _ _ s
  rw [if_neg hno, pick_gen]
  first
    | exact wpAny_bind (m := Builtin.Tuple.tupleExact _) (wpAny_newObj_type (wpAny_pure ⟨_, rfl, wpAny_pure h⟩) htake)
    | exact wpAny_bind (m := Builtin.Tuple.tupleExact _) (wpAny_newObj_type (wpAny_bind (wpAny_pure (wpAny_pure ⟨_, rfl, wpAny_pure h⟩))) htake)
    | exact wpAny_bind (wpAny_bind (m := Builtin.Tuple.tupleExact _) (wpAny_newObj_type (wpAny_pure (wpAny_pure ⟨_, rfl, wpAny_pure h⟩)) htake))
    | exact wpAny_bind (wpAny_bind (m := Builtin.Tuple.tupleExact _) (wpAny_newObj_type (wpAny_pure ⟨_, rfl, wpAny_pure h⟩) htake))
end
end HT
namespace L2
open PySem PySem.Spec PyProof.Rows
noncomputable abbrev TO := St → Hp → (Option Int → Hp → Prop) → Prop
noncomputable def PO (X : Cx) (e : Option Expr) (t : TO) : Prop :=
  ∀ (pins : List (Addr × Obj)) (s : Shared) (σ : St) (H : Hp) (Q : Option Int → Hp → Prop), Inv X pins σ H s → t σ H Q →
    wpAny (model X.prog X.w) X.A (evalPart e X.env) (fun u s' => ∃ o H', Inv X pins σ H' s' ∧ IsPart u o ∧ Q o H') X.xe s
noncomputable def tNoPart : TO := fun _ H Q => Q none H
noncomputable def tPart (t : TE) : TO := fun σ H Q => t σ H fun x H1 => ∃ i, x = .int i ∧ Q (some i) H1
section
variable {X : Cx} {e : Expr} {te : TE} {lo hi : Option Expr} {tl th : TO} {pos p2 : Pos}
theorem po_none : PO X none tNoPart := by
  intro pins s σ H Q I h
  rw [evalPart_none]
  exact wpAny_pure ⟨none, H, I, .none, h⟩
theorem po_some (h : PE X e te) : PO X (some e) (tPart te) := by
  intro pins s σ H Q I hw
  rw [evalPart_some]
  refine thn (h pins s σ H _ I hw) fun u s1 hhx => ?_
  obtain ⟨x, H1, I1, r1, q1⟩ := hhx
  obtain ⟨i, rfl, q⟩ := q1
  obtain ⟨t, rfl⟩ := r1
  exact ⟨some i, H1, I1, .int i t, q⟩
noncomputable def SlR (X : Cx) (r : V → Option Int → Option Int → Hp → VK → Prop) : Prop :=
  ∀ (pins : List (Addr × Obj)) (s : Shared) (σ : St) (H : Hp) (x : V) (v vl vu : Value) (lo hi : Option Int) (sl : Addr) (Q : VK), Inv X pins σ H s → RelV x v → s.heap.IsSliceOf sl vl vu .none → IsPart vl lo → IsPart vu hi → r x lo hi H Q →
    ∃ T id, typeLookup (.type T) "__getitem__" = pure (some (.builtin id)) ∧ s.TypeIs v T ∧ wpAny (model X.prog X.w) X.A (getItem v (.ref sl)) (EP X pins σ Q) X.xe s
noncomputable def tSl (r : V → Option Int → Option Int → Hp → VK → Prop) (te : TE) (tl th : TO) : TE := fun σ H Q => te σ H fun x H1 => tl σ H1 fun l H2 => th σ H2 fun u H3 => r x l u H3 Q
theorem pe_slice {r : V → Option Int → Option Int → Hp → VK → Prop} (hr : SlR X r) (he : PE X e te) (hl : PO X lo tl) (hu : PO X hi th) : PE X (.Subscript e (.Slice lo hi none p2) pos) (tSl r te tl th) := by
  intro pins s σ H Q I h
  refine Subscript_ (thn (he pins s σ H _ I h) fun v s1 hhx => ?_)
  obtain ⟨x, H1, I1, r1, q1⟩ := hhx
  refine wpAny_Slice (thn (hl pins s1 σ H1 _ I1 q1) fun vl s2 ⟨l, H2, I2, pl, q2⟩ => thn (hu pins s2 σ H2 _ I2 q2) fun vu s3 hhx => ?_)
  obtain ⟨u, H3, I3, pu, q3⟩ := hhx
  rw [evalPart_none]
  refine wpAny_pure ?_
  have I4 : Inv X pins σ H3 { s3 with heap := s3.heap.push { cls := .type "slice", data := .fields #[vl, vu, .none] } } := I3.kept (t' := s3.toks) fun b ob q => Heap.get?_push_of_some _ q
  obtain ⟨T, id, hT, ht, hg⟩ := hr pins { s3 with heap := s3.heap.push { cls := .type "slice", data := .fields #[vl, vu, .none] } } σ H3 x v vl vu l u s3.heap.objs.size Q I4 r1 (Heap.IsSliceOf.new ..) pl pu q3
  show wpAny (model X.prog X.w) X.A (subscriptTail e (.Slice lo hi none p2) v (.ref s3.heap.objs.size)) (EP X pins σ Q) X.xe { s3 with heap := s3.heap.push { cls := .type "slice", data := .fields #[vl, vu, .none] } }
  exact tail_any (ops := [.ref s3.heap.objs.size, v]) ht hT hg (by with_unfolding_all rfl)
noncomputable def cutV (xs : List V) (lo hi : Option Int) : List V := (xs.drop (HT.sIx xs.length 0 lo)).take (HT.sIx xs.length xs.length hi - HT.sIx xs.length 0 lo)
theorem cutV_length (xs : List V) (lo hi : Option Int) : (cutV xs lo hi).length ≤ xs.length := by
  unfold cutV
  rw [List.length_take, List.length_drop]
  omega
noncomputable def rSlT (K : PySem.W.Frag) : V → Option Int → Option Int → Hp → VK → Prop := fun x lo hi H Q => ∃ a xs, x = .ref a ∧ SqT K H a xs ∧
  ¬ (HT.sIx xs.length 0 lo = 0 ∧ HT.sIx xs.length xs.length hi = xs.length) ∧ ∀ p, H p = none → Q (.ref p) (upd H p (.tup (cutV xs lo hi)))
theorem sl_tup : SlR X (rSlT X.K) := by
  intro pins s σ H x v vl vu lo hi sl Q I rx hs pl pu h
  obtain ⟨a, xs, rfl, hx, hw, q⟩ := h
  cases rx
  obtain ⟨its, r, ht, hz⟩ := I.tuple hx
  have hlen : its.toArray.size = xs.length := by rw [List.size_toArray]; exact r.length.symm
  refine ⟨"tuple", _, PyProof.Rows.slot_tuple_getitem.lookup, ht.typeIs, ?_⟩
  refine HT.getItem_tuple_cut ht hs pl pu (by rw [hlen]; exact hw) ?_ (by rw [hlen]; exact hz)
  rw [hlen]
  refine ⟨.ref s.heap.objs.size, _, I.laid (t' := s.toks) (o := .tup (cutV xs lo hi)) (fun b ob q => Heap.get?_push_of_some _ q) (Nat.le_refl _) ?_, rfl, q _ (I.hok.fresh (Nat.le_refl _))⟩
  exact ⟨Nat.le_trans (cutV_length xs lo hi) hz, _, (r.drop (HT.sIx xs.length 0 lo)).take (HT.sIx xs.length xs.length hi - HT.sIx xs.length 0 lo), IsTup.new _ _⟩
end
end L2
namespace L2
open PySem PySem.Spec PyProof.Rows
noncomputable def ixN (n : Nat) (i : Int) : Option Nat := if 0 ≤ i then (if i < n then some i.toNat else none) else if -(n : Int) ≤ i then some (i + n).toNat else none
noncomputable def atI {α : Type} (xs : List α) (i : Int) : Option α := (ixN xs.length i).bind fun j => xs[j]?
theorem ixN_seq {n : Nat} {i : Int} {j : Nat} (h : ixN n i = some j) : seqIndex? i n = some j ∧ j < n ∧ -(n : Int) ≤ i ∧ i < n := by
  unfold ixN at h
  by_cases h0 : 0 ≤ i
  · rw [if_pos h0] at h
    by_cases h1 : i < n
    · rw [if_pos h1] at h
      have e : i.toNat = j := Option.some.inj h
      exact ⟨by rw [seqIndex_of h0 h1, e], by omega, by omega, h1⟩
    · rw [if_neg h1] at h; cases h
  · rw [if_neg h0] at h
    by_cases h1 : -(n : Int) ≤ i
    · rw [if_pos h1] at h
      have e : (i + n).toNat = j := Option.some.inj h
      exact ⟨by rw [seqIndex_neg (by omega) h1, e], by omega, h1, by omega⟩
    · rw [if_neg h1] at h; cases h
theorem atI_get {α : Type} {xs : List α} {i : Int} {v : α} (h : atI xs i = some v) : ∃ j, seqIndex? i xs.length = some j ∧ xs[j]? = some v ∧ j < xs.length ∧ -(xs.length : Int) ≤ i ∧ i < xs.length := by
  unfold atI at h
  cases e : ixN xs.length i with
  | none => rw [e] at h; cases h
  | some j =>
    rw [e] at h
    obtain ⟨h1, h2, h3, h4⟩ := ixN_seq e
    exact ⟨j, h1, h, h2, h3, h4⟩
theorem atI_nat {α : Type} {xs : List α} {j : Nat} {v : α} (h : xs[j]? = some v) : atI xs (j : Int) = some v := by
  have hj : j < xs.length := (List.getElem?_eq_some_iff.mp h).1
  have e : ixN xs.length (j : Int) = some j := by
    unfold ixN
    rw [if_pos (by omega), if_pos (by omega)]; simp
  unfold atI; rw [e]; exact h
noncomputable def PlainIx (b : Expr) : Prop := ∀ o i, subscripted b false o i = operate [o, i] (getItem o i)
noncomputable def IxR (X : Cx) (r : R2) : Prop :=
  ∀ (value slice : Expr) (pins : List (Addr × Obj)) (s : Shared) (σ : St) (H : Hp) (x y : V) (v u : Value) (Q : VK), Inv X pins σ H s → RelV x v → RelV y u → r x y H Q →
    subscripted slice false v u = operate [v, u] (getItem v u) → wpAny (model X.prog X.w) X.A (subscriptTail value slice v u) (EP X pins σ Q) X.xe s
noncomputable def MtR (X : Cx) (id : String) (r : V → List V → Hp → VK → Prop) : Prop :=
  ∀ (pins : List (Addr × Obj)) (s : Shared) (σ : St) (H : Hp) (x : V) (xs : List V) (v : Value) (us : List Value) (Q : VK), Inv X pins σ H s → RelV x v → Vals xs us → r x xs H Q →
    wpAny (model X.prog X.w) X.A (call (.builtin id) (v :: us)) (EP X pins σ Q) X.xe s
section
variable {X : Cx} {a b : Expr} {ta tb : TE} {pos : Pos}
theorem pe_ix {r : R2} (hr : IxR X r) (ha : PE X a ta) (hb : PE X b tb) (hs : PlainIx b) : PE X (.Subscript a b pos) (tOp r ta tb) := by
  intro pins s σ H Q I h
  exact Subscript_ (binT ha hb I h fun v u s2 x y H2 I2 rx ry q => hr a b pins s2 σ H2 x y v u Q I2 rx ry q (hs _ _))
noncomputable def rIxL (K : PySem.W.Frag) : R2 := fun x y H Q => ∃ p xs i v, x = .ref p ∧ y = .int i ∧ SqL K H p xs ∧ atI xs i = some v ∧ Q v H
noncomputable def rIxT (K : PySem.W.Frag) : R2 := fun x y H Q => ∃ p xs i v, x = .ref p ∧ y = .int i ∧ SqT K H p xs ∧ atI xs i = some v ∧ Q v H
noncomputable def rIxS : R2 := fun x y H Q => ∃ z i c, x = .str z ∧ y = .int i ∧ z.length ≤ sizeLine ∧ atI z.cps.toList i = some c ∧ Q (.str ⟨#[c]⟩) H
theorem ix_list : IxR X (rIxL X.K) := by
  intro value slice pins s σ H x y v u Q I rx ry h hs
  obtain ⟨p, xs, i, z, rfl, rfl, hq, he, q⟩ := h
  cases rx
  obtain ⟨t, rfl⟩ := ry
  obtain ⟨its, r, pl, hz⟩ := I.list hq
  obtain ⟨j, h1, h2, h3, h4, h5⟩ := atI_get he
  obtain ⟨w, ew, rw'⟩ := r.get h2
  have hl := r.length
  have hn := line63
  have fin : EP X pins σ Q w s := ⟨z, H, I, rw', q⟩
  by_cases h0 : 0 ≤ i
  · have hj : i.toNat = j := by
      rw [seqIndex_of h0 h5] at h1
      exact Option.some.inj h1
    exact item_listR pl.isList h0 (by omega) (by rw [hj]; simpa using ew) fin hs
  · have hj : (i + (its.toArray.size : Int)).toNat = j := by
      rw [seqIndex_neg (by omega) h4] at h1
      rw [List.size_toArray, ← hl]
      exact Option.some.inj h1
    exact subscriptTail_builtinR (x := w) pl.isList.typeIs slot_list_getitem.lookup
      (wpAny_getItem_list_neg (Q := fun r s' => r = w ∧ EP X pins σ Q r s') pl.isList (by omega) (by rw [List.size_toArray] <;> omega) (by omega) (by rw [hj]; simpa using ew) ⟨rfl, fin⟩) hs
theorem ix_tup : IxR X (rIxT X.K) := by
  intro value slice pins s σ H x y v u Q I rx ry h hs
  obtain ⟨p, xs, i, z, rfl, rfl, hq, he, q⟩ := h
  cases rx
  obtain ⟨t, rfl⟩ := ry
  obtain ⟨its, r, pl, hz⟩ := I.tuple hq
  obtain ⟨j, h1, h2, h3, h4, h5⟩ := atI_get he
  obtain ⟨w, ew, rw'⟩ := r.get h2
  have hl := r.length
  have hn := line63
  have fin : EP X pins σ Q w s := ⟨z, H, I, rw', q⟩
  exact subscriptTail_builtinR (x := w) pl.typeIs slot_tuple_getitem.lookup
    (getItem_tuple (j := j) (Q := fun r s' => r = w ∧ EP X pins σ Q r s') pl (by omega) (by omega) (by rw [List.size_toArray, ← hl]; exact h1) (by simpa using ew) ⟨rfl, fin⟩) hs
theorem mapSeq_set (its : List Value) (n j : Nat) (u : Value) : Obj.mapSeq (·.setIfInBounds j u) { cls := .type "list", data := .seq its.toArray n } = { cls := .type "list", data := .seq (its.set j u).toArray n } := by
  simp [Obj.mapSeq]
theorem Inv.lst {pins : List (Addr × Obj)} {σ : St} {H : Hp} {s : Shared} {p : Addr} {xs : List V} (I : Inv X pins σ H s) (h : H p = some (.lst xs)) :
    ∃ (its : List Value) (n : Nat), Vals xs its ∧ s.heap.get? p = some { cls := .type "list", data := .seq its.toArray n } ∧ xs.length ≤ sizeLine := by
  obtain ⟨z, its, n, r, e⟩ := I.hok p _ h
  exact ⟨its, n, r, e, z⟩
theorem Inv.lstUpd {pins : List (Addr × Obj)} {σ : St} {H : Hp} {s : Shared} {p : Addr} {xs ys : List V} {its its' : List Value} {n n' : Nat} {f : Obj → Obj} (I : Inv X pins σ H s) (h : H p = some (.lst xs))
    (ho : s.heap.get? p = some { cls := .type "list", data := .seq its.toArray n }) (hf : f { cls := .type "list", data := .seq its.toArray n } = { cls := .type "list", data := .seq its'.toArray n' }) (r : Vals ys its') (hz : ys.length ≤ sizeLine) (t : Nat) :
    Inv X pins σ (upd H p (.lst ys)) { s with heap := s.heap.update p f, toks := t } := by
  have e : (s.heap.update p f).get? p = some { cls := .type "list", data := .seq its'.toArray n' } := by
    rw [Heap.get?_update_self f ho (by rw [hf] <;> rfl), hf]
  refine I.write (x := p) (e := p) (by rw [h]; trivial) (.inl rfl) (fun b u hb q => (Heap.get?_update_other _ _ (Ne.symm hb)).trans q) ⟨_, e⟩ ?_
  exact ⟨hz, its', n', r, e⟩
noncomputable def rSetL : V → V → V → Hp → (Hp → Prop) → Prop := fun o i v H Q => ∃ p xs k j, o = .ref p ∧ i = .int k ∧ H p = some (.lst xs) ∧ ixN xs.length k = some j ∧ Q (upd H p (.lst (xs.set j v)))
theorem set_list : PSet X rSetL := by
  intro pins s σ H o i v ov iv u Q I ro ri rv h
  obtain ⟨p, xs, k, j, rfl, rfl, hp, hj, q⟩ := h
  cases ro
  obtain ⟨t, rfl⟩ := ri
  obtain ⟨its, n, r, ho, hz⟩ := I.lst hp
  obtain ⟨h1, h2, h3, h4⟩ := ixN_seq hj
  have hl := r.length
  have hn := line63
  have I' : Inv X pins σ (upd H p (.lst (xs.set j v))) { s with heap := s.heap.update p (Obj.mapSeq (·.setIfInBounds j u)) } :=
    I.lstUpd hp ho (mapSeq_set its n j u) (r.set rv j) (by rw [List.length_set]; exact hz) s.toks
  by_cases h0 : 0 ≤ k
  · have hk : k.toNat = j := by
      rw [seqIndex_of h0 h4] at h1
      exact Option.some.inj h1
    exact PySem.W.ki_setAt ho h0 (by omega) (by rw [List.size_toArray, ← hl]; exact h4) (by rw [hk]; exact ⟨_, I', q⟩)
  · have hk : (k + (its.toArray.size : Int)).toNat = j := by
      rw [seqIndex_neg (by omega) h3] at h1
      rw [List.size_toArray, ← hl]
      exact Option.some.inj h1
    exact PySem.W.ki_setBack ho (by omega) (by rw [List.size_toArray, ← hl]; exact h3) (by omega) (by rw [hk]; exact ⟨_, I', q⟩)
theorem slice_bounds (lo hi : Option Int) (n : Nat) : (sliceBounds lo hi none n).1 = ((HT.sIx n 0 lo : Nat) : Int) ∧ (sliceBounds lo hi none n).2.1 = ((HT.sIx n n hi : Nat) : Int) ∧ (sliceBounds lo hi none n).2.2 = 1 := by
  refine ⟨?_, ?_, rfl⟩
  · cases lo with
    | none => simp [sliceBounds, HT.sIx]
    | some i =>
      simp only [sliceBounds, HT.sIx, Option.getD_none, show (1 : Int) > 0 by decide, if_true]
      by_cases h : i < 0
      · simp only [h, if_true] <;> omega
      · simp only [h, if_false] <;> omega
  · cases hi with
    | none => simp [sliceBounds, HT.sIx]
    | some i =>
      simp only [sliceBounds, HT.sIx, Option.getD_none, show (1 : Int) > 0 by decide, if_true]
      by_cases h : i < 0
      · simp only [h, if_true] <;> omega
      · simp only [h, if_false] <;> omega
theorem slicePick_cut (its : List Value) (lo hi : Option Int) : slicePick its.toArray lo hi none = ((its.drop (HT.sIx its.length 0 lo)).take (HT.sIx its.length its.length hi - HT.sIx its.length 0 lo)).toArray := by
  obtain ⟨h1, h2, h3⟩ := slice_bounds lo hi its.toArray.size
  unfold slicePick
  rw [h1, h2, h3]
  simp only [sliceRange_one, pick_run, List.size_toArray] <;> rfl
noncomputable def rSlL (K : PySem.W.Frag) : V → Option Int → Option Int → Hp → VK → Prop := fun x lo hi H Q => ∃ a xs, x = .ref a ∧ SqL K H a xs ∧ ∀ p, H p = none → Q (.ref p) (upd H p (.lst (cutV xs lo hi)))
theorem sl_list : SlR X (rSlL X.K) := by
  intro pins s σ H x v vl vu lo hi sl Q I rx hs pl pu h
  obtain ⟨a, xs, rfl, hx, q⟩ := h
  cases rx
  obtain ⟨its, r, ht, hz⟩ := I.list hx
  have hlen := r.length
  refine ⟨"list", _, slot_list_getitem.lookup, ht.isList.typeIs, ?_⟩
  refine wpAny_getItem_list_slice ht.isList hs pl pu .none (by simp) ?_ (by rw [List.size_toArray] <;> omega)
  rw [slicePick_cut, ← hlen]
  refine ⟨.ref s.heap.objs.size, _, I.laid (t' := s.toks) (o := .lst (cutV xs lo hi)) (fun b ob q => Heap.get?_push_of_some _ q) (Nat.le_refl _) ?_, rfl, q _ (I.hok.fresh (Nat.le_refl _))⟩
  exact ⟨Nat.le_trans (cutV_length xs lo hi) hz, _, 0, (r.drop (HT.sIx xs.length 0 lo)).take (HT.sIx xs.length xs.length hi - HT.sIx xs.length 0 lo), Heap.get?_push_size _ rfl⟩
noncomputable def flatV : V → Bool
  | .non => true
  | .bl _ => true
  | .int _ => true
  | .str _ => true
  | _ => false
noncomputable def eqV : V → V → Bool
  | .non, .non => true
  | .bl a, .bl b => a == b
  | .bl a, .int b => (if a then 1 else 0) == b
  | .int a, .bl b => a == (if b then 1 else 0)
  | .int a, .int b => a == b
  | .str a, .str b => a == b
  | _, _ => false
theorem eqAt_V {A : Around} {s : Shared} {y x : V} {u v : Value} (ry : RelV y u) (rx : RelV x v) (fy : flatV y = true) (fx : flatV x = true) : SeqAt.EqAt A s u v (eqV y x) := by
  cases y with
  | non =>
    cases ry
    cases x with
    | non => cases rx; exact SeqAt.EqAt.same _
    | bl b => cases rx; exact SeqAt.EqAt.none_bool b
    | int b => obtain ⟨t, rfl⟩ := rx; exact SeqAt.EqAt.none_int b t
    | str b => obtain ⟨t, rfl⟩ := rx; exact SeqAt.EqAt.none_str b t
    | _ => exact absurd (show false = true from fx) Bool.false_ne_true
  | bl a =>
    cases ry
    cases x with
    | non => cases rx; exact SeqAt.EqAt.bool_none a
    | bl b => cases rx; exact SeqAt.EqAt.bool_bool a b
    | int b => obtain ⟨t, rfl⟩ := rx; exact SeqAt.EqAt.bool_int a b t
    | str b => obtain ⟨t, rfl⟩ := rx; exact SeqAt.EqAt.bool_str a b t
    | _ => exact absurd (show false = true from fx) Bool.false_ne_true
  | int a =>
    obtain ⟨t', rfl⟩ := ry
    cases x with
    | non => cases rx; exact SeqAt.EqAt.int_none a t'
    | bl b => cases rx; exact SeqAt.EqAt.int_bool a t' b
    | int b => obtain ⟨t, rfl⟩ := rx; exact SeqAt.EqAt.int_int a t' b t
    | str b => obtain ⟨t, rfl⟩ := rx; exact SeqAt.EqAt.int_str a t' b t
    | _ => exact absurd (show false = true from fx) Bool.false_ne_true
  | str a =>
    obtain ⟨t', rfl⟩ := ry
    cases x with
    | non => cases rx; exact SeqAt.EqAt.str_none a t'
    | bl b => cases rx; exact SeqAt.EqAt.str_bool a t' b
    | int b => obtain ⟨t, rfl⟩ := rx; exact SeqAt.EqAt.str_int a t' b t
    | str b => obtain ⟨t, rfl⟩ := rx; exact SeqAt.EqAt.str_str a t' b t
    | _ => exact absurd (show false = true from fx) Bool.false_ne_true
  | _ => exact absurd (show false = true from fy) Bool.false_ne_true
noncomputable def eqU (x : V) (u : Value) : Bool := match u with
  | .none => eqV .non x
  | .bool b => eqV (.bl b) x
  | .int i _ => eqV (.int i) x
  | .str z _ => eqV (.str z) x
  | _ => false
theorem eqU_of {x y : V} {u : Value} (r : RelV y u) (f : flatV y = true) : eqU x u = eqV y x := by
  cases y with
  | non => cases r; rfl
  | bl b => cases r; rfl
  | int i => obtain ⟨t, rfl⟩ := r; rfl
  | str z => obtain ⟨t, rfl⟩ := r; rfl
  | _ => exact absurd (show false = true from f) Bool.false_ne_true
theorem any_eqU {x : V} : ∀ {xs : List V} {us : List Value}, Vals xs us → xs.all flatV = true → us.any (eqU x) = xs.any fun y => eqV y x
  | _, _, .nil, _ => rfl
  | y :: xs, u :: us, .cons r t, f => by
    rw [List.all_cons, Bool.and_eq_true] at f
    rw [List.any_cons, List.any_cons, eqU_of r f.1, any_eqU t f.2]
theorem mem_eqAt {A : Around} {s : Shared} {x : V} {v : Value} (rx : RelV x v) (fx : flatV x = true) : ∀ {xs : List V} {us : List Value}, Vals xs us → xs.all flatV = true → ∀ u ∈ us, SeqAt.EqAt A s u v (eqU x u)
  | _, _, .nil, _ => fun u hu => by cases hu
  | y :: xs, u :: us, .cons r t, f => fun u' hu => by
    rw [List.all_cons, Bool.and_eq_true] at f
    rcases List.mem_cons.mp hu with rfl | hu
    · rw [eqU_of r f.1]; exact eqAt_V r rx f.1 fx
    · exact mem_eqAt rx fx t f.2 u' hu
noncomputable def inV (x : V) (xs : List V) : Bool := xs.any fun y => eqV y x
noncomputable def rIn (K : PySem.W.Frag) (neg : Bool) : R2 := fun x y H Q => ∃ p xs, y = .ref p ∧ (SqL K H p xs ∨ SqT K H p xs) ∧ flatV x = true ∧ xs.all flatV = true ∧ Q (.bl (if neg then !inV x xs else inV x xs)) H
theorem op_in_seq : OpR X (compareOp .In) (rIn X.K false) := by
  intro pins s σ H x y v u Q I rx ry h
  obtain ⟨p, xs, rfl, hq, fx, fs, q⟩ := h
  cases ry
  rcases hq with hq | hq
  · obtain ⟨its, r, pl, hz⟩ := I.list hq
    refine SeqAt.in_listAt (eqU x) pl.isList (fun w hw => mem_eqAt rx fx r fs w (by simpa using hw)) ⟨.bl _, H, I, rfl, ?_⟩
    rw [show its.toArray.any (eqU x) = its.any (eqU x) by simp, any_eqU r fs]
    exact q
  · obtain ⟨its, r, pl, hz⟩ := I.tuple hq
    refine SeqAt.in_tupleAt (eqU x) pl (fun w hw => mem_eqAt rx fx r fs w (by simpa using hw)) ⟨.bl _, H, I, rfl, ?_⟩
    rw [show its.toArray.any (eqU x) = its.any (eqU x) by simp, any_eqU r fs]
    exact q
theorem op_notIn_seq : OpR X (compareOp .NotIn) (rIn X.K true) := by
  intro pins s σ H x y v u Q I rx ry h
  obtain ⟨p, xs, rfl, hq, fx, fs, q⟩ := h
  cases ry
  rcases hq with hq | hq
  · obtain ⟨its, r, pl, hz⟩ := I.list hq
    refine SeqAt.notIn_listAt (eqU x) pl.isList (fun w hw => mem_eqAt rx fx r fs w (by simpa using hw)) ⟨.bl _, H, I, rfl, ?_⟩
    rw [show its.toArray.any (eqU x) = its.any (eqU x) by simp, any_eqU r fs]
    exact q
  · obtain ⟨its, r, pl, hz⟩ := I.tuple hq
    refine SeqAt.notIn_tupleAt (eqU x) pl (fun w hw => mem_eqAt rx fx r fs w (by simpa using hw)) ⟨.bl _, H, I, rfl, ?_⟩
    rw [show its.toArray.any (eqU x) = its.any (eqU x) by simp, any_eqU r fs]
    exact q
theorem call_len_seq : CallR X (.builtin "len") (fun xs H Q => ∃ p ys, xs = [.ref p] ∧ (SqL X.K H p ys ∨ SqT X.K H p ys) ∧ Q (.int ys.length) H) := by
  intro pins s σ H xs us Q I r h
  obtain ⟨p, ys, rfl, hq, q⟩ := h
  obtain ⟨u, rfl, rx⟩ := vals1 r
  cases rx
  have hn := line63
  rcases hq with hq | hq
  · obtain ⟨its, r', pl, hz⟩ := I.list hq
    have hlen := r'.length
    exact Calls.call_len_list pl.isList (by simp only [List.size_toArray] <;> omega) ⟨.int ys.length, H, I.tok _, ⟨s.toks + 1, by rw [List.size_toArray, hlen]⟩, q⟩
  · obtain ⟨its, r', pl, hz⟩ := I.tuple hq
    have hlen := r'.length
    exact len_tuple pl (by simp only [List.size_toArray] <;> omega) ⟨.int ys.length, H, I.tok _, ⟨s.toks + 1, by rw [List.size_toArray, hlen]⟩, q⟩
theorem call_list_of : CallR X (.type "list") (fun xs H Q => ∃ p ys, xs = [.ref p] ∧ (SqL X.K H p ys ∨ SqT X.K H p ys) ∧ ∀ l, H l = none → Q (.ref l) (upd H l (.lst ys))) := by
  intro pins s σ H xs us Q I r h
  obtain ⟨p, ys, rfl, hq, q⟩ := h
  obtain ⟨u, rfl, rx⟩ := vals1 r
  cases rx
  have fin : ∀ (its : List Value), Vals ys its → ys.length ≤ sizeLine → ∀ (h' : Heap) (c' : Nat), (∀ b o', s.heap.get? b = some o' → h'.get? b = some o') →
      h'.get? s.heap.objs.size = some { cls := .type "list", dict := none, data := .seq its.toArray c', slots := #[] } → EP X pins σ Q (.ref s.heap.objs.size) { s with heap := h' } := fun its r' hz h' c' kp e =>
    ⟨.ref s.heap.objs.size, _, I.laid (t' := s.toks) kp (Nat.le_refl _) (show ObjOk X.prog X.w _ h' _ (.lst ys) from ⟨hz, its, c', r', e⟩), rfl, q _ (I.hok.fresh (Nat.le_refl _))⟩
  rcases hq with hq | hq
  · obtain ⟨its, r', pl, hz⟩ := I.list hq
    have hlen := r'.length
    obtain ⟨o, ho, hc, n, hd⟩ := pl.isList
    exact call_list_seq p (.inl rfl) ho hc hd (fun h' c' kp e => fin its r' hz h' c' kp e) (by simp only [List.size_toArray] <;> omega)
  · obtain ⟨its, r', pl, hz⟩ := I.tuple hq
    have hlen := r'.length
    obtain ⟨o, ho, hc, n, hd⟩ := pl
    exact call_list_seq p (.inr rfl) ho hc hd (fun h' c' kp e => fin its r' hz h' c' kp e) (by simp only [List.size_toArray] <;> omega)
theorem call_tuple_of : CallR X (.type "tuple") (fun xs H Q => ∃ p ys, xs = [.ref p] ∧ ((SqL X.K H p ys ∧ ∀ l, H l = none → Q (.ref l) (upd H l (.tup ys))) ∨ (SqT X.K H p ys ∧ Q (.ref p) H))) := by
  intro pins s σ H xs us Q I r h
  obtain ⟨p, ys, rfl, h⟩ := h
  obtain ⟨u, rfl, rx⟩ := vals1 r
  cases rx
  rcases h with ⟨hq, q⟩ | ⟨hq, q⟩
  · obtain ⟨its, r', pl, hz⟩ := I.list hq
    have hlen := r'.length
    refine call_tuple_list pl.isList (fun h' kp => ?_) (by simp only [List.size_toArray] <;> omega)
    have I1 : Inv X pins σ H { s with heap := h' } := I.kept (t' := s.toks) kp
    have I2 : Inv X pins σ (upd H h'.objs.size (.tup ys)) { s with heap := h'.push { cls := .type "tuple", data := .seq its.toArray } } :=
      I1.laid (t' := s.toks) (fun b o e => Heap.get?_push_of_some _ e) (Nat.le_refl _) (show ObjOk X.prog X.w _ _ _ (.tup ys) from ⟨hz, its, r', IsTup.new _ _⟩)
    exact ⟨.ref h'.objs.size, _, I2, rfl, q _ (I1.hok.fresh (Nat.le_refl _))⟩
  · obtain ⟨its, r', pl, hz⟩ := I.tuple hq
    exact call_tuple_same pl ⟨.ref p, H, I, rfl, q⟩
noncomputable def tyV (K : PySem.W.Frag) (T : String) (x : V) (H : Hp) : Prop := match x with
  | .str _ => T = "str"
  | .int _ => T = "int"
  | .ref p => (T = "list" ∧ ∃ xs, SqL K H p xs) ∨ (T = "tuple" ∧ ∃ o, K.lookup p = some o ∧ o.cls = .type "tuple" ∧ o.dict = none) ∨
      (T = "dict" ∧ ((∃ kvs, H p = some (.dK kvs)) ∨ ∃ kvs, H p = some (.dT kvs))) ∨ (T = "set" ∧ ∃ S n, H p = some (.set S n))
  | _ => False
theorem tyV_is {pins : List (Addr × Obj)} {σ : St} {H : Hp} {s : Shared} {T : String} {x : V} {v : Value} (I : Inv X pins σ H s) (r : RelV x v) (ty : tyV X.K T x H) :
    s.TypeIs v T ∧ ∀ a, v = .ref a → ∃ ob, s.heap.get? a = some ob ∧ ob.dict = none := by
  cases x with
  | str z =>
    obtain ⟨t, rfl⟩ := r
    cases (show T = "str" from ty)
    exact ⟨typeIs_str s z t, fun _ e => nomatch e⟩
  | int i =>
    obtain ⟨t, rfl⟩ := r
    cases (show T = "int" from ty)
    exact ⟨typeIs_int s i t, fun _ e => nomatch e⟩
  | ref p =>
    cases r
    rcases ty with ⟨rfl, xs, hq⟩ | ⟨rfl, o, hk, hc, hd⟩ | ⟨rfl, hk⟩ | ⟨rfl, S, n, hk⟩
    · obtain ⟨its, _, pl, _⟩ := I.list hq
      refine ⟨pl.isList.typeIs, fun a e => ?_⟩
      cases e
      obtain ⟨o, n, e, c, hd, _⟩ := pl
      exact ⟨o, e, hd⟩
    · refine ⟨⟨o, I.kIn p o hk, hc⟩, fun a e => ?_⟩
      cases e
      exact ⟨o, I.kIn _ o hk, hd⟩
    · have z : ∃ o, s.heap.get? p = some o ∧ o.ExactDict := by
        rcases hk with ⟨kvs, hk⟩ | ⟨kvs, hk⟩
        · obtain ⟨_, _, _, _, o, _, _, e, ex, _⟩ := I.hok p _ hk
          exact ⟨o, e, ex⟩
        · obtain ⟨_, _, _, _, o, _, _, e, ex, _⟩ := I.hok p _ hk
          exact ⟨o, e, ex⟩
      obtain ⟨o, e, ex⟩ := z
      refine ⟨⟨o, e, ex.1⟩, fun a e2 => ?_⟩
      cases e2
      exact ⟨o, e, ex.2.1⟩
    · obtain ⟨o, _, _, _, e, ex, _⟩ := I.hok p _ hk
      refine ⟨⟨o, e, ex.1⟩, fun a e2 => ?_⟩
      cases e2
      exact ⟨o, e, ex.2.1⟩
  | _ => exact False.elim ty
noncomputable def tBM0 (K : PySem.W.Frag) (T : String) (r : V → List V → Hp → VK → Prop) (to : TE) : TE := fun σ H Q => to σ H fun x H1 => tyV K T x H1 ∧ r x [] H1 Q
noncomputable def tBM (K : PySem.W.Frag) (T : String) (r : V → List V → Hp → VK → Prop) (to : TE) (t : TA) : TE := fun σ H Q => to σ H fun x H1 => tyV K T x H1 ∧ t σ H1 fun xs H2 => r x xs H2 Q
variable {o e : Expr} {es : List Expr} {to : TE} {t : TA} {name : Str} {apos cpos : Pos} {T id : String} {r : V → List V → Hp → VK → Prop}
theorem pe_bm (pa : PlainAttrs T) (slot : Slot T name id) (hty : typeOf (.builtin id) = pure (.type "method_descriptor")) (hm : MtR X id r) (ho : PE X o to) (ha : PA X (e :: es) t)
    (hbase : attributeBase o name X.env (eval o X.env) = eval o X.env := by rfl)
    (hfew : ((backTo cpos (starEach (e :: es) X.env)).all (fun x => !x.1) && (backToKw cpos (keywordEach [] X.env)).all (fun x => x.1.isSome)
      && decide ((e :: es).length + ([] : List Keyword).length + (if ([] : List Keyword).isEmpty then 0 else 1) < 30)) = true := by rfl)
    (hline : (apos.endLine == cpos.line) = true := by rfl) (hs : starEach (e :: es) X.env = (false, eval e X.env) :: starEach es X.env := by rfl) (hplain : (backTo cpos (starEach es X.env)).any (·.1) = false := by rfl) :
    PE X (.Call (.Attribute o name apos) (e :: es) [] cpos) (tBM X.K T r to t) := by
  intro pins s σ H Q I h
  refine wpAny_Call_method_late hbase hfew hline rfl (thn (ho pins s σ H _ I h) fun v s1 hhx => ?_)
  obtain ⟨x, H1, I1, r1, ty, q1⟩ := hhx
  obtain ⟨h1, h2⟩ := tyV_is I1 r1 ty
  refine ⟨T, id, pa, slot, hty, h1, h2, ?_⟩
  have hA := ha cpos pins s1 σ H1 _ I1 q1
  rw [hs] at hA ⊢
  refine Calls.callWith_builtin (by show (false || (backTo cpos (starEach es X.env)).any (·.1)) = false; rw [hplain] <;> rfl) (Calls.evalArgs_plain ?_)
  exact thn hA fun us s2 ⟨vs, H2, I2, r2, q2⟩ => hm pins s2 σ H2 x vs v us Q I2 r1 r2 q2
/- xs.append(e), list.index on a module's tuple .. are MtR facts of 06m -/
end
end L2
namespace L2
open PySem PySem.Spec PyProof.Rows
noncomputable def MtM (X : Cx) (id : String) (r : V → List V → Hp → VK → Prop) : Prop :=
  ∀ (pins : List (Addr × Obj)) (s : Shared) (σ : St) (H : Hp) (x : V) (xs : List V) (v : Value) (us : List Value) (Q : VK), Inv X pins σ H s → RelV x v → Vals xs us → r x xs H Q →
    wpAny (model X.prog X.w) X.A (call (.builtin id) (v :: us)) (EP X pins σ Q) X.xe s
theorem Vals.one : ∀ {x : V} {us : List Value}, Vals [x] us → ∃ u, us = [u] ∧ RelV x u
  | _, _, .cons r .nil => ⟨_, rfl, r⟩
section
variable {X : Cx} {pins : List (Addr × Obj)} {σ : St} {H : Hp} {s : Shared} {l b : Addr} {xs ys zs : List V}
theorem Inv.lset {its its' : List Value} {n : Nat} {f : Array Value → Array Value} {t' : Nat} (I : Inv X pins σ H s) (hH : H l = some (.lst xs))
    (e : s.heap.get? l = some { cls := .type "list", data := .seq its.toArray n }) (hf : f its.toArray = its'.toArray) (hv : Vals ys its') (hz : ys.length ≤ sizeLine) :
    Inv X pins σ (upd H l (.lst ys)) { s with heap := s.heap.update l (Obj.mapSeq f), toks := t' } := by
  have q := PySem.IsL.update e f
  rw [hf] at q
  refine I.write (x := l) (e := l) (by rw [hH]; exact trivial) (.inl rfl) (fun b' u hb hu => (Heap.get?_update_other s.heap (Obj.mapSeq f) (Ne.symm hb)).trans hu) ⟨_, q⟩ ?_
  exact ⟨hz, its', _, hv, q⟩
theorem Inv.lnew {its : List Value} {t' : Nat} (I : Inv X pins σ H s) (hv : Vals ys its) (hz : ys.length ≤ sizeLine) :
    Inv X pins σ (upd H s.heap.objs.size (.lst ys)) { s with heap := s.heap.push { cls := .type "list", data := .seq its.toArray }, toks := t' } :=
  I.laid (fun _ _ q => Heap.get?_push_of_some _ q) (Nat.le_refl _) ⟨hz, its, 0, hv, Heap.get?_push_size _ rfl⟩
theorem Inv.fresh (I : Inv X pins σ H s) : H s.heap.objs.size = none := I.hok.fresh (Nat.le_refl _)
theorem Inv.lstM (I : Inv X pins σ H s) (hH : H l = some (.lst xs)) : xs.length ≤ sizeLine ∧ ∃ (its : List Value) (n : Nat), Vals xs its ∧ xs.length = its.length ∧ s.heap.get? l = some { cls := .type "list", data := .seq its.toArray n } := by
  obtain ⟨z, its, n, r, e⟩ := I.hok l _ hH
  exact ⟨z, its, n, r, r.length, e⟩
theorem notLongL {n : Nat} (h : n ≤ sizeLine) : Builtin.List.listTooLong n = false := by
  unfold Builtin.List.listTooLong
  exact decide_eq_false (by omega)
end
section
variable {X : Cx}
noncomputable def rAppend : V → List V → Hp → VK → Prop := fun x vs H Q => ∃ l xs y, x = .ref l ∧ vs = [y] ∧ H l = some (.lst xs) ∧ xs.length < sizeLine ∧ Q .non (upd H l (.lst (xs ++ [y])))
theorem mt_append : MtM X "list.append" rAppend := by
  intro pins s σ H x vs v us Q I rx rv h
  obtain ⟨l, xs, y, rfl, rfl, hH, hz, q⟩ := h
  cases rx
  obtain ⟨u, rfl, ru⟩ := rv.one
  obtain ⟨z, its, n, r, hl, e⟩ := I.lstM hH
  refine call_meets F.slot_list_append ⟨_, e, rfl⟩ F.entry_list_append (F.args_list_append_2 _ _) (PySem.list_append l its.toArray n u (by rw [List.size_toArray]; omega)) ⟨e, ?_⟩
  refine ⟨.non, _, I.lset (its' := its ++ [u]) hH e (by simp) (r.append (.cons ru .nil)) ?_, rfl, q⟩
  rw [List.length_append, List.length_singleton]
  omega
noncomputable def rExtend : V → List V → Hp → VK → Prop := fun x vs H Q => ∃ l b xs zs, x = .ref l ∧ vs = [.ref b] ∧ H l = some (.lst xs) ∧ H b = some (.lst zs) ∧ xs.length + zs.length ≤ sizeLine ∧ Q .non (upd H l (.lst (xs ++ zs)))
theorem mt_extend : MtM X "list.extend" rExtend := by
  intro pins s σ H x vs v us Q I rx rv h
  obtain ⟨l, b, xs, zs, rfl, rfl, hH, hB, hz, q⟩ := h
  cases rx
  obtain ⟨u, rfl, ru⟩ := rv.one
  cases ru
  obtain ⟨z, its, n, r, hl, e⟩ := I.lstM hH
  obtain ⟨z2, its2, n2, r2, hl2, e2⟩ := I.lstM hB
  have hsz : its.toArray.size + its2.toArray.size ≤ sizeLine := by rw [List.size_toArray, List.size_toArray]; omega
  have hlong : ¬ (!its.toArray.isEmpty && Builtin.List.listTooLong (its.toArray.size + its2.toArray.size)) = true := by
    rw [notLongL hsz, Bool.and_false]
    exact Bool.false_ne_true
  refine call_meets F.slot_list_extend ⟨_, e, rfl⟩ F.entry_list_extend (F.args_list_extend_2 _ _)
    (AutoSeq1.list_extend_list_list_0 l its.toArray n b its2.toArray n2 hlong (by rw [List.size_toArray]; omega) (by omega)) ⟨e, e2, ?_⟩
  refine ⟨.non, _, I.lset (its' := its ++ its2) hH e (by simp) (r.append r2) ?_, rfl, q⟩
  rw [List.length_append]
  omega
noncomputable def rPop : V → List V → Hp → VK → Prop := fun x vs H Q => ∃ l xs y, x = .ref l ∧ vs = [] ∧ H l = some (.lst xs) ∧ xs[xs.length - 1]? = some y ∧ Q y (upd H l (.lst xs.dropLast))
noncomputable def rPopAt : V → List V → Hp → VK → Prop := fun x vs H Q => ∃ l xs i k y, x = .ref l ∧ vs = [.int i] ∧ H l = some (.lst xs) ∧ -(2 ^ 63) ≤ i ∧ i < 2 ^ 63 ∧ seqIndex? i xs.length = some k ∧ xs[k]? = some y ∧ Q y (upd H l (.lst (xs.eraseIdx k)))
noncomputable def rReverse : V → List V → Hp → VK → Prop := fun x vs H Q => ∃ l xs, x = .ref l ∧ vs = [] ∧ H l = some (.lst xs) ∧ Q .non (upd H l (.lst xs.reverse))
noncomputable def rCat : R2 := fun x y H Q => ∃ l b xs zs, x = .ref l ∧ y = .ref b ∧ H l = some (.lst xs) ∧ H b = some (.lst zs) ∧ xs.length + zs.length ≤ sizeLine ∧ ∀ p, H p = none → Q (.ref p) (upd H p (.lst (xs ++ zs)))
theorem op_cat : OpR X (binaryOp .Add) rCat := by
  intro pins s σ H x y v u Q I rx ry h
  obtain ⟨l, b, xs, zs, rfl, rfl, hH, hB, hz, q⟩ := h
  cases rx
  cases ry
  obtain ⟨z, its, n, r, hl, e⟩ := I.lstM hH
  obtain ⟨z2, its2, n2, r2, hl2, e2⟩ := I.lstM hB
  refine PySem.P.add_list e e2 ?_ (by rw [List.size_toArray, List.size_toArray]; omega)
  have ea : its.toArray ++ its2.toArray = (its ++ its2).toArray := by simp
  rw [ea]
  exact ⟨.ref _, _, I.lnew (t' := s.toks) (r.append r2) (by rw [List.length_append]; omega), rfl, q _ I.fresh⟩
end
section
variable {prog : Program} {w : World} {A : Around} {E : Value → Shared → Prop} {s : Shared}
end
section
variable {X : Cx}
end
end L2
namespace L2
open PySem PySem.Spec PyProof.Rows
section
variable {κ : Type} [DecidableEq κ]
noncomputable def valV (kvs : List (κ × V)) (k : κ) : Option V := (kvs.find? fun kv => decide (kv.1 = k)).map (·.2)
noncomputable def putK (kvs : List (κ × V)) (k : κ) (v : V) : List (κ × V) :=
  if (kvs.any fun kv => decide (kv.1 = k)) = true then kvs.map (fun kv => if kv.1 = k then (kv.1, v) else kv) else kvs ++ [(k, v)]
theorem valV_pos {p : κ × V} {r : List (κ × V)} {k : κ} (e : p.1 = k) : valV (p :: r) k = some p.2 := by simp [valV, List.find?_cons, e]
theorem valV_neg {p : κ × V} {r : List (κ × V)} {k : κ} (e : ¬ p.1 = k) : valV (p :: r) k = valV r k := by simp [valV, List.find?_cons, e]
theorem valV_any (k : κ) : ∀ kvs : List (κ × V), (kvs.any fun kv => decide (kv.1 = k)) = (valV kvs k).isSome
  | [] => rfl
  | p :: r => by
    rw [List.any_cons]
    by_cases e : p.1 = k
    · simp only [valV_pos e, decide_eq_true e, Bool.true_or, Option.isSome_some]
    · rw [valV_neg e, decide_eq_false e, Bool.false_or]; exact valV_any k r
theorem length_putK (kvs : List (κ × V)) (k : κ) (v : V) : (putK kvs k v).length ≤ kvs.length + 1 := by
  unfold putK
  split
  · rw [List.length_map]; omega
  · rw [List.length_append, List.length_cons, List.length_nil]; omega
theorem RelO.isSome_eq {o : Option V} {u : Option Value} (r : RelO o u) : o.isSome = u.isSome := by
  cases o with
  | none => cases u with
    | none => rfl
    | some _ => exact (show False from r).elim
  | some _ => cases u with
    | none => exact (show False from r).elim
    | some _ => rfl
theorem RelO.getD {o : Option V} {u : Option Value} {d : V} {d' : Value} (r : RelO o u) (rd : RelV d d') : RelV (o.getD d) (u.getD d') := by
  cases o with
  | none => cases u with
    | none => exact rd
    | some _ => exact (show False from r).elim
  | some _ => cases u with
    | none => exact (show False from r).elim
    | some _ => exact r
theorem KV.val {kvs : List (κ × V)} {vs : List (κ × Value)} (r : KV kvs vs) (k : κ) : RelO (valV kvs k) (valueAt vs k) := by
  unfold KV at r
  induction r with
  | nil => exact True.intro
  | @cons p q ps qs h t ih =>
    obtain ⟨h1, h2⟩ := h
    by_cases e : p.1 = k
    · have e' : q.1 = k := h1.symm.trans e
      have b : valueAt (q :: qs) k = some q.2 := by simp [valueAt, List.find?_cons, e']
      rw [valV_pos e, b]; exact h2
    · have e' : ¬ q.1 = k := fun z => e (h1.trans z)
      have b : valueAt (q :: qs) k = valueAt qs k := by simp [valueAt, List.find?_cons, e']
      rw [valV_neg e, b]; exact ih
theorem KV.any {kvs : List (κ × V)} {vs : List (κ × Value)} (r : KV kvs vs) (k : κ) : (kvs.any fun kv => decide (kv.1 = k)) = vs.any fun kv => decide (kv.1 = k) := by
  unfold KV at r
  induction r with
  | nil => rfl
  | cons h t ih => rw [List.any_cons, List.any_cons, ih, h.1]
theorem KV.repl {kvs : List (κ × V)} {vs : List (κ × Value)} (r : KV kvs vs) (k : κ) {y : V} {u : Value} (ry : RelV y u) :
    KV (kvs.map fun kv => if kv.1 = k then (kv.1, y) else kv) (vs.map fun kv => if kv.1 = k then (kv.1, u) else kv) := by
  unfold KV at r ⊢
  induction r with
  | nil => exact .nil
  | @cons p q ps qs h t ih =>
    rw [List.map_cons, List.map_cons]
    refine .cons ?_ ih
    obtain ⟨h1, h2⟩ := h
    by_cases e : p.1 = k
    · rw [if_pos e, if_pos (h1.symm.trans e)]; exact ⟨h1, ry⟩
    · rw [if_neg e, if_neg (fun z => e (h1.trans z))]; exact ⟨h1, h2⟩
theorem KV.put {kvs : List (κ × V)} {vs : List (κ × Value)} (r : KV kvs vs) (k : κ) {y : V} {u : Value} (ry : RelV y u) : KV (putK kvs k y) (stored vs k u) := by
  unfold putK stored
  rw [r.any k]
  by_cases e : (vs.any fun kv => decide (kv.1 = k)) = true
  · rw [if_pos e, if_pos e]; exact r.repl k ry
  · rw [if_neg e, if_neg e]; exact Paired.snoc r ⟨rfl, ry⟩
theorem KV.keys {kvs : List (κ × V)} {vs : List (κ × Value)} (r : KV kvs vs) : kvs.map (·.1) = vs.map (·.1) := by
  unfold KV at r
  induction r with
  | nil => rfl
  | cons h t ih => rw [List.map_cons, List.map_cons, ih, h.1]
theorem KV.length {kvs : List (κ × V)} {vs : List (κ × Value)} (r : KV kvs vs) : kvs.length = vs.length := Paired.length r
end
theorem kV_is {P : Program} {w : World} {k : Key} {u : Value} (r : RelV (kV k) u) : (mixKind P w).is k u = true := by
  cases k with
  | inl i => obtain ⟨t, e⟩ := (show ∃ t, u = Value.int i t from r); subst e; exact mixKind_int P w i t
  | inr x => obtain ⟨t, e⟩ := (show ∃ t, u = Value.str x t from r); subst e; exact mixKind_str P w x t
theorem items_are {P : Program} {w : World} : ∀ {ks : List Key} {us : List Value}, Vals (ks.map kV) us → ItemsAre (mixKind P w) ks us
  | [], _, r => by rw [List.map_nil] at r; cases r; exact .nil
  | k :: ks, _, r => by
    rw [List.map_cons] at r
    cases r with
    | cons h t => exact .cons (kV_is h) (items_are t)
noncomputable abbrev KT (H : Hp) : List (List Key × V) → List (List Key × Addr × Value) → Prop := Paired fun p q => p.1 = q.1 ∧ H q.2.1 = some (.tup (p.1.map kV)) ∧ RelV p.2 q.2.2
theorem KT.val {H : Hp} {kvs : List (List Key × V)} {xs : List (List Key × Addr × Value)} (r : KT H kvs xs) (k : List Key) : RelO (valV kvs k) ((atKey xs k).map (·.2)) := by
  induction r with
  | nil => exact True.intro
  | @cons p q ps qs h t ih =>
    obtain ⟨h1, _, h2⟩ := h
    by_cases e : p.1 = k
    · have e' : q.1 = k := h1.symm.trans e
      have b : atKey (q :: qs) k = some q.2 := by simp [atKey, List.find?_cons, e']
      rw [valV_pos e, b]; exact h2
    · have e' : ¬ q.1 = k := fun z => e (h1.trans z)
      have b : atKey (q :: qs) k = atKey qs k := by simp [atKey, List.find?_cons, e']
      rw [valV_neg e, b]; exact ih
theorem KT.repl {H : Hp} {kvs : List (List Key × V)} {xs : List (List Key × Addr × Value)} (r : KT H kvs xs) (k : List Key) {y : V} {u : Value} (ry : RelV y u) :
    KT H (kvs.map fun kv => if kv.1 = k then (kv.1, y) else kv) (xs.map (putAt k u)) := by
  induction r with
  | nil => exact .nil
  | @cons p q ps qs h t ih =>
    rw [List.map_cons, List.map_cons]
    refine .cons ?_ ih
    obtain ⟨h1, h2, h3⟩ := h
    unfold putAt
    by_cases e : p.1 = k
    · rw [if_pos e, if_pos (h1.symm.trans e)]; exact ⟨h1, h2, ry⟩
    · rw [if_neg e, if_neg (fun z => e (h1.trans z))]; exact ⟨h1, h2, h3⟩
theorem KT.put {H : Hp} {kvs : List (List Key × V)} {xs : List (List Key × Addr × Value)} (r : KT H kvs xs) (k : List Key) {b : Addr} {y : V} {u : Value} (hb : H b = some (.tup (k.map kV))) (ry : RelV y u) :
    KT H (putK kvs k y) (storedH xs k b u) := by
  have e : (kvs.any fun kv => decide (kv.1 = k)) = (atKey xs k).isSome := by
    rw [valV_any, (r.val k).isSome_eq, Option.isSome_map]
  unfold putK storedH
  rw [e]
  by_cases q : (atKey xs k).isSome = true
  · rw [if_pos q, if_pos q]; exact r.repl k ry
  · rw [if_neg q, if_neg q]; exact Paired.snoc r ⟨rfl, hb, ry⟩
theorem KT.keeps {H H' : Hp} {kvs : List (List Key × V)} {xs : List (List Key × Addr × Value)} (r : KT H kvs xs) (ht : ∀ b ys, H b = some (.tup ys) → H' b = some (.tup ys)) : KT H' kvs xs :=
  Paired.mapP r fun _ _ z => ⟨z.1, ht _ _ z.2.1, z.2.2⟩
section
variable {P : Program} {w : World} {H : Hp} {h : Heap} {a : Addr}
theorem rd_of {u : HO} (ok : HOk P w H h) (e : Rd H a u) : ObjOk P w H h a u := e.ok ok
theorem dk_rd {kvs : List (Key × V)} (ok : HOk P w H h) (e : Rd H a (.dK kvs)) : kvs.length ≤ sizeLine ∧ (a == sysModules) = false ∧ ∃ vs, KV kvs vs ∧ h.DictOf (mixKind P w) a vs :=
  show ObjOk P w H h a (.dK kvs) from rd_of ok e
theorem dk_of {kvs : List (Key × V)} (ok : HOk P w H h) (e : H a = some (.dK kvs)) : kvs.length ≤ sizeLine ∧ (a == sysModules) = false ∧ ∃ vs, KV kvs vs ∧ h.DictOf (mixKind P w) a vs := dk_rd ok (.inl e)
theorem key_of {ks : List Key} (ok : HOk P w H h) (e : H a = some (.tup (ks.map kV))) : (tupleKind (mixKind P w)).is h ks a := by
  obtain ⟨_, its, r, o, h1, h2, n, h3⟩ := (show ObjOk P w H h a (.tup (ks.map kV)) from ok a _ e)
  exact ⟨o, its.toArray, n, h1, h2, h3, by simpa using items_are r⟩
theorem dt_rd {kvs : List (List Key × V)} (ok : HOk P w H h) (e : Rd H a (.dT kvs)) : kvs.length ≤ sizeLine ∧ (a == sysModules) = false ∧
    ∃ xs, KT H kvs xs ∧ h.DictOfH (tupleKind (mixKind P w)) a xs := by
  obtain ⟨z, y, xs, r, o, es, ep, h1, h2, h3, h4, h5⟩ := (show ObjOk P w H h a (.dT kvs) from rd_of ok e)
  refine ⟨z, y, xs, r, o, es, ep, h1, h2, h3, h4, fun x hx => ?_, h5⟩
  have all : ∀ {l : List (List Key × V)} {m : List (List Key × Addr × Value)}, KT H l m → ∀ x ∈ m, (tupleKind (mixKind P w)).is h x.1 x.2.1 := by
    intro l m q
    induction q with
    | nil => intro x hx; exact nomatch hx
    | @cons p q ps qs hq t ih =>
      intro x hx
      rcases List.mem_cons.mp hx with e | hx
      · subst e
        exact key_of ok (by rw [← hq.1]; exact hq.2.1)
      · exact ih x hx
  exact all r x hx
theorem dt_of {kvs : List (List Key × V)} (ok : HOk P w H h) (e : H a = some (.dT kvs)) : kvs.length ≤ sizeLine ∧ (a == sysModules) = false ∧
    ∃ xs, KT H kvs xs ∧ h.DictOfH (tupleKind (mixKind P w)) a xs := dt_rd ok (.inl e)
end
noncomputable def DGet (H : Hp) (a : Addr) (y : V) (r : Option V) : Prop :=
  (∃ kvs k, Rd H a (.dK kvs) ∧ y = kV k ∧ r = valV kvs k) ∨ ∃ kvs k b, Rd H a (.dT kvs) ∧ y = .ref b ∧ H b = some (.tup (k.map kV)) ∧ r = valV kvs k
noncomputable def DPut (H : Hp) (a : Addr) (y v : V) (H' : Hp) : Prop :=
  (∃ kvs k, H a = some (.dK kvs) ∧ y = kV k ∧ kvs.length < sizeLine ∧ H' = upd H a (.dK (putK kvs k v))) ∨
  ∃ kvs k b, H a = some (.dT kvs) ∧ y = .ref b ∧ H b = some (.tup (k.map kV)) ∧ kvs.length < sizeLine ∧ H' = upd H a (.dT (putK kvs k v))
theorem DGet.t {H : Hp} {a b : Addr} {kvs : List (List Key × V)} {k : List Key} (e : H a = some (.dT kvs)) (eb : H b = some (.tup (k.map kV))) : DGet H a (.ref b) (valV kvs k) := .inr ⟨kvs, k, b, .inl e, rfl, eb, rfl⟩
theorem DPut.k {H : Hp} {a : Addr} {kvs : List (Key × V)} {k : Key} {v : V} (e : H a = some (.dK kvs)) (hl : kvs.length < sizeLine) : DPut H a (kV k) v (upd H a (.dK (putK kvs k v))) := .inl ⟨kvs, k, e, rfl, hl, rfl⟩
section
variable {X : Cx} {pins : List (Addr × Obj)} {σ : St} {H : Hp} {s : Shared} {a : Addr} {y v : V} {u r : Value} {o : Option V} {A : Around} {E : Value → Shared → Prop}
theorem Inv.big (I : Inv X pins σ H s) : sysModules < s.heap.objs.size := by
  have h : mainGlobals < s.heap.objs.size := (I.mod.glob.keeps I.bk).lt
  exact Nat.lt_trans (by decide) h
theorem d_getItem {Q : Value → Shared → Prop} (hu : A.units + 1 < cLine) (I : Inv X pins σ H s) (g : DGet H a y (some v)) (ry : RelV y u) (h : ∀ w' s', Inv X pins σ H s' → RelV v w' → Q w' s') :
    wpAny (model X.prog X.w) A (getItem (.ref a) u) Q E s := by
  rcases g with ⟨kvs, k, e, ey, l⟩ | ⟨kvs, k, b, e, ey, eb, l⟩
  · subst ey
    obtain ⟨z, hd, vs, rel, dd⟩ := dk_rd I.hok e
    obtain ⟨w', hw, rw'⟩ := RelO.some_of (v := v) (o := valueAt vs k) (by rw [l]; exact rel.val k)
    exact wpAny_getItem_of (kV_is ry) dd.mapOf hw (h w' _ (I.tok _) rw')
  · subst ey
    cases (show u = Value.ref b from ry)
    obtain ⟨z, hd, xs, rel, dd⟩ := dt_rd I.hok e
    obtain ⟨w', hw, rw'⟩ := RelO.some_of (v := v) (o := (atKey xs k).map (·.2)) (by rw [l]; exact rel.val k)
    obtain ⟨p, hp, hp2⟩ := Option.map_eq_some_iff.mp hw
    refine wpAny_getItem_heap (tupleKind_room_in1 hu) (key_of I.hok eb) dd hp ?_
    rw [hp2]
    exact h w' _ (I.tok _) rw'
theorem d_in {Q : Value → Shared → Prop} (hu : A.units + 1 < cLine) (I : Inv X pins σ H s) (g : DGet H a y o) (ry : RelV y u) (h : ∀ s', Inv X pins σ H s' → Q (.bool o.isSome) s') :
    wpAny (model X.prog X.w) A (compareOp .In u (.ref a)) Q E s := by
  rcases g with ⟨kvs, k, e, ey, l⟩ | ⟨kvs, k, b, e, ey, eb, l⟩
  · subst ey
    obtain ⟨z, hd, vs, rel, dd⟩ := dk_rd I.hok e
    refine wpAny_in_of (kV_is ry) hd dd.mapOf ?_
    rw [← (rel.val k).isSome_eq, ← l]
    exact h _ (I.tok _)
  · subst ey
    cases (show u = Value.ref b from ry)
    obtain ⟨z, hd, xs, rel, dd⟩ := dt_rd I.hok e
    refine wpAny_in_heap (tupleKind_room_in1 hu) (key_of I.hok eb) hd dd ?_
    have q := (rel.val k).isSome_eq
    rw [Option.isSome_map] at q
    rw [← q, ← l]
    exact h _ (I.tok _)
theorem d_notIn {Q : Value → Shared → Prop} (hu : A.units + 1 < cLine) (I : Inv X pins σ H s) (g : DGet H a y o) (ry : RelV y u) (h : ∀ s', Inv X pins σ H s' → Q (.bool (!o.isSome)) s') :
    wpAny (model X.prog X.w) A (compareOp .NotIn u (.ref a)) Q E s := by
  rcases g with ⟨kvs, k, e, ey, l⟩ | ⟨kvs, k, b, e, ey, eb, l⟩
  · subst ey
    obtain ⟨z, hd, vs, rel, dd⟩ := dk_rd I.hok e
    refine wpAny_notIn_of (kV_is ry) hd dd.mapOf ?_
    rw [← (rel.val k).isSome_eq, ← l]
    exact h _ (I.tok _)
  · subst ey
    cases (show u = Value.ref b from ry)
    obtain ⟨z, hd, xs, rel, dd⟩ := dt_rd I.hok e
    refine wpAny_notIn_heap (tupleKind_room_in1 hu) (key_of I.hok eb) hd dd ?_
    have q := (rel.val k).isSome_eq
    rw [Option.isSome_map] at q
    rw [← q, ← l]
    exact h _ (I.tok _)
theorem d_write {h' : Heap} {t' : Nat} {ob : HO} (I : Inv X pins σ H s) (mu : Mut (H a)) (hs : Heap.SameBut a s.heap h') (he : ∃ q, h'.get? a = some q) (new : ObjOk X.prog X.w (upd H a ob) h' a ob) :
    Inv X pins σ (upd H a ob) { s with heap := h', toks := t' } :=
  I.write (x := a) (e := a) mu (.inl rfl) (fun b q hb z => (hs.2 b hb).trans z) he new
theorem dk_new {P : Program} {w : World} {H' : Hp} {h' : Heap} {kvs : List (Key × V)} {vs : List (Key × Value)} (z : kvs.length ≤ sizeLine) (hd : (a == sysModules) = false) (rel : KV kvs vs) (dd : h'.DictOf (mixKind P w) a vs) :
    ObjOk P w H' h' a (.dK kvs) := ⟨z, hd, vs, rel, dd⟩
theorem d_setItem {H' : Hp} {Q : Unit → Shared → Prop} (hu : A.units + 1 < cLine) (I : Inv X pins σ H s) (g : DPut H a y v H') (ry : RelV y u) (rv : RelV v r) (h : ∀ s', Inv X pins σ H' s' → Q () s') :
    wpAny (model X.prog X.w) A (setItem (.ref a) u r) Q E s := by
  rcases g with ⟨kvs, k, e, ey, l, eH⟩ | ⟨kvs, k, b, e, ey, eb, l, eH⟩
  · subst ey eH
    obtain ⟨z, hd, vs, rel, dd⟩ := dk_of I.hok e
    have hz : vs.length ≤ sizeLine := by rw [← rel.length]; exact z
    have hl : (putK kvs k v).length ≤ sizeLine := by have := length_putK kvs k v; omega
    refine wpAny_setItem_pairs (hsz := hz) (kV_is ry) dd fun h' dd' hs => h _ ?_
    have he : ∃ q, h'.get? a = some q := let ⟨q, _, _, hq, _⟩ := dd'; ⟨q, hq⟩
    exact d_write I (by rw [e]; exact True.intro) hs he (dk_new hl hd (rel.put k rv) dd')
  · subst ey eH
    cases (show u = Value.ref b from ry)
    obtain ⟨z, hd, xs, rel, dd⟩ := dt_of I.hok e
    have hz : xs.length ≤ sizeLine := by rw [← Paired.length rel]; exact z
    have hl : (putK kvs k v).length ≤ sizeLine := by have := length_putK kvs k v; omega
    refine wpAny_setItem_heap (hsz := hz) (tupleKind_room_in1 hu) (key_of I.hok eb) dd fun h' dd' hs => h _ ?_
    obtain ⟨q, es, ep, hq, h2, h3, h4, _, h5⟩ := dd'
    refine d_write I (by rw [e]; exact True.intro) hs ⟨q, hq⟩ ⟨hl, hd, _, (rel.put k eb rv).keeps fun c ys ec => ?_, q, es, ep, hq, h2, h3, h4, h5⟩
    rw [upd_ne (ne_of ec e (fun z => nomatch z))]
    exact ec
end
section
variable {X : Cx} {pins : List (Addr × Obj)} {σ : St} {H : Hp} {s : Shared} {a : Addr} {kvs : List (Key × V)} {k : Key} {u : Value} {A : Around} {E : Value → Shared → Prop}
theorem d_len {Q : Value → Shared → Prop} (I : Inv X pins σ H s) (e : Rd H a (.dK kvs)) (h : ∀ t s', Inv X pins σ H s' → Q (.int kvs.length t) s') : wpAny (model X.prog X.w) A (call (.builtin "len") [.ref a]) Q E s := by
  obtain ⟨z, hd, vs, rel, dd⟩ := dk_rd I.hok e
  refine call_len_dict hd dd (by rw [← rel.length]; rw [sizeLine_eq] at z; omega) ?_
  rw [← rel.length]
  exact h _ _ (I.tok _)
end
noncomputable def NoSl (i : Expr) : Prop := ∀ ov iv, subscripted i false ov iv = operate [ov, iv] (getItem ov iv)
theorem subD_of {prog : Program} {w : World} {A : Around} {E : Value → Shared → Prop} {s : Shared} {env : Env} {value slice : Expr} {pos : Pos} {T id : String} {Q : Value → Shared → Prop}
    (hl : typeLookup (.type T) "__getitem__" = pure (some (.builtin id))) (hs : NoSl slice)
    (h : wpAny (model prog w) A (eval value env) (fun o s₁ => wpAny (model prog w) A (eval slice env) (fun i s₂ => s₂.TypeIs o T ∧ wpAny (model prog w) A (getItem o i) Q E s₂) E s₁) E s) :
    wpAny (model prog w) A (eval (.Subscript value slice pos) env) Q E s := by
  refine Subscript_ (wpAny_mono h (fun o s₁ h₁ => wpAny_mono h₁ (fun i s₂ h₂ => ?_) fun _ _ x => x) fun _ _ x => x)
  obtain ⟨hT, h₂⟩ := h₂
  unfold subscriptTail
  refine wpAny_bind ?_
  rw [getitemInPython_of_ne hT.not_modules]
  refine wpAny_bind (wpAny_specialOf hT hl ?_)
  have fin : wpAny (model prog w) A (subscripted slice false o i) (fun r s₃ => wpAny (model prog w) A (letTemporaryGo value o r >>= fun _ => pure r) Q E s₃) E s₂ := by
    rw [hs o i]
    exact wpAny_operating (wpAny_mono h₂ (fun r s₃ h₃ => wpAny_bind (wpAny_letTemporaryGo (wpAny_pure h₃))) fun _ _ x => x)
  first
    | exact wpAny_pure (wpAny_bind fin)
    | exact wpAny_bind (wpAny_pure (wpAny_bind fin))
    | exact wpAny_bind fin
theorem dict_typeIs {X : Cx} {pins : List (Addr × Obj)} {σ : St} {H : Hp} {s : Shared} {a : Addr} {y : V} {o : Option V} (I : Inv X pins σ H s) (g : DGet H a y o) : s.TypeIs (.ref a) "dict" := by
  rcases g with ⟨kvs, k, e, _, _⟩ | ⟨kvs, k, b, e, _, _, _⟩
  · obtain ⟨_, _, vs, _, dd⟩ := dk_rd I.hok e
    exact dd.typeIs
  · obtain ⟨_, _, xs, _, dd⟩ := dt_rd I.hok e
    exact dd.typeIs
noncomputable def tDGet (td ty : TE) : TE := fun σ H Q => td σ H fun x H1 => ty σ H1 fun y H2 => ∃ a v, x = .ref a ∧ DGet H2 a y (some v) ∧ Q v H2
noncomputable def tDIn (ty td : TE) : TE := fun σ H Q => ty σ H fun y H1 => td σ H1 fun x H2 => ∃ a o, x = .ref a ∧ DGet H2 a y o ∧ Q (.bl o.isSome) H2
noncomputable def tDNotIn (ty td : TE) : TE := fun σ H Q => ty σ H fun y H1 => td σ H1 fun x H2 => ∃ a o, x = .ref a ∧ DGet H2 a y o ∧ Q (.bl (!o.isSome)) H2
noncomputable def sDPut (td ty tv : TE) : TS := fun D σ H => tv σ H fun v H1 => td σ H1 fun x H2 => ty σ H2 fun y H3 => ∃ a H4, x = .ref a ∧ DPut H3 a y v H4 ∧ D.nx σ H4
section
variable {X : Cx} {o i e value : Expr} {pos pos' tpos : Pos} {td ty tv : TE}
theorem pe_dget (hu : X.A.units + 1 < cLine) (ho : PE X o td) (hi : PE X i ty) (hs : NoSl i) : PE X (.Subscript o i pos) (tDGet td ty) := by
  intro pins s σ H Q I h
  refine subD_of PySem.F.slot_dict_getitem.lookup hs (thn (ho pins s σ H _ I h) fun u s1 ⟨x, H1, I1, rx, q1⟩ => thn (hi pins s1 σ H1 _ I1 q1) fun iv s2 hhx => ?_)
  obtain ⟨y, H2, I2, ry, a, v, ex, g, q2⟩ := hhx
  subst ex
  obtain rfl : u = Value.ref a := rx
  exact ⟨dict_typeIs I2 g, d_getItem hu I2 g ry fun w' s3 I3 rw' => ⟨v, H2, I3, rw', q2⟩⟩
theorem pc_din (hu : X.A.units + 1 < cLine) (hi : PE X i ty) (ho : PE X o td) : PC X .In i o (tDIn ty td) := by
  intro pins s σ H Q I h
  refine thn (hi pins s σ H _ I h) fun iv s1 ⟨y, H1, I1, ry, q1⟩ => thn (ho pins s1 σ H1 _ I1 q1) fun u s2 hhx => ?_
  obtain ⟨x, H2, I2, rx, a, ov, ex, g, q2⟩ := hhx
  subst ex
  obtain rfl : u = Value.ref a := rx
  exact d_in hu I2 g ry fun s3 I3 => ⟨.bl ov.isSome, H2, I3, rfl, q2⟩
theorem pc_dnotin (hu : X.A.units + 1 < cLine) (hi : PE X i ty) (ho : PE X o td) : PC X .NotIn i o (tDNotIn ty td) := by
  intro pins s σ H Q I h
  refine thn (hi pins s σ H _ I h) fun iv s1 ⟨y, H1, I1, ry, q1⟩ => thn (ho pins s1 σ H1 _ I1 q1) fun u s2 hhx => ?_
  obtain ⟨x, H2, I2, rx, a, ov, ex, g, q2⟩ := hhx
  subst ex
  obtain rfl : u = Value.ref a := rx
  exact d_notIn hu I2 g ry fun s3 I3 => ⟨.bl (!ov.isSome), H2, I3, rfl, q2⟩
theorem ps_dput (hu : X.A.units + 1 < cLine) (ho : PE X o td) (hi : PE X i ty) (hv : PE X value tv) (hs : swapsWith value (some (.Subscript o i pos')) pos.line X.env = pure false) :
    PS X (.Assign [.Subscript o i pos'] value pos) (sDPut td ty tv) := by
  intro pins s σ H D I h
  refine wpAny_Assign_Subscript (thn (hv pins s σ H _ I h) fun r s1 ⟨v, H1, I1, rv, q1⟩ => thn (ho pins s1 σ H1 _ I1 q1) fun u s2 ⟨x, H2, I2, rx, q2⟩ => thn (hi pins s2 σ H2 _ I2 q2) fun iv s3 hhx => ?_) hs
  obtain ⟨y, H3, I3, ry, a, H4, ex, g, q3⟩ := hhx
  subst ex
  obtain rfl : u = Value.ref a := rx
  exact d_setItem hu I3 g ry rv fun s4 I4 => ⟨σ, H4, I4, q3⟩
end
theorem dk_empty {P : Program} {w : World} {H : Hp} (h : Heap) (hb : sysModules < h.objs.size) : ObjOk P w H (h.push { cls := .type "dict", data := .dict #[] }) h.objs.size (.dK []) :=
  ⟨Nat.zero_le _, beq_eq_false_iff_ne.mpr (Ne.symm (Nat.ne_of_lt hb)), [], .nil, Heap.DictOf.new h⟩
theorem dt_empty {P : Program} {w : World} {H : Hp} (h : Heap) (hb : sysModules < h.objs.size) : ObjOk P w H (h.push { cls := .type "dict", data := .dict #[] }) h.objs.size (.dT []) :=
  ⟨Nat.zero_le _, beq_eq_false_iff_ne.mpr (Ne.symm (Nat.ne_of_lt hb)), [], .nil, _, #[], 0, Heap.get?_push_size _ rfl, ⟨rfl, rfl, rfl⟩, rfl, rfl, List.nodup_nil⟩
noncomputable def tDNewK : TE := fun _ H Q => ∀ p, H p = none → Q (.ref p) (upd H p (.dK []))
noncomputable def tDNewT : TE := fun _ H Q => ∀ p, H p = none → Q (.ref p) (upd H p (.dT []))
section
variable {X : Cx} {pos : Pos}
theorem pe_dnewK : PE X (.Dict [] [] pos) tDNewK := fun pins s σ H Q I h =>
  wpAny_Dict_empty ⟨.ref s.heap.objs.size, _, I.laid (a := s.heap.objs.size) (o := .dK []) (t' := s.toks) (fun _ _ q => Heap.get?_push_of_some _ q) (Nat.le_refl _) (dk_empty s.heap I.big), rfl, h _ (I.hok.fresh (Nat.le_refl _))⟩
theorem pe_dnewT : PE X (.Dict [] [] pos) tDNewT := fun pins s σ H Q I h =>
  wpAny_Dict_empty ⟨.ref s.heap.objs.size, _, I.laid (a := s.heap.objs.size) (o := .dT []) (t' := s.toks) (fun _ _ q => Heap.get?_push_of_some _ q) (Nat.le_refl _) (dt_empty s.heap I.big), rfl, h _ (I.hok.fresh (Nat.le_refl _))⟩
end
noncomputable def tPairs : List (TE × TE) → St → Hp → (List (V × V) → Hp → Prop) → Prop
  | [], _, H, Q => Q [] H
  | (tk, tv) :: r, σ, H, Q => tk σ H fun x H1 => tv σ H1 fun y H2 => tPairs r σ H2 fun ps H3 => Q ((x, y) :: ps) H3
noncomputable abbrev VV : List (V × V) → List (Value × Value) → Prop := Paired fun p q => RelV p.1 q.1 ∧ RelV p.2 q.2
noncomputable def PPs (X : Cx) (pos : Pos) (keys : List (Option Expr)) (values : List Expr) (trs : List (TE × TE)) : Prop :=
  ∀ (pins : List (Addr × Obj)) (s : Shared) (σ : St) (H : Hp) (Q : List (V × V) → Hp → Prop), Inv X pins σ H s → tPairs trs σ H Q →
    wpAny (model X.prog X.w) X.A (evalPairs (pairTrees keys values X.env pos)) (fun vs s' => ∃ ps H', Inv X pins σ H' s' ∧ VV ps vs ∧ Q ps H') X.xe s
theorem pps_nil {X : Cx} {pos : Pos} : PPs X pos [] [] [] := fun pins s σ H Q I h => pairTrees_nil_walk ⟨[], H, I, .nil, h⟩
theorem pps_cons {X : Cx} {pos : Pos} {k v : Expr} {ks : List (Option Expr)} {vs : List Expr} {tk tv : TE} {trs : List (TE × TE)} (hk : PE X k tk) (hv : PE X v tv) (hr : PPs X pos ks vs trs) :
    PPs X pos (some k :: ks) (v :: vs) ((tk, tv) :: trs) := fun pins s σ H Q I h =>
  pairTrees_cons_walk (thn (hk pins s σ H _ I h) fun u s1 ⟨x, H1, I1, rx, q1⟩ => thn (hv pins s1 σ H1 _ I1 q1) fun w2 s2 ⟨y, H2, I2, ry, q2⟩ =>
    thn (hr pins s2 σ H2 _ I2 q2) fun ws s3 ⟨ps, H3, I3, rel, q3⟩ => ⟨(x, y) :: ps, H3, I3, .cons ⟨rx, ry⟩ rel, q3⟩)
noncomputable def mergeK (kvs more : List (Key × V)) : List (Key × V) := more.foldl (fun acc kv => putK acc kv.1 kv.2) kvs
theorem KV.merge : ∀ {more : List (Key × V)} {rs : List (Key × Value)} {kvs : List (Key × V)} {vs : List (Key × Value)}, KV more rs → KV kvs vs → KV (mergeK kvs more) (merged vs rs) := by
  intro more rs kvs vs r
  unfold KV at r
  induction r generalizing kvs vs with
  | nil => intro q; exact q
  | @cons p q ps qs h t ih =>
    intro r0
    have e : KV (putK kvs p.1 p.2) (stored vs q.1 q.2) := by
      have := r0.put p.1 h.2
      rw [← h.1]; exact this
    exact ih e
theorem length_mergeK : ∀ (more kvs : List (Key × V)), (mergeK kvs more).length ≤ kvs.length + more.length
  | [], kvs => by show kvs.length ≤ kvs.length + 0; omega
  | p :: r, kvs => by
    have h1 := length_mergeK r (putK kvs p.1 p.2)
    have h2 := length_putK kvs p.1 p.2
    show (mergeK (putK kvs p.1 p.2) r).length ≤ _
    rw [List.length_cons]; omega
theorem carries_of {P : Program} {w : World} : ∀ {kvs : List (Key × V)} {ws : List (Value × Value)}, VV (kvs.map fun kv => (kV kv.1, kv.2)) ws → ∃ rs, Carries (mixKind P w) ws rs ∧ KV kvs rs
  | [], _, r => by rw [List.map_nil] at r; cases r; exact ⟨[], True.intro, .nil⟩
  | p :: kvs, _, r => by
    rw [List.map_cons] at r
    cases r with
    | @cons a b as bs h t =>
      obtain ⟨rs, c, q⟩ := carries_of (P := P) (w := w) t
      obtain ⟨b1, b2⟩ := b
      exact ⟨(p.1, b2) :: rs, ⟨kV_is h.1, rfl, c⟩, .cons ⟨rfl, h.2⟩ q⟩
noncomputable def tDisp (trs : List (TE × TE)) : TE := fun σ H Q => ∀ p, H p = none → tPairs trs σ (upd H p (.dK [])) fun ps H2 => H2 p = some (.dK []) ∧ ∃ kvs : List (Key × V), ps = kvs.map (fun kv => (kV kv.1, kv.2)) ∧ kvs.length ≤ 15 ∧ Q (.ref p) (upd H2 p (.dK (mergeK [] kvs)))
theorem pe_disp {X : Cx} {pos : Pos} {keys : List (Option Expr)} {values : List Expr} {trs : List (TE × TE)} (h : PPs X pos keys values trs) (hall : keys.all (·.isSome) = true) (hl : keys.length = values.length) (h0 : keys ≠ [])
    (h15 : keys.length ≤ 15) : PE X (.Dict keys values pos) (tDisp trs) := by
  intro pins s σ H Q I q
  have hn := I.hok.fresh (Nat.le_refl s.heap.objs.size)
  have I1 := I.laid (a := s.heap.objs.size) (o := .dK []) (h' := s.heap.push { cls := .type "dict", data := .dict #[] }) (t' := s.toks) (fun _ _ q => Heap.get?_push_of_some _ q) (Nat.le_refl _) (dk_empty s.heap I.big)
  refine wpAny_Dict_walk (knd := mixKind X.prog X.w) hall hl h0 h15 (thn (h pins _ σ _ _ I1 (q _ hn)) fun ws s2 hhx => ?_)
  obtain ⟨ps, H2, I2, rel, e, kvs, ep, lk, q2⟩ := hhx
  subst ep
  obtain ⟨rs, c, rk⟩ := carries_of (P := X.prog) (w := X.w) rel
  obtain ⟨z, hd, vs0, r0, dd⟩ := dk_of I2.hok e
  cases r0
  refine ⟨rs, c, dd, fun h' dd' hs => ⟨.ref s.heap.objs.size, _, ?_, rfl, q2⟩⟩
  have hz : (mergeK [] kvs).length ≤ sizeLine := by
    have h1 := length_mergeK kvs []
    rw [List.length_nil] at h1
    rw [sizeLine_eq]; omega
  have he : ∃ q, h'.get? s.heap.objs.size = some q := let ⟨q, _, _, hq, _⟩ := dd'; ⟨q, hq⟩
  exact d_write I2 (by rw [e]; exact True.intro) hs he (dk_new hz hd (rk.merge .nil) dd')
structure M1 (X : Cx) (o : Expr) (m : Str) (apos : Pos) (e : Expr) (cpos : Pos) : Prop where
  base : attributeBase o m X.env (eval o X.env) = eval o X.env
  few : ((backTo cpos (starEach [e] X.env)).all (fun x => !x.1) && (backToKw cpos (keywordEach [] X.env)).all (fun x => x.1.isSome)
    && decide (([e] : List Expr).length + ([] : List Keyword).length + (if ([] : List Keyword).isEmpty then 0 else 1) < 30)) = true
  line : (apos.endLine == cpos.line) = true
  trees : backTo cpos (starEach [e] X.env) = [(false, eval e X.env)]
noncomputable def IsD (H : Hp) (a : Addr) : Prop := (∃ kvs, Rd H a (.dK kvs)) ∨ ∃ kvs, Rd H a (.dT kvs)
theorem isD_at {X : Cx} {pins : List (Addr × Obj)} {σ : St} {H : Hp} {s : Shared} {a : Addr} (I : Inv X pins σ H s) (d : IsD H a) :
    s.TypeIs (.ref a) "dict" ∧ (∀ b, Value.ref a = .ref b → ∃ ob, s.heap.get? b = some ob ∧ ob.dict = none) ∧ (a == sysModules) = false := by
  rcases d with ⟨kvs, e⟩ | ⟨kvs, e⟩
  · obtain ⟨_, hd, vs, _, dd⟩ := dk_rd I.hok e
    refine ⟨dd.typeIs, fun b q => ?_, hd⟩
    cases q
    obtain ⟨ob, _, _, h1, h2, _⟩ := dd
    exact ⟨ob, h1, h2.2.1⟩
  · obtain ⟨_, hd, xs, _, dd⟩ := dt_rd I.hok e
    refine ⟨dd.typeIs, fun b q => ?_, hd⟩
    cases q
    obtain ⟨ob, _, _, h1, h2, _⟩ := dd
    exact ⟨ob, h1, h2.2.1⟩
section
variable {X : Cx} {pins : List (Addr × Obj)} {σ : St} {H : Hp} {s : Shared} {a : Addr} {y d : V} {u r : Value} {o : Option V} {A : Around} {E : Value → Shared → Prop}
end
section
variable {X : Cx} {o e f : Expr} {apos cpos : Pos} {td ty tx : TE}
end
section
variable {X : Cx} {pins : List (Addr × Obj)} {σ : St} {H : Hp} {s : Shared} {a : Addr} {kvs : List (Key × V)} {A : Around} {E : Value → Shared → Prop}
end
section
variable {X : Cx} {pins : List (Addr × Obj)} {σ : St} {H : Hp} {s : Shared} {a : Addr} {y : V} {u : Value} {A : Around} {E : Value → Shared → Prop}
end
end L2
namespace Att
open PySem PySem.W PySem.Calls PyProof.Rows
theorem ints_of_wellAll {P : Params} {h : Heap} : ∀ (ns : List Int) (vs : List Value), WellAll P h vs (ns.map WData.int) → IntsAre vs ns := by
  intro ns
  induction ns with
  | nil =>
    intro vs w
    rw [List.map_nil] at w
    cases w
    exact .nil
  | cons n ns ih =>
    intro vs w
    rw [List.map_cons] at w
    cases w with
    | cons a b =>
      cases a
      exact .cons _ _ (ih _ b)
theorem script_of {l : OpenLaw} {n : Nat} (hn : l.most = some n) {P : Params} {h : Heap} {args : List WData} {vals : List Value}
    (hpre : l.row.toRowW.claim.pre args = true) (hwl : WellAll P h vals args) :
    ∃ a vs ns, vals = [Value.ref a] ∧ args = [WData.list (ns.map WData.int)] ∧ h.get? a = some { cls := .type "list", data := .seq vs.toArray } ∧ IntsAre vs ns ∧ ns.length ≤ n := by
  have hsh : WShape.hasAll [] args [.list .int] = true := (pre_splitW hpre).1
  have hc : l.pre.holds [] { args := args } = true := (pre_splitW hpre).2
  obtain ⟨d, r, rfl, h1, h2⟩ := hasAllW_cons hsh
  obtain rfl := hasAllW_nil h2
  obtain ⟨xs, rfl, h3⟩ := hasW_list h1
  obtain ⟨ns, rfl⟩ := items_int h3
  have hlen : ns.length ≤ n := by
    unfold OpenLaw.pre at hc
    have h4 : (WTm.not (.lt (.lit (.int (n : Int))) (.len (.arg 0)))).holds [] { args := [.list (ns.map .int)] } = true := by
      have h4 := (holds_andW hc).1
      rw [hn] at h4
      exact h4
    have h5 := condW_of h4 (w_not (w_lt w_lit (w_len_list (w_arg rfl))))
    rw [List.length_map] at h5
    refine Nat.le_of_not_lt fun q => ?_
    have q' : (n : Int) < ((ns.length : Nat) : Int) := by omega
    first
      | (rw [decide_eq_true q'] at h5; exact absurd h5 (by decide))
      | (simp at h5; omega)
  cases hwl with
  | cons w1 w2 =>
    cases w2
    cases w1 with
    | list ho hall => exact ⟨_, _, ns, rfl, rfl, ho, ints_of_wellAll ns _ hall, hlen⟩
theorem post_true (l : OpenLaw) (args : List WData) : l.row.toRowW.claim.post args (.bool true) args = true :=
  postW_of (r := l.row.toRowW) (X := (true == true))
    (show WShape.has [] (.bool true) .bool = true by first | rfl | decide | simp [WShape.has, WShape.arms, WShape.armsAll])
    (show (WTm.eq .res (.lit (.bool true))).value [] { args := args, res := some (.bool true), after := args } = some (.bool (true == true)) from w_eq_bool (w_res rfl) w_lit) rfl
section
variable {prog : Program} {w : World} {A : Around} {E : Value → Shared → Prop} {s : Shared} {K : Frag}
end
end Att
namespace L2
open PySem PySem.Spec PyProof.Rows
theorem vals_ints : ∀ {vs : List Value} {ns : List Int}, IntsAre vs ns → Vals (ns.map V.int) vs
  | _, _, .nil => .nil
  | _, _, .cons n t h => .cons ⟨t, rfl⟩ (vals_ints h)
noncomputable def Only (H : Hp) : Prop := ∀ b, H b = none ∨ ∃ o xs, H b = some (.frz o (.lst xs))
theorem law_call {P : Program} {w : World} {K : PySem.W.Frag} {mg mb : Str → Option Value} {CX : CXT} {k : Nat} {fa a : Addr} {fd : FuncData} {x : Str} {sp : Sp} {s₁ : Shared} {vs : List Value} {ns : List Int}
    (KX : K.In s₁.heap) (hns : s₁.heap.Ns mainGlobals mg) (hb : s₁.heap.Ns builtinsNs mb) (hbb : ∀ x : Str, x ≠ "__name__" → mb x = bootBuiltins x) (hlim : s₁.heap.NoLimit) (hg : s₁.gens = #[])
    (ha : s₁.heap.get? a = some { cls := .type "list", data := .seq vs.toArray }) (hi : IntsAre vs ns) (hl : ns.length ≤ sizeLine) (hr : Room k callerA)
    (F : ∀ base : Heap, K.In base → base.Ns mainGlobals mg → FnOk P w K mg base CX k fa fd [x] sp) (hbind : ∀ (s : Shared) (u : Value), BindsTo s fd ⟨[u], []⟩ [(x, u)])
    (hsp : ∀ H : Hp, Only H → SqL K H a (ns.map V.int) → sp [.ref a] H (fun v _ => v = .bl true) fun _ _ _ => False)
    (hCX : ∀ H e s', CX [] H s₁ (fun _ _ _ => False) e s' → False) :
    codeAny (model P w) callerA (.call (.ref fa) ⟨[.ref a], []⟩) (fun r s' => r = .ok (.ret (.bool true)) ∧ OldK s₁.heap s'.heap ∧ s'.os = s₁.os ∧ AllBare s'.gens) s₁ := by
  have rv := vals_ints hi
  have lenV := hi.length
  -- from an abstract heap in which nothing but the script may be tracked
  have core : ∀ H : Hp, Only H → SqL K H a (ns.map V.int) → HOk P w H s₁.heap → (∀ b, H b ≠ none → b = a) → (H a ≠ none → K.lookup a = none) →
      codeAny (model P w) callerA (.call (.ref fa) ⟨[.ref a], []⟩) (fun r s' => r = .ok (.ret (.bool true)) ∧ OldK s₁.heap s'.heap ∧ s'.os = s₁.os ∧ AllBare s'.gens) s₁ := by
    intro H hO hS hok hA hK
    have base_of : ∀ {b : Addr} {o : Obj}, s₁.heap.get? b = some o → H b = none → (hidT s₁.heap H).get? b = some o := fun e n => hidT_get e n
    have noA : ∀ {b : Addr} {o : Obj} {es : Array DictEntry} {ep : Nat}, s₁.heap.get? b = some o → o.data = .dict es ep → H b = none := fun {b o es ep} e d => by
      cases q : H b with
      | none => rfl
      | some u =>
        have e' : b = a := hA b (by rw [q]; simp)
        subst e'
        rw [ha] at e; cases e
        have d' : Data.seq vs.toArray _ = Data.dict es ep := d
        cases d'
    have nsK : ∀ {b : Addr} {m : Str → Option Value}, s₁.heap.Ns b m → (hidT s₁.heap H).Ns b m := fun {b m} ⟨o, es, ep, e, d, r⟩ => ⟨o, es, ep, base_of e (noA e d), d, r⟩
    have hKb : K.In (hidT s₁.heap H) := fun b o e => base_of (KX b o e) (by
      cases q : H b with
      | none => rfl
      | some u =>
        have e' : b = a := hA b (by rw [q]; simp)
        subst e'
        rw [hK (by rw [q]; simp)] at e; cases e)
    have hM : Mod K mg (hidT s₁.heap H) := ⟨hKb, nsK hns, ⟨mb, nsK hb, hbb⟩, let ⟨mc, h1, h2⟩ := hlim; ⟨mc, nsK h1, h2⟩⟩
    have e0 : Env0 P w K mg (hidT s₁.heap H) callerA [] s₁ H := ⟨rfl, hM, fun b o e => of_hidT e, Nat.le_of_eq (hidT_size _ _), trivial, fun b hb => absurd (show b ∈ ([] : List Addr) from hb) (by simp), hok, .of_eq hg⟩
    refine codeAny_mono ((F _ hKb (nsK hns)).run callerA [] s₁ H ⟨[.ref a], []⟩ [.ref a] [.ref a] _ _ hr e0 (hbind s₁ (.ref a)) (.cons rfl .nil) (hsp H hO hS)) fun r s' h => ?_
    cases r with
    | error e => exact (hCX H e s' h).elim
    | ok fl =>
      cases fl with
      | next => exact False.elim h
      | brk => exact False.elim h
      | cont => exact False.elim h
      | ret u =>
        obtain ⟨v, H', os, bare, un, hok', r', q⟩ := h
        have q' : v = .bl true := q
        subst q'
        obtain rfl : u = Value.bool true := r'
        refine ⟨rfl, OldK.of_keep fun b o e => ?_, os, bare⟩
        cases q : H b with
        | none => exact un.keep b o e q (by intro z; exact absurd (show b ∈ ([] : List Addr) from z) (by simp)) (by simp)
        | some u =>
          rcases hO b with z | ⟨ob, xs, z⟩
          · rw [q] at z; cases z
          · have z2 := un.frzs b ob _ z
            obtain ⟨e1, _⟩ := hok b _ z
            obtain ⟨e2, _⟩ := hok' b _ z2
            rw [e] at e1; cases e1
            exact e2
  cases hk : K.lookup a with
  | some o =>
    -- the script is one of the module's own objects
    have e := KX a o hk
    rw [ha] at e
    cases e
    refine core (fun _ => none) (fun _ => .inl rfl) (.inr ⟨_, vs.toArray, _, hk, rfl, rfl, rfl, by rw [List.size_toArray, lenV]; exact hl, by simpa using rv⟩) (fun b u z => by have z' : (none : Option HO) = some u := z; cases z') (fun b z => absurd rfl z) fun z => absurd rfl z
  | none =>
    refine core (fun b => if b = a then some (.frz { cls := .type "list", data := .seq vs.toArray } (.lst (ns.map V.int))) else none) (fun b => ?_) (.inl (.inr ⟨{ cls := .type "list", data := .seq vs.toArray }, if_pos rfl⟩)) (fun b u z => ?_) (fun b z => ?_) fun _ => hk
    · by_cases hb : b = a
      · exact .inr ⟨_, _, if_pos hb⟩
      · exact .inl (if_neg hb)
    · by_cases hb : b = a
      · have z' := (if_pos hb).symm.trans z
        cases z'
        subst hb
        exact ⟨ha, by rw [List.length_map]; exact hl, vs, _, rv, ha⟩
      · have z' := (if_neg hb).symm.trans z
        cases z'
    · by_cases hb : b = a
      · exact hb
      · exact absurd (if_neg hb) z
end L2
namespace L2
open PySem PySem.Spec PyProof.Rows
end L2
/- THE LAST THEOREM (shape; LID, My.* are yours):
   My.Adr: a structure of the addresses that your layer names (classes, functions); My.Txt K t: a structure (Prop) of the equations over K;
   My.txt_mk : {K} {implicit addresses ..} (e1 : nsIn K mainGlobals "law" = some (some (.ref f))) (e2 : K.lookup f = some ⟨oc, od, .func (fnOf "law" "law" params body scope dV kV doc pm an cdv ct), sl⟩) (e3 : codeIn K cdv "law" = true) .. : ∃ t, My.Txt K t
set_option maxRecDepth 100000 in
set_option maxHeartbeats 0 in
theorem PySem.Challenge.cw_LID_holds : PySem.Challenge.rw_LID.Holds := by
  w_on; o_law; k_head; (case hw => w_witness2)
  k_fill
  refine L2.walk_of (l := PySem.Challenge.rw_LID) (n := 63) (k := 40) (x := "script") (CX := fun w => ..) (sp := fun _ => My.sp_law) rfl (by decide) rfl ⟨rfl, by decide, by decide⟩ (fun w h Y => PySem.W.kIn_of Y) ?F ?S ?C
  case F =>
    intro w mg fa h KX G hmg
    have T : ∃ t, My.Txt (L2.KOf KX) t := by
      dsimp only [L2.KOf]                          -- K must stand as «<heap const> w.params» for k_is
      refine' My.txt_mk ?e1 ?e2 ?e3 ..
      (case e1 => PySem.W.k_is)                    -- in the order: a name -> its address -> its object -> its parts
      (case e2 => PySem.W.k_is)
      ..
    obtain ⟨t, T⟩ := T
    have e0 := hmg.symm.trans (PySem.W.mg_of KX G T.law)
    cases e0                                       -- fa is the law's own address
    exact ⟨_, fun s u => .of_eq rfl, fun base kb nb => My.law_fn T kb nb⟩     -- if «.of_eq rfl» comes too early: refine' ⟨_, ?b, fun base kb nb => My.law_fn T kb nb⟩; exact fun s u => .of_eq rfl
  case S => exact fun w H a ns hl hO hS => ..
  case C => exact ..
(the tactic k_is has no namespace: write k_is) -/
namespace L2
open PySem PySem.Spec PyProof.Rows
noncomputable def inClass (s : Stmt) (j : Nat) : Stmt := match s with
  | .ClassDef _ _ _ body _ _ _ _ _ _ _ => body.getD j (.Pass ⟨0, 0, 0, 0⟩)
  | _ => .Pass ⟨0, 0, 0, 0⟩
noncomputable def defArgs (s : Stmt) : Arguments := match s with
  | .FunctionDef _ a _ _ _ _ _ _ _ _ => a
  | _ => { posonlyargs := [], args := [], vararg := none, kwonlyargs := [], kw_defaults := [], kwarg := none, defaults := [] }
noncomputable def defBody (s : Stmt) : List Stmt := match s with
  | .FunctionDef _ _ b _ _ _ _ _ _ _ => b
  | _ => []
noncomputable def defScope (s : Stmt) : Scope := match s with
  | .FunctionDef _ _ _ _ _ _ sc _ _ _ => sc
  | _ => { kind := .function, names := [], isGenerator := false, isCoroutine := false }
noncomputable abbrev CX0 : CXT := fun _ _ _ _ _ _ => False
noncomputable abbrev E0 : XK := fun _ _ _ => False
theorem pass0 {X : Cx} : Passes CX0 X E0 := fun _ _ _ _ _ _ _ h => h.elim
structure Fun (K : PySem.W.Frag) (x qual : Str) (st : Stmt) (f : Addr) (fd : FuncData) : Prop where
  ex : ∃ (oc : Value) (od : Option Addr) (kV doc pm : Value) (an : Option Addr) (cdv ct : Value) (osl : Array (Option Value)),
    fd = PySem.W.fnOf x qual (defArgs st) (defBody st) (defScope st) .none kV doc pm an cdv ct ∧ K.lookup f = some ⟨oc, od, .func fd, osl⟩ ∧ PySem.W.codeIn K cdv qual = true
  kp : PySem.W.keepIn K (.ref f) = true
section
variable {P : Program} {w : World} {K : PySem.W.Frag} {mg : Str → Option Value} {base : Heap}
theorem Fun.ok {x qual : Str} {st : Stmt} {f : Addr} {fd : FuncData} {N ps : List Str} {k : Nat} {sp : Sp} (F : Fun K x qual st f fd) (S : FnScope N ps (defScope st)) (len : ∀ vs H Q E, sp vs H Q E → vs.length = ps.length)
    (hbody : ∀ (cdv : Value) (A : Around) (outer : List Env) (s : Shared) (H : Hp) (vs : List V) (Q : VK) (E : XK), Room k (A.deeper (envOfC qual (defScope st) s.heap.objs.size f cdv)) → sp vs H Q E →
      ∃ t, PSs (cxOf CX0 P w K mg base N qual (defScope st) f cdv A outer s H E).nox (defBody st) t ∧ t { nx := fun _ H' => Q .non H', rt := Q } (start N vs) H) : FnOk P w K mg base CX0 (k + 1) f fd ps sp := by
  obtain ⟨oc, od, kV, doc, pm, an, cdv, ct, osl, rfl, lk, hcd⟩ := F.ex
  refine fn_of lk hcd S len fun A outer s H vs Q E hr hsp => ?_
  obtain ⟨t, h, q⟩ := hbody cdv A outer s H vs Q E hr hsp
  exact ⟨t, h.nox, q⟩
theorem Fun.binds {x qual : Str} {st : Stmt} {f : Addr} {fd : FuncData} {ps : List Str} (F : Fun K x qual st f fd)
    (h : ∀ (kV doc pm : Value) (an : Option Addr) (cdv ct : Value) (us : List Value), us.length = ps.length → bindArgs (PySem.W.fnOf x qual (defArgs st) (defBody st) (defScope st) .none kV doc pm an cdv ct) ⟨us, []⟩ = pure (ps.zip us)) : Binds K fd ps [] := by
  obtain ⟨oc, od, kV, doc, pm, an, cdv, ct, osl, rfl, lk, hcd⟩ := F.ex
  exact .all (h kV doc pm an cdv ct)
theorem fun_mk {x qual : Str} {st : Stmt} {f : Addr} {oc : Value} {od an : Option Addr} {osl : Array (Option Value)} {kV doc pm cdv ct : Value} (l : K.lookup f = some ⟨oc, od, .func (PySem.W.fnOf x qual (defArgs st) (defBody st) (defScope st) .none kV doc pm an cdv ct), osl⟩)
    (c : PySem.W.codeIn K cdv qual = true) (k : PySem.W.keepIn K (.ref f) = true) : Fun K x qual st f (PySem.W.fnOf x qual (defArgs st) (defBody st) (defScope st) .none kV doc pm an cdv ct) := ⟨⟨oc, od, kV, doc, pm, an, cdv, ct, osl, rfl, l, c⟩, k⟩
end
theorem hu_of {A : Around} {k : Nat} (hr : Room k A) : A.units + 1 < cLine := Nat.lt_of_le_of_lt (Nat.add_le_add_left (by decide : 1 ≤ 64) _) hr.units
section
variable {X : Cx}
end
theorem iteF {A B : Prop} (h : B) : if false = true then A else B := by
  rw [if_neg Bool.false_ne_true]
  exact h
theorem iteT {A B : Prop} (h : A) : if true = true then A else B := by
  rw [if_pos rfl]
  exact h
noncomputable def Same (H H' : Hp) : Prop := ∀ b o, H b = some o → H' b = some o
theorem Same.refl (H : Hp) : Same H H := fun _ _ h => h
theorem Same.trans {H H1 H2 : Hp} (a : Same H H1) (b : Same H1 H2) : Same H H2 := fun c o h => b c o (a c o h)
theorem Same.free {H H' : Hp} (e : Same H H') {l : Addr} (h : H' l = Option.none) : H l = Option.none := by
  cases q : H l with
  | none => rfl
  | some o =>
    rw [e l o q] at h
    cases h
theorem Same.seq {K : PySem.W.Frag} {H H' : Hp} {a : Addr} {xs : List V} (e : Same H H') (h : SqL K H a xs) : SqL K H' a xs := by
  rcases h with (h | ⟨o, h⟩) | h
  · exact .inl (.inl (e _ _ h))
  · exact .inl (.inr ⟨o, e _ _ h⟩)
  · exact .inr h
end L2
namespace L2
open PySem PySem.Spec PyProof.Rows
section
variable {X : Cx}
theorem call_lenD : CallR X (.builtin "len") (fun xs H Q => ∃ a kvs, xs = [V.ref a] ∧ H a = some (.dK kvs) ∧ Q (.int kvs.length) H) := by
  intro pins s σ H xs us Q I r h
  obtain ⟨a, kvs, rfl, ha, q⟩ := h
  obtain ⟨u, rfl, ru⟩ := vals1 r
  cases ru
  exact d_len I (.inl ha) fun t s' I' => ⟨.int kvs.length, H, I', ⟨t, rfl⟩, q⟩
end
section
variable {κ : Type} [DecidableEq κ]
end
end L2
namespace L2
open PySem PySem.Spec PyProof.Rows
section
variable {X : Cx}
noncomputable def CDivB (i j : Int) : Prop := 0 < j ∧ j.natAbs.log2 < 9000
theorem op_fdivB : OpR X (binaryOp .FloorDiv) (rI CDivB fun i j => .int (i / j)) := opI fun i j _ _ _ _ _ hc q => by
  have h1 : (0 : Int) < j := hc.1
  exact floordiv_int (by omega) (by rw [Int.fdiv_eq_ediv_of_nonneg i (by omega)]; exact q) (.inl (PyProof.noPylong_of_log2 hc.2))
theorem op_mulB : OpR X (binaryOp .Mult) (rI IntMulOk fun i j => .int (i * j)) := opI fun _ _ _ _ _ _ _ hc q => mul_int q hc
theorem CDivB.small {i j : Int} (h : 0 < j) (h2 : j < 1073741824) : CDivB i j := ⟨h, by
  have h3 : j.natAbs.log2 < 30 := (Nat.log2_lt (by omega)).mpr (by omega)
  omega⟩
end
theorem ite_dec {c A B : Prop} [Decidable c] (h1 : c → A) (h2 : ¬ c → B) : if decide c = true then A else B := by
  by_cases h : c
  · rw [if_pos (decide_eq_true h)]; exact h1 h
  · rw [if_neg (fun q => h (of_decide_eq_true q))]; exact h2 h
theorem ite_ndec {c A B : Prop} [Decidable c] (h1 : ¬ c → A) (h2 : c → B) : if (!decide c) = true then A else B := by
  by_cases h : c
  · rw [decide_eq_true h]; exact iteF (h2 h)
  · rw [decide_eq_false h]; exact iteT (h1 h)
structure DefAt (K : PySem.W.Frag) (mg : Str → Option Value) (x : Str) (st : Stmt) (ps : List Str) (f : Addr) (fd : FuncData) : Prop where
  F : Fun K x x st f fd
  B : Binds K fd ps []
  M : mg x = some (.ref f)
theorem pe_callD {X : Cx} {k : Nat} {f : Addr} {fd : FuncData} {ps : List Str} {sp : Sp} {x : Str} {st : Stmt} {p pos : Pos} {e : Expr} {es : List Expr} {t : TA} (D : DefAt X.K X.mg x st ps f fd) (G : FnOk X.prog X.w X.K X.mg X.base CX0 k f fd ps sp) (hr : Room k X.A)
    (ha : PA X (e :: es) t) (hg : Gl X x := by rfl) (hdb : (x == ("__debug__" : Str)) = false := by decide) (he : starEach (e :: es) X.env = (false, eval e X.env) :: starEach es X.env := by rfl) (hpl : (backTo pos (starEach es X.env)).any (·.1) = false := by rfl) :
    PE X (.Call (.Name x p) (e :: es) [] pos) (tCall sp [] E0 t) := pe_call G hr hg D.M D.F.kp D.B .nil pass0 ha hdb he hpl
noncomputable def Ite (K : PySem.W.Frag) (a : Addr) : It :=
  ⟨fun i H => ∃ xs x, SqL K H a xs ∧ xs[i]? = some x,
   fun i H x H' => ∃ p y, x = .ref p ∧ H p = none ∧ H' = upd H p (.tup [.int i, y]) ∧ ∀ xs, SqL K H a xs → xs[i]? = some y,
   fun i H => ∃ xs, SqL K H a xs ∧ xs.length ≤ i⟩
theorem turn_enum {P : Program} {w : World} {K : PySem.W.Frag} {elts : List Expr} {k0 : Nat} {pos0 : Pos} (a e it : Addr) (hei : e ≠ it) :
    Turn P w K (.Tuple elts k0 pos0) (Ite K a) [e, it] e (fun i h => (∃ old, IsEnum h e it i old) ∧ h.IsListIter it a i) where
  mem := by simp
  obj := fun i h ⟨⟨old, he⟩, hit⟩ b hb => by
    rcases List.mem_cons.mp hb with rfl | hb
    · exact ⟨_, he, fun v z => by
        have z' : Data.fields _ = Data.cell v := z
        cases z'⟩
    · have e' : b = it := by simpa using hb
      subst e'
      obtain ⟨o, q, c, d⟩ := hit
      exact ⟨o, q, fun v z => by rw [d] at z; cases z⟩
  keep := fun i h h' ⟨⟨old, he⟩, hit⟩ k => ⟨⟨old, k e (by simp) _ he⟩, hit.at fun o q => k it (by simp) o q⟩
  item := by
    intro X hP hw hK hc i pins s σ H E I hf st hg
    subst hP hw hK
    obtain ⟨xs, x, hq, hx⟩ := hg
    obtain ⟨its, rv, p, hz⟩ := I.list hq
    obtain ⟨u, hu, ru⟩ := rv.get hx
    obtain ⟨⟨old, he⟩, hit⟩ := st
    obtain ⟨f0, f1, f2, f3, f4, f5⟩ := hf e (by simp)
    obtain ⟨g0, g1, g2, g3, g4, g5⟩ := hf it (by simp)
    refine wpAny_pyNext_enum_item he hit p.isList (x := u) (by simpa using hu) hei fun h1 ho hit1 hT hsz hk => ?_
    refine ⟨_, rfl, wpAny_letOwnedTupleGo_enum ho fun h2 he2 hs2 => ?_⟩
    replace hs2 : Heap.SameBut e h1 h2 := hs2
    have helt : e < s.heap.objs.size := Heap.lt_size he
    have hk2 : ∀ b o, b ≠ e → b ≠ it → s.heap.get? b = some o → h2.get? b = some o := fun b o b1 b2 q => (hs2.2 b b1).trans (hk b o b1 b2 q)
    have hT2 : h2.get? s.heap.objs.size = some { cls := .type "tuple", data := .seq #[.int i s.toks, u] } := (hs2.2 _ (Nat.ne_of_gt helt)).trans hT
    have hn : H s.heap.objs.size = none := I.hok.fresh (Nat.le_refl _)
    have nE : ∀ b v, H b = some v → b ≠ e := fun b v q z => by rw [z, f0] at q; cases q
    have nI : ∀ b v, H b = some v → b ≠ it := fun b v q z => by rw [z, g0] at q; cases q
    have ok2 : HOk X.prog X.w H h2 := fun b v q => (I.hok b v q).stay (fun c v' hc r => by
      rcases hc with z | z
      · exact hk2 c v' (by rw [z]; exact nE b v q) (by rw [z]; exact nI b v q) r
      · exact hk2 c v' (nE c _ z) (nI c _ z) r) (fun _ r => r) fun _ _ r => r
    have ok3 : HOk X.prog X.w (upd H s.heap.objs.size (.tup [.int i, x])) h2 := fun b v q => by
      by_cases hb : b = s.heap.objs.size
      · subst hb
        rw [upd_same] at q
        cases q
        exact ⟨by show 2 ≤ sizeLine; decide, [.int i s.toks, u], .cons ⟨_, rfl⟩ (.cons ru .nil), ⟨_, hT2, rfl, _, rfl⟩⟩
      · rw [upd_ne hb] at q
        exact (ok2 b v q).stay (fun c v' _ r => r) (fun c r => by rw [upd_ne (ne_of_none r hn)]; exact r) fun c ys r => by rw [upd_ne (ne_of_none r hn)]; exact r
    have nlt : ∀ {b : Addr} {o : Obj}, s.heap.get? b = some o → b ≠ s.heap.objs.size := fun q => Nat.ne_of_lt (Heap.lt_size q)
    have I2 : Inv X pins σ (upd H s.heap.objs.size (.tup [.int i, x])) { s with heap := h2, toks := s.toks + 1 } :=
      I.step (g' := s.gens) (d' := s.drawn) (ch := [e, it]) (fun b hb => by
          rcases List.mem_cons.mp hb with rfl | hb
          · exact ⟨f3, f1, f4, f5⟩
          · have e' : b = it := by simpa using hb
            subst e'
            exact ⟨g3, g1, g4, g5⟩)
        (fun b o _ _ hc q _ => hk2 b o (fun z => hc (by simp [z])) (fun z => hc (by simp [z])) q)
        (fun b o _ _ hc q _ => ⟨o.slots, hk2 b o (fun z => hc (by simp [z])) (fun z => hc (by simp [z])) q⟩)
        (fun b o _ q n => by rw [upd_ne (nlt q)]; exact n)
        (fun b o hc q => ⟨o, hk2 b o (fun z => hc (by simp [z])) (fun z => hc (by simp [z])) q⟩)
        (fun b ys q => by rw [upd_ne (ne_of_none q hn)]; exact q) (fun b o v q => by rw [upd_ne (ne_of_none q hn)]; exact q) (fun b ps q => ⟨#[], by rw [upd_ne (ne_of_none q hn), q]; simp⟩)
        (fun m ⟨o, es, ep, hm, r⟩ => ⟨o, es, ep, hk2 _ o (Ne.symm f1) (Ne.symm g1) hm, r⟩) ok3 I.bare
    refine ⟨.ref s.heap.objs.size, _, I2, rfl, ⟨_, x, rfl, hn, rfl, fun ys hy => by rw [I.list_inj hy hq]; exact hx⟩, ⟨⟨_, by simpa using he2⟩, hit1.at fun o y => (hs2.2 it hei.symm).trans y⟩, fun b hb => ?_⟩
    rcases List.mem_cons.mp hb with rfl | hb
    · rw [upd_ne (Nat.ne_of_lt helt)]; exact f0
    · have e' : b = it := by simpa using hb
      subst e'
      obtain ⟨o, q, _⟩ := hit
      rw [upd_ne (nlt q)]; exact g0
  done := by
    intro X hP hw hK hc i pins s σ H E I hf st hg
    subst hP hw hK
    obtain ⟨xs, hq, hx⟩ := hg
    obtain ⟨its, rv, p, hz⟩ := I.list hq
    obtain ⟨⟨old, he⟩, hit⟩ := st
    obtain ⟨g0, g1, g2, g3, g4, g5⟩ := hf it (by simp)
    have hl := rv.length
    exact wpAny_pyNext_enum_end (I.ok.hd hc) he hit p.isList (by simp; omega) fun h' eb => ⟨rfl, I.turned (t' := s.toks) (it := it) (fun b o hb q => eb b o hb q) g0 g1 g3 g4 g5⟩
  self := fun _ _ _ _ _ ⟨⟨_, he⟩, _⟩ h => wpAny_pyIter_enum he h
noncomputable def iEnum (K : PySem.W.Frag) (ta : TA) : TI := fun σ H R => ta σ H fun vs H1 => ∃ a, vs = [.ref a] ∧ (∃ xs, SqL K H1 a xs) ∧ R (Ite K a) H1
theorem pi_enum {X : Cx} {a : Expr} {ta : TA} {p pos pos0 : Pos} {elts : List Expr} {k0 : Nat} (hm : X.mg "enumerate" = none) (ha : PA X [a] ta) (hg : Gl X "enumerate" := by rfl) (hs : starEach [a] X.env = [(false, eval a X.env)] := by rfl) :
    PI X (.Tuple elts k0 pos0) (.Call (.Name "enumerate" p) [a] [] pos) (iEnum X.K ta) := by
  intro pins s σ H R I h
  refine Call_ (ld_blt I hg hm boot_enumerate (PyProof.Rows.callWith_type1 (thn (ha pos pins s σ H _ I h) fun us s1 hhx => ?_) hs rfl))
  obtain ⟨vs, H1, I1, r1, q1⟩ := hhx
  obtain ⟨l, e, ⟨xs, hq⟩, q⟩ := q1
  subst e
  cases r1 with
  | cons r rr =>
    cases rr
    cases r
    obtain ⟨its, rv, pl, hz⟩ := I1.list hq
    refine call_enumerate_list pl.isList fun h' he hit hsz hk => ?_
    refine wpAny_pyIter_enum he ?_
    have I2 : Inv X pins σ H1 { s1 with heap := h' } := I1.kept (t' := s1.toks) hk
    refine ⟨s1.heap.objs.size + 1, [s1.heap.objs.size + 1, s1.heap.objs.size], _, _, H1, rfl, I2, turn_enum l _ _ (Nat.succ_ne_self _), ⟨⟨_, he⟩, hit⟩, fun b hb => ?_, q⟩
    have hle : s1.heap.objs.size ≤ b := by
      rcases List.mem_cons.mp hb with rfl | hb
      · exact Nat.le_succ _
      · rw [List.mem_singleton.mp hb]; exact Nat.le_refl _
    exact I1.fpOk hle (I1.hok.fresh hle)
theorem for_enum {K : PySem.W.Frag} {a : Addr} {xs : List V} {g : TG} {tb : TS} {D : Ends} {σ : St} {H : Hp} (Pv : Nat → St → Hp → Prop) (h0 : Pv 0 σ H) (hl : ∀ i σ H, i ≤ xs.length → Pv i σ H → SqL K H a xs)
    (hs : ∀ (i : Nat) x σ H p, xs[i]? = some x → H p = none → Pv i σ H → g (.ref p) σ (upd H p (.tup [.int i, x])) fun σ2 H2 => tb { D with nx := Pv (i + 1), ct := Pv (i + 1), bk := D.nx } σ2 H2) (hd : ∀ σ H, Pv xs.length σ H → D.nx σ H) :
    ∃ W : Nat → Nat → St → Hp → Prop, (∃ m, W 0 m σ H) ∧ ∀ i m σ H, W i m σ H →
      ((Ite K a).stop i H ∧ D.nx σ H) ∨ ((Ite K a).go i H ∧ ∃ N : St → Hp → Prop, (∀ σ' H', N σ' H' → ∃ m', m' < m ∧ W (i + 1) m' σ' H') ∧ ∀ x H', (Ite K a).yld i H x H' → g x σ H' fun σ2 H2 => tb { D with nx := N, ct := N, bk := D.nx } σ2 H2) := by
  refine ⟨fun i m σ H => m = xs.length - i ∧ i ≤ xs.length ∧ Pv i σ H, ⟨xs.length, by simp, Nat.zero_le _, h0⟩, ?_⟩
  rintro i m σ H ⟨rfl, hi, p⟩
  have q := hl i σ H hi p
  by_cases hlt : i < xs.length
  · refine .inr ⟨⟨xs, xs[i], q, by simp [hlt]⟩, Pv (i + 1), fun σ' H' p' => ⟨xs.length - (i + 1), by omega, rfl, hlt, p'⟩, fun x H' y => ?_⟩
    obtain ⟨pp, z, ex, hn, eH, y⟩ := y
    subst ex eH
    exact hs i z σ H pp (y xs q) hn p
  · have e : i = xs.length := by omega
    subst e
    exact .inl ⟨⟨xs, q, Nat.le_refl _⟩, hd σ H p⟩
theorem bits_of_lay {ns : List Int} (h : PySem.W.WData.layableAll [PySem.W.WData.list (ns.map PySem.W.WData.int)] = true) : ∀ n ∈ ns, Builtin.Int.intBits n ≤ 2 ^ 20 := fun n hn => by
  have h1 := (PySem.W.layW_cons h).1
  have h2 := PySem.W.layableW_item h1 (PySem.W.WData.int n) (List.mem_map.mpr ⟨n, hn, rfl⟩)
  exact PyData.bits_of_layable (PySem.W.layable0_of_all (PySem.W.lay0_int h2))
section
open PySem.W PySem.Calls
theorem walk_ofL {l : PySem.W.OpenLaw} {n k : Nat} {q : Program} {loose : List Str} {XP : (Str → Option Value) → Heap → Prop} {YP : World → Heap → Prop} {d : DefRec} {K : Params → PySem.W.Frag} {CX : World → CXT} {sp : World → Sp} {x : Str}
    (hn : l.most = some n) (hn2 : n ≤ sizeLine) (hdf : d.params.defaults = []) (hr : Room k callerA)
    (hY : ∀ (w : World) (h : Heap), YP w h → (K w.params).In h)
    (F : ∀ (w : World) (mg : Str → Option Value) (fa : Addr) (h : Heap), (K w.params).In h → h.Ns mainGlobals mg → mg d.name = some (.ref fa) →
      ∃ fd : FuncData, (∀ (s : Shared) (u : Value), BindsTo s fd ⟨[u], []⟩ [(x, u)]) ∧
        ∀ base : Heap, (K w.params).In base → base.Ns mainGlobals mg → FnOk l.prog w (K w.params) mg base (CX w) k fa fd [x] (sp w))
    (hsp : ∀ (w : World) (H : Hp) (a : Addr) (ns : List Int), ns.length ≤ n → (∀ z ∈ ns, Builtin.Int.intBits z ≤ 2 ^ 20) → Only H → SqL (K w.params) H a (ns.map V.int) → sp w [.ref a] H (fun v _ => v = .bl true) fun _ _ _ => False)
    (hCX : ∀ (w : World) (H : Hp) (s : Shared) (e : Value) (s' : Shared), CX w [] H s (fun _ _ _ => False) e s' → False) :
    PySem.W.WalkO q loose XP YP l.row.toRowW d [] (fun f vs => PySem.call f vs) := by
  intro w s₀ s₁ mg mb G Y fa o pm cd doc dV kV ho hd hcd hD hmg hg args vals as hpre hlay hrd hwl hlo
  obtain rfl : dV = .none := Dflts.none hD hdf
  obtain rfl : kV = .none := Dflts.noKw hD
  obtain ⟨a, vs, ns, rfl, rfl, hobj, hints, hlen⟩ := Att.script_of hn hpre hwl
  have KX := hY w _ Y
  obtain ⟨fd, hb, hF⟩ := F w mg fa _ KX G.T.g hmg
  refine enter_call (codeAny_mono (law_call KX G.T.g G.T.b G.T.builtins G.T.nolimit hg hobj hints (Nat.le_trans hlen hn2) hr hF hb (fun H hO hS => hsp w H a ns hlen (bits_of_lay hlay) hO hS) fun H e s' => hCX w H s₁ e s') fun r s' hq => ?_)
  obtain ⟨rfl, h2, h3, h4⟩ := hq
  exact ⟨.inl ⟨.bool true, .bool true, [], rfl, fun _ => rfl, .bool true, Att.post_true l _, fun _ => ⟨List.Pairwise.nil, fun _ hm => (nomatch hm)⟩⟩, h2, h3, h4⟩
end
end L2
namespace L2
open PySem PySem.Spec PyProof.Rows
section
variable {H : Hp} {Q : VK} {σ : St} {D : Ends}
theorem r_v0 {v : V} {r : St}  : tVar 0 (some v :: r) H Q = Q v H := propext ⟨by rintro ⟨_, e, q⟩; cases e; exact q, by intro q; exact ⟨v, rfl, q⟩⟩
theorem r_g0 {v : V} {b : Option V} {r : St} {Z : St → Hp → Prop}  : gName 0 v (b :: r) H Z = Z (some v :: r) H := rfl
theorem r_v1 {v : V} {r : St} {a0 : Option V} : tVar 1 (a0 :: some v :: r) H Q = Q v H := propext ⟨by rintro ⟨_, e, q⟩; cases e; exact q, by intro q; exact ⟨v, rfl, q⟩⟩
theorem r_g1 {v : V} {b : Option V} {r : St} {Z : St → Hp → Prop} {a0 : Option V} : gName 1 v (a0 :: b :: r) H Z = Z (a0 :: some v :: r) H := rfl
theorem r_v2 {v : V} {r : St} {a0 : Option V} {a1 : Option V} : tVar 2 (a0 :: a1 :: some v :: r) H Q = Q v H := propext ⟨by rintro ⟨_, e, q⟩; cases e; exact q, by intro q; exact ⟨v, rfl, q⟩⟩
theorem r_g2 {v : V} {b : Option V} {r : St} {Z : St → Hp → Prop} {a0 : Option V} {a1 : Option V} : gName 2 v (a0 :: a1 :: b :: r) H Z = Z (a0 :: a1 :: some v :: r) H := rfl
theorem r_v3 {v : V} {r : St} {a0 : Option V} {a1 : Option V} {a2 : Option V} : tVar 3 (a0 :: a1 :: a2 :: some v :: r) H Q = Q v H := propext ⟨by rintro ⟨_, e, q⟩; cases e; exact q, by intro q; exact ⟨v, rfl, q⟩⟩
theorem r_g3 {v : V} {b : Option V} {r : St} {Z : St → Hp → Prop} {a0 : Option V} {a1 : Option V} {a2 : Option V} : gName 3 v (a0 :: a1 :: a2 :: b :: r) H Z = Z (a0 :: a1 :: a2 :: some v :: r) H := rfl
theorem r_v4 {v : V} {r : St} {a0 : Option V} {a1 : Option V} {a2 : Option V} {a3 : Option V} : tVar 4 (a0 :: a1 :: a2 :: a3 :: some v :: r) H Q = Q v H := propext ⟨by rintro ⟨_, e, q⟩; cases e; exact q, by intro q; exact ⟨v, rfl, q⟩⟩
theorem r_g4 {v : V} {b : Option V} {r : St} {Z : St → Hp → Prop} {a0 : Option V} {a1 : Option V} {a2 : Option V} {a3 : Option V} : gName 4 v (a0 :: a1 :: a2 :: a3 :: b :: r) H Z = Z (a0 :: a1 :: a2 :: a3 :: some v :: r) H := rfl
theorem r_v5 {v : V} {r : St} {a0 : Option V} {a1 : Option V} {a2 : Option V} {a3 : Option V} {a4 : Option V} : tVar 5 (a0 :: a1 :: a2 :: a3 :: a4 :: some v :: r) H Q = Q v H := propext ⟨by rintro ⟨_, e, q⟩; cases e; exact q, by intro q; exact ⟨v, rfl, q⟩⟩
theorem r_g5 {v : V} {b : Option V} {r : St} {Z : St → Hp → Prop} {a0 : Option V} {a1 : Option V} {a2 : Option V} {a3 : Option V} {a4 : Option V} : gName 5 v (a0 :: a1 :: a2 :: a3 :: a4 :: b :: r) H Z = Z (a0 :: a1 :: a2 :: a3 :: a4 :: some v :: r) H := rfl
theorem r_v6 {v : V} {r : St} {a0 : Option V} {a1 : Option V} {a2 : Option V} {a3 : Option V} {a4 : Option V} {a5 : Option V} : tVar 6 (a0 :: a1 :: a2 :: a3 :: a4 :: a5 :: some v :: r) H Q = Q v H := propext ⟨by rintro ⟨_, e, q⟩; cases e; exact q, by intro q; exact ⟨v, rfl, q⟩⟩
theorem r_g6 {v : V} {b : Option V} {r : St} {Z : St → Hp → Prop} {a0 : Option V} {a1 : Option V} {a2 : Option V} {a3 : Option V} {a4 : Option V} {a5 : Option V} : gName 6 v (a0 :: a1 :: a2 :: a3 :: a4 :: a5 :: b :: r) H Z = Z (a0 :: a1 :: a2 :: a3 :: a4 :: a5 :: some v :: r) H := rfl
theorem r_v7 {v : V} {r : St} {a0 : Option V} {a1 : Option V} {a2 : Option V} {a3 : Option V} {a4 : Option V} {a5 : Option V} {a6 : Option V} : tVar 7 (a0 :: a1 :: a2 :: a3 :: a4 :: a5 :: a6 :: some v :: r) H Q = Q v H := propext ⟨by rintro ⟨_, e, q⟩; cases e; exact q, by intro q; exact ⟨v, rfl, q⟩⟩
theorem r_g7 {v : V} {b : Option V} {r : St} {Z : St → Hp → Prop} {a0 : Option V} {a1 : Option V} {a2 : Option V} {a3 : Option V} {a4 : Option V} {a5 : Option V} {a6 : Option V} : gName 7 v (a0 :: a1 :: a2 :: a3 :: a4 :: a5 :: a6 :: b :: r) H Z = Z (a0 :: a1 :: a2 :: a3 :: a4 :: a5 :: a6 :: some v :: r) H := rfl
theorem r_v8 {v : V} {r : St} {a0 : Option V} {a1 : Option V} {a2 : Option V} {a3 : Option V} {a4 : Option V} {a5 : Option V} {a6 : Option V} {a7 : Option V} : tVar 8 (a0 :: a1 :: a2 :: a3 :: a4 :: a5 :: a6 :: a7 :: some v :: r) H Q = Q v H := propext ⟨by rintro ⟨_, e, q⟩; cases e; exact q, by intro q; exact ⟨v, rfl, q⟩⟩
theorem r_g8 {v : V} {b : Option V} {r : St} {Z : St → Hp → Prop} {a0 : Option V} {a1 : Option V} {a2 : Option V} {a3 : Option V} {a4 : Option V} {a5 : Option V} {a6 : Option V} {a7 : Option V} : gName 8 v (a0 :: a1 :: a2 :: a3 :: a4 :: a5 :: a6 :: a7 :: b :: r) H Z = Z (a0 :: a1 :: a2 :: a3 :: a4 :: a5 :: a6 :: a7 :: some v :: r) H := rfl
theorem r_v9 {v : V} {r : St} {a0 : Option V} {a1 : Option V} {a2 : Option V} {a3 : Option V} {a4 : Option V} {a5 : Option V} {a6 : Option V} {a7 : Option V} {a8 : Option V} : tVar 9 (a0 :: a1 :: a2 :: a3 :: a4 :: a5 :: a6 :: a7 :: a8 :: some v :: r) H Q = Q v H := propext ⟨by rintro ⟨_, e, q⟩; cases e; exact q, by intro q; exact ⟨v, rfl, q⟩⟩
theorem r_g9 {v : V} {b : Option V} {r : St} {Z : St → Hp → Prop} {a0 : Option V} {a1 : Option V} {a2 : Option V} {a3 : Option V} {a4 : Option V} {a5 : Option V} {a6 : Option V} {a7 : Option V} {a8 : Option V} : gName 9 v (a0 :: a1 :: a2 :: a3 :: a4 :: a5 :: a6 :: a7 :: a8 :: b :: r) H Z = Z (a0 :: a1 :: a2 :: a3 :: a4 :: a5 :: a6 :: a7 :: a8 :: some v :: r) H := rfl
theorem r_v10 {v : V} {r : St} {a0 : Option V} {a1 : Option V} {a2 : Option V} {a3 : Option V} {a4 : Option V} {a5 : Option V} {a6 : Option V} {a7 : Option V} {a8 : Option V} {a9 : Option V} : tVar 10 (a0 :: a1 :: a2 :: a3 :: a4 :: a5 :: a6 :: a7 :: a8 :: a9 :: some v :: r) H Q = Q v H := propext ⟨by rintro ⟨_, e, q⟩; cases e; exact q, by intro q; exact ⟨v, rfl, q⟩⟩
theorem r_g10 {v : V} {b : Option V} {r : St} {Z : St → Hp → Prop} {a0 : Option V} {a1 : Option V} {a2 : Option V} {a3 : Option V} {a4 : Option V} {a5 : Option V} {a6 : Option V} {a7 : Option V} {a8 : Option V} {a9 : Option V} : gName 10 v (a0 :: a1 :: a2 :: a3 :: a4 :: a5 :: a6 :: a7 :: a8 :: a9 :: b :: r) H Z = Z (a0 :: a1 :: a2 :: a3 :: a4 :: a5 :: a6 :: a7 :: a8 :: a9 :: some v :: r) H := rfl
theorem r_v11 {v : V} {r : St} {a0 : Option V} {a1 : Option V} {a2 : Option V} {a3 : Option V} {a4 : Option V} {a5 : Option V} {a6 : Option V} {a7 : Option V} {a8 : Option V} {a9 : Option V} {a10 : Option V} : tVar 11 (a0 :: a1 :: a2 :: a3 :: a4 :: a5 :: a6 :: a7 :: a8 :: a9 :: a10 :: some v :: r) H Q = Q v H := propext ⟨by rintro ⟨_, e, q⟩; cases e; exact q, by intro q; exact ⟨v, rfl, q⟩⟩
theorem r_g11 {v : V} {b : Option V} {r : St} {Z : St → Hp → Prop} {a0 : Option V} {a1 : Option V} {a2 : Option V} {a3 : Option V} {a4 : Option V} {a5 : Option V} {a6 : Option V} {a7 : Option V} {a8 : Option V} {a9 : Option V} {a10 : Option V} : gName 11 v (a0 :: a1 :: a2 :: a3 :: a4 :: a5 :: a6 :: a7 :: a8 :: a9 :: a10 :: b :: r) H Z = Z (a0 :: a1 :: a2 :: a3 :: a4 :: a5 :: a6 :: a7 :: a8 :: a9 :: a10 :: some v :: r) H := rfl
theorem r_v12 {v : V} {r : St} {a0 : Option V} {a1 : Option V} {a2 : Option V} {a3 : Option V} {a4 : Option V} {a5 : Option V} {a6 : Option V} {a7 : Option V} {a8 : Option V} {a9 : Option V} {a10 : Option V} {a11 : Option V} : tVar 12 (a0 :: a1 :: a2 :: a3 :: a4 :: a5 :: a6 :: a7 :: a8 :: a9 :: a10 :: a11 :: some v :: r) H Q = Q v H := propext ⟨by rintro ⟨_, e, q⟩; cases e; exact q, by intro q; exact ⟨v, rfl, q⟩⟩
theorem r_g12 {v : V} {b : Option V} {r : St} {Z : St → Hp → Prop} {a0 : Option V} {a1 : Option V} {a2 : Option V} {a3 : Option V} {a4 : Option V} {a5 : Option V} {a6 : Option V} {a7 : Option V} {a8 : Option V} {a9 : Option V} {a10 : Option V} {a11 : Option V} : gName 12 v (a0 :: a1 :: a2 :: a3 :: a4 :: a5 :: a6 :: a7 :: a8 :: a9 :: a10 :: a11 :: b :: r) H Z = Z (a0 :: a1 :: a2 :: a3 :: a4 :: a5 :: a6 :: a7 :: a8 :: a9 :: a10 :: a11 :: some v :: r) H := rfl
theorem r_v13 {v : V} {r : St} {a0 : Option V} {a1 : Option V} {a2 : Option V} {a3 : Option V} {a4 : Option V} {a5 : Option V} {a6 : Option V} {a7 : Option V} {a8 : Option V} {a9 : Option V} {a10 : Option V} {a11 : Option V} {a12 : Option V} : tVar 13 (a0 :: a1 :: a2 :: a3 :: a4 :: a5 :: a6 :: a7 :: a8 :: a9 :: a10 :: a11 :: a12 :: some v :: r) H Q = Q v H := propext ⟨by rintro ⟨_, e, q⟩; cases e; exact q, by intro q; exact ⟨v, rfl, q⟩⟩
theorem r_g13 {v : V} {b : Option V} {r : St} {Z : St → Hp → Prop} {a0 : Option V} {a1 : Option V} {a2 : Option V} {a3 : Option V} {a4 : Option V} {a5 : Option V} {a6 : Option V} {a7 : Option V} {a8 : Option V} {a9 : Option V} {a10 : Option V} {a11 : Option V} {a12 : Option V} : gName 13 v (a0 :: a1 :: a2 :: a3 :: a4 :: a5 :: a6 :: a7 :: a8 :: a9 :: a10 :: a11 :: a12 :: b :: r) H Z = Z (a0 :: a1 :: a2 :: a3 :: a4 :: a5 :: a6 :: a7 :: a8 :: a9 :: a10 :: a11 :: a12 :: some v :: r) H := rfl
theorem r_v14 {v : V} {r : St} {a0 : Option V} {a1 : Option V} {a2 : Option V} {a3 : Option V} {a4 : Option V} {a5 : Option V} {a6 : Option V} {a7 : Option V} {a8 : Option V} {a9 : Option V} {a10 : Option V} {a11 : Option V} {a12 : Option V} {a13 : Option V} : tVar 14 (a0 :: a1 :: a2 :: a3 :: a4 :: a5 :: a6 :: a7 :: a8 :: a9 :: a10 :: a11 :: a12 :: a13 :: some v :: r) H Q = Q v H := propext ⟨by rintro ⟨_, e, q⟩; cases e; exact q, by intro q; exact ⟨v, rfl, q⟩⟩
theorem r_g14 {v : V} {b : Option V} {r : St} {Z : St → Hp → Prop} {a0 : Option V} {a1 : Option V} {a2 : Option V} {a3 : Option V} {a4 : Option V} {a5 : Option V} {a6 : Option V} {a7 : Option V} {a8 : Option V} {a9 : Option V} {a10 : Option V} {a11 : Option V} {a12 : Option V} {a13 : Option V} : gName 14 v (a0 :: a1 :: a2 :: a3 :: a4 :: a5 :: a6 :: a7 :: a8 :: a9 :: a10 :: a11 :: a12 :: a13 :: b :: r) H Z = Z (a0 :: a1 :: a2 :: a3 :: a4 :: a5 :: a6 :: a7 :: a8 :: a9 :: a10 :: a11 :: a12 :: a13 :: some v :: r) H := rfl
theorem r_v15 {v : V} {r : St} {a0 : Option V} {a1 : Option V} {a2 : Option V} {a3 : Option V} {a4 : Option V} {a5 : Option V} {a6 : Option V} {a7 : Option V} {a8 : Option V} {a9 : Option V} {a10 : Option V} {a11 : Option V} {a12 : Option V} {a13 : Option V} {a14 : Option V} : tVar 15 (a0 :: a1 :: a2 :: a3 :: a4 :: a5 :: a6 :: a7 :: a8 :: a9 :: a10 :: a11 :: a12 :: a13 :: a14 :: some v :: r) H Q = Q v H := propext ⟨by rintro ⟨_, e, q⟩; cases e; exact q, by intro q; exact ⟨v, rfl, q⟩⟩
theorem r_g15 {v : V} {b : Option V} {r : St} {Z : St → Hp → Prop} {a0 : Option V} {a1 : Option V} {a2 : Option V} {a3 : Option V} {a4 : Option V} {a5 : Option V} {a6 : Option V} {a7 : Option V} {a8 : Option V} {a9 : Option V} {a10 : Option V} {a11 : Option V} {a12 : Option V} {a13 : Option V} {a14 : Option V} : gName 15 v (a0 :: a1 :: a2 :: a3 :: a4 :: a5 :: a6 :: a7 :: a8 :: a9 :: a10 :: a11 :: a12 :: a13 :: a14 :: b :: r) H Z = Z (a0 :: a1 :: a2 :: a3 :: a4 :: a5 :: a6 :: a7 :: a8 :: a9 :: a10 :: a11 :: a12 :: a13 :: a14 :: some v :: r) H := rfl
theorem r_v16 {v : V} {r : St} {a0 : Option V} {a1 : Option V} {a2 : Option V} {a3 : Option V} {a4 : Option V} {a5 : Option V} {a6 : Option V} {a7 : Option V} {a8 : Option V} {a9 : Option V} {a10 : Option V} {a11 : Option V} {a12 : Option V} {a13 : Option V} {a14 : Option V} {a15 : Option V} : tVar 16 (a0 :: a1 :: a2 :: a3 :: a4 :: a5 :: a6 :: a7 :: a8 :: a9 :: a10 :: a11 :: a12 :: a13 :: a14 :: a15 :: some v :: r) H Q = Q v H := propext ⟨by rintro ⟨_, e, q⟩; cases e; exact q, by intro q; exact ⟨v, rfl, q⟩⟩
theorem r_g16 {v : V} {b : Option V} {r : St} {Z : St → Hp → Prop} {a0 : Option V} {a1 : Option V} {a2 : Option V} {a3 : Option V} {a4 : Option V} {a5 : Option V} {a6 : Option V} {a7 : Option V} {a8 : Option V} {a9 : Option V} {a10 : Option V} {a11 : Option V} {a12 : Option V} {a13 : Option V} {a14 : Option V} {a15 : Option V} : gName 16 v (a0 :: a1 :: a2 :: a3 :: a4 :: a5 :: a6 :: a7 :: a8 :: a9 :: a10 :: a11 :: a12 :: a13 :: a14 :: a15 :: b :: r) H Z = Z (a0 :: a1 :: a2 :: a3 :: a4 :: a5 :: a6 :: a7 :: a8 :: a9 :: a10 :: a11 :: a12 :: a13 :: a14 :: a15 :: some v :: r) H := rfl
theorem r_v17 {v : V} {r : St} {a0 : Option V} {a1 : Option V} {a2 : Option V} {a3 : Option V} {a4 : Option V} {a5 : Option V} {a6 : Option V} {a7 : Option V} {a8 : Option V} {a9 : Option V} {a10 : Option V} {a11 : Option V} {a12 : Option V} {a13 : Option V} {a14 : Option V} {a15 : Option V} {a16 : Option V} : tVar 17 (a0 :: a1 :: a2 :: a3 :: a4 :: a5 :: a6 :: a7 :: a8 :: a9 :: a10 :: a11 :: a12 :: a13 :: a14 :: a15 :: a16 :: some v :: r) H Q = Q v H := propext ⟨by rintro ⟨_, e, q⟩; cases e; exact q, by intro q; exact ⟨v, rfl, q⟩⟩
theorem r_g17 {v : V} {b : Option V} {r : St} {Z : St → Hp → Prop} {a0 : Option V} {a1 : Option V} {a2 : Option V} {a3 : Option V} {a4 : Option V} {a5 : Option V} {a6 : Option V} {a7 : Option V} {a8 : Option V} {a9 : Option V} {a10 : Option V} {a11 : Option V} {a12 : Option V} {a13 : Option V} {a14 : Option V} {a15 : Option V} {a16 : Option V} : gName 17 v (a0 :: a1 :: a2 :: a3 :: a4 :: a5 :: a6 :: a7 :: a8 :: a9 :: a10 :: a11 :: a12 :: a13 :: a14 :: a15 :: a16 :: b :: r) H Z = Z (a0 :: a1 :: a2 :: a3 :: a4 :: a5 :: a6 :: a7 :: a8 :: a9 :: a10 :: a11 :: a12 :: a13 :: a14 :: a15 :: a16 :: some v :: r) H := rfl
theorem r_v18 {v : V} {r : St} {a0 : Option V} {a1 : Option V} {a2 : Option V} {a3 : Option V} {a4 : Option V} {a5 : Option V} {a6 : Option V} {a7 : Option V} {a8 : Option V} {a9 : Option V} {a10 : Option V} {a11 : Option V} {a12 : Option V} {a13 : Option V} {a14 : Option V} {a15 : Option V} {a16 : Option V} {a17 : Option V} : tVar 18 (a0 :: a1 :: a2 :: a3 :: a4 :: a5 :: a6 :: a7 :: a8 :: a9 :: a10 :: a11 :: a12 :: a13 :: a14 :: a15 :: a16 :: a17 :: some v :: r) H Q = Q v H := propext ⟨by rintro ⟨_, e, q⟩; cases e; exact q, by intro q; exact ⟨v, rfl, q⟩⟩
theorem r_g18 {v : V} {b : Option V} {r : St} {Z : St → Hp → Prop} {a0 : Option V} {a1 : Option V} {a2 : Option V} {a3 : Option V} {a4 : Option V} {a5 : Option V} {a6 : Option V} {a7 : Option V} {a8 : Option V} {a9 : Option V} {a10 : Option V} {a11 : Option V} {a12 : Option V} {a13 : Option V} {a14 : Option V} {a15 : Option V} {a16 : Option V} {a17 : Option V} : gName 18 v (a0 :: a1 :: a2 :: a3 :: a4 :: a5 :: a6 :: a7 :: a8 :: a9 :: a10 :: a11 :: a12 :: a13 :: a14 :: a15 :: a16 :: a17 :: b :: r) H Z = Z (a0 :: a1 :: a2 :: a3 :: a4 :: a5 :: a6 :: a7 :: a8 :: a9 :: a10 :: a11 :: a12 :: a13 :: a14 :: a15 :: a16 :: a17 :: some v :: r) H := rfl
theorem r_v19 {v : V} {r : St} {a0 : Option V} {a1 : Option V} {a2 : Option V} {a3 : Option V} {a4 : Option V} {a5 : Option V} {a6 : Option V} {a7 : Option V} {a8 : Option V} {a9 : Option V} {a10 : Option V} {a11 : Option V} {a12 : Option V} {a13 : Option V} {a14 : Option V} {a15 : Option V} {a16 : Option V} {a17 : Option V} {a18 : Option V} : tVar 19 (a0 :: a1 :: a2 :: a3 :: a4 :: a5 :: a6 :: a7 :: a8 :: a9 :: a10 :: a11 :: a12 :: a13 :: a14 :: a15 :: a16 :: a17 :: a18 :: some v :: r) H Q = Q v H := propext ⟨by rintro ⟨_, e, q⟩; cases e; exact q, by intro q; exact ⟨v, rfl, q⟩⟩
theorem r_g19 {v : V} {b : Option V} {r : St} {Z : St → Hp → Prop} {a0 : Option V} {a1 : Option V} {a2 : Option V} {a3 : Option V} {a4 : Option V} {a5 : Option V} {a6 : Option V} {a7 : Option V} {a8 : Option V} {a9 : Option V} {a10 : Option V} {a11 : Option V} {a12 : Option V} {a13 : Option V} {a14 : Option V} {a15 : Option V} {a16 : Option V} {a17 : Option V} {a18 : Option V} : gName 19 v (a0 :: a1 :: a2 :: a3 :: a4 :: a5 :: a6 :: a7 :: a8 :: a9 :: a10 :: a11 :: a12 :: a13 :: a14 :: a15 :: a16 :: a17 :: a18 :: b :: r) H Z = Z (a0 :: a1 :: a2 :: a3 :: a4 :: a5 :: a6 :: a7 :: a8 :: a9 :: a10 :: a11 :: a12 :: a13 :: a14 :: a15 :: a16 :: a17 :: a18 :: some v :: r) H := rfl
theorem r_v20 {v : V} {r : St} {a0 : Option V} {a1 : Option V} {a2 : Option V} {a3 : Option V} {a4 : Option V} {a5 : Option V} {a6 : Option V} {a7 : Option V} {a8 : Option V} {a9 : Option V} {a10 : Option V} {a11 : Option V} {a12 : Option V} {a13 : Option V} {a14 : Option V} {a15 : Option V} {a16 : Option V} {a17 : Option V} {a18 : Option V} {a19 : Option V} : tVar 20 (a0 :: a1 :: a2 :: a3 :: a4 :: a5 :: a6 :: a7 :: a8 :: a9 :: a10 :: a11 :: a12 :: a13 :: a14 :: a15 :: a16 :: a17 :: a18 :: a19 :: some v :: r) H Q = Q v H := propext ⟨by rintro ⟨_, e, q⟩; cases e; exact q, by intro q; exact ⟨v, rfl, q⟩⟩
theorem r_g20 {v : V} {b : Option V} {r : St} {Z : St → Hp → Prop} {a0 : Option V} {a1 : Option V} {a2 : Option V} {a3 : Option V} {a4 : Option V} {a5 : Option V} {a6 : Option V} {a7 : Option V} {a8 : Option V} {a9 : Option V} {a10 : Option V} {a11 : Option V} {a12 : Option V} {a13 : Option V} {a14 : Option V} {a15 : Option V} {a16 : Option V} {a17 : Option V} {a18 : Option V} {a19 : Option V} : gName 20 v (a0 :: a1 :: a2 :: a3 :: a4 :: a5 :: a6 :: a7 :: a8 :: a9 :: a10 :: a11 :: a12 :: a13 :: a14 :: a15 :: a16 :: a17 :: a18 :: a19 :: b :: r) H Z = Z (a0 :: a1 :: a2 :: a3 :: a4 :: a5 :: a6 :: a7 :: a8 :: a9 :: a10 :: a11 :: a12 :: a13 :: a14 :: a15 :: a16 :: a17 :: a18 :: a19 :: some v :: r) H := rfl
theorem r_v21 {v : V} {r : St} {a0 : Option V} {a1 : Option V} {a2 : Option V} {a3 : Option V} {a4 : Option V} {a5 : Option V} {a6 : Option V} {a7 : Option V} {a8 : Option V} {a9 : Option V} {a10 : Option V} {a11 : Option V} {a12 : Option V} {a13 : Option V} {a14 : Option V} {a15 : Option V} {a16 : Option V} {a17 : Option V} {a18 : Option V} {a19 : Option V} {a20 : Option V} : tVar 21 (a0 :: a1 :: a2 :: a3 :: a4 :: a5 :: a6 :: a7 :: a8 :: a9 :: a10 :: a11 :: a12 :: a13 :: a14 :: a15 :: a16 :: a17 :: a18 :: a19 :: a20 :: some v :: r) H Q = Q v H := propext ⟨by rintro ⟨_, e, q⟩; cases e; exact q, by intro q; exact ⟨v, rfl, q⟩⟩
theorem r_g21 {v : V} {b : Option V} {r : St} {Z : St → Hp → Prop} {a0 : Option V} {a1 : Option V} {a2 : Option V} {a3 : Option V} {a4 : Option V} {a5 : Option V} {a6 : Option V} {a7 : Option V} {a8 : Option V} {a9 : Option V} {a10 : Option V} {a11 : Option V} {a12 : Option V} {a13 : Option V} {a14 : Option V} {a15 : Option V} {a16 : Option V} {a17 : Option V} {a18 : Option V} {a19 : Option V} {a20 : Option V} : gName 21 v (a0 :: a1 :: a2 :: a3 :: a4 :: a5 :: a6 :: a7 :: a8 :: a9 :: a10 :: a11 :: a12 :: a13 :: a14 :: a15 :: a16 :: a17 :: a18 :: a19 :: a20 :: b :: r) H Z = Z (a0 :: a1 :: a2 :: a3 :: a4 :: a5 :: a6 :: a7 :: a8 :: a9 :: a10 :: a11 :: a12 :: a13 :: a14 :: a15 :: a16 :: a17 :: a18 :: a19 :: a20 :: some v :: r) H := rfl
theorem r_v22 {v : V} {r : St} {a0 : Option V} {a1 : Option V} {a2 : Option V} {a3 : Option V} {a4 : Option V} {a5 : Option V} {a6 : Option V} {a7 : Option V} {a8 : Option V} {a9 : Option V} {a10 : Option V} {a11 : Option V} {a12 : Option V} {a13 : Option V} {a14 : Option V} {a15 : Option V} {a16 : Option V} {a17 : Option V} {a18 : Option V} {a19 : Option V} {a20 : Option V} {a21 : Option V} : tVar 22 (a0 :: a1 :: a2 :: a3 :: a4 :: a5 :: a6 :: a7 :: a8 :: a9 :: a10 :: a11 :: a12 :: a13 :: a14 :: a15 :: a16 :: a17 :: a18 :: a19 :: a20 :: a21 :: some v :: r) H Q = Q v H := propext ⟨by rintro ⟨_, e, q⟩; cases e; exact q, by intro q; exact ⟨v, rfl, q⟩⟩
theorem r_g22 {v : V} {b : Option V} {r : St} {Z : St → Hp → Prop} {a0 : Option V} {a1 : Option V} {a2 : Option V} {a3 : Option V} {a4 : Option V} {a5 : Option V} {a6 : Option V} {a7 : Option V} {a8 : Option V} {a9 : Option V} {a10 : Option V} {a11 : Option V} {a12 : Option V} {a13 : Option V} {a14 : Option V} {a15 : Option V} {a16 : Option V} {a17 : Option V} {a18 : Option V} {a19 : Option V} {a20 : Option V} {a21 : Option V} : gName 22 v (a0 :: a1 :: a2 :: a3 :: a4 :: a5 :: a6 :: a7 :: a8 :: a9 :: a10 :: a11 :: a12 :: a13 :: a14 :: a15 :: a16 :: a17 :: a18 :: a19 :: a20 :: a21 :: b :: r) H Z = Z (a0 :: a1 :: a2 :: a3 :: a4 :: a5 :: a6 :: a7 :: a8 :: a9 :: a10 :: a11 :: a12 :: a13 :: a14 :: a15 :: a16 :: a17 :: a18 :: a19 :: a20 :: a21 :: some v :: r) H := rfl
theorem r_v23 {v : V} {r : St} {a0 : Option V} {a1 : Option V} {a2 : Option V} {a3 : Option V} {a4 : Option V} {a5 : Option V} {a6 : Option V} {a7 : Option V} {a8 : Option V} {a9 : Option V} {a10 : Option V} {a11 : Option V} {a12 : Option V} {a13 : Option V} {a14 : Option V} {a15 : Option V} {a16 : Option V} {a17 : Option V} {a18 : Option V} {a19 : Option V} {a20 : Option V} {a21 : Option V} {a22 : Option V} : tVar 23 (a0 :: a1 :: a2 :: a3 :: a4 :: a5 :: a6 :: a7 :: a8 :: a9 :: a10 :: a11 :: a12 :: a13 :: a14 :: a15 :: a16 :: a17 :: a18 :: a19 :: a20 :: a21 :: a22 :: some v :: r) H Q = Q v H := propext ⟨by rintro ⟨_, e, q⟩; cases e; exact q, by intro q; exact ⟨v, rfl, q⟩⟩
theorem r_g23 {v : V} {b : Option V} {r : St} {Z : St → Hp → Prop} {a0 : Option V} {a1 : Option V} {a2 : Option V} {a3 : Option V} {a4 : Option V} {a5 : Option V} {a6 : Option V} {a7 : Option V} {a8 : Option V} {a9 : Option V} {a10 : Option V} {a11 : Option V} {a12 : Option V} {a13 : Option V} {a14 : Option V} {a15 : Option V} {a16 : Option V} {a17 : Option V} {a18 : Option V} {a19 : Option V} {a20 : Option V} {a21 : Option V} {a22 : Option V} : gName 23 v (a0 :: a1 :: a2 :: a3 :: a4 :: a5 :: a6 :: a7 :: a8 :: a9 :: a10 :: a11 :: a12 :: a13 :: a14 :: a15 :: a16 :: a17 :: a18 :: a19 :: a20 :: a21 :: a22 :: b :: r) H Z = Z (a0 :: a1 :: a2 :: a3 :: a4 :: a5 :: a6 :: a7 :: a8 :: a9 :: a10 :: a11 :: a12 :: a13 :: a14 :: a15 :: a16 :: a17 :: a18 :: a19 :: a20 :: a21 :: a22 :: some v :: r) H := rfl
theorem r_c {v : V} : tC v σ H Q = Q v H := rfl
theorem r_op {r : R2} {ta tb : TE} : tOp r ta tb σ H Q = ta σ H fun x H1 => tb σ H1 fun y H2 => r x y H2 Q := rfl
theorem r_un {r : V → Hp → VK → Prop} {ta : TE} : tUn r ta σ H Q = ta σ H fun x H1 => r x H1 Q := rfl
theorem r_I0 {g : Int → Int → V} {i j : Int} : rI0 g (.int i) (.int j) H Q = Q (g i j) H := propext ⟨by rintro ⟨_, _, e1, e2, q⟩; cases e1; cases e2; exact q, by intro q; exact ⟨i, j, rfl, rfl, q⟩⟩
theorem r_I {C : Int → Int → Prop} {g : Int → Int → V} {i j : Int} : rI C g (.int i) (.int j) H Q = (C i j ∧ Q (g i j) H) := propext ⟨by rintro ⟨_, _, e1, e2, q⟩; cases e1; cases e2; exact q, by intro q; exact ⟨i, j, rfl, rfl, q⟩⟩
theorem r_U {g : Int → V} {i : Int} : rU g (.int i) H Q = Q (g i) H := propext ⟨by rintro ⟨_, e1, q⟩; cases e1; exact q, by intro q; exact ⟨i, rfl, q⟩⟩
theorem decq_int {i j : Int} : decide (V.int i = V.int j) = decide (i = j) := by
  by_cases h : i = j
  · rw [decide_eq_true h, decide_eq_true (congrArg V.int h)]
  · rw [decide_eq_false h, decide_eq_false fun q => h (V.int.inj q)]
theorem decq_str {i j : Str} : decide (V.str i = V.str j) = decide (i = j) := by
  by_cases h : i = j
  · rw [decide_eq_true h, decide_eq_true (congrArg V.str h)]
  · rw [decide_eq_false h, decide_eq_false fun q => h (V.str.inj q)]
theorem decq_bl {i j : Bool} : decide (V.bl i = V.bl j) = decide (i = j) := by
  by_cases h : i = j
  · rw [decide_eq_true h, decide_eq_true (congrArg V.bl h)]
  · rw [decide_eq_false h, decide_eq_false fun q => h (V.bl.inj q)]
theorem r_eqI {i j : Int} : rEq (.int i) (.int j) H Q = Q (.bl (decide (i = j))) H := by
  show (scal (.int i) (.int j) = true ∧ Q (.bl (decide (V.int i = V.int j))) H) = _
  rw [decq_int]; exact propext ⟨fun h => h.2, fun h => ⟨rfl, h⟩⟩
theorem r_eqS {i j : Str} : rEq (.str i) (.str j) H Q = Q (.bl (decide (i = j))) H := by
  show (scal (.str i) (.str j) = true ∧ Q (.bl (decide (V.str i = V.str j))) H) = _
  rw [decq_str]; exact propext ⟨fun h => h.2, fun h => ⟨rfl, h⟩⟩
theorem r_eqB {i j : Bool} : rEq (.bl i) (.bl j) H Q = Q (.bl (decide (i = j))) H := by
  show (scal (.bl i) (.bl j) = true ∧ Q (.bl (decide (V.bl i = V.bl j))) H) = _
  rw [decq_bl]; exact propext ⟨fun h => h.2, fun h => ⟨rfl, h⟩⟩
theorem r_neI {i j : Int} : rNe (.int i) (.int j) H Q = Q (.bl (!decide (i = j))) H := by
  show (scal (.int i) (.int j) = true ∧ Q (.bl (!decide (V.int i = V.int j))) H) = _
  rw [decq_int]; exact propext ⟨fun h => h.2, fun h => ⟨rfl, h⟩⟩
theorem r_neS {i j : Str} : rNe (.str i) (.str j) H Q = Q (.bl (!decide (i = j))) H := by
  show (scal (.str i) (.str j) = true ∧ Q (.bl (!decide (V.str i = V.str j))) H) = _
  rw [decq_str]; exact propext ⟨fun h => h.2, fun h => ⟨rfl, h⟩⟩
theorem r_exbl {c : Bool} {Z : Bool → Prop} : (∃ k, V.bl c = V.bl k ∧ Z k) = Z c := propext ⟨by rintro ⟨_, e, q⟩; cases e; exact q, by intro q; exact ⟨c, rfl, q⟩⟩
theorem r_exint {c : Int} {Z : Int → Prop} : (∃ k, V.int c = V.int k ∧ Z k) = Z c := propext ⟨by rintro ⟨_, e, q⟩; cases e; exact q, by intro q; exact ⟨c, rfl, q⟩⟩
theorem r_test {t : TE} {Z : Bool → Hp → Prop} : tTest t σ H Z = t σ H fun x H' => ∃ k, x = .bl k ∧ Z k H' := rfl
theorem r_B {t : TE} {Z : Bool → Hp → Prop} : tB t σ H Z = t σ H fun x H' => ∃ k, x = .bl k ∧ Z k H' := rfl
theorem r_and {t u : TT} {Z : Bool → Hp → Prop} : tAnd t u σ H Z = t σ H fun c H1 => if c = true then u σ H1 Z else Z false H1 := rfl
theorem r_or {t u : TT} {Z : Bool → Hp → Prop} : tOr t u σ H Z = t σ H fun c H1 => if c = true then Z true H1 else u σ H1 Z := rfl
theorem r_not {t : TT} {Z : Bool → Hp → Prop} : tNot t σ H Z = t σ H fun c H1 => Z (!c) H1 := rfl
theorem r_andV {ta tb : TE} : tAndV ta tb σ H Q = ta σ H fun x H1 => ∃ c, x = .bl c ∧ if c = true then tb σ H1 Q else Q (.bl false) H1 := rfl
theorem r_orV {ta tb : TE} : tOrV ta tb σ H Q = ta σ H fun x H1 => ∃ c, x = .bl c ∧ if c = true then Q (.bl true) H1 else tb σ H1 Q := rfl
theorem r_notV {ta : TE} : tNotV ta σ H Q = ta σ H fun x H1 => ∃ c, x = .bl c ∧ Q (.bl (!c)) H1 := rfl
theorem r_if {t : TT} {ta tb : TE} : tIf t ta tb σ H Q = t σ H fun c H1 => if c = true then ta σ H1 Q else tb σ H1 Q := rfl
theorem r_next : tNext D σ H = D.nx σ H := rfl
theorem r_seq {t u : TS} : tSeq t u D σ H = t { D with nx := u D } σ H := rfl
theorem r_brk : tBreak D σ H = D.bk σ H := rfl
theorem r_cont : tCont D σ H = D.ct σ H := rfl
theorem r_drop {te : TE} : tDrop te D σ H = te σ H fun _ H1 => D.nx σ H1 := rfl
theorem r_ret {te : TE} : tRet te D σ H = te σ H D.rt := rfl
theorem r_retN : tRetN D σ H = D.rt .non H := rfl
theorem r_ifS {c : TT} {t u : TS} : tIfS c t u D σ H = c σ H fun b H1 => if b = true then t D σ H1 else u D σ H1 := rfl
theorem r_asg {te : TE} {g : TG} : tAsg te g D σ H = te σ H fun x H1 => g x σ H1 D.nx := rfl
theorem r_CB {r : List V → Hp → VK → Prop} {t : TA} : tCB r t σ H Q = t σ H fun vs H1 => r vs H1 Q := rfl
theorem r_nil {Z : List V → Hp → Prop} : tNil σ H Z = Z [] H := rfl
theorem r_cons {ta : TE} {tr : TA} {Z : List V → Hp → Prop} : tCons ta tr σ H Z = ta σ H fun x H1 => tr σ H1 fun xs H2 => Z (x :: xs) H2 := rfl
theorem r_call {sp : Sp} {E : XK} {t : TA} : tCall sp [] E t σ H Q = t σ H fun vs H1 => sp vs H1 Q E := by
  show (t σ H fun vs H1 => sp (vs ++ []) H1 Q E) = _
  simp only [List.append_nil]
theorem r_tup {t : TA} : tTup t σ H Q = t σ H fun xs H1 => xs.length ≤ sizeLine ∧ ∀ p, H1 p = none → Q (.ref p) (upd H1 p (.tup xs)) := rfl
theorem r_lst {t : TA} : tLst t σ H Q = t σ H fun xs H1 => xs.length ≤ sizeLine ∧ ∀ p, H1 p = none → Q (.ref p) (upd H1 p (.lst xs)) := rfl
theorem r_p0 {Z : List (V × V) → Hp → Prop} : tPairs [] σ H Z = Z [] H := rfl
theorem r_pS {tk tv : TE} {r : List (TE × TE)} {Z : List (V × V) → Hp → Prop} : tPairs ((tk, tv) :: r) σ H Z = tk σ H fun x H1 => tv σ H1 fun y H2 => tPairs r σ H2 fun ps H3 => Z ((x, y) :: ps) H3 := rfl
theorem r_disp {trs : List (TE × TE)} : tDisp trs σ H Q = ∀ p, H p = none → tPairs trs σ (upd H p (.dK [])) fun ps H2 => H2 p = some (.dK []) ∧ ∃ kvs : List (Key × V), ps = kvs.map (fun kv => (kV kv.1, kv.2)) ∧ kvs.length ≤ 15 ∧ Q (.ref p) (upd H2 p (.dK (mergeK [] kvs))) := rfl
theorem r_dget {td ty : TE} : tDGet td ty σ H Q = td σ H fun x H1 => ty σ H1 fun y H2 => ∃ a v, x = .ref a ∧ DGet H2 a y (some v) ∧ Q v H2 := rfl
theorem r_sl {r : V → Option Int → Option Int → Hp → VK → Prop} {te : TE} {tl th : TO} : tSl r te tl th σ H Q = te σ H fun x H1 => tl σ H1 fun l H2 => th σ H2 fun u H3 => r x l u H3 Q := rfl
theorem r_noPart {Z : Option Int → Hp → Prop} : tNoPart σ H Z = Z none H := rfl
theorem r_part {te : TE} {Z : Option Int → Hp → Prop} : tPart te σ H Z = te σ H fun x H1 => ∃ i, x = .int i ∧ Z (some i) H1 := rfl
theorem r_gNil {Z : St → Hp → Prop} : gNil [] σ H Z = Z σ H := propext ⟨fun h => h.2, fun h => ⟨rfl, h⟩⟩
theorem r_gCons {t : TG} {u : TGs} {v : V} {r : List V} {Z : St → Hp → Prop} : gCons t u (v :: r) σ H Z = t v σ H fun σ' H' => u r σ' H' Z := propext ⟨by rintro ⟨_, _, e, q⟩; cases e; exact q, by intro q; exact ⟨v, r, rfl, q⟩⟩
theorem r_itT {A B : Prop} : (if true = true then A else B) = A := if_pos rfl
theorem r_itF {A B : Prop} : (if false = true then A else B) = B := if_neg Bool.false_ne_true
theorem r_nT : (!true) = false := rfl
theorem r_nF : (!false) = true := rfl
theorem r_len0 : (([] : List V).length ≤ sizeLine) = True := eq_true (by show 0 ≤ sizeLine; decide)
theorem r_len1 {a0 : V} : (([a0] : List V).length ≤ sizeLine) = True := eq_true (by show 1 ≤ sizeLine; decide)
theorem r_len2 {a0 a1 : V} : (([a0, a1] : List V).length ≤ sizeLine) = True := eq_true (by show 2 ≤ sizeLine; decide)
theorem r_len3 {a0 a1 a2 : V} : (([a0, a1, a2] : List V).length ≤ sizeLine) = True := eq_true (by show 3 ≤ sizeLine; decide)
theorem r_len4 {a0 a1 a2 a3 : V} : (([a0, a1, a2, a3] : List V).length ≤ sizeLine) = True := eq_true (by show 4 ≤ sizeLine; decide)
theorem r_len5 {a0 a1 a2 a3 a4 : V} : (([a0, a1, a2, a3, a4] : List V).length ≤ sizeLine) = True := eq_true (by show 5 ≤ sizeLine; decide)
theorem r_len6 {a0 a1 a2 a3 a4 a5 : V} : (([a0, a1, a2, a3, a4, a5] : List V).length ≤ sizeLine) = True := eq_true (by show 6 ≤ sizeLine; decide)
theorem r_len7 {a0 a1 a2 a3 a4 a5 a6 : V} : (([a0, a1, a2, a3, a4, a5, a6] : List V).length ≤ sizeLine) = True := eq_true (by show 7 ≤ sizeLine; decide)
theorem r_len8 {a0 a1 a2 a3 a4 a5 a6 a7 : V} : (([a0, a1, a2, a3, a4, a5, a6, a7] : List V).length ≤ sizeLine) = True := eq_true (by show 8 ≤ sizeLine; decide)
theorem r_len9 {a0 a1 a2 a3 a4 a5 a6 a7 a8 : V} : (([a0, a1, a2, a3, a4, a5, a6, a7, a8] : List V).length ≤ sizeLine) = True := eq_true (by show 9 ≤ sizeLine; decide)
theorem r_len10 {a0 a1 a2 a3 a4 a5 a6 a7 a8 a9 : V} : (([a0, a1, a2, a3, a4, a5, a6, a7, a8, a9] : List V).length ≤ sizeLine) = True := eq_true (by show 10 ≤ sizeLine; decide)
theorem r_len11 {a0 a1 a2 a3 a4 a5 a6 a7 a8 a9 a10 : V} : (([a0, a1, a2, a3, a4, a5, a6, a7, a8, a9, a10] : List V).length ≤ sizeLine) = True := eq_true (by show 11 ≤ sizeLine; decide)
end
noncomputable def ForW (J : It) (g : TG) (tb : TS) (D : Ends) (σ : St) (H1 : Hp) : Prop := ∃ W : Nat → Nat → St → Hp → Prop, (∃ m, W 0 m σ H1) ∧ ∀ i m σ H, W i m σ H →
  (J.stop i H ∧ D.nx σ H) ∨ (J.go i H ∧ ∃ N : St → Hp → Prop, (∀ σ' H', N σ' H' → ∃ m', m' < m ∧ W (i + 1) m' σ' H') ∧ ∀ x H', J.yld i H x H' → g x σ H' fun σ2 H2 => tb { D with nx := N, ct := N, bk := D.nx } σ2 H2)
section
variable {g : TG} {tb : TS} {D : Ends} {σ : St} {H : Hp}
theorem r_for {wi : TI} : tFor wi g tb D σ H = wi σ H fun J H1 => ForW J g tb D σ H1 := rfl
theorem r_iEnum {K : PySem.W.Frag} {ta : TA} {R : It → Hp → Prop} : iEnum K ta σ H R = ta σ H fun vs H1 => ∃ a, vs = [.ref a] ∧ (∃ xs, SqL K H1 a xs) ∧ R (Ite K a) H1 := rfl
theorem r_iList {K : PySem.W.Frag} {tl : TE} {R : It → Hp → Prop} : iList K tl σ H R = tl σ H fun x H1 => ∃ a, x = .ref a ∧ (∃ xs, SqL K H1 a xs) ∧ R (Itl K a) H1 := rfl
theorem r_iTup {K : PySem.W.Frag} {tl : TE} {R : It → Hp → Prop} : iTup K tl σ H R = tl σ H fun x H1 => ∃ a, x = .ref a ∧ (∃ xs, SqT K H1 a xs) ∧ R (Itt K a) H1 := rfl
theorem r_iRng1 {ta : TA} {R : It → Hp → Prop} : iRng1 ta σ H R = ta σ H fun vs H1 => ∃ j : Int, vs = [.int j] ∧ -(2 ^ 62) ≤ j ∧ j < 2 ^ 62 ∧ R (Itr 0 j.toNat) H1 := rfl
theorem r_iRng2 {ta : TA} {R : It → Hp → Prop} : iRng2 ta σ H R = ta σ H fun vs H1 => ∃ i j : Int, vs = [.int i, .int j] ∧ (-(2 ^ 62) ≤ i ∧ i < 2 ^ 62 ∧ -(2 ^ 62) ≤ j ∧ j < 2 ^ 62) ∧ R (Itr i (j - i).toNat) H1 := rfl
theorem r_exI1 {c : Int} {Z : Int → Prop} : (∃ k, [V.int c] = [V.int k] ∧ Z k) = Z c := propext ⟨by rintro ⟨_, e, q⟩; cases e; exact q, by intro q; exact ⟨c, rfl, q⟩⟩
theorem r_exI2 {c d : Int} {Z : Int → Int → Prop} : (∃ k l, [V.int c, V.int d] = [V.int k, V.int l] ∧ Z k l) = Z c d := propext ⟨by rintro ⟨_, _, e, q⟩; cases e; exact q, by intro q; exact ⟨c, d, rfl, q⟩⟩
theorem r_exR1 {c : Addr} {Z : Addr → Prop} : (∃ k, [V.ref c] = [V.ref k] ∧ Z k) = Z c := propext ⟨by rintro ⟨_, e, q⟩; cases e; exact q, by intro q; exact ⟨c, rfl, q⟩⟩
theorem r_exR {c : Addr} {Z : Addr → Prop} : (∃ k, V.ref c = V.ref k ∧ Z k) = Z c := propext ⟨by rintro ⟨_, e, q⟩; cases e; exact q, by intro q; exact ⟨c, rfl, q⟩⟩
theorem fw_range {lo : Int} {n : Nat} (Pv : Nat → St → Hp → Prop) (h0 : Pv 0 σ H)
    (hs : ∀ (i : Nat) σ H, i < n → Pv i σ H → g (.int (lo + i)) σ H fun σ2 H2 => tb { D with nx := Pv (i + 1), ct := Pv (i + 1), bk := D.nx } σ2 H2) (hd : ∀ σ H, Pv n σ H → D.nx σ H) : ForW (Itr lo n) g tb D σ H := for_range Pv h0 hs hd
theorem fw_range0 {n : Nat} (Pv : Nat → St → Hp → Prop) (h0 : Pv 0 σ H)
    (hs : ∀ (i : Nat) σ H, i < n → Pv i σ H → g (.int (i : Int)) σ H fun σ2 H2 => tb { D with nx := Pv (i + 1), ct := Pv (i + 1), bk := D.nx } σ2 H2) (hd : ∀ σ H, Pv n σ H → D.nx σ H) : ForW (Itr 0 n) g tb D σ H :=
  fw_range Pv h0 (fun i σ H hi p => by rw [Int.zero_add]; exact hs i σ H hi p) hd
theorem fw_enum {K : PySem.W.Frag} {a : Addr} {xs : List V} (Pv : Nat → St → Hp → Prop) (h0 : Pv 0 σ H) (hl : ∀ i σ H, i ≤ xs.length → Pv i σ H → SqL K H a xs)
    (hs : ∀ (i : Nat) x σ H p, xs[i]? = some x → H p = none → Pv i σ H → g (.ref p) σ (upd H p (.tup [.int i, x])) fun σ2 H2 => tb { D with nx := Pv (i + 1), ct := Pv (i + 1), bk := D.nx } σ2 H2) (hd : ∀ σ H, Pv xs.length σ H → D.nx σ H) : ForW (Ite K a) g tb D σ H := for_enum Pv h0 hl hs hd
theorem fw_list {K : PySem.W.Frag} {a : Addr} {xs : List V} (Pv : Nat → St → Hp → Prop) (h0 : Pv 0 σ H) (hl : ∀ i σ H, i ≤ xs.length → Pv i σ H → SqL K H a xs)
    (hs : ∀ (i : Nat) x σ H, xs[i]? = some x → Pv i σ H → g x σ H fun σ2 H2 => tb { D with nx := Pv (i + 1), ct := Pv (i + 1), bk := D.nx } σ2 H2) (hd : ∀ σ H, Pv xs.length σ H → D.nx σ H) : ForW (Itl K a) g tb D σ H := for_list Pv h0 hl hs hd
theorem Same.upd {H : Hp} {p : Addr} {o : HO} (h : H p = none) : Same H (upd H p o) := fun b u e => by rw [upd_ne (ne_of_none e h)]; exact e
theorem Same.seqT {K : PySem.W.Frag} {H H' : Hp} {a : Addr} {xs : List V} (e : Same H H') (h : SqT K H a xs) : SqT K H' a xs := by
  rcases h with (h | ⟨o, h⟩) | h
  · exact .inl (.inl (e _ _ h))
  · exact .inl (.inr ⟨o, e _ _ h⟩)
  · exact .inr h
end
section
variable {H : Hp} {Q : VK} {σ : St} {D : Ends} {K : PySem.W.Frag}
theorem r_bm {T : String} {r : V → List V → Hp → VK → Prop} {to : TE} {t : TA} : tBM K T r to t σ H Q = to σ H fun x H1 => tyV K T x H1 ∧ t σ H1 fun xs H2 => r x xs H2 Q := rfl
theorem r_bm0 {T : String} {r : V → List V → Hp → VK → Prop} {to : TE} : tBM0 K T r to σ H Q = to σ H fun x H1 => tyV K T x H1 ∧ r x [] H1 Q := rfl
theorem r_ixS {z : Str} {i : Int} : rIxS (.str z) (.int i) H Q = (z.length ≤ sizeLine ∧ ∃ c, atI z.cps.toList i = some c ∧ Q (.str ⟨#[c]⟩) H) := propext ⟨by rintro ⟨_, _, c, e1, e2, h1, h2, q⟩; cases e1; cases e2; exact ⟨h1, c, h2, q⟩, by rintro ⟨h1, c, h2, q⟩; exact ⟨_, _, c, rfl, rfl, h1, h2, q⟩⟩
theorem r_ixL {p : Addr} {i : Int} : rIxL K (.ref p) (.int i) H Q = ∃ xs v, SqL K H p xs ∧ atI xs i = some v ∧ Q v H := propext ⟨by rintro ⟨_, xs, _, v, e1, e2, h1, h2, q⟩; cases e1; cases e2; exact ⟨xs, v, h1, h2, q⟩, by rintro ⟨xs, v, h1, h2, q⟩; exact ⟨_, xs, _, v, rfl, rfl, h1, h2, q⟩⟩
theorem r_ixT {p : Addr} {i : Int} : rIxT K (.ref p) (.int i) H Q = ∃ xs v, SqT K H p xs ∧ atI xs i = some v ∧ Q v H := propext ⟨by rintro ⟨_, xs, _, v, e1, e2, h1, h2, q⟩; cases e1; cases e2; exact ⟨xs, v, h1, h2, q⟩, by rintro ⟨xs, v, h1, h2, q⟩; exact ⟨_, xs, _, v, rfl, rfl, h1, h2, q⟩⟩
theorem r_cat {a b : Addr} : rCat (.ref a) (.ref b) H Q = ∃ xs zs, H a = some (.lst xs) ∧ H b = some (.lst zs) ∧ xs.length + zs.length ≤ sizeLine ∧ ∀ p, H p = none → Q (.ref p) (upd H p (.lst (xs ++ zs))) := propext ⟨by rintro ⟨_, _, xs, zs, e1, e2, h⟩; cases e1; cases e2; exact ⟨xs, zs, h⟩, by rintro ⟨xs, zs, h⟩; exact ⟨_, _, xs, zs, rfl, rfl, h⟩⟩
theorem r_slL {a : Addr} {lo hi : Option Int} : rSlL K (.ref a) lo hi H Q = ∃ xs, SqL K H a xs ∧ ∀ p, H p = none → Q (.ref p) (upd H p (.lst (cutV xs lo hi))) := propext ⟨by rintro ⟨_, xs, e1, h⟩; cases e1; exact ⟨xs, h⟩, by rintro ⟨xs, h⟩; exact ⟨_, xs, rfl, h⟩⟩
theorem r_append {a : Addr} {y : V} : rAppend (.ref a) [y] H Q = ∃ xs, H a = some (.lst xs) ∧ xs.length < sizeLine ∧ Q .non (upd H a (.lst (xs ++ [y]))) := propext ⟨by rintro ⟨_, xs, _, e1, e2, h⟩; cases e1; cases e2; exact ⟨xs, h⟩, by rintro ⟨xs, h⟩; exact ⟨_, xs, _, rfl, rfl, h⟩⟩
theorem r_pop {a : Addr} : rPop (.ref a) [] H Q = ∃ xs y, H a = some (.lst xs) ∧ xs[xs.length - 1]? = some y ∧ Q y (upd H a (.lst xs.dropLast)) := propext ⟨by rintro ⟨_, xs, y, e1, _, h⟩; cases e1; exact ⟨xs, y, h⟩, by rintro ⟨xs, y, h⟩; exact ⟨_, xs, y, rfl, rfl, h⟩⟩
theorem r_exS2 {a b : Str} {Z : Str → Str → Prop} : (∃ i j, V.str a = V.str i ∧ V.str b = V.str j ∧ Z i j) = Z a b := propext ⟨by rintro ⟨_, _, e1, e2, q⟩; cases e1; cases e2; exact q, by intro q; exact ⟨a, b, rfl, rfl, q⟩⟩
theorem r_exRl {a : Addr} {Z : Addr → List V → Prop} : (∃ p ys, [V.ref a] = [V.ref p] ∧ Z p ys) = ∃ ys, Z a ys := propext ⟨by rintro ⟨_, ys, e1, q⟩; cases e1; exact ⟨ys, q⟩, by rintro ⟨ys, q⟩; exact ⟨a, ys, rfl, q⟩⟩
theorem r_intB {c : Bool} {Z : Int → Prop} {Y : Bool → Prop} : ((∃ i, [V.bl c] = [V.int i] ∧ Z i) ∨ ∃ k, [V.bl c] = [V.bl k] ∧ Y k) = Y c := propext ⟨fun h => (by rcases h with ⟨_, e, q⟩ | ⟨_, e, q⟩ <;> cases e <;> exact q), fun q => Or.inr ⟨c, rfl, q⟩⟩
theorem r_intI {c : Int} {Z : Int → Prop} {Y : Bool → Prop} : ((∃ i, [V.int c] = [V.int i] ∧ Z i) ∨ ∃ k, [V.int c] = [V.bl k] ∧ Y k) = Z c := propext ⟨fun h => (by rcases h with ⟨_, e, q⟩ | ⟨_, e, q⟩ <;> cases e <;> exact q), fun q => Or.inl ⟨c, rfl, q⟩⟩
theorem r_gTup {n : Nat} {t : TGs} {a : Addr} {Z : St → Hp → Prop} : gTup K n t (.ref a) σ H Z = ∃ xs, SqT K H a xs ∧ xs.length = n ∧ t xs σ H Z := propext ⟨by rintro ⟨_, xs, e, h⟩; cases e; exact ⟨xs, h⟩, by rintro ⟨xs, h⟩; exact ⟨a, xs, rfl, h⟩⟩
end
end L2
namespace L2
open PySem PySem.Spec PyProof.Rows
section
variable {prog : Program} {w : World} {A : Around} {R : Result → Shared → Prop} {s : Shared}
end
end L2
namespace L2
open PySem PySem.Spec PyProof.Rows
inductive Dq (K : PySem.W.Frag) (H : Hp) : Nat → V → V → Bool → Prop where
  | flat {n : Nat} {x y : V} (fx : flatV x = true) (fy : flatV y = true) : Dq K H n x y (eqV x y)
  | same {n : Nat} {a : Addr} : Dq K H n (.ref a) (.ref a) true
  | lists {n : Nat} {a b : Addr} {xs ys : List V} (e : Nat → Bool) (ne : a ≠ b) (ha : SqL K H a xs) (hb : SqL K H b ys) (hl : xs.length = ys.length)
      (he : ∀ (j : Nat) x y, xs[j]? = some x → ys[j]? = some y → Dq K H n x y (e j)) : Dq K H (n + 1) (.ref a) (.ref b) ((List.range xs.length).all e)
  | lens {n : Nat} {a b : Addr} {xs ys : List V} (ne : a ≠ b) (ha : SqL K H a xs) (hb : SqL K H b ys) (hl : ¬ xs.length = ys.length) : Dq K H (n + 1) (.ref a) (.ref b) false
  | tups {n : Nat} {a b : Addr} {xs ys : List V} (e : Nat → Bool) (ne : a ≠ b) (ha : SqT K H a xs) (hb : SqT K H b ys)
      (he : ∀ (j : Nat) x y, xs[j]? = some x → ys[j]? = some y → Dq K H n x y (e j)) : Dq K H (n + 1) (.ref a) (.ref b) ((List.range (min xs.length ys.length)).all e && xs.length == ys.length)
section
variable {X : Cx} {pins : List (Addr × Obj)} {σ : St} {H : Hp} {s : Shared}
theorem el_of {xs : List V} {its : List Value} (r : Vals xs its) {j : Nat} (h : j < its.toArray.size) : ∃ x, xs[j]? = some x ∧ RelV x its.toArray[j] := by
  have hl := r.length
  have hj : j < xs.length := by simpa [hl] using h
  obtain ⟨u, hu, ru⟩ := r.get (List.getElem?_eq_getElem hj)
  have e : its.toArray[j] = u := by
    have h2 : its[j]? = some u := hu
    have h3 : j < its.length := by simpa using h
    rw [List.getElem?_eq_getElem h3] at h2
    simpa using h2
  exact ⟨xs[j], List.getElem?_eq_getElem hj, by rw [e]; exact ru⟩
theorem Dq.at (I : Inv X pins σ H s) {n : Nat} {x y : V} {b : Bool} (d : Dq X.K H n x y b) : ∀ {A : Around} {v u : Value}, RelV x v → RelV y u → A.units + n < cLine → SeqAt.EqAt A s v u b := by
  induction d with
  | flat fx fy => intro A v u rv ru _; exact eqAt_V rv ru fx fy
  | same => intro A v u rv ru _; cases rv; cases ru; exact SeqAt.EqAt.same _
  | @lists n a b xs ys e ne ha hb hl he ih =>
    intro A v u rv ru hu
    cases rv; cases ru
    obtain ⟨its, r, p, _⟩ := I.list ha
    obtain ⟨its2, r2, p2, _⟩ := I.list hb
    have e1 := r.length
    have e2 := r2.length
    have z := SeqAt.RcAt.lists (A := A) (e := e) p.isList p2.isList (by simp; omega) (by omega) fun j h1 h2 => by
      obtain ⟨x, hx, rx⟩ := el_of r h1
      obtain ⟨y, hy, ry⟩ := el_of r2 h2
      exact ih j x y hx hy rx ry (by show A.units + 1 + n < cLine; omega)
    have e3 : its.toArray.size = xs.length := by simp [e1]
    rw [e3] at z
    exact SeqAt.EqAt.of_refs ne z
  | @lens n a b xs ys ne ha hb hl =>
    intro A v u rv ru hu
    cases rv; cases ru
    obtain ⟨its, r, p, _⟩ := I.list ha
    obtain ⟨its2, r2, p2, _⟩ := I.list hb
    have e1 := r.length
    have e2 := r2.length
    exact SeqAt.EqAt.of_refs ne (SeqAt.RcAt.lists_lengths (A := A) p.isList p2.isList (by simp; omega) (by omega))
  | @tups n a b xs ys e ne ha hb he ih =>
    intro A v u rv ru hu
    cases rv; cases ru
    obtain ⟨its, r, p, _⟩ := I.tuple ha
    obtain ⟨its2, r2, p2, _⟩ := I.tuple hb
    have e1 := r.length
    have e2 := r2.length
    have z := SeqAt.RcAt.tuples (A := A) (e := e) (show s.heap.IsTuple a its.toArray from p) (show s.heap.IsTuple b its2.toArray from p2) (by omega) fun j h1 h2 => by
      obtain ⟨x, hx, rx⟩ := el_of r h1
      obtain ⟨y, hy, ry⟩ := el_of r2 h2
      exact ih j x y hx hy rx ry (by show A.units + 1 + n < cLine; omega)
    have e3 : its.toArray.size = xs.length := by simp [e1]
    have e4 : its2.toArray.size = ys.length := by simp [e2]
    rw [e3, e4] at z
    exact SeqAt.EqAt.of_refs ne z
end
inductive Rq (K : PySem.W.Frag) (H : Hp) (n : Nat) : V → V → Bool → Prop where
  | lists {a b : Addr} {xs ys : List V} (e : Nat → Bool) (ha : SqL K H a xs) (hb : SqL K H b ys) (hl : xs.length = ys.length)
      (he : ∀ (j : Nat) x y, xs[j]? = some x → ys[j]? = some y → Dq K H n x y (e j)) : Rq K H n (.ref a) (.ref b) ((List.range xs.length).all e)
  | lens {a b : Addr} {xs ys : List V} (ha : SqL K H a xs) (hb : SqL K H b ys) (hl : ¬ xs.length = ys.length) : Rq K H n (.ref a) (.ref b) false
  | tups {a b : Addr} {xs ys : List V} (e : Nat → Bool) (ha : SqT K H a xs) (hb : SqT K H b ys)
      (he : ∀ (j : Nat) x y, xs[j]? = some x → ys[j]? = some y → Dq K H n x y (e j)) : Rq K H n (.ref a) (.ref b) ((List.range (min xs.length ys.length)).all e && xs.length == ys.length)
noncomputable def rEqD (K : PySem.W.Frag) (n : Nat) : R2 := fun x y H Q => ∃ b, Rq K H n x y b ∧ Q (.bl b) H
noncomputable def rNeD (K : PySem.W.Frag) (n : Nat) : R2 := fun x y H Q => ∃ b, Rq K H n x y b ∧ Q (.bl (!b)) H
section
variable {X : Cx}
theorem op_eqD {n : Nat} (hu : X.A.units + (n + 1) < cLine) : OpR X (compareOp .Eq) (rEqD X.K n) := by
  intro pins s σ H x y v u Q I rx ry h
  obtain ⟨b, d, q⟩ := h
  cases d with
  | @lists a c xs ys e ha hb hl he =>
    cases rx; cases ry
    obtain ⟨its, r, p, _⟩ := I.list ha
    obtain ⟨its2, r2, p2, _⟩ := I.list hb
    have e1 := r.length
    have e2 := r2.length
    have e3 : its.toArray.size = xs.length := by simp [e1]
    refine SeqAt.eq_listAt (e := e) p.isList p2.isList (by simp; omega) (by omega) (fun j h1 h2 => ?_) ⟨.bl _, H, I, rfl, by rw [e3]; exact q⟩
    obtain ⟨x, hx, rx⟩ := el_of r h1
    obtain ⟨y, hy, ry⟩ := el_of r2 h2
    exact (he j x y hx hy).at I rx ry (by show X.A.units + 1 + n < cLine; omega)
  | @lens a c xs ys ha hb hl =>
    cases rx; cases ry
    obtain ⟨its, r, p, _⟩ := I.list ha
    obtain ⟨its2, r2, p2, _⟩ := I.list hb
    have e1 := r.length
    have e2 := r2.length
    exact SeqAt.eq_list_lengthsAt p.isList p2.isList (by simp; omega) (by omega) ⟨.bl _, H, I, rfl, q⟩
  | @tups a c xs ys e ha hb he =>
    cases rx; cases ry
    obtain ⟨its, r, p, _⟩ := I.tuple ha
    obtain ⟨its2, r2, p2, _⟩ := I.tuple hb
    have e1 := r.length
    have e2 := r2.length
    have e3 : its.toArray.size = xs.length := by simp [e1]
    have e4 : its2.toArray.size = ys.length := by simp [e2]
    refine SeqAt.eq_tupleAt (e := e) (show s.heap.IsTuple a its.toArray from p) (show s.heap.IsTuple c its2.toArray from p2) (by omega) (fun j h1 h2 => ?_) ⟨.bl _, H, I, rfl, by rw [e3, e4]; exact q⟩
    obtain ⟨x, hx, rx⟩ := el_of r h1
    obtain ⟨y, hy, ry⟩ := el_of r2 h2
    exact (he j x y hx hy).at I rx ry (by show X.A.units + 1 + n < cLine; omega)
theorem op_neD {n : Nat} (hu : X.A.units + (n + 1) < cLine) : OpR X (compareOp .NotEq) (rNeD X.K n) := by
  intro pins s σ H x y v u Q I rx ry h
  obtain ⟨b, d, q⟩ := h
  cases d with
  | @lists a c xs ys e ha hb hl he =>
    cases rx; cases ry
    obtain ⟨its, r, p, _⟩ := I.list ha
    obtain ⟨its2, r2, p2, _⟩ := I.list hb
    have e1 := r.length
    have e2 := r2.length
    have e3 : its.toArray.size = xs.length := by simp [e1]
    refine SeqAt.RcNeAt.lists (A := X.A) (e := e) p.isList p2.isList (by simp; omega) (by omega) (fun j h1 h2 => ?_) X.prog X.w X.xe _ ⟨.bl _, H, I, rfl, by rw [e3]; exact q⟩
    obtain ⟨x, hx, rx⟩ := el_of r h1
    obtain ⟨y, hy, ry⟩ := el_of r2 h2
    exact (he j x y hx hy).at I rx ry (by show X.A.units + 1 + n < cLine; omega)
  | @lens a c xs ys ha hb hl =>
    cases rx; cases ry
    obtain ⟨its, r, p, _⟩ := I.list ha
    obtain ⟨its2, r2, p2, _⟩ := I.list hb
    have e1 := r.length
    have e2 := r2.length
    exact SeqAt.RcNeAt.lists_lengths (A := X.A) p.isList p2.isList (by simp; omega) (by omega) X.prog X.w X.xe _ ⟨.bl _, H, I, rfl, q⟩
  | @tups a c xs ys e ha hb he =>
    cases rx; cases ry
    obtain ⟨its, r, p, _⟩ := I.tuple ha
    obtain ⟨its2, r2, p2, _⟩ := I.tuple hb
    have e1 := r.length
    have e2 := r2.length
    have e3 : its.toArray.size = xs.length := by simp [e1]
    have e4 : its2.toArray.size = ys.length := by simp [e2]
    refine SeqAt.RcNeAt.tuples (A := X.A) (e := e) (show s.heap.IsTuple a its.toArray from p) (show s.heap.IsTuple c its2.toArray from p2) (by omega) (fun j h1 h2 => ?_) X.prog X.w X.xe _ ⟨.bl _, H, I, rfl, by rw [e3, e4]; exact q⟩
    obtain ⟨x, hx, rx⟩ := el_of r h1
    obtain ⟨y, hy, ry⟩ := el_of r2 h2
    exact (he j x y hx hy).at I rx ry (by show X.A.units + 1 + n < cLine; omega)
end
theorem all_true (n : Nat) : (List.range n).all (fun _ => true) = true := by simp
end L2
namespace L2
open PySem PySem.Spec PyProof.Rows
noncomputable def clOf (cells : List (Str × Addr)) : List (Str × NameKind) → List (Str × Addr) → List (Str × Addr)
  | [], acc => acc
  | (n, k) :: r, acc => if k == .free then clOf cells r ((n, (cells.lookup n).getD 0) :: acc) else clOf cells r acc
theorem closureFor_cl {scope : Scope} {env : Env} (h : ∀ y ∈ scope.names, y.2 = .free → ∃ c, env.cells.lookup y.1 = some c) : closureFor scope env = pure (clOf env.cells scope.names []) := by
  have key : ∀ (names : List (Str × NameKind)) (acc : List (Str × Addr)), (∀ y ∈ names, y.2 = .free → ∃ c, env.cells.lookup y.1 = some c) →
      (forIn names acc fun x (r : List (Str × Addr)) => match x with
        | (name, kind) => if (kind == .free) = true then do let c ← cellOf env name; pure (ForInStep.yield ((name, c) :: r)) else pure (ForInStep.yield r)) = (pure (clOf env.cells names acc) : Sem (List (Str × Addr))) := by
    intro names
    induction names with
    | nil => intro acc _; rfl
    | cons y r ih =>
      intro acc hy
      obtain ⟨n, k⟩ := y
      rw [List.forIn_cons]
      cases hk : (k == NameKind.free) with
      | true =>
        have hk' : k = .free := by simpa using hk
        obtain ⟨c, hc⟩ := hy (n, k) List.mem_cons_self hk'
        have e : cellOf env n = pure c := by unfold cellOf; rw [show env.cells.lookup n = some c from hc]
        simp only [hk, if_true, e, pure_bind]
        rw [ih _ fun z hz => hy z (List.mem_cons_of_mem _ hz)]
        simp only [clOf, hk, if_true]
        rw [show env.cells.lookup n = some c from hc]
        rfl
      | false =>
        simp only [hk, Bool.false_eq_true, if_false, pure_bind]
        rw [ih _ fun z hz => hy z (List.mem_cons_of_mem _ hz)]
        simp only [clOf, hk, Bool.false_eq_true, if_false]
  refine (show closureFor scope env = ((forIn scope.names [] fun x (r : List (Str × Addr)) => match x with
        | (name, kind) => if (kind == .free) = true then do let c ← cellOf env name; pure (ForInStep.yield ((name, c) :: r)) else pure (ForInStep.yield r)) >>= fun cs => pure cs) from rfl).trans ?_
  rw [key scope.names [] h]
  rfl
theorem clOf_sub {cells : List (Str × Addr)} : ∀ {names : List (Str × NameKind)} {acc : List (Str × Addr)}, (∀ y ∈ names, y.2 = .free → ∃ c, cells.lookup y.1 = some c) → (∀ y c, acc.lookup y = some c → cells.lookup y = some c) →
    ∀ y c, (clOf cells names acc).lookup y = some c → cells.lookup y = some c
  | [], _, _, ha => ha
  | (n, k) :: r, acc, hn, ha => by
    intro y c
    unfold clOf
    split
    · next hk =>
      refine clOf_sub (fun z hz => hn z (List.mem_cons_of_mem _ hz)) (fun z d hz => ?_) y c
      obtain ⟨e, he⟩ := hn (n, k) List.mem_cons_self (by simpa using hk)
      rw [List.lookup_cons] at hz
      split at hz
      · next hq =>
        have : z = n := by simpa using hq
        subst this
        have he' : cells.lookup z = some e := he
        rw [he'] at hz ⊢
        exact hz
      · exact ha z d hz
    · exact clOf_sub (fun z hz => hn z (List.mem_cons_of_mem _ hz)) ha y c
theorem clOf_acc {cells : List (Str × Addr)} {y : Str} : ∀ {names : List (Str × NameKind)} {acc : List (Str × Addr)}, (∃ c, acc.lookup y = some c) → ∃ c, (clOf cells names acc).lookup y = some c
  | [], _, h => h
  | (n, k) :: r, acc, h => by
    unfold clOf
    split
    · refine clOf_acc ?_
      rw [List.lookup_cons]
      split
      · exact ⟨_, rfl⟩
      · exact h
    · exact clOf_acc h
theorem clOf_has {cells : List (Str × Addr)} {y : Str} : ∀ {names : List (Str × NameKind)} {acc : List (Str × Addr)}, (y, NameKind.free) ∈ names → ∃ c, (clOf cells names acc).lookup y = some c
  | (n, k) :: r, acc, h => by
    unfold clOf
    rcases List.mem_cons.mp h with e | e
    · cases e
      rw [if_pos (by rfl)]
      exact clOf_acc ⟨(cells.lookup y).getD 0, by rw [List.lookup_cons, beq_self_eq_true]⟩
    · split
      · exact clOf_has e
      · exact clOf_has e
structure Bk where
  C : Addr
  fp : List Addr
  s₂ : Shared
  H₂ : Hp
noncomputable def Cx.blk (X : Cx) (N' : List Str) (scope : Scope) (b : Bk) : Cx :=
  { prog := X.prog, w := X.w, K := X.K, mg := X.mg, base := X.base, A := X.A, N := N', s₀ := b.s₂, H₀ := b.H₂, env := compEnvC scope (clOf X.env.cells scope.names []) b.C X.env, outer := X.stack, stack := X.stack, ex := b.fp, fn := fun _ => false, calm := X.calm, pn := [], xe := fun _ _ => False }
noncomputable def blkSt (os : List (Option V)) (ci : List Nat) (σ : St) : St := none :: (os ++ ci.map fun i => (σ[i]?).join)
noncomputable def CompGW (J : It) (g : TG) (tt : TT) (te : TE) (nt : Nat) (ci : List Nat) (σ : St) (acc : Addr) (Q : Hp → Prop) (H0 : Hp) : Prop := ∃ W : Nat → Nat → List V → Hp → Prop, (∃ m, W 0 m [] H0) ∧ ∀ i m ys H, W i m ys H →
  (J.stop i H ∧ Q H) ∨ (J.go i H ∧ ∃ N : List V → Hp → Prop, (∀ zs H', N zs H' → ∃ m', m' < m ∧ W (i + 1) m' zs H') ∧ ∀ y H' os, os.length = nt → J.yld i H y H' → g y (blkSt os ci σ) H' fun σ1 H1 => (∃ os', os'.length = nt ∧ σ1 = blkSt os' ci σ) ∧ tt σ1 H1 fun b H2 =>
    if b = true then te σ1 H2 fun z H3 => H3 acc = some (.lst ys) ∧ ys.length < sizeLine ∧ N (ys ++ [z]) (upd H3 acc (.lst (ys ++ [z]))) else N ys H2)
noncomputable def tCompG (wi : TI) (g : Bk → TG) (tt : Bk → TT) (te : Bk → TE) (nt : Nat) (ci : List Nat) : TE := fun σ H Q => wi σ H fun J H1 => ∀ acc, H1 acc = none → ∀ bk : Bk, CompGW J (g bk) (tt bk) (te bk) nt ci σ acc (fun H' => Q (.ref acc) H') (upd H1 acc (.lst []))
noncomputable def PIfs (X : Cx) (ifs : List Expr) (t : TT) : Prop :=
  ∀ (pins : List (Addr × Obj)) (s : Shared) (σ : St) (H : Hp) (Q : Bool → Hp → Prop), Inv X pins σ H s → t σ H Q →
    wpAny (model X.prog X.w) X.A (forIn ifs true fun c r => if r = true then do let ok ← isTrue c X.env (eval c X.env); pure (ForInStep.yield ok) else pure (ForInStep.yield r)) (TP X pins σ Q) X.xe s
noncomputable def tYes : TT := fun _ H Q => Q true H
theorem pf_nil {X : Cx} : PIfs X [] tYes := fun pins s σ H Q I h => wpAny_tests_nil ⟨H, I, h⟩
theorem pf_one {X : Cx} {c : Expr} {t : TT} (h : PT X c t) : PIfs X [c] t := fun pins s σ H Q I q => wpAny_tests_one (h pins s σ H Q I q)
structure CompSc (X : Cx) (scope : Scope) (cns : List Str) (ci : List Nat) : Prop where
  kind : scope.kind = .function
  cell : ∀ y ∈ scope.names, y.2 ≠ .cell
  names : ∀ y ∈ scope.names, y.2 = .local → scope.names.lookup y.1 = some .local
  free : ∀ y ∈ scope.names, y.2 = .free → X.env.kindOf y.1 = some .cell ∨ X.env.kindOf y.1 = some .free
  cap : ∀ (j : Nat) x, cns[j]? = some x → ∃ i, ci[j]? = some i ∧ X.N[i]? = some x ∧ (x, NameKind.free) ∈ scope.names
  len : cns.length = ci.length
  noloc : ∀ y, (y, NameKind.free) ∈ scope.names → ¬ (relabel scope X.env).names.lookup y = some .local
theorem relabel_cell {env : Env} : ∀ {names : List (Str × NameKind)} {y : Str} {k : NameKind}, (names.map fun (n, k) => if (k == NameKind.free && env.scope.kind == .function && env.kindOf n == some .cell) then (n, NameKind.cell) else (n, k)).lookup y = some k → k = .cell ∨ k = .free →
    (∀ z ∈ names, z.2 ≠ .cell) → (y, NameKind.free) ∈ names
  | [], _, _, h, _, _ => by simp at h
  | (n, k0) :: r, y, k, h, hk, hc => by
    rw [List.map_cons, List.lookup_cons] at h
    by_cases hf : (k0 == NameKind.free && env.scope.kind == .function && env.kindOf n == some .cell) = true
    · simp only [hf, if_true] at h
      have k0f : k0 = .free := by
        have := hf
        simp only [Bool.and_eq_true] at this
        simpa using this.1.1
      split at h
      · next hq =>
        have : y = n := by simpa using hq
        subst this; subst k0f
        exact List.mem_cons_self
      · exact List.mem_cons_of_mem _ (relabel_cell h hk fun z hz => hc z (List.mem_cons_of_mem _ hz))
    · simp only [hf] at h
      split at h
      · next hq =>
        have : y = n := by simpa using hq
        subst this
        have e : k0 = k := by simpa using h
        subst e
        rcases hk with z | z
        · exact absurd z (hc _ List.mem_cons_self)
        · subst z; exact List.mem_cons_self
      · exact List.mem_cons_of_mem _ (relabel_cell h hk fun z hz => hc z (List.mem_cons_of_mem _ hz))
section
variable {prog : Program} {w : World} {A : Around} {R : Result → Shared → Prop} {s : Shared}
theorem compLoop_goT {elt target iter : Expr} {ifs : List Expr} {scope : Scope} {pos : Pos} {it acc : Value} {env : Env} (I : Nat → Shared → Prop)
    (turn : ∀ n s, I n s → wpAny (model prog w) A (pyNext it) (fun r s₁ => match r with
      | none => R (.ok .next) s₁
      | some v => wpAny (model prog w) A (letOwnedTupleGo target it v) (fun _ s₅ => wpAny (model prog w) A (assign target env v) (fun _ s₂ =>
          wpAny (model prog w) A (forIn ifs true fun c r => if r = true then do let ok ← isTrue c env (eval c env); pure (ForInStep.yield ok) else pure (ForInStep.yield r)) (fun ok s₃ =>
            if ok = true then wpAny (model prog w) A (eval elt env) (fun x s₄ =>
              wpAny (model prog w) A (call (.builtin "list.append") [acc, x]) (fun _ s₅ => ∃ m, m < n ∧ I m s₅) (fun _ _ => False) s₄) (fun _ _ => False) s₃
            else ∃ m, m < n ∧ I m s₃) (fun _ _ => False) s₂) (fun _ _ => False) s₅) (fun _ _ => False) s₁) (fun _ _ => False) s)
    (n : Nat) (h : I n s) :
    codeAny (model prog w) A (.compLoop (.ListComp elt [⟨target, iter, ifs, 0⟩] scope pos) 0 it acc env) R s := by
  refine codeAny_loop rfl I (fun n s hI => ?_) n h
  show wpAny _ _ ((compTurn (.ListComp elt [⟨target, iter, ifs, 0⟩] scope pos) 0 it acc env).onRaise (fun x => do noteFrame x env; theTreesLotGoes x)) _ _ s
  refine wpAny_noted ?_
  rw [compTurn_list]
  refine wpAny_bind (wpAny_standAt (wpAny_bind (wpAny_mono (turn n s hI) (fun r s₁ h₁ => ?_) fun _ _ h' => h'.elim)))
  cases r with
  | none => exact wpAny_pure h₁
  | some v =>
    refine wpAny_bind (wpAny_mono h₁ (fun _ s₅ h₅ => ?_) fun _ _ h' => h'.elim)
    refine wpAny_bind (wpAny_mono h₅ (fun _ s₂ h₂ => wpAny_bind (wpAny_mono h₂ (fun ok s₃ h₃ => ?_) fun _ _ h' => h'.elim)) fun _ _ h' => h'.elim)
    cases ok with
    | true =>
      rw [if_pos rfl] at h₃
      exact wpAny_bind (wpAny_bind (wpAny_mono h₃ (fun x s₃ h₃ => wpAny_bind (wpAny_mono h₃ (fun _ s₄ h₄ => wpAny_pure (wpAny_pure ⟨rfl, h₄⟩)) fun _ _ h' => h'.elim)) fun _ _ h' => h'.elim))
    | false =>
      rw [if_neg Bool.false_ne_true] at h₃
      exact wpAny_bind (wpAny_pure (wpAny_pure ⟨rfl, h₃⟩))
end
theorem comp_core {X : Cx} {elt iter tgt : Expr} {ifs : List Expr} {pos : Pos} {scope : Scope} {g : Bk → TG} {tt : Bk → TT} {te : Bk → TE} {tns cns : List Str} {ci : List Nat} {RR : Value → Addr → Result → Shared → Prop} {E : Value → Shared → Prop}
    {pins : List (Addr × Obj)} {σ : St} {H2 : Hp} {s2 : Shared} {it : Addr} {fp : List Addr} {tn : Nat → Heap → Prop} {J : It} {Q : Addr → Hp → Prop}
    (hc : X.calm = true) (S : CompSc X scope cns ci)
    (hg : ∀ bk : Bk, PG (X.blk (".0" :: (tns ++ cns)) scope bk) tgt (g bk))
    (ht : ∀ bk : Bk, PIfs (X.blk (".0" :: (tns ++ cns)) scope bk) ifs (tt bk))
    (he : ∀ bk : Bk, PE (X.blk (".0" :: (tns ++ cns)) scope bk) elt (te bk))
    (I2 : Inv X pins σ H2 s2) (T : Turn X.prog X.w X.K tgt J fp it tn) (st2 : tn 0 s2.heap) (f2 : ∀ b ∈ fp, FpOk X pins H2 b)
    (hcw : ∀ acc, H2 acc = none → ∀ bk : Bk, CompGW J (g bk) (tt bk) (te bk) tns.length ci σ acc (Q acc) (upd H2 acc (.lst [])))
    (fin : ∀ D C s5 H4 m, Inv X pins σ H4 s5 → s5.heap.Ns C m → FpOk X pins H4 C → Q D H4 → RR (.ref D) C (.ok .next) s5) :
    wpAny (model X.prog X.w) X.A (newList []) (fun acc s₃ => wpAny (model X.prog X.w) X.A (newFunctionEnv scope X.env.globals (clOf X.env.cells scope.names []) [] X.env.qual none .none (some X.env)) (fun cenv s₄ =>
      codeAny (model X.prog X.w) X.A (.compStart (.ListComp elt [⟨tgt, iter, ifs, 0⟩] scope pos) 0 (.ref it) acc { cenv with scope := relabel scope X.env }) (RR acc cenv.locals) s₄) E s₃) E s2 := by
  have hfc : ∀ y ∈ scope.names, y.2 = .free → ∃ c, X.env.cells.lookup y.1 = some c := fun y hy hk => I2.ok.has _ (S.free y hy hk)
  have hsub : ∀ y c, (clOf X.env.cells scope.names []).lookup y = some c → X.env.cells.lookup y = some c := clOf_sub hfc (fun y c e => by simp at e)
  refine wpAny_newObj_type (wpAny_newFunctionEnv S.cell (by intro y hy; simp at hy) (fun h₁ hns₁ hsb₁ => ?_) S.kind)
  dsimp only at hns₁ hsb₁ ⊢
  generalize hH2 : s2.heap.push { cls := .type "list", dict := none, data := .seq ([] : List Value).toArray } = G2 at hns₁ hsb₁ ⊢
  have hCz : G2.objs.size = s2.heap.objs.size + 1 := by rw [← hH2, Heap.size_push]
  have hDC : s2.heap.objs.size ≠ G2.objs.size := by rw [hCz]; exact Nat.ne_of_lt (Nat.lt_succ_self _)
  have below : ∀ b, b < s2.heap.objs.size → b ≠ G2.objs.size := fun b hb => by omega
  have old : ∀ b o, s2.heap.get? b = some o → h₁.get? b = some o := fun b o e => hsb₁.extBut b o (below b (Heap.lt_size e)) (Heap.get?_push_of_some _ (hH2 ▸ Heap.get?_push_of_some _ e))
  have hacc : h₁.get? s2.heap.objs.size = some { cls := .type "list", dict := none, data := .seq ([] : List Value).toArray } := hsb₁.extBut _ _ hDC (Heap.get?_push_of_some _ (hH2 ▸ Heap.get?_push_size _ rfl))
  have hnD : H2 s2.heap.objs.size = none := I2.hok.fresh (Nat.le_refl _)
  have hnC : H2 G2.objs.size = none := I2.hok.fresh (by omega)
  obtain ⟨W, ⟨m0, w0⟩, turn⟩ := hcw s2.heap.objs.size hnD ⟨G2.objs.size, fp, s2, H2⟩
  have nlt : ∀ {b : Addr} {o : Obj}, s2.heap.get? b = some o → b ≠ s2.heap.objs.size := fun q => Nat.ne_of_lt (Heap.lt_size q)
  have fpl : ∀ b ∈ fp, b < s2.heap.objs.size := fun b hb => by
    obtain ⟨o, e, _⟩ := T.obj _ _ st2 b hb
    exact Heap.lt_size e
  have clt : ∀ y c, (clOf X.env.cells scope.names []).lookup y = some c → c < s2.heap.objs.size := fun y c e => by
    obtain ⟨v, q⟩ := I2.cell y c (hsub y c e)
    exact q.lt
  have hasC : ∀ y, ((relabel scope X.env).names.lookup y = some .cell ∨ (relabel scope X.env).names.lookup y = some .free) → ∃ c, (clOf X.env.cells scope.names []).lookup y = some c := fun y hk => by
    rcases hk with z | z
    · exact clOf_has (relabel_cell z (.inl rfl) S.cell)
    · exact clOf_has (relabel_cell z (.inr rfl) S.cell)
  have ok : (X.blk (".0" :: (tns ++ cns)) scope ⟨G2.objs.size, fp, s2, H2⟩).Ok := {
    mod := I2.ok.mod
    kind := S.kind
    glob := I2.ok.glob
    blt := I2.ok.blt
    above := by show s2.heap.objs.size ≤ G2.objs.size; omega
    inj := fun y z c e1 e2 => I2.ok.inj y z c (hsub y c e1) (hsub z c e2)
    has := fun y hk => hasC y hk
    cab := fun y c e => by
      have e' : (false = true) := e
      cases e'
    hd := I2.ok.hd
    frames := I2.ok.frames
    stk := .inl rfl
    exf := fun b hb => ⟨below b (fpl b hb), fun y c e => (f2 b hb).2.2.2.2.1 y c (hsub y c e)⟩
    bs := I2.bs
    bsz := Nat.le_trans I2.ok.bsz I2.sz
    noex := fun b o e hb => by
      rcases (f2 b hb).2.2.2.1 with z | z
      · exact I2.ok.noex b o e z
      · exact absurd (Nat.lt_of_lt_of_le (Heap.lt_size e) (Nat.le_trans I2.ok.bsz z)) (Nat.lt_irrefl _)
    exfs := fun b hb hf => by
      rcases List.mem_cons.mp (I2.stkSub b hf) with z | z
      · exact (f2 b hb).2.1 z
      · exact (f2 b hb).2.2.1 z
    funs := I2.stack
    frf := I2.stkFree }
  have hokD : HOk X.prog X.w (upd H2 s2.heap.objs.size (.lst [])) h₁ := I2.hok.laid old (Nat.le_refl _) ⟨Nat.zero_le _, [], 0, .nil, hacc⟩
  have clD : ∀ y c, (clOf X.env.cells scope.names []).lookup y = some c → c ≠ s2.heap.objs.size := fun y c e => Nat.ne_of_lt (clt y c e)
  have I3 : Inv (X.blk (".0" :: (tns ++ cns)) scope ⟨G2.objs.size, fp, s2, H2⟩) [] (blkSt (List.replicate tns.length none) ci σ) (upd H2 s2.heap.objs.size (.lst [])) { s2 with heap := h₁, toks := s2.toks + ([] : List (Str × Value)).length } := {
    ok := ok
    os := rfl
    bare := I2.bare
    base := ⟨fun b o e n _ _ => old b o e, fun b o e n _ _ => ⟨o.slots, old b o e⟩, fun b o e n _ => by rw [upd_ne (nlt e)]; exact n, fun b o e _ => ⟨o, old b o e⟩,
      fun b ys e => by rw [upd_ne (ne_of_none e hnD)]; exact e, fun b o u e => by rw [upd_ne (ne_of_none e hnD)]; exact e, fun b ps e => ⟨#[], by rw [upd_ne (ne_of_none e hnD), Array.append_empty]; exact e⟩⟩
    loc := ⟨_, hns₁, fun i y v e1 e2 e3 => by
      have e1' : ((".0" : Str) :: (tns ++ cns))[i]? = some y := e1
      unfold blkSt at e2
      cases i with
      | zero => simp at e2
      | succ i =>
        rw [List.getElem?_cons_succ] at e1' e2
        by_cases hi : i < tns.length
        · rw [List.getElem?_append_left (by simpa using hi), List.getElem?_replicate, if_pos hi] at e2
          cases e2
        · rw [List.getElem?_append_right (by omega)] at e1'
          rw [List.getElem?_append_right (by simp; omega), List.length_replicate] at e2
          obtain ⟨q, hq, hN, hm⟩ := S.cap _ _ e1'
          rw [List.getElem?_map, hq] at e2
          have e2' : (σ[q]?).join = some v := by simpa using e2
          have e4 : σ[q]? = some (some v) := by
            cases z : σ[q]? with
            | none => rw [z] at e2'; cases e2'
            | some o => rw [z] at e2'; rw [show o = some v from e2']
          obtain ⟨m, hns, hl⟩ := I2.loc
          have hvis : Vis X.env.scope y := by
            rcases S.free (y, .free) hm rfl with z | z
            · exact .inr (.inl z)
            · exact .inr (.inr z)
          obtain ⟨u, ru, lk⟩ := hl q y v hN e4 hvis
          refine ⟨u, ru, .inr ?_⟩
          have hkk : X.env.kindOf y = some .cell ∨ X.env.kindOf y = some .free := S.free (y, .free) hm rfl
          rcases lk with ⟨k1, _⟩ | ⟨_, c, hc1, hc2⟩
          · rcases hkk with z | z <;> (rw [k1] at z; cases z)
          · obtain ⟨c', hc'⟩ := clOf_has (cells := X.env.cells) (acc := []) hm
            have ecc : c' = c := by
              have := hsub y c' hc'
              rw [hc1] at this; cases this; rfl
            subst ecc
            have e3' : Vis (relabel scope X.env) y := e3
            refine ⟨?_, c', hc', ?_⟩
            · rcases e3' with z | z | z
              · exfalso
                exact S.noloc y hm z
              · exact .inl z
              · exact .inr z
            · exact hc2.keeps old⟩
    cell := fun y c e => by
      obtain ⟨v, q⟩ := I2.cell y c (hsub y c e)
      exact ⟨v, q.keeps old⟩
    free := by show upd H2 s2.heap.objs.size (.lst []) G2.objs.size = none; rw [upd_ne (Ne.symm hDC)]; exact hnC
    freeC := fun y c e => by rw [upd_ne (clD y c e)]; exact I2.freeC y c (hsub y c e)
    pin := fun p hp => by
      have hp' : p ∈ ([] : List (Addr × Obj)) ++ [] := hp
      simp at hp'
    hok := hokD
    len := by
      show (blkSt _ ci σ).length = ((".0" : Str) :: (tns ++ cns)).length
      unfold blkSt
      simp [S.len] }
  have st3 : tn 0 h₁ := T.keep _ _ _ st2 fun b _ o e => old b o e
  have fr3 : ∀ b ∈ fp, upd H2 s2.heap.objs.size (.lst []) b = none := fun b hb => by rw [upd_ne (Nat.ne_of_lt (fpl b hb))]; exact (f2 b hb).1
  have stat : ∀ {H' : Hp}, (∀ b ∈ fp, H' b = none) → ∀ b ∈ fp, FpOk (X.blk (".0" :: (tns ++ cns)) scope ⟨G2.objs.size, fp, s2, H2⟩) [] H' b := fun hn b hb =>
    ⟨hn b hb, below b (fpl b hb), ok.exfs b hb, .inl hb, fun y c e => (f2 b hb).2.2.2.2.1 y c (hsub y c e), fun p hp => by
      have hp' : p ∈ ([] : List (Addr × Obj)) ++ [] := hp
      simp at hp'⟩
  have loop : ∀ s₃ : Shared, s₃ = { s2 with heap := h₁, toks := s2.toks + ([] : List (Str × Value)).length } →
      codeAny (model X.prog X.w) X.A (.compLoop (.ListComp elt [⟨tgt, iter, ifs, 0⟩] scope pos) 0 (.ref it) (.ref s2.heap.objs.size) (compEnvC scope (clOf X.env.cells scope.names []) G2.objs.size X.env))
        (RR (.ref s2.heap.objs.size) G2.objs.size) s₃ := by
    rintro s₃ rfl
    refine compLoop_goT (fun n s' => ∃ (i : Nat) (os : List (Option V)) (ys : List V) (H' : Hp), os.length = tns.length ∧ Inv (X.blk (".0" :: (tns ++ cns)) scope ⟨G2.objs.size, fp, s2, H2⟩) [] (blkSt os ci σ) H' s' ∧ tn i s'.heap ∧ (∀ b ∈ fp, H' b = none) ∧ W i n ys H') ?_ m0 ⟨0, _, [], _, by simp, I3, st3, fr3, w0⟩
    rintro n s4 ⟨i, os, ys, H4, hos, I4, st4, fr4, w4⟩
    rcases turn i n ys H4 w4 with ⟨stop, q⟩ | ⟨go, N, hN, step⟩
    · refine thn (T.done (X.blk (".0" :: (tns ++ cns)) scope ⟨G2.objs.size, fp, s2, H2⟩) rfl rfl rfl hc i [] s4 _ H4 (fun _ _ => False) I4 (stat fr4) st4 stop) fun r s5 ⟨hr, I5⟩ => ?_
      subst hr
      obtain ⟨m, hm, _⟩ := I5.loc
      have fC : H4 G2.objs.size = none := I5.free
      have ub : Un (frs X.stack) fp H2 H4 s2.heap s5.heap := I5.base
      have IX : Inv X pins σ H4 s5 := I2.call' (s' := s5) (show s5.os = s2.os from I5.os) ub I5.hok I5.bare fun b hb => ⟨(f2 b hb).2.2.2.1, (f2 b hb).2.1, (f2 b hb).2.2.2.2.1, (f2 b hb).2.2.2.2.2⟩
      exact fin _ _ s5 H4 m IX hm (I2.fpOk (by omega) fC) q
    · refine thn (T.item (X.blk (".0" :: (tns ++ cns)) scope ⟨G2.objs.size, fp, s2, H2⟩) rfl rfl rfl hc i [] s4 _ H4 (fun _ _ => False) I4 (stat fr4) st4 go) fun r s5 ⟨u, hr, h5⟩ => ?_
      subst hr
      refine thn h5 fun _ s6 hhx => ?_
      obtain ⟨y, H6, I6, r6, y6, st6, fr6⟩ := hhx
      have I6' := I6.pinned (stat fr6) (T.obj _ _ st6)
      refine thn (hg _ _ s6 _ H6 y u _ I6' r6 (step y H6 os hos y6)) fun _ s7 ⟨σ7, H7, I7, ⟨os', hos', e7⟩, q7⟩ => ?_
      subst e7
      have back : ∀ {H9 : Hp} {s9 : Shared}, Inv (X.blk (".0" :: (tns ++ cns)) scope ⟨G2.objs.size, fp, s2, H2⟩) ([] ++ pinsAt fp s6.heap) (blkSt os' ci σ) H9 s9 → tn (i + 1) s9.heap ∧ ∀ b ∈ fp, H9 b = none := fun {H9 s9} I9 =>
        ⟨T.keep _ _ _ st6 fun b hb ob e => (I9.pin (b, ob) (List.mem_append_right _ (List.mem_append_right _ (mem_pinsAt hb e)))).1, fun b hb => by
          obtain ⟨ob, e, d⟩ := T.obj _ _ st6 b hb
          exact (I9.pin (b, ob) (List.mem_append_right _ (List.mem_append_right _ (mem_pinsAt hb e)))).2.1⟩
      refine thn (ht _ _ s7 _ H7 _ I7 q7) fun b s8 hhx => ?_
      obtain ⟨H8, I8, q8⟩ := hhx
      cases b with
      | false =>
        rw [if_neg Bool.false_ne_true] at q8 ⊢
        obtain ⟨m', hm', w8⟩ := hN _ _ q8
        exact ⟨m', hm', i + 1, os', ys, _, hos', I8.unpinned, (back I8).1, (back I8).2, w8⟩
      | true =>
        rw [if_pos rfl] at q8 ⊢
        refine thn (he _ _ s8 _ H8 _ I8 q8) fun zv s8 hhx => ?_
        obtain ⟨z, H8, I8, rz, ha8, hl8, n8⟩ := hhx
        obtain ⟨m', hm', w8⟩ := hN _ _ n8
        refine thn (mt_append (X := X.blk (".0" :: (tns ++ cns)) scope ⟨G2.objs.size, fp, s2, H2⟩) _ s8 _ H8 (.ref s2.heap.objs.size) [z] (.ref s2.heap.objs.size) [zv] (fun _ H9 => H9 = upd H8 s2.heap.objs.size (.lst (ys ++ [z]))) I8 rfl (.cons rz .nil) ⟨_, ys, z, rfl, rfl, ha8, hl8, rfl⟩) fun _ s9 hhx => ?_
        obtain ⟨_, H9, I9, _, e9⟩ := hhx
        subst e9
        exact ⟨m', hm', i + 1, os', ys ++ [z], _, hos', I9.unpinned, (back I9).1, (back I9).2, w8⟩
  exact codeAny_compStart_list (loop _ rfl) (T.self _ 0 _ _ _ st3 (loop _ rfl))
theorem pe_compG {X : Cx} {elt iter tgt : Expr} {ifs : List Expr} {pos : Pos} {scope : Scope} {wi : TI} {g : Bk → TG} {tt : Bk → TT} {te : Bk → TE} {tns cns : List Str} {ci : List Nat} (hc : X.calm = true) (S : CompSc X scope cns ci) (hi : PI X tgt iter wi)
    (hg : ∀ bk : Bk, PG (X.blk (".0" :: (tns ++ cns)) scope bk) tgt (g bk))
    (ht : ∀ bk : Bk, PIfs (X.blk (".0" :: (tns ++ cns)) scope bk) ifs (tt bk))
    (he : ∀ bk : Bk, PE (X.blk (".0" :: (tns ++ cns)) scope bk) elt (te bk))
    (hs : ∀ v, foldedSetIterable iter X.env v = pure v := by intro _; rfl) :
    PE X (.ListComp elt [⟨tgt, iter, ifs, 0⟩] scope pos) (tCompG wi g tt te tns.length ci) := by
  intro pins s σ H Q I h
  have hfc : ∀ y ∈ scope.names, y.2 = .free → ∃ c, X.env.cells.lookup y.1 = some c := fun y hy hk => I.ok.has _ (S.free y hy hk)
  rw [eval_ListComp]
  refine wpAny_comprehension_free (use := none) rfl hs (closureFor_cl hfc) S.kind S.names (thn (hi pins s σ H _ I h) fun v s1 h1 => thn h1 fun itv s2 h2 => ?_)
  obtain ⟨it, fp, tn, J, H2, rfl, I2, T, st2, f2, hcw⟩ := h2
  refine comp_core (RR := fun acc C => compPost (model X.prog X.w) X.A X.xe none (EP X pins σ Q) acc C) hc S hg ht he I2 T st2 f2 hcw fun D C s5 H4 m I5 hm fo q => ?_
  refine ⟨m, hm, fun h' hs' => ⟨.ref D, H4, ?_, rfl, q⟩⟩
  exact I5.turned (t' := s5.toks) (it := C) (fun b o hb e => (hs'.2 b hb).trans e) fo.1 fo.2.1 fo.2.2.2.1 fo.2.2.2.2.1 fo.2.2.2.2.2
noncomputable def sSetComp (i : Nat) (wi : TI) (g : Bk → TG) (tt : Bk → TT) (te : Bk → TE) (nt : Nat) (ci : List Nat) : TS := fun D σ H => wi σ H fun J H1 => ∀ acc, H1 acc = none → ∀ bk : Bk, CompGW J (g bk) (tt bk) (te bk) nt ci σ acc (fun H' => D.nx (σ.set i (some (.ref acc))) H') (upd H1 acc (.lst []))
theorem ps_setComp {X : Cx} {i : Nat} {x : Str} {px pos' : Pos} {elt iter tgt : Expr} {ifs : List Expr} {pos : Pos} {scope : Scope} {wi : TI} {g : Bk → TG} {tt : Bk → TT} {te : Bk → TE} {tns cns : List Str} {ci : List Nat}
    (hN : X.N.Nodup) (hx : X.N[i]? = some x) (hl : Loc X.env.scope x) (hf : X.fn x = true) (hsw : swapsWith (.ListComp elt [⟨tgt, iter, ifs, 0⟩] scope pos) (some (.Name x px)) pos'.line X.env = pure true)
    (hc : X.calm = true) (S : CompSc X scope cns ci) (hi : PI X tgt iter wi)
    (hg : ∀ bk : Bk, PG (X.blk (".0" :: (tns ++ cns)) scope bk) tgt (g bk))
    (ht : ∀ bk : Bk, PIfs (X.blk (".0" :: (tns ++ cns)) scope bk) ifs (tt bk))
    (he : ∀ bk : Bk, PE (X.blk (".0" :: (tns ++ cns)) scope bk) elt (te bk))
    (hs : ∀ v, foldedSetIterable iter X.env v = pure v := by intro _; rfl) :
    PS X (.Assign [.Name x px] (.ListComp elt [⟨tgt, iter, ifs, 0⟩] scope pos) pos') (sSetComp i wi g tt te tns.length ci) := by
  intro pins s σ H D I h
  have hfc : ∀ y ∈ scope.names, y.2 = .free → ∃ c, X.env.cells.lookup y.1 = some c := fun y hy hk => I.ok.has _ (S.free y hy hk)
  rw [exec_Assign_Name_used _ _ _ _ hsw]
  refine wpAny_bind (wpAny_standAt (wpAny_bind ?_))
  show wpAny _ _ (do let _ ← comprehension (.ListComp elt [⟨tgt, iter, ifs, 0⟩] scope pos) scope X.env _ (newList []) false (eval iter X.env) (some (assign (.Name x px) X.env))) _ _ s
  refine wpAny_bind (wpAny_mono (wpAny_comprehension_free (use := some (assign (.Name x px) X.env)) (Q := fun _ s' => SP X pins D .next s') rfl hs (closureFor_cl hfc) S.kind S.names
    (thn (hi pins s σ H _ I h) fun v s1 h1 => thn h1 fun itv s2 h2 => ?_)) (fun _ s' hq => wpAny_pure (wpAny_pure hq)) fun _ _ e => e)
  obtain ⟨it, fp, tn, J, H2, rfl, I2, T, st2, f2, hcw⟩ := h2
  refine comp_core (RR := fun acc C => compPost (model X.prog X.w) X.A X.xe (some (assign (.Name x px) X.env)) (fun _ s' => SP X pins D .next s') acc C) hc S hg ht he I2 T st2 f2 hcw fun D' C s5 H4 m I5 hm fo q => ?_
  obtain ⟨o, es, ep, ho, hd, hr⟩ := id hm
  have IP : Inv X (pins ++ pinsAt [C] s5.heap) σ H4 s5 := I5.pinned (fp := [C]) (fun b hb => by rw [List.mem_singleton.mp hb]; exact fo) fun b hb => by
    rw [List.mem_singleton.mp hb]
    exact ⟨o, ho, fun v z => by rw [hd] at z; cases z⟩
  show wpAny _ _ (assign (.Name x px) X.env (.ref D')) _ _ s5
  refine thn (pg_name (X := X) (i := i) hN hx hl (.inl hf) _ s5 σ H4 (.ref D') (.ref D') (fun σ' H' => σ' = σ.set i (some (.ref D')) ∧ H' = H4) IP rfl ⟨rfl, rfl⟩) fun _ s6 hhx => ?_
  obtain ⟨σ6, H6, I6, e1, e2⟩ := hhx
  subst e1 e2
  have hC6 : s6.heap.get? C = some o := (I6.pin (C, o) (List.mem_append_right _ (List.mem_append_right _ (mem_pinsAt (List.mem_singleton.mpr rfl) ho)))).1
  refine ⟨m, ⟨o, es, ep, hC6, hd, hr⟩, fun h' hs' => ⟨_, _, ?_, q⟩⟩
  exact I6.unpinned.turned (t' := s6.toks) (it := C) (fun b o hb e => (hs'.2 b hb).trans e) fo.1 fo.2.1 fo.2.2.2.1 fo.2.2.2.2.1 fo.2.2.2.2.2
noncomputable def relS (scope osc : Scope) : List (Str × NameKind) := scope.names.map fun (n, k) => if (k == NameKind.free && osc.kind == .function && osc.names.lookup n == some .cell) then (n, NameKind.cell) else (n, k)
noncomputable def capOk (N : List Str) (names : List (Str × NameKind)) : List Str → List Nat → Bool
  | [], [] => true
  | x :: xs, i :: is => N[i]? == some x && names.any (fun y => y.1 == x && y.2 == .free) && capOk N names xs is
  | _, _ => false
noncomputable def chkC (osc : Scope) (N : List Str) (scope : Scope) (cns : List Str) (ci : List Nat) : Bool :=
  scope.kind == .function && scope.names.all (fun y => y.2 != .cell) && scope.names.all (fun y => y.2 != .local || scope.names.lookup y.1 == some .local) &&
  scope.names.all (fun y => y.2 != .free || (osc.names.lookup y.1 == some .cell || osc.names.lookup y.1 == some .free)) && capOk N scope.names cns ci &&
  scope.names.all (fun y => y.2 != .free || (relS scope osc).lookup y.1 != some .local)
theorem capOk_get {N : List Str} {names : List (Str × NameKind)} : ∀ {cns : List Str} {ci : List Nat}, capOk N names cns ci = true → cns.length = ci.length ∧ ∀ (j : Nat) x, cns[j]? = some x → ∃ i, ci[j]? = some i ∧ N[i]? = some x ∧ (x, NameKind.free) ∈ names
  | [], [], _ => ⟨rfl, fun j x e => by simp at e⟩
  | [], _ :: _, h => by simp [capOk] at h
  | _ :: _, [], h => by simp [capOk] at h
  | x :: xs, i :: is, h => by
    unfold capOk at h
    rw [Bool.and_eq_true, Bool.and_eq_true] at h
    obtain ⟨⟨h1, h2⟩, h3⟩ := h
    obtain ⟨l, r⟩ := capOk_get h3
    refine ⟨by simp [l], fun j y e => ?_⟩
    cases j with
    | zero =>
      have e' : x = y := by simpa using e
      subst e'
      refine ⟨i, by simp, by simpa using h1, ?_⟩
      obtain ⟨z, hz, hq⟩ := List.any_eq_true.mp h2
      rw [Bool.and_eq_true] at hq
      obtain ⟨a, b⟩ := z
      have e1 : a = x := by simpa using hq.1
      have e2 : b = .free := by simpa using hq.2
      subst e1 e2
      exact hz
    | succ j =>
      obtain ⟨k, hk⟩ := r j y (by simpa using e)
      exact ⟨k, by simpa using hk.1, hk.2⟩
theorem CompSc.of {X : Cx} {scope : Scope} {cns : List Str} {ci : List Nat} (h : chkC X.env.scope X.N scope cns ci = true) : CompSc X scope cns ci := by
  unfold chkC at h
  rw [Bool.and_eq_true, Bool.and_eq_true, Bool.and_eq_true, Bool.and_eq_true, Bool.and_eq_true] at h
  obtain ⟨⟨⟨⟨⟨h1, h2⟩, h3⟩, h4⟩, h5⟩, h6⟩ := h
  obtain ⟨l, r⟩ := capOk_get h5
  refine ⟨by simpa using h1, fun y hy => ?_, fun y hy hk => ?_, fun y hy hk => ?_, r, l, fun y hy z => ?_⟩
  · simpa using List.all_eq_true.mp h2 y hy
  · have := List.all_eq_true.mp h3 y hy
    rw [Bool.or_eq_true] at this
    rcases this with q | q
    · exact absurd hk (by simpa using q)
    · simpa using q
  · have := List.all_eq_true.mp h4 y hy
    rw [Bool.or_eq_true, Bool.or_eq_true] at this
    rcases this with q | q | q
    · exact absurd hk (by simpa using q)
    · exact .inl (show X.env.scope.names.lookup y.1 = _ by simpa using q)
    · exact .inr (show X.env.scope.names.lookup y.1 = _ by simpa using q)
  · have := List.all_eq_true.mp h6 _ hy
    rw [Bool.or_eq_true] at this
    rcases this with q | q
    · simp at q
    · have z' : (relS scope X.env.scope).lookup y = some .local := z
      have q' : ((relS scope X.env.scope).lookup y != some .local) = true := q
      rw [z'] at q'
      exact absurd q' (by decide)
section
variable {K : PySem.W.Frag} {g : TG} {tt : TT} {te : TE} {nt : Nat} {ci : List Nat} {σ : St} {acc : Addr} {Q : Hp → Prop} {H0 : Hp}
theorem cg_list {a : Addr} {xs : List V} (Pv : Nat → List V → Hp → Prop) (h0 : Pv 0 [] H0) (hl : ∀ i ys H, i ≤ xs.length → Pv i ys H → SqL K H a xs)
    (hs : ∀ (i : Nat) x ys H os, xs[i]? = some x → os.length = nt → Pv i ys H → g x (blkSt os ci σ) H fun σ1 H1 => (∃ os', os'.length = nt ∧ σ1 = blkSt os' ci σ) ∧ tt σ1 H1 fun b H2 =>
      if b = true then te σ1 H2 fun z H3 => H3 acc = some (.lst ys) ∧ ys.length < sizeLine ∧ Pv (i + 1) (ys ++ [z]) (upd H3 acc (.lst (ys ++ [z]))) else Pv (i + 1) ys H2)
    (hd : ∀ ys H, Pv xs.length ys H → Q H) : CompGW (Itl K a) g tt te nt ci σ acc Q H0 := by
  refine ⟨fun i m ys H => m = xs.length - i ∧ i ≤ xs.length ∧ Pv i ys H, ⟨xs.length, by simp, Nat.zero_le _, h0⟩, ?_⟩
  rintro i m ys H ⟨rfl, hi, p⟩
  have q := hl i ys H hi p
  by_cases hlt : i < xs.length
  · refine .inr ⟨⟨xs, xs[i], q, by simp [hlt]⟩, Pv (i + 1), fun ys' H' p' => ⟨xs.length - (i + 1), by omega, rfl, hlt, p'⟩, fun y H' os ho yl => ?_⟩
    obtain ⟨rfl, yl⟩ := yl
    exact hs i y ys H' os (yl xs q) ho p
  · have e : i = xs.length := by omega
    subst e
    exact .inl ⟨⟨xs, q, Nat.le_refl _⟩, hd ys H p⟩
theorem cg_tup {a : Addr} {xs : List V} (Pv : Nat → List V → Hp → Prop) (h0 : Pv 0 [] H0) (hl : ∀ i ys H, i ≤ xs.length → Pv i ys H → SqT K H a xs)
    (hs : ∀ (i : Nat) x ys H os, xs[i]? = some x → os.length = nt → Pv i ys H → g x (blkSt os ci σ) H fun σ1 H1 => (∃ os', os'.length = nt ∧ σ1 = blkSt os' ci σ) ∧ tt σ1 H1 fun b H2 =>
      if b = true then te σ1 H2 fun z H3 => H3 acc = some (.lst ys) ∧ ys.length < sizeLine ∧ Pv (i + 1) (ys ++ [z]) (upd H3 acc (.lst (ys ++ [z]))) else Pv (i + 1) ys H2)
    (hd : ∀ ys H, Pv xs.length ys H → Q H) : CompGW (Itt K a) g tt te nt ci σ acc Q H0 := by
  refine ⟨fun i m ys H => m = xs.length - i ∧ i ≤ xs.length ∧ Pv i ys H, ⟨xs.length, by simp, Nat.zero_le _, h0⟩, ?_⟩
  rintro i m ys H ⟨rfl, hi, p⟩
  have q := hl i ys H hi p
  by_cases hlt : i < xs.length
  · refine .inr ⟨⟨xs, xs[i], q, by simp [hlt]⟩, Pv (i + 1), fun ys' H' p' => ⟨xs.length - (i + 1), by omega, rfl, hlt, p'⟩, fun y H' os ho yl => ?_⟩
    obtain ⟨rfl, yl⟩ := yl
    exact hs i y ys H' os (yl xs q) ho p
  · have e : i = xs.length := by omega
    subst e
    exact .inl ⟨⟨xs, q, Nat.le_refl _⟩, hd ys H p⟩
theorem cg_range {lo : Int} {n : Nat} (Pv : Nat → List V → Hp → Prop) (h0 : Pv 0 [] H0)
    (hs : ∀ (i : Nat) ys H os, i < n → os.length = nt → Pv i ys H → g (.int (lo + i)) (blkSt os ci σ) H fun σ1 H1 => (∃ os', os'.length = nt ∧ σ1 = blkSt os' ci σ) ∧ tt σ1 H1 fun b H2 =>
      if b = true then te σ1 H2 fun z H3 => H3 acc = some (.lst ys) ∧ ys.length < sizeLine ∧ Pv (i + 1) (ys ++ [z]) (upd H3 acc (.lst (ys ++ [z]))) else Pv (i + 1) ys H2)
    (hd : ∀ ys H, Pv n ys H → Q H) : CompGW (Itr lo n) g tt te nt ci σ acc Q H0 := by
  refine ⟨fun i m ys H => m = n - i ∧ i ≤ n ∧ Pv i ys H, ⟨n, by simp, Nat.zero_le _, h0⟩, ?_⟩
  rintro i m ys H ⟨rfl, hi, p⟩
  by_cases hlt : i < n
  · refine .inr ⟨hlt, Pv (i + 1), fun ys' H' p' => ⟨n - (i + 1), by omega, rfl, hlt, p'⟩, fun y H' os ho yl => ?_⟩
    obtain ⟨rfl, rfl⟩ := yl
    exact hs i ys H' os hlt ho p
  · have e : i = n := by omega
    subst e
    exact .inl ⟨Nat.le_refl _, hd ys H p⟩
end
end L2
namespace L2
open PySem PySem.Spec PyProof.Rows
noncomputable def isiT : List String := ["int", "bool", "str", "list", "tuple", "dict"]
inductive KindV (K : PySem.W.Frag) (H : Hp) : V → String → Prop where
  | non : KindV K H .non "NoneType"
  | bl {b : Bool} : KindV K H (.bl b) "bool"
  | int {i : Int} : KindV K H (.int i) "int"
  | str {x : Str} : KindV K H (.str x) "str"
  | lst {a : Addr} {xs : List V} (h : SqL K H a xs) : KindV K H (.ref a) "list"
  | tup {a : Addr} {xs : List V} (h : SqT K H a xs) : KindV K H (.ref a) "tuple"
  | dic {a : Addr} (h : IsD H a) : KindV K H (.ref a) "dict"
noncomputable def kindIs (k T : String) : Bool := k == T || (k == "bool" && T == "int")
noncomputable def rIsi (K : PySem.W.Frag) : List V → Hp → VK → Prop := fun xs H Q => ∃ x T k, xs = [x, .ty T] ∧ isiT.contains T = true ∧ KindV K H x k ∧ Q (.bl (kindIs k T)) H
section
variable {X : Cx}
theorem call_isi : CallR X (.builtin "isinstance") (rIsi X.K) := by
  intro pins s σ H xs us Q I r h
  obtain ⟨x, T, k, rfl, hT, hk, q⟩ := h
  obtain ⟨u, v, rfl, ru, rv⟩ := vals2 r
  cases rv
  have hT' : T = "int" ∨ T = "bool" ∨ T = "str" ∨ T = "list" ∨ T = "tuple" ∨ T = "dict" := by simpa [isiT] using hT
  have fin : ∀ {b : Bool}, b = kindIs k T → EP X pins σ Q (.bool b) s := fun e => ⟨.bl _, H, I, rfl, by rw [e]; exact q⟩
  have finT : ∀ {b : Bool}, b = kindIs k T → EP X pins σ Q (.bool b) { s with toks := s.toks + 1 } := fun e => ⟨.bl _, H, I.tok _, rfl, by rw [e]; exact q⟩
  cases hk with
  | non =>
    cases ru
    rcases hT' with rfl | rfl | rfl | rfl | rfl | rfl
    · exact IsiPair.NoneType_int (finT (by decide +kernel))
    · exact IsiPair.NoneType_bool (finT (by decide +kernel))
    · exact IsiPair.NoneType_str (finT (by decide +kernel))
    · exact IsiPair.NoneType_list (finT (by decide +kernel))
    · exact IsiPair.NoneType_tuple (finT (by decide +kernel))
    · exact IsiPair.NoneType_dict (finT (by decide +kernel))
  | bl =>
    cases ru
    rcases hT' with rfl | rfl | rfl | rfl | rfl | rfl
    · exact IsiPair.bool_int (fin (by decide +kernel))
    · exact IsiPair.bool_bool (fin (by decide +kernel))
    · exact IsiPair.bool_str (finT (by decide +kernel))
    · exact IsiPair.bool_list (finT (by decide +kernel))
    · exact IsiPair.bool_tuple (finT (by decide +kernel))
    · exact IsiPair.bool_dict (finT (by decide +kernel))
  | int =>
    obtain ⟨t, rfl⟩ := ru
    rcases hT' with rfl | rfl | rfl | rfl | rfl | rfl
    · exact IsiPair.int_int (fin (by decide +kernel))
    · exact IsiPair.int_bool (finT (by decide +kernel))
    · exact IsiPair.int_str (finT (by decide +kernel))
    · exact IsiPair.int_list (finT (by decide +kernel))
    · exact IsiPair.int_tuple (finT (by decide +kernel))
    · exact IsiPair.int_dict (finT (by decide +kernel))
  | str =>
    obtain ⟨t, rfl⟩ := ru
    rcases hT' with rfl | rfl | rfl | rfl | rfl | rfl
    · exact IsiPair.str_int (finT (by decide +kernel))
    · exact IsiPair.str_bool (finT (by decide +kernel))
    · exact IsiPair.str_str (fin (by decide +kernel))
    · exact IsiPair.str_list (finT (by decide +kernel))
    · exact IsiPair.str_tuple (finT (by decide +kernel))
    · exact IsiPair.str_dict (finT (by decide +kernel))
  | lst hl =>
    cases ru
    obtain ⟨its, _, ⟨o, n, e, c, _⟩, _⟩ := I.list hl
    rcases hT' with rfl | rfl | rfl | rfl | rfl | rfl
    · exact IsiPair.list_int e c (finT (by decide +kernel))
    · exact IsiPair.list_bool e c (finT (by decide +kernel))
    · exact IsiPair.list_str e c (finT (by decide +kernel))
    · exact IsiPair.list_list e c (fin (by decide +kernel))
    · exact IsiPair.list_tuple e c (finT (by decide +kernel))
    · exact IsiPair.list_dict e c (finT (by decide +kernel))
  | tup hl =>
    cases ru
    obtain ⟨its, _, ⟨o, e, c, _⟩, _⟩ := I.tuple hl
    rcases hT' with rfl | rfl | rfl | rfl | rfl | rfl
    · exact IsiPair.tuple_int e c (finT (by decide +kernel))
    · exact IsiPair.tuple_bool e c (finT (by decide +kernel))
    · exact IsiPair.tuple_str e c (finT (by decide +kernel))
    · exact IsiPair.tuple_list e c (finT (by decide +kernel))
    · exact IsiPair.tuple_tuple e c (fin (by decide +kernel))
    · exact IsiPair.tuple_dict e c (finT (by decide +kernel))
  | dic hl =>
    cases ru
    obtain ⟨o, e, c⟩ := (isD_at I hl).1
    rcases hT' with rfl | rfl | rfl | rfl | rfl | rfl
    · exact IsiPair.dict_int e c (finT (by decide +kernel))
    · exact IsiPair.dict_bool e c (finT (by decide +kernel))
    · exact IsiPair.dict_str e c (finT (by decide +kernel))
    · exact IsiPair.dict_list e c (finT (by decide +kernel))
    · exact IsiPair.dict_tuple e c (finT (by decide +kernel))
    · exact IsiPair.dict_dict e c (fin (by decide +kernel))
theorem vals_intsP : ∀ {ns : List Int} {us : List Value}, Vals (ns.map V.int) us → ∃ xs : List (Int × Tok), us = xs.map (fun p => Value.int p.1 p.2) ∧ xs.map (·.1) = ns
  | [], _, r => by cases r; exact ⟨[], rfl, rfl⟩
  | n :: ns, _, r => by
    cases r with
    | cons r0 rr =>
      obtain ⟨t, rfl⟩ := r0
      obtain ⟨xs, rfl, rfl⟩ := vals_intsP rr
      exact ⟨(n, t) :: xs, rfl, rfl⟩
theorem preSum_list (xs : List (Int × Tok)) : preSum (numAt xs.toArray) xs.toArray.size = (xs.map (·.1)).sum := by
  rw [preSum_eq, List.take_of_length_le (by simp)]
theorem call_sum (hc : X.calm = true) : CallR X (.builtin "sum") (fun xs H Q => ∃ (a : Addr) (ns : List Int), xs = [.ref a] ∧ SqL X.K H a (ns.map V.int) ∧ Q (.int ns.sum) H) := by
  intro pins s σ H xs us Q I r h
  obtain ⟨a, ns, rfl, hq, q⟩ := h
  obtain ⟨u, rfl, ru⟩ := vals1 r
  cases ru
  obtain ⟨its, rv, pl, _⟩ := I.list hq
  obtain ⟨ys, rfl, rfl⟩ := vals_intsP rv
  refine sum_intListG (xs := ys.toArray) (I.ok.hd hc) (by have := pl.isList; simpa [intItems] using this) fun h' tk t' hk => ?_
  rw [preSum_list]
  exact ⟨.int _, H, I.kept hk, ⟨_, rfl⟩, q⟩
end
section
variable {H : Hp} {Q : VK} {σ : St} {D : Ends} {K : PySem.W.Frag}
theorem r_compG {wi : TI} {g : Bk → TG} {tt : Bk → TT} {te : Bk → TE} {nt : Nat} {ci : List Nat} : tCompG wi g tt te nt ci σ H Q = wi σ H fun J H1 => ∀ acc, H1 acc = none → ∀ bk : Bk, CompGW J (g bk) (tt bk) (te bk) nt ci σ acc (fun H' => Q (.ref acc) H') (upd H1 acc (.lst [])) := rfl
theorem r_setComp {i : Nat} {wi : TI} {g : Bk → TG} {tt : Bk → TT} {te : Bk → TE} {nt : Nat} {ci : List Nat} : sSetComp i wi g tt te nt ci D σ H = wi σ H fun J H1 => ∀ acc, H1 acc = none → ∀ bk : Bk, CompGW J (g bk) (tt bk) (te bk) nt ci σ acc (fun H' => D.nx (σ.set i (some (.ref acc))) H') (upd H1 acc (.lst [])) := rfl
theorem r_yes {Q : Bool → Hp → Prop} : tYes σ H Q = Q true H := rfl
theorem rIsi_of {x : V} {T k : String} (hk : KindV K H x k) (hT : isiT.contains T = true) (hf : ∀ k', KindV K H x k' → k' = k) : rIsi K [x, .ty T] H Q = Q (.bl (kindIs k T)) H :=
  propext ⟨by rintro ⟨_, _, k', e, _, h2, q⟩; cases e; rw [hf k' h2] at q; exact q, by intro q; exact ⟨x, T, k, rfl, hT, hk, q⟩⟩
theorem r_isi_int_int {i : Int} : rIsi K [.int i, .ty "int"] H Q = Q (.bl true) H := (rIsi_of (T := "int") .int (by decide +kernel) (fun k h => by cases h; rfl)).trans (by rw [show kindIs "int" "int" = true by decide +kernel])
theorem r_isi_int_bool {i : Int} : rIsi K [.int i, .ty "bool"] H Q = Q (.bl false) H := (rIsi_of (T := "bool") .int (by decide +kernel) (fun k h => by cases h; rfl)).trans (by rw [show kindIs "int" "bool" = false by decide +kernel])
theorem r_isi_int_str {i : Int} : rIsi K [.int i, .ty "str"] H Q = Q (.bl false) H := (rIsi_of (T := "str") .int (by decide +kernel) (fun k h => by cases h; rfl)).trans (by rw [show kindIs "int" "str" = false by decide +kernel])
theorem r_isi_int_list {i : Int} : rIsi K [.int i, .ty "list"] H Q = Q (.bl false) H := (rIsi_of (T := "list") .int (by decide +kernel) (fun k h => by cases h; rfl)).trans (by rw [show kindIs "int" "list" = false by decide +kernel])
theorem r_isi_int_tuple {i : Int} : rIsi K [.int i, .ty "tuple"] H Q = Q (.bl false) H := (rIsi_of (T := "tuple") .int (by decide +kernel) (fun k h => by cases h; rfl)).trans (by rw [show kindIs "int" "tuple" = false by decide +kernel])
theorem r_isi_int_dict {i : Int} : rIsi K [.int i, .ty "dict"] H Q = Q (.bl false) H := (rIsi_of (T := "dict") .int (by decide +kernel) (fun k h => by cases h; rfl)).trans (by rw [show kindIs "int" "dict" = false by decide +kernel])
theorem r_isi_bl_int {b : Bool} : rIsi K [.bl b, .ty "int"] H Q = Q (.bl true) H := (rIsi_of (T := "int") .bl (by decide +kernel) (fun k h => by cases h; rfl)).trans (by rw [show kindIs "bool" "int" = true by decide +kernel])
theorem r_isi_bl_bool {b : Bool} : rIsi K [.bl b, .ty "bool"] H Q = Q (.bl true) H := (rIsi_of (T := "bool") .bl (by decide +kernel) (fun k h => by cases h; rfl)).trans (by rw [show kindIs "bool" "bool" = true by decide +kernel])
theorem r_isi_bl_str {b : Bool} : rIsi K [.bl b, .ty "str"] H Q = Q (.bl false) H := (rIsi_of (T := "str") .bl (by decide +kernel) (fun k h => by cases h; rfl)).trans (by rw [show kindIs "bool" "str" = false by decide +kernel])
theorem r_isi_bl_list {b : Bool} : rIsi K [.bl b, .ty "list"] H Q = Q (.bl false) H := (rIsi_of (T := "list") .bl (by decide +kernel) (fun k h => by cases h; rfl)).trans (by rw [show kindIs "bool" "list" = false by decide +kernel])
theorem r_isi_bl_tuple {b : Bool} : rIsi K [.bl b, .ty "tuple"] H Q = Q (.bl false) H := (rIsi_of (T := "tuple") .bl (by decide +kernel) (fun k h => by cases h; rfl)).trans (by rw [show kindIs "bool" "tuple" = false by decide +kernel])
theorem r_isi_bl_dict {b : Bool} : rIsi K [.bl b, .ty "dict"] H Q = Q (.bl false) H := (rIsi_of (T := "dict") .bl (by decide +kernel) (fun k h => by cases h; rfl)).trans (by rw [show kindIs "bool" "dict" = false by decide +kernel])
theorem r_isi_str_int {x : Str} : rIsi K [.str x, .ty "int"] H Q = Q (.bl false) H := (rIsi_of (T := "int") .str (by decide +kernel) (fun k h => by cases h; rfl)).trans (by rw [show kindIs "str" "int" = false by decide +kernel])
theorem r_isi_str_bool {x : Str} : rIsi K [.str x, .ty "bool"] H Q = Q (.bl false) H := (rIsi_of (T := "bool") .str (by decide +kernel) (fun k h => by cases h; rfl)).trans (by rw [show kindIs "str" "bool" = false by decide +kernel])
theorem r_isi_str_str {x : Str} : rIsi K [.str x, .ty "str"] H Q = Q (.bl true) H := (rIsi_of (T := "str") .str (by decide +kernel) (fun k h => by cases h; rfl)).trans (by rw [show kindIs "str" "str" = true by decide +kernel])
theorem r_isi_str_list {x : Str} : rIsi K [.str x, .ty "list"] H Q = Q (.bl false) H := (rIsi_of (T := "list") .str (by decide +kernel) (fun k h => by cases h; rfl)).trans (by rw [show kindIs "str" "list" = false by decide +kernel])
theorem r_isi_str_tuple {x : Str} : rIsi K [.str x, .ty "tuple"] H Q = Q (.bl false) H := (rIsi_of (T := "tuple") .str (by decide +kernel) (fun k h => by cases h; rfl)).trans (by rw [show kindIs "str" "tuple" = false by decide +kernel])
theorem r_isi_str_dict {x : Str} : rIsi K [.str x, .ty "dict"] H Q = Q (.bl false) H := (rIsi_of (T := "dict") .str (by decide +kernel) (fun k h => by cases h; rfl)).trans (by rw [show kindIs "str" "dict" = false by decide +kernel])
theorem r_isi_non_int  : rIsi K [.non, .ty "int"] H Q = Q (.bl false) H := (rIsi_of (T := "int") .non (by decide +kernel) (fun k h => by cases h; rfl)).trans (by rw [show kindIs "NoneType" "int" = false by decide +kernel])
theorem r_isi_non_bool  : rIsi K [.non, .ty "bool"] H Q = Q (.bl false) H := (rIsi_of (T := "bool") .non (by decide +kernel) (fun k h => by cases h; rfl)).trans (by rw [show kindIs "NoneType" "bool" = false by decide +kernel])
theorem r_isi_non_str  : rIsi K [.non, .ty "str"] H Q = Q (.bl false) H := (rIsi_of (T := "str") .non (by decide +kernel) (fun k h => by cases h; rfl)).trans (by rw [show kindIs "NoneType" "str" = false by decide +kernel])
theorem r_isi_non_list  : rIsi K [.non, .ty "list"] H Q = Q (.bl false) H := (rIsi_of (T := "list") .non (by decide +kernel) (fun k h => by cases h; rfl)).trans (by rw [show kindIs "NoneType" "list" = false by decide +kernel])
theorem r_isi_non_tuple  : rIsi K [.non, .ty "tuple"] H Q = Q (.bl false) H := (rIsi_of (T := "tuple") .non (by decide +kernel) (fun k h => by cases h; rfl)).trans (by rw [show kindIs "NoneType" "tuple" = false by decide +kernel])
theorem r_isi_non_dict  : rIsi K [.non, .ty "dict"] H Q = Q (.bl false) H := (rIsi_of (T := "dict") .non (by decide +kernel) (fun k h => by cases h; rfl)).trans (by rw [show kindIs "NoneType" "dict" = false by decide +kernel])
end
end L2
namespace L2
open PySem PySem.Spec PyProof.Rows
section
variable {H : Hp} {Q : VK} {σ : St} {D : Ends} {K : PySem.W.Frag}
theorem r_slT {a : Addr} {lo hi : Option Int} : rSlT K (.ref a) lo hi H Q = ∃ xs, SqT K H a xs ∧ ¬ (HT.sIx xs.length 0 lo = 0 ∧ HT.sIx xs.length xs.length hi = xs.length) ∧ ∀ p, H p = none → Q (.ref p) (upd H p (.tup (cutV xs lo hi))) := propext ⟨by rintro ⟨_, xs, e1, h⟩; cases e1; exact ⟨xs, h⟩, by rintro ⟨xs, h⟩; exact ⟨_, xs, rfl, h⟩⟩
theorem r_inR {x : V} {p : Addr} : rIn K false x (.ref p) H Q = ∃ xs, (SqL K H p xs ∨ SqT K H p xs) ∧ flatV x = true ∧ xs.all flatV = true ∧ Q (.bl (inV x xs)) H := propext ⟨by rintro ⟨_, xs, e1, h⟩; cases e1; exact ⟨xs, h⟩, by rintro ⟨xs, h⟩; exact ⟨_, xs, rfl, h⟩⟩
theorem r_notInR {x : V} {p : Addr} : rIn K true x (.ref p) H Q = ∃ xs, (SqL K H p xs ∨ SqT K H p xs) ∧ flatV x = true ∧ xs.all flatV = true ∧ Q (.bl (!inV x xs)) H := propext ⟨by rintro ⟨_, xs, e1, h⟩; cases e1; exact ⟨xs, h⟩, by rintro ⟨xs, h⟩; exact ⟨_, xs, rfl, h⟩⟩
end
theorem Paired.get {α β : Type} {F : α → β → Prop} : ∀ {l₁ : List α} {l₂ : List β} {i : Nat} {a : α}, Paired F l₁ l₂ → l₁[i]? = some a → ∃ b, l₂[i]? = some b ∧ F a b
  | _, _, _, _, .nil, e => by simp at e
  | _, _, 0, _, .cons h _, e => by simp at e; subst e; exact ⟨_, rfl, h⟩
  | _, _, i + 1, a, .cons _ t, e => by
    obtain ⟨b, h1, h2⟩ := Paired.get (i := i) (a := a) t (by simpa using e)
    exact ⟨b, by simpa using h1, h2⟩
theorem Paired.getR {α β : Type} {F : α → β → Prop} : ∀ {l₁ : List α} {l₂ : List β} {i : Nat} {b : β}, Paired F l₁ l₂ → l₂[i]? = some b → ∃ a, l₁[i]? = some a ∧ F a b
  | _, _, _, _, .nil, e => by simp at e
  | _, _, 0, _, .cons h _, e => by simp at e; subst e; exact ⟨_, rfl, h⟩
  | _, _, i + 1, b, .cons _ t, e => by
    obtain ⟨a, h1, h2⟩ := Paired.getR (i := i) (b := b) t (by simpa using e)
    exact ⟨a, by simpa using h1, h2⟩
theorem Same.updM {H0 H : Hp} {p : Addr} {o : HO} (s : Same H0 H) (h : H0 p = none) : Same H0 (L2.upd H p o) := fun b u e => by rw [upd_ne (ne_of_none e h)]; exact s b u e
theorem Same.updN {H0 H : Hp} {p : Addr} {o : HO} (s : Same H0 H) (h : H p = none) : Same H0 (L2.upd H p o) := s.updM (s.free h)
theorem ite_bool {b : Bool} {A B : Prop} (h1 : b = true → A) (h2 : b = false → B) : if b = true then A else B := by
  cases b
  · rw [if_neg Bool.false_ne_true]; exact h2 rfl
  · rw [if_pos rfl]; exact h1 rfl
theorem cxOf_K {CX : CXT} {P : Program} {w : World} {K : PySem.W.Frag} {mg : Str → Option Value} {base : Heap} {N : List Str} {qual : Str} {scope : Scope} {f : Addr} {cd : Value} {A : Around} {outer : List Env} {s : Shared} {H : Hp} {E : XK} : (cxOf CX P w K mg base N qual scope f cd A outer s H E).K = K := rfl
theorem wish_K {X : Cx} {E : Value → Shared → Prop} : (X.wish E).K = X.K := rfl
theorem blk_K {X : Cx} {N' : List Str} {scope : Scope} {b : Bk} : (X.blk N' scope b).K = X.K := rfl
theorem r_blk1 {o : Option V} {ci : List Nat} {σ : St} : blkSt [o] ci σ = none :: o :: ci.map fun i => (σ[i]?).join := rfl
theorem r_blk2 {o o' : Option V} {ci : List Nat} {σ : St} : blkSt [o, o'] ci σ = none :: o :: o' :: ci.map fun i => (σ[i]?).join := rfl
theorem notWhole {n k : Nat} {P : Prop} (h : ¬ HT.sIx n 0 (some (k : Int)) = 0) : ¬ (HT.sIx n 0 (some (k : Int)) = 0 ∧ P) := fun z => h z.1
noncomputable def isStrV : V → Bool
  | .str _ => true
  | _ => false
theorem inV_str {n : Str} : ∀ {ns : List Str}, inV (.str n) (ns.map V.str) = decide (n ∈ ns)
  | [] => by simp [inV]
  | m :: ns => by
    have ih := inV_str (n := n) (ns := ns)
    unfold inV at ih ⊢
    rw [List.map_cons, List.any_cons, ih]
    have e : eqV (.str m) (.str n) = decide (m = n) := by unfold eqV; rfl
    rw [e]
    by_cases h1 : m = n
    · subst h1; simp
    · have h2 : ¬ n = m := fun z => h1 z.symm
      simp [h1, h2]
theorem flat_strs : ∀ {ns : List Str}, (ns.map V.str).all flatV = true
  | [] => rfl
  | n :: ns => by rw [List.map_cons, List.all_cons, flat_strs]; rfl
section
variable {K : PySem.W.Frag} {tt : TT} {te : TE} {ci : List Nat} {σ : St} {acc : Addr} {Q : Hp → Prop} {H1 : Hp} {a : Addr} {xs : List V}
theorem flat_turn (p : V → Bool) (f : V → V) {x : V} {ys : List V} {H : Hp} {os : List (Option V)} {i : Nat} {Pv : Nat → List V → Hp → Prop} (ho : os.length = 1) (hi : xs[i]? = some x)
    (hp : ∀ Q', Q' (p x) H → tt (blkSt [some x] ci σ) H Q') (hf : ∀ Q', p x = true → Q' (f x) H → te (blkSt [some x] ci σ) H Q') (hacc : H acc = some (.lst ys)) (hlen : ys.length < sizeLine)
    (h1 : p x = true → Pv (i + 1) (ys ++ [f x]) (upd H acc (.lst (ys ++ [f x])))) (h2 : p x = false → Pv (i + 1) ys H) :
    gName 1 x (blkSt os ci σ) H fun σ1 H1 => (∃ os', os'.length = 1 ∧ σ1 = blkSt os' ci σ) ∧ tt σ1 H1 fun b H2 =>
      if b = true then te σ1 H2 fun z H3 => H3 acc = some (.lst ys) ∧ ys.length < sizeLine ∧ Pv (i + 1) (ys ++ [z]) (upd H3 acc (.lst (ys ++ [z]))) else Pv (i + 1) ys H2 := by
  have e : (blkSt os ci σ).set 1 (some x) = blkSt [some x] ci σ := by
    match os, ho with
    | [o], _ => rfl
  show (∃ os', os'.length = 1 ∧ (blkSt os ci σ).set 1 (some x) = blkSt os' ci σ) ∧ tt ((blkSt os ci σ).set 1 (some x)) H _
  rw [e]
  refine ⟨⟨[some x], rfl, rfl⟩, hp _ ?_⟩
  cases hb : p x with
  | true => rw [if_pos rfl]; exact hf _ hb ⟨hacc, hlen, h1 hb⟩
  | false => rw [if_neg Bool.false_ne_true]; exact h2 hb
theorem take_filter_map {p : V → Bool} {f : V → V} {xs : List V} {i : Nat} {x : V} (hi : xs[i]? = some x) : ((xs.take (i + 1)).filter p).map f = ((xs.take i).filter p).map f ++ (if p x = true then [f x] else []) := by
  obtain ⟨h, e⟩ := List.getElem?_eq_some_iff.mp hi
  rw [List.take_succ_eq_append_getElem h, e, List.filter_append, List.map_append]
  congr 1
  cases hb : p x <;> simp [hb]
theorem flat_len {p : V → Bool} {f : V → V} {xs : List V} {i : Nat} {x : V} (hi : xs[i]? = some x) (hz : xs.length ≤ sizeLine) : (((xs.take i).filter p).map f).length < sizeLine := by
  obtain ⟨h, e⟩ := List.getElem?_eq_some_iff.mp hi
  rw [List.length_map]
  have := List.length_filter_le p (xs.take i)
  rw [List.length_take] at this
  omega
theorem cg_flat {J : It} (p : V → Bool) (f : V → V) (hz : xs.length ≤ sizeLine) (hacc : H1 acc = none)
    (hJ : ∀ (Pv : Nat → List V → Hp → Prop), Pv 0 [] (upd H1 acc (.lst [])) → (∀ i ys H, Pv i ys H → ∃ ys', H = upd H1 acc (.lst ys')) →
      (∀ (i : Nat) x ys H os, xs[i]? = some x → os.length = 1 → Pv i ys H → gName 1 x (blkSt os ci σ) H fun σ1 H1 => (∃ os', os'.length = 1 ∧ σ1 = blkSt os' ci σ) ∧ tt σ1 H1 fun b H2 =>
        if b = true then te σ1 H2 fun z H3 => H3 acc = some (.lst ys) ∧ ys.length < sizeLine ∧ Pv (i + 1) (ys ++ [z]) (upd H3 acc (.lst (ys ++ [z]))) else Pv (i + 1) ys H2) →
      (∀ ys H, Pv xs.length ys H → Q H) → CompGW J (gName 1) tt te 1 ci σ acc Q (upd H1 acc (.lst [])))
    (hp : ∀ x ∈ xs, ∀ H Q', Same H1 H → Q' (p x) H → tt (blkSt [some x] ci σ) H Q') (hf : ∀ x ∈ xs, ∀ H Q', Same H1 H → p x = true → Q' (f x) H → te (blkSt [some x] ci σ) H Q')
    (q : Q (upd H1 acc (.lst ((xs.filter p).map f)))) : CompGW J (gName 1) tt te 1 ci σ acc Q (upd H1 acc (.lst [])) := by
  refine hJ (fun i ys H => ys = ((xs.take i).filter p).map f ∧ H = upd H1 acc (.lst ys)) ⟨by simp, rfl⟩ (fun i ys H h => ⟨ys, h.2⟩) ?_ ?_
  · rintro i x ys H os hi ho ⟨rfl, rfl⟩
    have hm := List.mem_of_getElem? hi
    refine flat_turn (xs := xs) (Pv := fun i ys H => ys = ((xs.take i).filter p).map f ∧ H = upd H1 acc (.lst ys)) p f ho hi (fun Q' h => hp x hm _ _ (Same.upd hacc) h) (fun Q' hb h => hf x hm _ _ (Same.upd hacc) hb h) upd_same (flat_len hi hz) (fun hb => ?_) (fun hb => ?_)
    · rw [take_filter_map hi, if_pos hb]; exact ⟨rfl, by rw [upd_upd]⟩
    · rw [take_filter_map hi, if_neg (by rw [hb]; exact Bool.false_ne_true), List.append_nil]; exact ⟨rfl, rfl⟩
  · rintro ys H ⟨rfl, rfl⟩
    rw [List.take_length]
    exact q
theorem cg_flatT (p : V → Bool) (f : V → V) (hz : xs.length ≤ sizeLine) (hl : SqT K H1 a xs) (hacc : H1 acc = none) 
    (hp : ∀ x ∈ xs, ∀ H Q', Same H1 H → Q' (p x) H → tt (blkSt [some x] ci σ) H Q') (hf : ∀ x ∈ xs, ∀ H Q', Same H1 H → p x = true → Q' (f x) H → te (blkSt [some x] ci σ) H Q')
    (q : Q (upd H1 acc (.lst ((xs.filter p).map f)))) : CompGW (Itt K a) (gName 1) tt te 1 ci σ acc Q (upd H1 acc (.lst [])) :=
  cg_flat p f hz hacc (fun Pv h0 hH hs hd => cg_tup Pv h0 (fun i ys H _ h => by obtain ⟨ys', rfl⟩ := hH i ys H h; exact (Same.upd hacc).seqT hl) hs hd) hp hf q
end
end L2
namespace FB
open PySem L2
inductive Opd where
  | box (n : Str)
  | word (i : Int)
  deriving DecidableEq
noncomputable def Opd.v : Opd → V
  | .box n => .str n
  | .word i => .int i
noncomputable def Opd.reads : Opd → List Str
  | .box n => [n]
  | .word _ => []
inductive Deed where
  | tell (a : Opd)
  | copy (d : Str) (a : Opd)
  | op (f d : Str) (a b : Opd)
  deriving DecidableEq
noncomputable def opsL : List Str := ["plus", "less", "and", "or", "xor", "below", "same"]
noncomputable def Deed.vs : Deed → List V
  | .tell a => [.str "tell", a.v]
  | .copy d a => [.str "copy", .str d, a.v]
  | .op f d a b => [.str f, .str d, a.v, b.v]
noncomputable def Deed.fine : Deed → Prop
  | .op f _ _ _ => f ∈ opsL
  | _ => True
noncomputable def Deed.reads : Deed → List Str
  | .tell a => a.reads
  | .copy _ a => a.reads
  | .op _ _ a b => a.reads ++ b.reads
noncomputable def Deed.writes : Deed → List Str
  | .tell _ => []
  | .copy d _ => [d]
  | .op _ d _ _ => [d]
noncomputable def Deed.tells : Deed → Bool
  | .tell _ => true
  | _ => false
noncomputable def gapD (one other : Deed) : Option Int :=
  if one.tells = true ∧ other.tells = true then some 1
  else if ∃ n ∈ one.writes, n ∈ other.reads ∨ n ∈ other.writes then some 1
  else if ∃ n ∈ other.writes, n ∈ one.reads then some 0 else none
noncomputable def optV : Option Int → V
  | none => .non
  | some i => .int i
end FB
namespace L2
open PySem PySem.Spec PyProof.Rows
section
variable {X : Cx}
noncomputable def rJoin (K : PySem.W.Frag) : V → List V → Hp → VK → Prop := fun x vs H Q => ∃ (z : Str) (p : Addr) (ys : List Str), x = .str z ∧ vs = [.ref p] ∧ SqL K H p (ys.map V.str) ∧ (ys.map (·.length)).sum + ys.length * z.length ≤ 16777216 ∧ Q (.str (Txt.join z ys)) H
end
end L2
namespace L2
open PySem PySem.Spec PyProof.Rows
section
variable {X : Cx} {x : Str} {p pos : Pos} {e : Expr} {es : List Expr} {t : TA} {id T : String} {r : List V → Hp → VK → Prop}
theorem qv (i : Nat) {x : Str} {pos : Pos} (hv : Vis X.env.scope x) (hN : X.N[i]? = some x := by rfl) (hd : (x == ("__debug__" : Str)) = false := by kernel_rfl) (hcd : (x == ("__classdict__" : Str)) = false := by kernel_rfl) : PE X (.Name x pos) (tVar i) := pe_var hN hv hd hcd
theorem vl {sc : Scope} {x : Str} (h : sc.names.lookup x = some .local := by kernel_rfl) : Vis sc x := .inl h
theorem vc {sc : Scope} {x : Str} (h : sc.names.lookup x = some .cell := by kernel_rfl) : Vis sc x := .inr (.inl h)
theorem ll {sc : Scope} {x : Str} (h : sc.names.lookup x = some .local := by kernel_rfl) : Loc sc x := .inl h
theorem lc {sc : Scope} {x : Str} (h : sc.names.lookup x = some .cell := by kernel_rfl) : Loc sc x := .inr h
theorem gl {X : Cx} {x : Str} (h : X.env.scope.names.lookup x = some .globalImplicit := by kernel_rfl) : Gl X x := h
theorem ne_name {x : Str} (h : (x == ("__name__" : Str)) = false := by kernel_rfl) : x ≠ "__name__" := fun z => by subst z; exact absurd h (by decide +kernel)
theorem qe_callB (hc : CallR X (.builtin id) r) (hg : Gl X x) (hm : X.mg x = none) (hv : bootBuiltins x = some (.builtin id)) (ha : PA X (e :: es) t) (hn : (x == ("__name__" : Str)) = false := by kernel_rfl) (hdb : (x == ("__debug__" : Str)) = false := by kernel_rfl)
    (he : starEach (e :: es) X.env = (false, eval e X.env) :: starEach es X.env := by rfl) (hpl : (backTo pos (starEach es X.env)).any (·.1) = false := by rfl) : PE X (.Call (.Name x p) (e :: es) [] pos) (tCB r t) := pe_callB hc hg hm hv ha (ne_name hn) hdb he hpl
theorem qe_callTy (hc : CallR X (.type T) r) (hg : Gl X x) (hm : X.mg x = none) (hv : bootBuiltins x = some (.type T)) (ha : PA X (e :: es) t) (hn : (x == ("__name__" : Str)) = false := by kernel_rfl) (hdb : (x == ("__debug__" : Str)) = false := by kernel_rfl)
    (he : starEach (e :: es) X.env = (false, eval e X.env) :: starEach es X.env := by rfl) (hpl : (backTo pos (starEach es X.env)).any (·.1) = false := by rfl) : PE X (.Call (.Name x p) (e :: es) [] pos) (tCB r t) := pe_callTy hc hg hm hv ha (ne_name hn) hdb he hpl
theorem qe_bltn {x : Str} {v : V} {u : Value} {pos : Pos} (hg : Gl X x) (hm : X.mg x = none) (hv : bootBuiltins x = some u) (r : RelV v u) (hn : (x == ("__name__" : Str)) = false := by kernel_rfl) (hd : (x == ("__debug__" : Str)) = false := by kernel_rfl) : PE X (.Name x pos) (tC v) := pe_bltn hg hm hv r (ne_name hn) hd
theorem qe_callD {k : Nat} {f : Addr} {fd : FuncData} {ps : List Str} {sp : Sp} {x : Str} {st : Stmt} {p pos : Pos} {e : Expr} {es : List Expr} {t : TA} (D : DefAt X.K X.mg x st ps f fd) (G : FnOk X.prog X.w X.K X.mg X.base CX0 k f fd ps sp) (hr : Room k X.A)
    (ha : PA X (e :: es) t) (hg : Gl X x) (hdb : (x == ("__debug__" : Str)) = false := by kernel_rfl) (he : starEach (e :: es) X.env = (false, eval e X.env) :: starEach es X.env := by rfl) (hpl : (backTo pos (starEach es X.env)).any (·.1) = false := by rfl) :
    PE X (.Call (.Name x p) (e :: es) [] pos) (tCall sp [] E0 t) := pe_callD D G hr ha hg hdb he hpl
noncomputable def constV : Expr → Option V
  | .Constant (.int i) _ _ => some (.int i)
  | .Constant (.str x) _ _ => some (.str x)
  | .Constant (.bool b) _ _ => some (.bl b)
  | .Constant .none _ _ => some .non
  | _ => none
noncomputable def constVs : List Expr → Option (List V)
  | [] => some []
  | e :: es => (constV e).bind fun v => (constVs es).map fun vs => v :: vs
noncomputable def tVs (vs : List V) : TA := fun _ H Q => Q vs H
theorem constV_pe {e : Expr} {v : V} (h : constV e = some v) : PE X e (tC v) ∧ ∀ es, starEach (e :: es) X.env = (false, eval e X.env) :: starEach es X.env := by
  unfold constV at h
  split at h
  · cases h; exact ⟨pe_int, fun _ => rfl⟩
  · cases h; exact ⟨pe_str, fun _ => rfl⟩
  · cases h; exact ⟨pe_bl, fun _ => rfl⟩
  · cases h; exact ⟨pe_non, fun _ => rfl⟩
  · cases h
theorem pa_const : ∀ {es : List Expr} {vs : List V}, constVs es = some vs → PA X es (tVs vs)
  | [], _, h => by cases h; exact pa_nil
  | e :: es, vs, h => by
    unfold constVs at h
    obtain ⟨v, h1, h2⟩ := Option.bind_eq_some_iff.mp h
    obtain ⟨ws, h3, h4⟩ := Option.map_eq_some_iff.mp h2
    subst h4
    obtain ⟨p1, p2⟩ := constV_pe (X := X) h1
    exact pa_cons p1 (pa_const h3) (p2 es)
theorem r_Vs {vs : List V} {σ : St} {H : Hp} {Z : List V → Hp → Prop} : tVs vs σ H Z = Z vs H := rfl
theorem r_join {z : Str} {p : Addr} {K : PySem.W.Frag} {H : Hp} {Q : VK} : rJoin K (.str z) [.ref p] H Q = ∃ ys : List Str, SqL K H p (ys.map V.str) ∧ (ys.map (·.length)).sum + ys.length * z.length ≤ 16777216 ∧ Q (.str (Txt.join z ys)) H := propext ⟨by rintro ⟨_, _, ys, e1, e2, h⟩; cases e1; cases e2; exact ⟨ys, h⟩, by rintro ⟨ys, h⟩; exact ⟨_, _, ys, rfl, rfl, h⟩⟩
theorem r_tyStr {z : Str} {K : PySem.W.Frag} {H : Hp} : tyV K "str" (.str z) H = True := eq_true (show ("str" : String) = "str" from rfl)
theorem r_dnewK {σ : St} {H : Hp} {Q : VK} : tDNewK σ H Q = ∀ p, H p = none → Q (.ref p) (upd H p (.dK [])) := rfl
theorem r_dput {td ty tv : TE} {D : Ends} {σ : St} {H : Hp} : sDPut td ty tv D σ H = tv σ H fun v H1 => td σ H1 fun x H2 => ty σ H2 fun y H3 => ∃ a H4, x = .ref a ∧ DPut H3 a y v H4 ∧ D.nx σ H4 := rfl
theorem r_exRp {c : Addr} {Z : Addr → Hp → Prop} : (∃ a H4, V.ref c = .ref a ∧ Z a H4) = ∃ H4, Z c H4 := propext ⟨by rintro ⟨_, H4, e, q⟩; cases e; exact ⟨H4, q⟩, by rintro ⟨H4, q⟩; exact ⟨c, H4, rfl, q⟩⟩
theorem r_gSub {to ti : TE} {ts : TSet} {v : V} {σ : St} {H : Hp} {Q : St → Hp → Prop} : gSub to ti ts v σ H Q = to σ H fun o H1 => ti σ H1 fun i H2 => ts o i v H2 fun H3 => Q σ H3 := rfl
noncomputable def tMid (t u : TS) : TS := fun D σ H => ∃ Mid : St → Hp → Prop, t { D with nx := Mid } σ H ∧ ∀ σ' H', Mid σ' H' → u D σ' H'
theorem pss_mid {st : Stmt} {ss : List Stmt} {ta tb : TS} (h1 : PS X st ta) (h2 : PSs X ss tb) : PSs X (st :: ss) (tMid ta tb) := by
  intro pins s σ H D I h
  obtain ⟨Mid, a, b⟩ := h
  refine wpAny_execs_cons (thn (h1 pins s σ H { D with nx := Mid } I a) fun f s1 q => ?_)
  cases f with
  | next =>
    obtain ⟨σ', H', I', q⟩ := q
    exact h2 pins s1 σ' H' D I' (b σ' H' q)
  | ret v => exact q
  | brk => exact q
  | cont => exact q
theorem r_mid {ta tb : TS} {D : Ends} {σ : St} {H : Hp} : tMid ta tb D σ H = ∃ Mid : St → Hp → Prop, ta { D with nx := Mid } σ H ∧ ∀ σ' H', Mid σ' H' → tb D σ' H' := rfl
end
end L2
namespace L2
open PySem PySem.Spec PyProof.Rows
structure KlsAt (K : PySem.W.Frag) (mg : Str → Option Value) (x : Str) (C : Addr) : Prop where
  cl : Cls K C
  mks : PySem.W.makesIn K C = true
  kp : PySem.W.keepIn K (.ref C) = true
  M : mg x = some (.ref C)
structure MethAt (K : PySem.W.Frag) (C : Addr) (m qual : Str) (st : Stmt) (ps : List Str) (f : Addr) (fd : FuncData) : Prop where
  F : Fun K m qual st f fd
  B : Binds K fd ps []
  M : Meth K C m f
theorem KlsAt.make {K : PySem.W.Frag} {mg : Str → Option Value} {x qual : Str} {C f : Addr} {st : Stmt} {ps : List Str} {fd : FuncData} (c : KlsAt K mg x C) (m : MethAt K C "__init__" qual st ps f fd) : Mk K C f := ⟨c.mks, m.M.at_, m.M.fn, c.kp⟩
section
variable {X : Cx} {k : Nat} {f C : Addr} {fd : FuncData} {ps : List Str} {sp : Sp} {x m qual : Str} {st : Stmt} {p pos apos : Pos} {e o : Expr} {es : List Expr} {ta : TE} {t : TA}
theorem qe_makeD (c : KlsAt X.K X.mg x C) (D : MethAt X.K C "__init__" qual st ps f fd) (G : FnOk X.prog X.w X.K X.mg X.base CX0 k f fd ps sp) (hr : Room (k + 1) X.A)
    (ha : PA X (e :: es) t) (hg : Gl X x) (hdb : (x == ("__debug__" : Str)) = false := by kernel_rfl) (he : starEach (e :: es) X.env = (false, eval e X.env) :: starEach es X.env := by rfl) (hpl : (backTo pos (starEach es X.env)).any (·.1) = false := by rfl) :
    PE X (.Call (.Name x p) (e :: es) [] pos) (tMake C sp [] E0 t) := pe_make (c.make D) G hr hg c.M D.B .nil pass0 ha hdb he hpl
theorem qe_methD {pl : Sem Bool} (c : Cls X.K C) (D : MethAt X.K C m qual st ps f fd) (G : FnOk X.prog X.w X.K X.mg X.base CX0 k f fd ps sp) (hr : Room k X.A) (he : PE X o ta) (ha : PA X (e :: es) t)
    (hst : starEach (e :: es) X.env = (false, eval e X.env) :: starEach es X.env := by rfl) (hpl : (backTo pos (starEach es X.env)).any (·.1) = false := by rfl)
    (ht : eval (.Call (.Attribute o m apos) (e :: es) [] pos) X.env = (do
      let ov ← eval o X.env
      standAt apos.atName
      let (f, first) ← holding [ov] (getMethod ov m pl)
      callWith pos f first (backTo pos (starEach (e :: es) X.env)) (backToKw pos (keywordEach [] X.env))) := by rfl) :
    PE X (.Call (.Attribute o m apos) (e :: es) [] pos) (tMeth C m sp [] E0 ta t) := pe_meth he c D.M G hr D.B .nil pass0 ha hst hpl ht
end
section
variable {H : Hp} {Q : VK} {σ : St} {D : Ends} {K : PySem.W.Frag}
noncomputable def FldPut (K : PySem.W.Frag) (x : V) (f : Str) (y : V) (H : Hp) (Z : Hp → Prop) : Prop := ∃ a C dx fs, x = .ref a ∧ H a = some (.ins C dx fs) ∧ Cls K C ∧ NoAttr K C f ∧ fs.length < 1000 ∧ Z (upd H a (.ins C dx (putF f y fs)))
noncomputable def FldGet (K : PySem.W.Frag) (x : V) (f : Str) (H : Hp) (Q : VK) : Prop := ∃ a C dx fs v, x = .ref a ∧ H a = some (.ins C dx fs) ∧ Cls K C ∧ NoAttr K C f ∧ fs.lookup f = some v ∧ Q v H
noncomputable def MethOf (C : Addr) (m : Str) (x : V) (H : Hp) (Z : Prop) : Prop := ∃ a dx fs, x = .ref a ∧ H a = some (.ins C dx fs) ∧ fs.lookup m = none ∧ Z
noncomputable def Make (C : Addr) (sp : Sp) (vs : List V) (H : Hp) (Q : VK) (E : XK) : Prop := ∀ x dx, H x = none → H dx = none → dx ≠ x → sp (.ref x :: vs) (upd (upd H dx (.own x)) x (.ins C dx [])) (fun v H2 => v = .non ∧ Q (.ref x) H2) E
theorem r_sfld {ta tv : TE} {f : Str} : sFld K ta tv f D σ H = tv σ H fun y H1 => ta σ H1 fun x H2 => FldPut K x f y H2 (D.nx σ) := rfl
theorem r_gfld {ta : TE} {f : Str} : tFld K ta f σ H Q = ta σ H fun x H1 => FldGet K x f H1 Q := rfl
theorem r_meth {C : Addr} {m : Str} {sp : Sp} {E : XK} {ta : TE} {t : TA} : tMeth C m sp [] E ta t σ H Q = ta σ H fun x H1 => MethOf C m x H1 (t σ H1 fun vs H2 => sp (x :: vs) H2 Q E) := by
  unfold tMeth MethOf; simp only [List.append_nil]
theorem r_make {C : Addr} {sp : Sp} {E : XK} {t : TA} : tMake C sp [] E t σ H Q = t σ H fun vs H1 => Make C sp vs H1 Q E := by
  unfold tMake Make; simp only [List.append_nil]
theorem fput {p C dx : Addr} {fs : List (Str × V)} {f : Str} {y : V} {Z : Hp → Prop} (e : H p = some (.ins C dx fs)) (c : Cls K C) (n : NoAttr K C f) (l : fs.length < 1000) (h : Z (upd H p (.ins C dx (putF f y fs)))) : FldPut K (.ref p) f y H Z := ⟨p, C, dx, fs, rfl, e, c, n, l, h⟩
theorem fget {p C dx : Addr} {fs : List (Str × V)} {f : Str} {v : V} (e : H p = some (.ins C dx fs)) (c : Cls K C) (n : NoAttr K C f) (l : fs.lookup f = some v) (h : Q v H) : FldGet K (.ref p) f H Q := ⟨p, C, dx, fs, v, rfl, e, c, n, l, h⟩
theorem methOf {p C dx : Addr} {fs : List (Str × V)} {m : Str} {Z : Prop} (e : H p = some (.ins C dx fs)) (l : fs.lookup m = none) (h : Z) : MethOf C m (.ref p) H Z := ⟨p, dx, fs, rfl, e, l, h⟩
end
end L2
namespace L2
open PySem PySem.Spec PyProof.Rows
section
variable {X : Cx}
end
end L2
namespace L2
open PySem PySem.Spec PyProof.Rows
theorem ints_of : ∀ {ns : List Int} {its : List Value}, Vals (ns.map V.int) its → IntsAre its ns
  | [], _, .nil => .nil
  | n :: ns, _, .cons h t => by
    obtain ⟨tk, rfl⟩ := h
    exact .cons _ _ (ints_of t)
section
variable {X : Cx}
noncomputable def rSorted (K : PySem.W.Frag) : List V → Hp → VK → Prop := fun xs H Q => ∃ (a : Addr) (ns : List Int), xs = [.ref a] ∧ SqL K H a (ns.map V.int) ∧ ns.length < 64 ∧ ∀ (l : Addr) (ns' : List Int), H l = none → ns'.Perm ns → ns'.Pairwise (· ≤ ·) → Q (.ref l) (upd H l (.lst (ns'.map V.int)))
theorem call_sorted : CallR X (.builtin "sorted") (rSorted X.K) := by
  intro pins s σ H xs us Q I r h
  obtain ⟨a, ns, rfl, hq, h64, q⟩ := h
  obtain ⟨u, rfl, ru⟩ := vals1 r
  cases ru
  obtain ⟨its, rv, pl, _⟩ := I.list hq
  have hl := rv.length
  rw [List.length_map] at hl
  refine sorted_ints (vs := its) pl.isList (ints_of rv) (by omega) fun out ns' a1 a2 a3 => ?_
  obtain ⟨e, he⟩ := sortedAll_at s.heap its out
  have hk : ∀ b o, s.heap.get? b = some o → (sortedAll s.heap its out).get? b = some o := fun _ _ => sortedAll_old
  refine ⟨.ref (s.heap.objs.size + 1), _, I.laid (t' := s.toks) hk (Nat.le_succ _) (show ObjOk X.prog X.w _ (sortedAll s.heap its out) _ (.lst (ns'.map V.int)) from ⟨?_, out.toList, e, vals_ints a1, ?_⟩), rfl, q _ _ (I.hok.fresh (Nat.le_succ _)) a2 a3⟩
  · rw [List.length_map, a2.length_eq, sizeLine_eq]; omega
  · rw [Array.toArray_toList]; exact he
theorem bools_of : ∀ {bs : List Bool} {its : List Value}, Vals (bs.map V.bl) its → its = bs.map Value.bool
  | [], _, .nil => rfl
  | b :: bs, _, .cons h t => by
    have e : _ = Value.bool b := h
    rw [e, bools_of t]; rfl
theorem range_any {bs : List Bool} : (List.range bs.length).any (fun i => bs.getD i true) = bs.any id := by
  rw [Bool.eq_iff_iff, List.any_eq_true, List.any_eq_true]
  constructor
  · rintro ⟨i, hi, h⟩
    have hi := List.mem_range.mp hi
    rw [List.getD_eq_getElem?_getD, List.getElem?_eq_getElem hi] at h
    exact ⟨_, List.getElem_mem hi, h⟩
  · rintro ⟨b, hb, h⟩
    obtain ⟨i, hi, rfl⟩ := List.mem_iff_getElem.mp hb
    refine ⟨i, List.mem_range.mpr hi, ?_⟩
    rw [List.getD_eq_getElem?_getD, List.getElem?_eq_getElem hi]
    exact h
noncomputable def rAll (K : PySem.W.Frag) : List V → Hp → VK → Prop := fun xs H Q => ∃ (a : Addr) (bs : List Bool), xs = [.ref a] ∧ SqL K H a (bs.map V.bl) ∧ Q (.bl (bs.all id)) H
noncomputable def rAny (K : PySem.W.Frag) : List V → Hp → VK → Prop := fun xs H Q => ∃ (a : Addr) (bs : List Bool), xs = [.ref a] ∧ SqL K H a (bs.map V.bl) ∧ Q (.bl (bs.any id)) H
theorem truth_bools {P : Program} {w : World} {A : Around} {bs : List Bool} : TruthOf P w A (fun i v => (bs.map Value.bool).toArray[i]? = some v) (fun i => bs.getD i true) := by
  intro i v s Q E hv q
  rw [List.getElem?_toArray, List.getElem?_map] at hv
  obtain ⟨b, hb, rfl⟩ := Option.map_eq_some_iff.mp hv
  replace q : Q (bs.getD i true) s := q
  rw [List.getD_eq_getElem?_getD, hb] at q
  exact wpAny_truthy_bool q
theorem call_any (hc : X.calm = true) : CallR X (.builtin "any") (rAny X.K) := by
  intro pins s σ H xs us Q I r h
  obtain ⟨a, bs, rfl, hq, q⟩ := h
  obtain ⟨u, rfl, ru⟩ := vals1 r
  cases ru
  obtain ⟨its, rv, pl, _⟩ := I.list hq
  obtain rfl := bools_of rv
  obtain ⟨o, ho, ro⟩ := pl.isList
  have W := Walks.list (prog := X.prog) (w := X.w) (A := X.A.in1) (I.ok.hd hc) s.heap.objs.size a (Nat.ne_of_lt (Heap.lt_size ho)) (bs.map Value.bool).toArray
  refine call_any_walk (wpAny_pyIter_list pl.isList ⟨s.heap.objs.size, _, _, _, _, _, fun i => bs.getD i true, rfl, W, ⟨⟨_, Heap.get?_push_size _ rfl, rfl, rfl⟩, pl.isList.push _⟩, truth_bools, fun h' tk hk => ?_⟩)
  have e : (bs.map Value.bool).toArray.size = bs.length := by simp
  rw [e, range_any]
  exact ⟨.bl _, H, I.kept (t' := tk) fun b ob hb => hk b ob (fun z => Nat.lt_irrefl _ (by have := Heap.lt_size hb; rw [List.mem_singleton.mp z] at this; exact this)) (Heap.get?_push_of_some _ hb), rfl, q⟩
end
end L2
namespace L2
open PySem PySem.Spec PyProof.Rows
open AutoSeq1 (wpAny_loadPart')
section
variable {prog : Program} {w : World} {A : Around} {E : Value → Shared → Prop} {s : Shared}
end
end L2
namespace L2
open PySem PySem.Spec PyProof.Rows
section
variable {prog : Program} {w : World} {A : Around} {E : Value → Shared → Prop} {s : Shared}
end
end L2
namespace L2
open PySem PySem.Spec PyProof.Rows
section
variable {g : TG} {tb : TS} {D : Ends} {σ : St} {H : Hp}
end
end L2
namespace L2
open PySem PySem.Spec PyProof.Rows
section
variable {prog : Program} {w : World} {A : Around} {E : Value → Shared → Prop} {s : Shared}
end
end L2
namespace L2
open PySem PySem.Spec PyProof.Rows
section
variable {X : Cx}
end
end L2
namespace L2
open PySem PySem.Spec PyProof.Rows
end L2
namespace L2
open PySem PySem.Spec PyProof.Rows
structure XE (X : Cx) (e : Expr) (t : TE) : Prop where
  h : PE X e t
structure XT (X : Cx) (e : Expr) (t : TT) : Prop where
  h : PT X e t
structure XW (X : Cx) (e : Expr) (t : TT) : Prop where
  h : PW X e t
structure XA (X : Cx) (es : List Expr) (t : TA) : Prop where
  h : PA X es t
structure XS (X : Cx) (st : Stmt) (t : TS) : Prop where
  h : PS X st t
structure XSs (X : Cx) (st : List Stmt) (t : TS) : Prop where
  h : PSs X st t
structure XG (X : Cx) (target : Expr) (t : TG) : Prop where
  h : PG X target t
structure XGs (X : Cx) (ts : List Expr) (t : TGs) : Prop where
  h : PGs X ts t
structure XI (X : Cx) (tg iter : Expr) (wi : TI) : Prop where
  h : PI X tg iter wi
structure XO (X : Cx) (e : Option Expr) (t : TO) : Prop where
  h : PO X e t
structure XC (X : Cx) (op : CmpOp) (a b : Expr) (t : TE) : Prop where
  h : PC X op a b t
structure XIfs (X : Cx) (ifs : List Expr) (t : TT) : Prop where
  h : PIfs X ifs t
theorem xpe_int {X : Cx} {i j pos} : XE X (.Constant (.int i) j pos) (tC (.int i)) := ⟨pe_int ⟩
theorem xpe_bl {X : Cx} {b j pos} : XE X (.Constant (.bool b) j pos) (tC (.bl b)) := ⟨pe_bl ⟩
theorem xpe_non {X : Cx} {j pos} : XE X (.Constant .none j pos) (tC .non) := ⟨pe_non ⟩
theorem xpe_str {X : Cx} {x j pos} : XE X (.Constant (.str x) j pos) (tC (.str x)) := ⟨pe_str ⟩
theorem xqv {X : Cx} (i : Nat) {x : Str} {pos : Pos} (hv : Vis X.env.scope x) (hN : X.N[i]? = some x := by rfl) (hd : (x == ("__debug__" : Str)) = false := by kernel_rfl) (hcd : (x == ("__classdict__" : Str)) = false := by kernel_rfl) : XE X (.Name x pos) (tVar i) := ⟨qv i hv hN hd hcd⟩
theorem xpe_op {X : Cx} {a b : Expr} {ta tb : TE} {pos : Pos} {op : Operator} {r : R2} (ho : OpR X (binaryOp op) r) (ha : XE X a ta) (hb : XE X b tb) : XE X (.BinOp a op b pos) (tOp r ta tb) := ⟨pe_op ho ha.h hb.h⟩
theorem xpe_un {X : Cx} {a : Expr} {ta : TE} {pos : Pos} {op : UnaryOp} {r : V → Hp → VK → Prop} (ho : UnR X (unaryOp op) r) (ha : XE X a ta) : XE X (.UnaryOp op a pos) (tUn r ta) := ⟨pe_un ho ha.h⟩
theorem xpe_cmpR {X : Cx} {a b : Expr} {ta tb : TE} {pos : Pos} {op : CmpOp} {r : R2} (ho : OpR X (compareOp op) r) (ha : XE X a ta) (hb : XE X b tb) (hm : behindInMarks op b = false) : XE X (.Compare a [op] [b] pos) (tOp r ta tb) := ⟨pe_cmpR ho ha.h hb.h hm⟩
theorem xpe_and {X : Cx} {a b : Expr} {ta tb : TE} {pos : Pos} {rest : List Expr} (ha : XE X a ta) (hb : XE X (.BoolOp .And (b :: rest) pos) tb) : XE X (.BoolOp .And (a :: b :: rest) pos) (tAndV ta tb) := ⟨pe_and ha.h hb.h⟩
theorem xpe_or {X : Cx} {a b : Expr} {ta tb : TE} {pos : Pos} {rest : List Expr} (ha : XE X a ta) (hb : XE X (.BoolOp .Or (b :: rest) pos) tb) : XE X (.BoolOp .Or (a :: b :: rest) pos) (tOrV ta tb) := ⟨pe_or ha.h hb.h⟩
theorem xpe_one {X : Cx} {a : Expr} {pos : Pos} {op} {t : TE} (h : XE X a t) : XE X (.BoolOp op [a] pos) t := ⟨pe_one h.h⟩
theorem xpe_not {X : Cx} {a : Expr} {ta : TE} {pos : Pos} (ha : XE X a ta) : XE X (.UnaryOp .Not a pos) (tNotV ta) := ⟨pe_not ha.h⟩
theorem xpe_ifExp {X : Cx} {a b : Expr} {ta tb : TE} {pos : Pos} {tA : TT} {c : Expr} (hc : XT X c tA) (ha : XE X a ta) (hb : XE X b tb) : XE X (.IfExp c a b pos) (tIf tA ta tb) := ⟨pe_ifExp hc.h ha.h hb.h⟩
theorem xpe_lst {X : Cx} {es : List Expr} {t : TA} {pos : Pos} (h : XA X es t) : XE X (.List es pos) (tLst t) := ⟨pe_lst h.h⟩
theorem xpe_tup {X : Cx} {es : List Expr} {t : TA} {pos : Pos} {x1} (h : XA X es t) : XE X (.Tuple es x1 pos) (tTup t) := ⟨pe_tup h.h⟩
theorem xpe_dnewK {X : Cx} {pos : Pos}  : XE X (.Dict [] [] pos) tDNewK := ⟨pe_dnewK ⟩
theorem xqe_callB {X : Cx} {x : Str} {p pos : Pos} {e : Expr} {es : List Expr} {t : TA} {id : String} {r : List V → Hp → VK → Prop} (hc : CallR X (.builtin id) r) (hg : Gl X x) (hm : X.mg x = none) (hv : bootBuiltins x = some (.builtin id)) (ha : XA X (e :: es) t) (hn : (x == ("__name__" : Str)) = false := by kernel_rfl) (hdb : (x == ("__debug__" : Str)) = false := by kernel_rfl) (he : starEach (e :: es) X.env = (false, eval e X.env) :: starEach es X.env := by rfl) (hpl : (backTo pos (starEach es X.env)).any (·.1) = false := by rfl) : XE X (.Call (.Name x p) (e :: es) [] pos) (tCB r t) := ⟨qe_callB hc hg hm hv ha.h hn hdb he hpl⟩
theorem xqe_callTy {X : Cx} {x : Str} {p pos : Pos} {e : Expr} {es : List Expr} {t : TA} {T : String} {r : List V → Hp → VK → Prop} (hc : CallR X (.type T) r) (hg : Gl X x) (hm : X.mg x = none) (hv : bootBuiltins x = some (.type T)) (ha : XA X (e :: es) t) (hn : (x == ("__name__" : Str)) = false := by kernel_rfl) (hdb : (x == ("__debug__" : Str)) = false := by kernel_rfl) (he : starEach (e :: es) X.env = (false, eval e X.env) :: starEach es X.env := by rfl) (hpl : (backTo pos (starEach es X.env)).any (·.1) = false := by rfl) : XE X (.Call (.Name x p) (e :: es) [] pos) (tCB r t) := ⟨qe_callTy hc hg hm hv ha.h hn hdb he hpl⟩
theorem xqe_callD {X : Cx} {k : Nat} {f : Addr} {fd : FuncData} {ps : List Str} {sp : Sp} {x : Str} {st : Stmt} {p pos : Pos} {e : Expr} {es : List Expr} {t : TA} (D : DefAt X.K X.mg x st ps f fd) (G : FnOk X.prog X.w X.K X.mg X.base CX0 k f fd ps sp) (hr : Room k X.A) (ha : XA X (e :: es) t) (hg : Gl X x) (hdb : (x == ("__debug__" : Str)) = false := by kernel_rfl) (he : starEach (e :: es) X.env = (false, eval e X.env) :: starEach es X.env := by rfl) (hpl : (backTo pos (starEach es X.env)).any (·.1) = false := by rfl) : XE X (.Call (.Name x p) (e :: es) [] pos) (tCall sp [] E0 t) := ⟨qe_callD D G hr ha.h hg hdb he hpl⟩
theorem xpe_bm {X : Cx} {o e : Expr} {es : List Expr} {to : TE} {t : TA} {name : Str} {apos cpos : Pos} {T id : String} {r : V → List V → Hp → VK → Prop} (pa : PlainAttrs T) (slot : Slot T name id) (hty : typeOf (.builtin id) = pure (.type "method_descriptor")) (hm : MtR X id r) (ho : XE X o to) (ha : XA X (e :: es) t) (hbase : attributeBase o name X.env (eval o X.env) = eval o X.env := by rfl) (hfew : ((backTo cpos (starEach (e :: es) X.env)).all (fun x => !x.1) && (backToKw cpos (keywordEach [] X.env)).all (fun x => x.1.isSome)
      && decide ((e :: es).length + ([] : List Keyword).length + (if ([] : List Keyword).isEmpty then 0 else 1) < 30)) = true := by rfl) (hline : (apos.endLine == cpos.line) = true := by rfl) (hs : starEach (e :: es) X.env = (false, eval e X.env) :: starEach es X.env := by rfl) (hplain : (backTo cpos (starEach es X.env)).any (·.1) = false := by rfl) : XE X (.Call (.Attribute o name apos) (e :: es) [] cpos) (tBM X.K T r to t) := ⟨pe_bm pa slot hty hm ho.h ha.h hbase hfew hline hs hplain⟩
theorem xpe_slice {X : Cx} {e : Expr} {te : TE} {lo hi : Option Expr} {tl th : TO} {pos p2 : Pos} {r : V → Option Int → Option Int → Hp → VK → Prop} (hr : SlR X r) (he : XE X e te) (hl : XO X lo tl) (hu : XO X hi th) : XE X (.Subscript e (.Slice lo hi none p2) pos) (tSl r te tl th) := ⟨pe_slice hr he.h hl.h hu.h⟩
theorem xpe_dget {X : Cx} {o i : Expr} {pos : Pos} {td ty : TE} (hu : X.A.units + 1 < cLine) (ho : XE X o td) (hi : XE X i ty) (hs : NoSl i) : XE X (.Subscript o i pos) (tDGet td ty) := ⟨pe_dget hu ho.h hi.h hs⟩
theorem xpe_ix {X : Cx} {a b : Expr} {ta tb : TE} {pos : Pos} {r : R2} (hr : IxR X r) (ha : XE X a ta) (hb : XE X b tb) (hs : PlainIx b) : XE X (.Subscript a b pos) (tOp r ta tb) := ⟨pe_ix hr ha.h hb.h hs⟩
theorem xpe_fld {X : Cx} {e : Expr} {f : Str} {pos : Pos} {ta : TE} (he : XE X e ta) (hb : attributeBase e f X.env (eval e X.env) = eval e X.env) : XE X (.Attribute e f pos) (tFld X.K ta f) := ⟨pe_fld he.h hb⟩
theorem xpe_compG  {X : Cx} {elt iter tgt : Expr} {ifs : List Expr} {pos : Pos} {scope : Scope} {wi : TI} {g : Bk → TG} {tt : Bk → TT} {te : Bk → TE} {tns cns : List Str} {ci : List Nat} (hc : X.calm = true) (S : CompSc X scope cns ci) (hi : XI X tgt iter wi) (hg : ∀ bk : Bk, XG (X.blk (".0" :: (tns ++ cns)) scope bk) tgt (g bk)) (ht : ∀ bk : Bk, XIfs (X.blk (".0" :: (tns ++ cns)) scope bk) ifs (tt bk)) (he : ∀ bk : Bk, XE (X.blk (".0" :: (tns ++ cns)) scope bk) elt (te bk)) (hs : ∀ v, foldedSetIterable iter X.env v = pure v := by intro _; rfl) : XE X (.ListComp elt [⟨tgt, iter, ifs, 0⟩] scope pos) (tCompG wi g tt te tns.length ci) := ⟨pe_compG hc S hi.h (fun bk => (hg bk).h) (fun bk => (ht bk).h) (fun bk => (he bk).h) hs⟩
theorem xqe_bltn {X : Cx} {x : Str} {v : V} {u : Value} {pos : Pos} (hg : Gl X x) (hm : X.mg x = none) (hv : bootBuiltins x = some u) (r : RelV v u) (hn : (x == ("__name__" : Str)) = false := by kernel_rfl) (hd : (x == ("__debug__" : Str)) = false := by kernel_rfl) : XE X (.Name x pos) (tC v) := ⟨qe_bltn hg hm hv r hn hd⟩
theorem xpt_cmpR {X : Cx} {a b : Expr} {ta tb : TE} {pos : Pos} {op : CmpOp} {r : R2} (ho : OpR X (compareOp op) r) (ha : XE X a ta) (hb : XE X b tb) (hm : behindInMarks op b = false) : XT X (.Compare a [op] [b] pos) (tTest (tOp r ta tb)) := ⟨pt_cmpR ho ha.h hb.h hm⟩
theorem xpt_val {X : Cx} {e : Expr} {t : TE} (h : XE X e t) (he : ∀ whole, isTrue e X.env whole = (do let v ← whole; standAt e.pos; holding [v] (truthy v)) := by intro _; rfl) : XT X e (tB t) := ⟨pt_val h.h he⟩
theorem xpt_not {X : Cx} {a : Expr} {pos : Pos} {tA : TT} (ha : XT X a tA) : XT X (.UnaryOp .Not a pos) (tNot tA) := ⟨pt_not ha.h⟩
theorem xpt_cmp {X : Cx} {a b : Expr} {pos : Pos} {op : CmpOp} {t : TE} (h : XC X op a b t) (h1 : behindInMarks op b = false := by first | exact nobehind _ (by decide) (by decide) | rfl) : XT X (.Compare a [op] [b] pos) (tB t) := ⟨pt_cmp h.h h1⟩
theorem xPW_pt  {X : Cx} {e : Expr} {t : TT} (h : XW X e t) : XT X e t := ⟨PW.pt h.h⟩
theorem xpw_and {X : Cx} {a b : Expr} {pos : Pos} {tA tB' : TT} {rest : List Expr} (ha : XT X a tA) (hb : XW X (.BoolOp .And (b :: rest) pos) tB') : XW X (.BoolOp .And (a :: b :: rest) pos) (tAnd tA tB') := ⟨pw_and ha.h hb.h⟩
theorem xpw_and1 {X : Cx} {a : Expr} {pos : Pos} {tA : TT} (ha : XT X a tA) : XW X (.BoolOp .And [a] pos) tA := ⟨pw_and1 ha.h⟩
theorem xpw_or {X : Cx} {a b : Expr} {pos : Pos} {tA tB' : TT} {rest : List Expr} (ha : XT X a tA) (hb : XW X (.BoolOp .Or (b :: rest) pos) tB') : XW X (.BoolOp .Or (a :: b :: rest) pos) (tOr tA tB') := ⟨pw_or ha.h hb.h⟩
theorem xpw_or1 {X : Cx} {a : Expr} {pos : Pos} {tA : TT} (ha : XT X a tA) : XW X (.BoolOp .Or [a] pos) tA := ⟨pw_or1 ha.h⟩
theorem xpa_nil {X : Cx}  : XA X [] tNil := ⟨pa_nil ⟩
theorem xpa_cons {X : Cx} {e : Expr} {es : List Expr} {te : TE} {t : TA} (ha : XE X e te) (hr : XA X es t) (hs : starEach (e :: es) X.env = (false, eval e X.env) :: starEach es X.env := by rfl) : XA X (e :: es) (tCons te t) := ⟨pa_cons ha.h hr.h hs⟩
theorem xpo_none {X : Cx}  : XO X none tNoPart := ⟨po_none ⟩
theorem xpo_some {X : Cx} {e : Expr} {te : TE} (h : XE X e te) : XO X (some e) (tPart te) := ⟨po_some h.h⟩
theorem xpg_name {X : Cx} {pos : Pos} {i : Nat} {x : Str} (hN : X.N.Nodup) (hi : X.N[i]? = some x) (hx : Loc X.env.scope x) (hf : X.fn x = true ∨ X.env.scope.names.lookup x = some .local := by first | exact .inl rfl | exact .inr rfl | assumption) : XG X (.Name x pos) (gName i) := ⟨pg_name hN hi hx hf⟩
theorem xpg_tup {X : Cx} {pos : Pos} {es : List Expr} {k : Nat} {t : TGs} {n : Nat} (hc : X.calm = true) (h : XGs X es t) (hn : (assignEach es X.env).length = n := by rfl) (hst : (assignEach es X.env).findIdx? (·.1) = none := by rfl) : XG X (.Tuple es k pos) (gTup X.K n t) := ⟨pg_tup hc h.h hn hst⟩
theorem xpgs_nil {X : Cx}  : XGs X [] gNil := ⟨pgs_nil ⟩
theorem xpgs_cons {X : Cx} {e : Expr} {es : List Expr} {t : TG} {u : TGs} (h1 : XG X e t) (h2 : XGs X es u) (hs : (assignEach (e :: es) X.env).map (·.2) = assign e X.env :: (assignEach es X.env).map (·.2) := by rfl) : XGs X (e :: es) (gCons t u) := ⟨pgs_cons h1.h h2.h hs⟩
theorem xpg_sub {X : Cx} {pos : Pos} {o i : Expr} {to ti : TE} {t : TSet} (ho : XE X o to) (hi : XE X i ti) (hs : PSet X t) (ha : ∀ v, assign (.Subscript o i pos) X.env v = (do
      let ov ← holding [v] (eval o X.env)
      let iv ← holding [v, ov] (eval i X.env)
      standAt pos
      holding [v, ov, iv] (setItem ov iv v)
      release [v, ov, iv] []) := by intro _; rfl) : XG X (.Subscript o i pos) (gSub to ti t) := ⟨pg_sub ho.h hi.h hs ha⟩
theorem xpi_range1 {X : Cx} {tg : Expr} {a : Expr} {ta : TA} {p pos : Pos} (hg : Gl X "range") (hm : X.mg "range" = none) (ha : XA X [a] ta) (hs : starEach [a] X.env = [(false, eval a X.env)] := by rfl) : XI X tg (.Call (.Name "range" p) [a] [] pos) (iRng1 ta) := ⟨pi_range1 hg hm ha.h hs⟩
theorem xpi_enum  {X : Cx} {a : Expr} {ta : TA} {p pos pos0 : Pos} {elts : List Expr} {k0 : Nat} (hm : X.mg "enumerate" = none) (ha : XA X [a] ta) (hg : Gl X "enumerate" := by rfl) (hs : starEach [a] X.env = [(false, eval a X.env)] := by rfl) : XI X (.Tuple elts k0 pos0) (.Call (.Name "enumerate" p) [a] [] pos) (iEnum X.K ta) := ⟨pi_enum hm ha.h hg hs⟩
theorem xpi_list {X : Cx} {tg : Expr} {l : Expr} {tl : TE} (hl : XE X l tl) : XI X tg l (iList X.K tl) := ⟨pi_list hl.h⟩
theorem xpi_tup {X : Cx} {tg : Expr} {l : Expr} {tl : TE} (hl : XE X l tl) : XI X tg l (iTup X.K tl) := ⟨pi_tup hl.h⟩
theorem xps_set {X : Cx} {pos : Pos} {i : Nat} {x : Str} {e : Expr} {te : TE} {pos' : Pos} (hN : X.N.Nodup) (hi : X.N[i]? = some x) (hx : Loc X.env.scope x) (he : XE X e te) (hs : swapsWith e (some (.Name x pos')) pos.line X.env = pure false := by rfl) (hf : X.fn x = true ∨ X.env.scope.names.lookup x = some .local := by first | exact .inl rfl | exact .inr rfl | assumption) : XS X (.Assign [.Name x pos'] e pos) (tAsg te (gName i)) := ⟨ps_set hN hi hx he.h hs hf⟩
theorem xps_setComp  {X : Cx} {i : Nat} {x : Str} {px pos' : Pos} {elt iter tgt : Expr} {ifs : List Expr} {pos : Pos} {scope : Scope} {wi : TI} {g : Bk → TG} {tt : Bk → TT} {te : Bk → TE} {tns cns : List Str} {ci : List Nat} (hN : X.N.Nodup) (hx : X.N[i]? = some x) (hl : Loc X.env.scope x) (hf : X.fn x = true) (hsw : swapsWith (.ListComp elt [⟨tgt, iter, ifs, 0⟩] scope pos) (some (.Name x px)) pos'.line X.env = pure true) (hc : X.calm = true) (S : CompSc X scope cns ci) (hi : XI X tgt iter wi) (hg : ∀ bk : Bk, XG (X.blk (".0" :: (tns ++ cns)) scope bk) tgt (g bk)) (ht : ∀ bk : Bk, XIfs (X.blk (".0" :: (tns ++ cns)) scope bk) ifs (tt bk)) (he : ∀ bk : Bk, XE (X.blk (".0" :: (tns ++ cns)) scope bk) elt (te bk)) (hs : ∀ v, foldedSetIterable iter X.env v = pure v := by intro _; rfl) : XS X (.Assign [.Name x px] (.ListComp elt [⟨tgt, iter, ifs, 0⟩] scope pos) pos') (sSetComp i wi g tt te tns.length ci) := ⟨ps_setComp hN hx hl hf hsw hc S hi.h (fun bk => (hg bk).h) (fun bk => (ht bk).h) (fun bk => (he bk).h) hs⟩
theorem xps_asg {X : Cx} {pos : Pos} {tg e : Expr} {te : TE} {g : TG} (he : XE X e te) (hg : XG X tg g) (hs : swapsWithSole [tg] e pos.line X.env = pure false := by rfl) (hw : swappedStores [tg] e X.env = pure none := by rfl) (h1 : (assignEach [tg] X.env).map (·.2) = [assign tg X.env] := by rfl) : XS X (.Assign [tg] e pos) (tAsg te g) := ⟨ps_asg he.h hg.h hs hw h1⟩
theorem xps_fld {X : Cx} {o value : Expr} {f : Str} {pos pos' : Pos} {ta tv : TE} (ha : XE X o ta) (hv : XE X value tv) (hs : swapsWith value (some (.Attribute o f pos')) pos.line X.env = pure false) : XS X (.Assign [.Attribute o f pos'] value pos) (sFld X.K ta tv f) := ⟨ps_fld ha.h hv.h hs⟩
theorem xps_dput {X : Cx} {o i value : Expr} {pos pos' : Pos} {td ty tv : TE} (hu : X.A.units + 1 < cLine) (ho : XE X o td) (hi : XE X i ty) (hv : XE X value tv) (hs : swapsWith value (some (.Subscript o i pos')) pos.line X.env = pure false) : XS X (.Assign [.Subscript o i pos'] value pos) (sDPut td ty tv) := ⟨ps_dput hu ho.h hi.h hv.h hs⟩
theorem xps_ret {X : Cx} {e : Expr} {te : TE} {pos : Pos} (he : XE X e te) : XS X (.Return (some e) pos) (tRet te) := ⟨ps_ret he.h⟩
theorem xps_expr {X : Cx} {e : Expr} {te : TE} {pos : Pos} (he : XE X e te) (hs : swapsWith e none pos.line X.env = pure false := by rfl) : XS X (.Expr e pos) (tDrop te) := ⟨ps_expr he.h hs⟩
theorem xps_if {X : Cx} {t u : TS} {pos : Pos} {c : Expr} {a b : List Stmt} {tc : TT} (hc : XT X c tc) (ha : XSs X a t) (hb : XSs X b u) : XS X (.If c a b pos) (tIfS tc t u) := ⟨ps_if hc.h ha.h hb.h⟩
theorem xps_while {X : Cx} {pos : Pos} {c : Expr} {body : List Stmt} {tc : TT} {tb : TS} (hp : PassesOwn (model X.prog X.w) X.A X.env X.xe) (hc : XT X c tc) (hb : XSs X body tb) : XS X (.While c body [] pos) (tWhile tc tb) := ⟨ps_while hp hc.h hb.h⟩
theorem xps_for {X : Cx} {tg : Expr} {iter : Expr} {body : List Stmt} {wi : TI} {g : TG} {tb : TS} {pos : Pos} (hp : PassesOwn (model X.prog X.w) X.A X.env X.xe) (hc : X.calm = true) (hi : XI X tg iter wi) (hg : XG X tg g) (hb : XSs X body tb) (hs : ∀ x, foldedSetIterable iter X.env x = pure x := by intro _; rfl) : XS X (.For tg iter body [] pos) (tFor wi g tb) := ⟨ps_for hp hc hi.h hg.h hb.h hs⟩
theorem xpss_nil {X : Cx}  : XSs X [] tNext := ⟨pss_nil ⟩
theorem xpss_one {X : Cx} {st : Stmt} {t : TS} (h1 : XS X st t) : XSs X [st] t := ⟨pss_one h1.h⟩
theorem xpss_cons {X : Cx} {st : Stmt} {rest : List Stmt} {t u : TS} (h1 : XS X st t) (h2 : XSs X rest u) : XSs X (st :: rest) (tSeq t u) := ⟨pss_cons h1.h h2.h⟩
theorem xpss_mid {X : Cx} {st : Stmt} {ss : List Stmt} {ta tb : TS} (h1 : XS X st ta) (h2 : XSs X ss tb) : XSs X (st :: ss) (tMid ta tb) := ⟨pss_mid h1.h h2.h⟩
theorem xpf_nil  {X : Cx} : XIfs X [] tYes := ⟨pf_nil ⟩
theorem xpf_one  {X : Cx} {c : Expr} {t : TT} (h : XT X c t) : XIfs X [c] t := ⟨pf_one h.h⟩
theorem xpc_din {X : Cx} {o i : Expr} {td ty : TE} (hu : X.A.units + 1 < cLine) (hi : XE X i ty) (ho : XE X o td) : XC X .In i o (tDIn ty td) := ⟨pc_din hu hi.h ho.h⟩
theorem xpc_dnotin {X : Cx} {o i : Expr} {td ty : TE} (hu : X.A.units + 1 < cLine) (hi : XE X i ty) (ho : XE X o td) : XC X .NotIn i o (tDNotIn ty td) := ⟨pc_dnotin hu hi.h ho.h⟩
theorem xpe_meth {X : Cx} {CX : CXT} {k : Nat} {f C : Addr} {fd : FuncData} {ps : List Str} {sp : Sp} {dvs : List V} {ds : List Value} {E : XK} {m : Str} {pos apos : Pos} {e o : Expr} {es : List Expr} {ta : TE} {t : TA} {pl : Sem Bool} (he : XE X o ta) (c : Cls X.K C) (hm : Meth X.K C m f) (F : FnOk X.prog X.w X.K X.mg X.base CX k f fd ps sp) (hr : Room k X.A) (hb : Binds X.K fd ps ds) (hd : Vals dvs ds) (hx : Passes CX X E) (ha : XA X (e :: es) t) (hst : starEach (e :: es) X.env = (false, eval e X.env) :: starEach es X.env := by rfl) (hpl : (backTo pos (starEach es X.env)).any (·.1) = false := by rfl) (ht : eval (.Call (.Attribute o m apos) (e :: es) [] pos) X.env = (do
      let ov ← eval o X.env
      standAt apos.atName
      let (f, first) ← holding [ov] (getMethod ov m pl)
      callWith pos f first (backTo pos (starEach (e :: es) X.env)) (backToKw pos (keywordEach [] X.env))) := by rfl) : XE X (.Call (.Attribute o m apos) (e :: es) [] pos) (tMeth C m sp dvs E ta t) := ⟨pe_meth he.h c hm F hr hb hd hx ha.h hst hpl ht⟩
theorem xpe_disp  {X : Cx} {pos : Pos} {keys : List (Option Expr)} {values : List Expr} {trs : List (TE × TE)} (h : PPs X pos keys values trs) (hall : keys.all (·.isSome) = true) (hl : keys.length = values.length) (h0 : keys ≠ []) (h15 : keys.length ≤ 15) : XE X (.Dict keys values pos) (tDisp trs) := ⟨pe_disp h hall hl h0 h15⟩
theorem xqe_makeD {X : Cx} {k : Nat} {f C : Addr} {fd : FuncData} {ps : List Str} {sp : Sp} {x qual : Str} {st : Stmt} {p pos : Pos} {e : Expr} {es : List Expr} {t : TA} (c : KlsAt X.K X.mg x C) (D : MethAt X.K C "__init__" qual st ps f fd) (G : FnOk X.prog X.w X.K X.mg X.base CX0 k f fd ps sp) (hr : Room (k + 1) X.A) (ha : XA X (e :: es) t) (hg : Gl X x) (hdb : (x == ("__debug__" : Str)) = false := by kernel_rfl) (he : starEach (e :: es) X.env = (false, eval e X.env) :: starEach es X.env := by rfl) (hpl : (backTo pos (starEach es X.env)).any (·.1) = false := by rfl) : XE X (.Call (.Name x p) (e :: es) [] pos) (tMake C sp [] E0 t) := ⟨qe_makeD c D G hr ha.h hg hdb he hpl⟩
theorem xqe_methD {X : Cx} {k : Nat} {f C : Addr} {fd : FuncData} {ps : List Str} {sp : Sp} {m qual : Str} {st : Stmt} {pos apos : Pos} {e o : Expr} {es : List Expr} {ta : TE} {t : TA} {pl : Sem Bool} (c : Cls X.K C) (D : MethAt X.K C m qual st ps f fd) (G : FnOk X.prog X.w X.K X.mg X.base CX0 k f fd ps sp) (hr : Room k X.A) (he : XE X o ta) (ha : XA X (e :: es) t) (hst : starEach (e :: es) X.env = (false, eval e X.env) :: starEach es X.env := by rfl) (hpl : (backTo pos (starEach es X.env)).any (·.1) = false := by rfl) (ht : eval (.Call (.Attribute o m apos) (e :: es) [] pos) X.env = (do
      let ov ← eval o X.env
      standAt apos.atName
      let (f, first) ← holding [ov] (getMethod ov m pl)
      callWith pos f first (backTo pos (starEach (e :: es) X.env)) (backToKw pos (keywordEach [] X.env))) := by rfl) : XE X (.Call (.Attribute o m apos) (e :: es) [] pos) (tMeth C m sp [] E0 ta t) := ⟨qe_methD c D G hr he.h ha.h hst hpl ht⟩
theorem xpa_const {X : Cx} {es : List Expr} {vs : List V} (h : constVs es = some vs) : XA X es (tVs vs) := ⟨pa_const h⟩
end L2
namespace L2
open PySem PySem.Spec PyProof.Rows
end L2
namespace L2
open PySem PySem.Spec PyProof.Rows
section
variable {X : Cx}
noncomputable def insK (i : Int) (n : Nat) : Nat := if i < 0 then (i + n).toNat else min i.toNat n
noncomputable def rInsert : V → List V → Hp → VK → Prop := fun x vs H Q => ∃ l xs i y, x = .ref l ∧ vs = [.int i, y] ∧ H l = some (.lst xs) ∧ -(2 ^ 63) ≤ i ∧ i < 2 ^ 63 ∧ xs.length < sizeLine ∧ Q .non (upd H l (.lst (xs.take (insK i xs.length) ++ y :: xs.drop (insK i xs.length))))
noncomputable def cntV (x : V) (xs : List V) : Nat := xs.countP fun y => eqV y x
noncomputable def rCount (K : PySem.W.Frag) : V → List V → Hp → VK → Prop := fun x vs H Q => ∃ l xs y, x = .ref l ∧ vs = [y] ∧ SqL K H l xs ∧ flatV y = true ∧ xs.all flatV = true ∧ Q (.int (cntV y xs)) H
theorem count_eqU {x : V} : ∀ {xs : List V} {us : List Value}, Vals xs us → xs.all flatV = true → us.countP (eqU x) = xs.countP fun y => eqV y x
  | _, _, .nil, _ => rfl
  | x' :: xs, _, .cons h t, f => by
    rw [List.all_cons, Bool.and_eq_true] at f
    rw [List.countP_cons, List.countP_cons, count_eqU t f.2, eqU_of h f.1]
theorem mt_count : MtM X "list.count" (rCount X.K) := by
  intro pins s σ H x vs v us Q I rx rv h
  obtain ⟨l, xs, y, rfl, rfl, hq, fy, fx, q⟩ := h
  cases rx
  obtain ⟨u, rfl, ru⟩ := rv.one
  obtain ⟨its, r, pl, _⟩ := I.list hq
  obtain ⟨o, n, e, c, hd, hdt⟩ := id pl
  obtain ⟨oc, od, odt, osl⟩ := o
  simp only at c hd hdt
  subst c hd hdt
  refine call_meets F.slot_list_count ⟨_, e, rfl⟩ F.entry_list_count (F.args_list_count_2 _ _) (SeqAt.list_countAt l its.toArray n none osl u (eqU y)) ⟨e, fun z hz => mem_eqAt ru fy r fx z (by simpa using hz), ?_⟩
  rw [show its.toArray.toList = its from rfl, count_eqU r fx]
  exact ⟨.int _, H, I.tok _, ⟨_, rfl⟩, q⟩
noncomputable def tListRng (ta : TA) : TE := fun σ H Q => ta σ H fun vs H1 => ∃ n : Nat, vs = [.int n] ∧ n ≤ 1000 ∧ ∀ l, H1 l = none → Q (.ref l) (upd H1 l (.lst ((List.range n).map fun i : Nat => V.int i)))
theorem items_rng {acc : Array Value} {n : Nat} (h : ItemsOf (fun i v => ∃ t, v = Value.int (0 + (i : Int) * 1) t) acc n) : Vals ((List.range n).map fun i : Nat => V.int i) acc.toList := by
  obtain ⟨h1, h2⟩ := h
  subst h1
  rw [← Array.length_toList]
  have g : ∀ (l : List Value) (k : Nat), (∀ (i : Nat) v, l[i]? = some v → ∃ t, v = Value.int ((k + i : Nat) : Int) t) → Vals ((List.range' k l.length).map fun i : Nat => V.int i) l := by
    intro l
    induction l with
    | nil => intro k _; exact .nil
    | cons a l ih =>
      intro k hl
      refine .cons ?_ (ih (k + 1) fun i v hv => ?_)
      · obtain ⟨t, e⟩ := hl 0 a rfl
        exact ⟨t, e⟩
      · obtain ⟨t, e⟩ := hl (i + 1) v hv
        exact ⟨t, by rw [e]; congr 1; omega⟩
  have z := g acc.toList 0 fun i v hv => by
    obtain ⟨t, e⟩ := h2 i v (by rw [← hv, Array.getElem?_toList])
    exact ⟨t, by rw [e]; congr 1; omega⟩
  rw [List.range_eq_range']
  exact z
theorem r_listRng {ta : TA} {σ : St} {H : Hp} {Q : VK} : tListRng ta σ H Q = ta σ H fun vs H1 => ∃ n : Nat, vs = [.int n] ∧ n ≤ 1000 ∧ ∀ l, H1 l = none → Q (.ref l) (upd H1 l (.lst ((List.range n).map fun i : Nat => V.int i))) := rfl
end
noncomputable def keyP (pr : Params) : Key → Int
  | .inl k => hashInt k
  | .inr x => if x.cps.isEmpty = true then 0 else reduceHash (pr.strHash x.cps)
noncomputable def DictK (K : PySem.W.Frag) (pr : Params) (a : Addr) (kvs : List (Key × V)) : Prop := ∃ (es : List DictEntry) (ep : Nat), K.lookup a = some ⟨.type "dict", none, .dict es.toArray ep, #[]⟩ ∧ (a == sysModules) = false ∧ (kvs.map (·.1)).Nodup ∧ Paired (fun (kv : Key × V) (e : DictEntry) => keyIs kv.1 e.key = true ∧ e.hash = keyP pr kv.1 ∧ RelV kv.2 e.val) kvs es
theorem dictK_pairs {P : Program} {w : World} : ∀ {kvs : List (Key × V)} {es : List DictEntry}, Paired (fun (kv : Key × V) (e : DictEntry) => keyIs kv.1 e.key = true ∧ e.hash = keyP w.params kv.1 ∧ RelV kv.2 e.val) kvs es →
    ∃ vs : List (Key × Value), KV kvs vs ∧ Pairs (mixKind P w) es vs ∧ ∀ e ∈ es, ∃ k, (mixKind P w).is k e.key = true ∧ e.hash = (mixKind P w).hash k
  | _, _, .nil => ⟨[], .nil, .nil, by simp⟩
  | kv :: kvs, e :: es, .cons h t => by
    obtain ⟨vs, r, p, q⟩ := dictK_pairs (P := P) t
    obtain ⟨h1, h2, h3⟩ := h
    refine ⟨(kv.1, e.val) :: vs, .cons ⟨rfl, h3⟩ r, .cons h1 rfl p, fun e' he => ?_⟩
    rcases List.mem_cons.mp he with z | z
    · subst z
      refine ⟨kv.1, h1, h2.trans ?_⟩
      obtain ⟨k, v⟩ := kv
      cases k <;> rfl
    · exact q e' z
theorem dictK_of {X : Cx} {pins : List (Addr × Obj)} {σ : St} {H : Hp} {s : Shared} {a : Addr} {kvs : List (Key × V)} {pr : Params} (hw : pr = X.w.params) (I : Inv X pins σ H s) (D : DictK X.K pr a kvs) : (a == sysModules) = false ∧ ∃ vs, KV kvs vs ∧ s.heap.DictOf (mixKind X.prog X.w) a vs := by
  subst hw
  obtain ⟨es, ep, hk, hd, nd, pr⟩ := D
  obtain ⟨vs, r, p, q⟩ := dictK_pairs (P := X.prog) pr
  refine ⟨hd, vs, r, _, es.toArray, ep, I.kIn a _ hk, ⟨rfl, rfl, rfl⟩, rfl, fun e he => q e (by simpa using he), p, ?_⟩
  rw [← r.keys]
  exact nd
noncomputable def tKGet1 (kvs : List (Key × V)) (ty : TE) : TE := fun σ H Q => ty σ H fun y H1 => ∃ k, y = kV k ∧ Q ((valV kvs k).getD .non) H1
section
variable {X : Cx} {e : Expr} {x : Str} {p apos cpos : Pos} {ty : TE} {a : Addr} {kvs : List (Key × V)} {pr : Params}
theorem qe_kget1 (hw : pr = X.w.params) (D : DictK X.K pr a kvs) (hm : X.mg x = some (.ref a)) (hg : Gl X x) (he : PE X e ty) (m : M1 X (.Name x p) "get" apos e cpos) (hdb : (x == ("__debug__" : Str)) = false := by kernel_rfl) :
    PE X (.Call (.Attribute (.Name x p) "get" apos) [e] [] cpos) (tKGet1 kvs ty) := by
  intro pins s σ H Q I h
  refine wpAny_Call_method m.base m.few m.line PySem.F.plainAttrs_dict PySem.F.slot_dict_get PySem.F.type_dict_get (ld_glob I hg hm ?_ hdb)
  obtain ⟨hd, vs, rel, dd⟩ := dictK_of hw I D
  refine ⟨dd.typeIs, fun b q => ?_, ?_⟩
  · cases q
    obtain ⟨ob, _, _, h1, h2, _⟩ := dd
    exact ⟨ob, h1, h2.2.1⟩
  rw [m.trees]
  refine Calls.callWith_builtin rfl (Calls.evalArgs_plain (Calls.spliced_cons (thn (he pins s σ H _ I h) fun iv s2 ⟨y, H2, I2, ry, k, ek, q2⟩ => Calls.spliced_nil ?_)))
  subst ek
  obtain ⟨hd, vs, rel, dd⟩ := dictK_of hw I2 D
  refine call_meetsIn PySem.F.slot_dict_get dd.typeIs PySem.F.entry_dict_get (PySem.F.args_dict_get_2 _ _) (meets_dict_get (mixKind X.prog X.w) a (kV_is ry) hd) ⟨_, dd.mapOf, ⟨_, H2, I2.tok _, (rel.val k).getD (show RelV .non .none from rfl), q2⟩⟩
theorem xqe_kget1 (hw : pr = X.w.params) (D : DictK X.K pr a kvs) (hm : X.mg x = some (.ref a)) (hg : Gl X x) (he : XE X e ty) (m : M1 X (.Name x p) "get" apos e cpos) (hdb : (x == ("__debug__" : Str)) = false := by kernel_rfl) :
    XE X (.Call (.Attribute (.Name x p) "get" apos) [e] [] cpos) (tKGet1 kvs ty) := ⟨qe_kget1 hw D hm hg he.h m hdb⟩
theorem r_kget1 {kvs : List (Key × V)} {ty : TE} {σ : St} {H : Hp} {Q : VK} : tKGet1 kvs ty σ H Q = ty σ H fun y H1 => ∃ k, y = kV k ∧ Q ((valV kvs k).getD .non) H1 := rfl
end
end L2
namespace L2
open PySem PySem.Spec PyProof.Rows
section
variable {prog : Program} {w : World} {A : Around} {E : Value → Shared → Prop} {s : Shared}
open AutoSeq1 (wpAny_loadPart') in
end
noncomputable def IteT (K : PySem.W.Frag) (a : Addr) : It :=
  ⟨fun i H => ∃ xs x, SqT K H a xs ∧ xs[i]? = some x,
   fun i H x H' => ∃ p y, x = .ref p ∧ H p = none ∧ H' = upd H p (.tup [.int i, y]) ∧ ∀ xs, SqT K H a xs → xs[i]? = some y,
   fun i H => ∃ xs, SqT K H a xs ∧ xs.length ≤ i⟩
noncomputable def iEnumT (K : PySem.W.Frag) (ta : TA) : TI := fun σ H R => ta σ H fun vs H1 => ∃ a, vs = [.ref a] ∧ (∃ xs, SqT K H1 a xs) ∧ R (IteT K a) H1
theorem r_iEnumT {K : PySem.W.Frag} {ta : TA} {σ : St} {H : Hp} {R : It → Hp → Prop} : iEnumT K ta σ H R = ta σ H fun vs H1 => ∃ a, vs = [.ref a] ∧ (∃ xs, SqT K H1 a xs) ∧ R (IteT K a) H1 := rfl
section
variable {K : PySem.W.Frag} {a : Addr} {xs : List V}
end
section
variable {K : PySem.W.Frag} {a b : Addr} {H : Hp} {Q : VK}
theorem r_sorted : rSorted K [.ref a] H Q = ∃ ns : List Int, SqL K H a (ns.map V.int) ∧ ns.length < 64 ∧ ∀ (l : Addr) (ns' : List Int), H l = none → ns'.Perm ns → ns'.Pairwise (· ≤ ·) → Q (.ref l) (upd H l (.lst (ns'.map V.int))) := propext ⟨by rintro ⟨_, ns, e, q⟩; cases e; exact ⟨ns, q⟩, by rintro ⟨ns, q⟩; exact ⟨a, ns, rfl, q⟩⟩
theorem r_all : rAll K [.ref a] H Q = ∃ bs : List Bool, SqL K H a (bs.map V.bl) ∧ Q (.bl (bs.all id)) H := propext ⟨by rintro ⟨_, ns, e, q⟩; cases e; exact ⟨ns, q⟩, by rintro ⟨ns, q⟩; exact ⟨a, ns, rfl, q⟩⟩
theorem r_any : rAny K [.ref a] H Q = ∃ bs : List Bool, SqL K H a (bs.map V.bl) ∧ Q (.bl (bs.any id)) H := propext ⟨by rintro ⟨_, ns, e, q⟩; cases e; exact ⟨ns, q⟩, by rintro ⟨ns, q⟩; exact ⟨a, ns, rfl, q⟩⟩
theorem r_insert {i : Int} {y : V} : rInsert (.ref a) [.int i, y] H Q = ∃ xs, H a = some (.lst xs) ∧ -(2 ^ 63) ≤ i ∧ i < 2 ^ 63 ∧ xs.length < sizeLine ∧ Q .non (upd H a (.lst (xs.take (insK i xs.length) ++ y :: xs.drop (insK i xs.length)))) := propext ⟨by rintro ⟨_, xs, _, _, e1, e2, q⟩; cases e1; cases e2; exact ⟨xs, q⟩, by rintro ⟨xs, q⟩; exact ⟨a, xs, i, y, rfl, rfl, q⟩⟩
theorem r_count {y : V} : rCount K (.ref a) [y] H Q = ∃ xs, SqL K H a xs ∧ flatV y = true ∧ xs.all flatV = true ∧ Q (.int (cntV y xs)) H := propext ⟨by rintro ⟨_, xs, _, e1, e2, q⟩; cases e1; cases e2; exact ⟨xs, q⟩, by rintro ⟨xs, q⟩; exact ⟨a, xs, y, rfl, rfl, q⟩⟩
theorem r_popAt {i : Int} : rPopAt (.ref a) [.int i] H Q = ∃ xs k y, H a = some (.lst xs) ∧ -(2 ^ 63) ≤ i ∧ i < 2 ^ 63 ∧ seqIndex? i xs.length = some k ∧ xs[k]? = some y ∧ Q y (upd H a (.lst (xs.eraseIdx k))) := propext ⟨by rintro ⟨_, xs, _, k, y, e1, e2, q⟩; cases e1; cases e2; exact ⟨xs, k, y, q⟩, by rintro ⟨xs, k, y, q⟩; exact ⟨a, xs, i, k, y, rfl, rfl, q⟩⟩
theorem r_reverse : rReverse (.ref a) [] H Q = ∃ xs, H a = some (.lst xs) ∧ Q .non (upd H a (.lst xs.reverse)) := propext ⟨by rintro ⟨_, xs, e1, _, q⟩; cases e1; exact ⟨xs, q⟩, by rintro ⟨xs, q⟩; exact ⟨a, xs, rfl, rfl, q⟩⟩
theorem r_extend : rExtend (.ref a) [.ref b] H Q = ∃ xs zs, H a = some (.lst xs) ∧ H b = some (.lst zs) ∧ xs.length + zs.length ≤ sizeLine ∧ Q .non (upd H a (.lst (xs ++ zs))) := propext ⟨by rintro ⟨_, _, xs, zs, e1, e2, q⟩; cases e1; cases e2; exact ⟨xs, zs, q⟩, by rintro ⟨xs, zs, q⟩; exact ⟨a, b, xs, zs, rfl, rfl, q⟩⟩
end
end L2
namespace L2
open PySem PySem.Spec PyProof.Rows
noncomputable def Cx.blkZ (X : Cx) (z0 : Str) (N' : List Str) (scope : Scope) (b : Bk) : Cx :=
  { prog := X.prog, w := X.w, K := X.K, mg := X.mg, base := X.base, A := X.A, N := N', s₀ := b.s₂, H₀ := b.H₂, env := compEnvC scope ((z0, b.C + 1) :: clOf X.env.cells scope.names []) b.C X.env, outer := X.stack, stack := X.stack, ex := b.fp, fn := fun x => x == z0, calm := X.calm, pn := [], xe := fun _ _ => False }
theorem blkZ_K {X : Cx} {z0 : Str} {N' : List Str} {scope : Scope} {b : Bk} : (X.blkZ z0 N' scope b).K = X.K := rfl
structure CompScZ (X : Cx) (z0 : Str) (scope : Scope) (cns : List Str) (ci : List Nat) : Prop where
  kind : scope.kind = .function
  names : ∀ y ∈ scope.names, y.2 = .local → scope.names.lookup y.1 = some .local
  free : ∀ y ∈ scope.names, y.2 = .free → X.env.kindOf y.1 = some .cell ∨ X.env.kindOf y.1 = some .free
  cap : ∀ (j : Nat) x, cns[j]? = some x → ∃ i, ci[j]? = some i ∧ X.N[i]? = some x ∧ (x, NameKind.free) ∈ scope.names
  len : cns.length = ci.length
  noloc : ∀ y, (y, NameKind.free) ∈ scope.names → ¬ (relabel scope X.env).names.lookup y = some .local
  nofree : (z0, NameKind.free) ∉ scope.names
  seen : ∀ y, (relabel scope X.env).names.lookup y = some .cell ∨ (relabel scope X.env).names.lookup y = some .free → y = z0 ∨ (y, NameKind.free) ∈ scope.names
  cells : ∀ n acc, cellsFrom n scope.names acc = (z0, n) :: acc
  push : ∀ h, pushCells h scope.names = h.push { cls := .type "cell", data := .cell none }
section
variable {M : Model} {A : Around} {E : Value → Shared → Prop} {s : Shared}
theorem newFunctionEnvZ {scope : Scope} {globals : Addr} {closure : List (Str × Addr)} {qual : Str} {outer : Env} {z0 : Str} {Q : Env → Shared → Prop}
    (hc : ∀ n acc, cellsFrom n scope.names acc = (z0, n) :: acc) (hp : ∀ h, pushCells h scope.names = h.push { cls := .type "cell", data := .cell none })
    (hQ : Q { scope := scope, locals := s.heap.objs.size, globals := globals, cells := (z0, s.heap.objs.size + 1) :: closure, qual := qual, func := none, code := outer.code, frame := outer.frame, builtins := outer.builtins }
      { s with heap := (s.heap.push { cls := .type "dict", data := .dict #[] }).push { cls := .type "cell", data := .cell none } }) :
    wpAny M A (newFunctionEnv scope globals closure [] qual none .none (some outer)) Q E s := by
  simp only [newFunctionEnv, Option.isSome_some, if_true]
  refine wpAny_bind (wpAny_alloc ?_)
  refine wpAny_bind (wpAny_layCells _ (fun name kind cells => by cases hkc : kind == NameKind.cell <;> simp [hkc]) _ _ _ _ ?_)
  rw [hc, hp, show ({ s with heap := s.heap.push { cls := .type "dict", data := .dict #[] } } : Shared).heap.objs.size = s.heap.objs.size + 1 from Heap.size_push ..]
  refine wpAny_bind ?_
  rw [List.forIn_nil]
  exact wpAny_pure (wpAny_pure hQ)
end
theorem comp_coreZ {X : Cx} {elt iter tgt : Expr} {ifs : List Expr} {pos : Pos} {scope : Scope} {z0 : Str} {g : Bk → TG} {tt : Bk → TT} {te : Bk → TE} {tns cns : List Str} {ci : List Nat} {RR : Value → Addr → Result → Shared → Prop} {E : Value → Shared → Prop}
    {pins : List (Addr × Obj)} {σ : St} {H2 : Hp} {s2 : Shared} {it : Addr} {fp : List Addr} {tn : Nat → Heap → Prop} {J : It} {Q : Addr → Hp → Prop}
    (hc : X.calm = true) (S : CompScZ X z0 scope cns ci)
    (hg : ∀ bk : Bk, PG (X.blkZ z0 (".0" :: (tns ++ cns)) scope bk) tgt (g bk))
    (ht : ∀ bk : Bk, PIfs (X.blkZ z0 (".0" :: (tns ++ cns)) scope bk) ifs (tt bk))
    (he : ∀ bk : Bk, PE (X.blkZ z0 (".0" :: (tns ++ cns)) scope bk) elt (te bk))
    (I2 : Inv X pins σ H2 s2) (T : Turn X.prog X.w X.K tgt J fp it tn) (st2 : tn 0 s2.heap) (f2 : ∀ b ∈ fp, FpOk X pins H2 b)
    (hcw : ∀ acc, H2 acc = none → ∀ bk : Bk, CompGW J (g bk) (tt bk) (te bk) tns.length ci σ acc (Q acc) (upd H2 acc (.lst [])))
    (fin : ∀ D C s5 H4 m, Inv X pins σ H4 s5 → s5.heap.Ns C m → FpOk X pins H4 C → Q D H4 → RR (.ref D) C (.ok .next) s5) :
    wpAny (model X.prog X.w) X.A (newList []) (fun acc s₃ => wpAny (model X.prog X.w) X.A (newFunctionEnv scope X.env.globals (clOf X.env.cells scope.names []) [] X.env.qual none .none (some X.env)) (fun cenv s₄ =>
      codeAny (model X.prog X.w) X.A (.compStart (.ListComp elt [⟨tgt, iter, ifs, 0⟩] scope pos) 0 (.ref it) acc { cenv with scope := relabel scope X.env }) (RR acc cenv.locals) s₄) E s₃) E s2 := by
  have hfc : ∀ y ∈ scope.names, y.2 = .free → ∃ c, X.env.cells.lookup y.1 = some c := fun y hy hk => I2.ok.has _ (S.free y hy hk)
  have hsub : ∀ y c, (clOf X.env.cells scope.names []).lookup y = some c → X.env.cells.lookup y = some c := clOf_sub hfc (fun y c e => by simp at e)
  refine wpAny_newObj_type (newFunctionEnvZ S.cells S.push ?_)
  dsimp only
  generalize hH2 : s2.heap.push { cls := .type "list", dict := none, data := .seq ([] : List Value).toArray } = G2
  have hCz : G2.objs.size = s2.heap.objs.size + 1 := by rw [← hH2, Heap.size_push]
  have hns₁ : ((G2.push { cls := .type "dict", data := .dict #[] }).push { cls := .type "cell", data := .cell none }).Ns G2.objs.size (fun _ => none) := (Heap.Ns.new G2 (.type "dict")).keeps fun b o e => Heap.get?_push_of_some _ e
  have hcl₁ : ((G2.push { cls := .type "dict", data := .dict #[] }).push { cls := .type "cell", data := .cell none }).IsCell (G2.objs.size + 1) none := by
    refine ⟨{ cls := .type "cell", data := .cell none }, ?_, rfl⟩
    have := Heap.get?_push_size (G2.push { cls := .type "dict", data := .dict #[] }) (o := { cls := .type "cell", data := .cell none }) rfl
    rwa [Heap.size_push] at this
  have keep₁ : ∀ b o, G2.get? b = some o → ((G2.push { cls := .type "dict", data := .dict #[] }).push { cls := .type "cell", data := .cell none }).get? b = some o := fun b o e => Heap.get?_push_of_some _ (Heap.get?_push_of_some _ e)
  have hsz₁ : ((G2.push { cls := .type "dict", data := .dict #[] }).push { cls := .type "cell", data := .cell none }).objs.size = G2.objs.size + 2 := by rw [Heap.size_push, Heap.size_push]
  generalize hh₁ : (G2.push { cls := .type "dict", data := .dict #[] }).push { cls := .type "cell", data := .cell none } = h₁ at hns₁ hcl₁ keep₁ hsz₁ ⊢
  have hDC : s2.heap.objs.size ≠ G2.objs.size := by rw [hCz]; exact Nat.ne_of_lt (Nat.lt_succ_self _)
  have below : ∀ b, b < s2.heap.objs.size → b ≠ G2.objs.size := fun b hb => by omega
  have old : ∀ b o, s2.heap.get? b = some o → h₁.get? b = some o := fun b o e => keep₁ b o (hH2 ▸ Heap.get?_push_of_some _ e)
  have hacc : h₁.get? s2.heap.objs.size = some { cls := .type "list", dict := none, data := .seq ([] : List Value).toArray } := keep₁ _ _ (hH2 ▸ Heap.get?_push_size _ rfl)
  have hnD : H2 s2.heap.objs.size = none := I2.hok.fresh (Nat.le_refl _)
  have hnC : H2 G2.objs.size = none := I2.hok.fresh (by omega)
  have hnE : H2 (G2.objs.size + 1) = none := I2.hok.fresh (by omega)
  obtain ⟨W, ⟨m0, w0⟩, turn⟩ := hcw s2.heap.objs.size hnD ⟨G2.objs.size, fp, s2, H2⟩
  have nlt : ∀ {b : Addr} {o : Obj}, s2.heap.get? b = some o → b ≠ s2.heap.objs.size := fun q => Nat.ne_of_lt (Heap.lt_size q)
  have fpl : ∀ b ∈ fp, b < s2.heap.objs.size := fun b hb => by
    obtain ⟨o, e, _⟩ := T.obj _ _ st2 b hb
    exact Heap.lt_size e
  have clt : ∀ y c, (clOf X.env.cells scope.names []).lookup y = some c → c < s2.heap.objs.size := fun y c e => by
    obtain ⟨v, q⟩ := I2.cell y c (hsub y c e)
    exact q.lt
  have split : ∀ y c, ((z0, G2.objs.size + 1) :: clOf X.env.cells scope.names []).lookup y = some c → (y = z0 ∧ c = G2.objs.size + 1) ∨ (y ≠ z0 ∧ (clOf X.env.cells scope.names []).lookup y = some c) := fun y c e => by
    rw [List.lookup_cons] at e
    cases hb : y == z0 with
    | true => rw [hb] at e; cases e; exact .inl ⟨by simpa using hb, rfl⟩
    | false => rw [hb] at e; exact .inr ⟨by simpa using hb, e⟩
  have hasC : ∀ y, ((relabel scope X.env).names.lookup y = some .cell ∨ (relabel scope X.env).names.lookup y = some .free) → ∃ c, ((z0, G2.objs.size + 1) :: clOf X.env.cells scope.names []).lookup y = some c := fun y hk => by
    rw [List.lookup_cons]
    cases hb : y == z0 with
    | true => exact ⟨_, rfl⟩
    | false =>
      rcases S.seen y hk with z | z
      · subst z; simp at hb
      · exact clOf_has z
  have ok : (X.blkZ z0 (".0" :: (tns ++ cns)) scope ⟨G2.objs.size, fp, s2, H2⟩).Ok := {
    mod := I2.ok.mod
    kind := S.kind
    glob := I2.ok.glob
    blt := I2.ok.blt
    above := by show s2.heap.objs.size ≤ G2.objs.size; omega
    inj := fun y z c e1 e2 => by
      rcases split y c e1 with ⟨a1, b1⟩ | ⟨a1, b1⟩ <;> rcases split z c e2 with ⟨a2, b2⟩ | ⟨a2, b2⟩
      · rw [a1, a2]
      · subst b1; have h9 : (G2.objs.size + 1 : Nat) < s2.heap.objs.size := clt _ _ b2; omega
      · subst b2; have h9 : (G2.objs.size + 1 : Nat) < s2.heap.objs.size := clt _ _ b1; omega
      · exact I2.ok.inj y z c (hsub y c b1) (hsub z c b2)
    has := fun y hk => hasC y hk
    cab := fun y c e e2 => by
      show s2.heap.objs.size ≤ c
      have e' : (y == z0) = true := e
      rcases split y c e2 with ⟨a1, b1⟩ | ⟨a1, b1⟩
      · subst b1; omega
      · exact absurd (by simpa using e') a1
    hd := I2.ok.hd
    frames := I2.ok.frames
    stk := .inl rfl
    exf := fun b hb => ⟨below b (fpl b hb), fun y c e => by
      rcases split y c e with ⟨a1, b1⟩ | ⟨a1, b1⟩
      · subst b1; intro h8; subst h8; have h9 : (G2.objs.size + 1 : Nat) < s2.heap.objs.size := fpl _ hb; omega
      · exact (f2 b hb).2.2.2.2.1 y c (hsub y c b1)⟩
    bs := I2.bs
    bsz := Nat.le_trans I2.ok.bsz I2.sz
    noex := fun b o e hb => by
      rcases (f2 b hb).2.2.2.1 with z | z
      · exact I2.ok.noex b o e z
      · exact absurd (Nat.lt_of_lt_of_le (Heap.lt_size e) (Nat.le_trans I2.ok.bsz z)) (Nat.lt_irrefl _)
    exfs := fun b hb hf => by
      rcases List.mem_cons.mp (I2.stkSub b hf) with z | z
      · exact (f2 b hb).2.1 z
      · exact (f2 b hb).2.2.1 z
    funs := I2.stack
    frf := I2.stkFree }
  have hokD : HOk X.prog X.w (upd H2 s2.heap.objs.size (.lst [])) h₁ := I2.hok.laid old (Nat.le_refl _) ⟨Nat.zero_le _, [], 0, .nil, hacc⟩
  have clD : ∀ y c, ((z0, G2.objs.size + 1) :: clOf X.env.cells scope.names []).lookup y = some c → c ≠ s2.heap.objs.size := fun y c e => by
    rcases split y c e with ⟨a1, b1⟩ | ⟨a1, b1⟩
    · subst b1; omega
    · exact Nat.ne_of_lt (clt y c b1)
  have I3 : Inv (X.blkZ z0 (".0" :: (tns ++ cns)) scope ⟨G2.objs.size, fp, s2, H2⟩) [] (blkSt (List.replicate tns.length none) ci σ) (upd H2 s2.heap.objs.size (.lst [])) { s2 with heap := h₁ } := {
    ok := ok
    os := rfl
    bare := I2.bare
    base := ⟨fun b o e n _ _ => old b o e, fun b o e n _ _ => ⟨o.slots, old b o e⟩, fun b o e n _ => by rw [upd_ne (nlt e)]; exact n, fun b o e _ => ⟨o, old b o e⟩,
      fun b ys e => by rw [upd_ne (ne_of_none e hnD)]; exact e, fun b o u e => by rw [upd_ne (ne_of_none e hnD)]; exact e, fun b ps e => ⟨#[], by rw [upd_ne (ne_of_none e hnD), Array.append_empty]; exact e⟩⟩
    loc := ⟨_, hns₁, fun i y v e1 e2 e3 => by
      have e1' : ((".0" : Str) :: (tns ++ cns))[i]? = some y := e1
      unfold blkSt at e2
      cases i with
      | zero => simp at e2
      | succ i =>
        rw [List.getElem?_cons_succ] at e1' e2
        by_cases hi : i < tns.length
        · rw [List.getElem?_append_left (by simpa using hi), List.getElem?_replicate, if_pos hi] at e2
          cases e2
        · rw [List.getElem?_append_right (by omega)] at e1'
          rw [List.getElem?_append_right (by simp; omega), List.length_replicate] at e2
          obtain ⟨q, hq, hN, hm⟩ := S.cap _ _ e1'
          rw [List.getElem?_map, hq] at e2
          have e2' : (σ[q]?).join = some v := by simpa using e2
          have e4 : σ[q]? = some (some v) := by
            cases z : σ[q]? with
            | none => rw [z] at e2'; cases e2'
            | some o => rw [z] at e2'; rw [show o = some v from e2']
          obtain ⟨m, hns, hl⟩ := I2.loc
          have hvis : Vis X.env.scope y := by
            rcases S.free (y, .free) hm rfl with z | z
            · exact .inr (.inl z)
            · exact .inr (.inr z)
          obtain ⟨u, ru, lk⟩ := hl q y v hN e4 hvis
          refine ⟨u, ru, .inr ?_⟩
          have hkk : X.env.kindOf y = some .cell ∨ X.env.kindOf y = some .free := S.free (y, .free) hm rfl
          have hyz : y ≠ z0 := fun e => S.nofree (e ▸ hm)
          rcases lk with ⟨k1, _⟩ | ⟨_, c, hc1, hc2⟩
          · rcases hkk with z | z <;> (rw [k1] at z; cases z)
          · obtain ⟨c', hc'⟩ := clOf_has (cells := X.env.cells) (acc := []) hm
            have ecc : c' = c := by
              have := hsub y c' hc'
              rw [hc1] at this; cases this; rfl
            subst ecc
            have e3' : Vis (relabel scope X.env) y := e3
            refine ⟨?_, c', ?_, ?_⟩
            · rcases e3' with z | z | z
              · exfalso
                exact S.noloc y hm z
              · exact .inl z
              · exact .inr z
            · show ((z0, G2.objs.size + 1) :: clOf X.env.cells scope.names []).lookup y = some c'
              rw [List.lookup_cons, beq_eq_false_iff_ne.mpr hyz]
              exact hc'
            · exact hc2.keeps old⟩
    cell := fun y c e => by
      rcases split y c e with ⟨a1, b1⟩ | ⟨a1, b1⟩
      · subst b1; exact ⟨_, hcl₁⟩
      · obtain ⟨v, q⟩ := I2.cell y c (hsub y c b1)
        exact ⟨v, q.keeps old⟩
    free := by show upd H2 s2.heap.objs.size (.lst []) G2.objs.size = none; rw [upd_ne (Ne.symm hDC)]; exact hnC
    freeC := fun y c e => by
      rw [upd_ne (clD y c e)]
      rcases split y c e with ⟨a1, b1⟩ | ⟨a1, b1⟩
      · subst b1; exact hnE
      · exact I2.freeC y c (hsub y c b1)
    pin := fun p hp => by
      have hp' : p ∈ ([] : List (Addr × Obj)) ++ [] := hp
      simp at hp'
    hok := hokD
    len := by
      show (blkSt _ ci σ).length = ((".0" : Str) :: (tns ++ cns)).length
      unfold blkSt
      simp [S.len] }
  have st3 : tn 0 h₁ := T.keep _ _ _ st2 fun b _ o e => old b o e
  have fr3 : ∀ b ∈ fp, upd H2 s2.heap.objs.size (.lst []) b = none := fun b hb => by rw [upd_ne (Nat.ne_of_lt (fpl b hb))]; exact (f2 b hb).1
  have stat : ∀ {H' : Hp}, (∀ b ∈ fp, H' b = none) → ∀ b ∈ fp, FpOk (X.blkZ z0 (".0" :: (tns ++ cns)) scope ⟨G2.objs.size, fp, s2, H2⟩) [] H' b := fun hn b hb =>
    ⟨hn b hb, below b (fpl b hb), ok.exfs b hb, .inl hb, fun y c e => (ok.exf b hb).2 y c e, fun p hp => by
      have hp' : p ∈ ([] : List (Addr × Obj)) ++ [] := hp
      simp at hp'⟩
  have loop : ∀ s₃ : Shared, s₃ = { s2 with heap := h₁ } →
      codeAny (model X.prog X.w) X.A (.compLoop (.ListComp elt [⟨tgt, iter, ifs, 0⟩] scope pos) 0 (.ref it) (.ref s2.heap.objs.size) (compEnvC scope ((z0, G2.objs.size + 1) :: clOf X.env.cells scope.names []) G2.objs.size X.env))
        (RR (.ref s2.heap.objs.size) G2.objs.size) s₃ := by
    rintro s₃ rfl
    refine compLoop_goT (fun n s' => ∃ (i : Nat) (os : List (Option V)) (ys : List V) (H' : Hp), os.length = tns.length ∧ Inv (X.blkZ z0 (".0" :: (tns ++ cns)) scope ⟨G2.objs.size, fp, s2, H2⟩) [] (blkSt os ci σ) H' s' ∧ tn i s'.heap ∧ (∀ b ∈ fp, H' b = none) ∧ W i n ys H') ?_ m0 ⟨0, _, [], _, by simp, I3, st3, fr3, w0⟩
    rintro n s4 ⟨i, os, ys, H4, hos, I4, st4, fr4, w4⟩
    rcases turn i n ys H4 w4 with ⟨stop, q⟩ | ⟨go, N, hN, step⟩
    · refine thn (T.done (X.blkZ z0 (".0" :: (tns ++ cns)) scope ⟨G2.objs.size, fp, s2, H2⟩) rfl rfl rfl hc i [] s4 _ H4 (fun _ _ => False) I4 (stat fr4) st4 stop) fun r s5 ⟨hr, I5⟩ => ?_
      subst hr
      obtain ⟨m, hm, _⟩ := I5.loc
      have fC : H4 G2.objs.size = none := I5.free
      have ub : Un (frs X.stack) fp H2 H4 s2.heap s5.heap := I5.base
      have IX : Inv X pins σ H4 s5 := I2.call' (s' := s5) (show s5.os = s2.os from I5.os) ub I5.hok I5.bare fun b hb => ⟨(f2 b hb).2.2.2.1, (f2 b hb).2.1, (f2 b hb).2.2.2.2.1, (f2 b hb).2.2.2.2.2⟩
      exact fin _ _ s5 H4 m IX hm (I2.fpOk (by omega) fC) q
    · refine thn (T.item (X.blkZ z0 (".0" :: (tns ++ cns)) scope ⟨G2.objs.size, fp, s2, H2⟩) rfl rfl rfl hc i [] s4 _ H4 (fun _ _ => False) I4 (stat fr4) st4 go) fun r s5 ⟨u, hr, h5⟩ => ?_
      subst hr
      refine thn h5 fun _ s6 hhx => ?_
      obtain ⟨y, H6, I6, r6, y6, st6, fr6⟩ := hhx
      have I6' := I6.pinned (stat fr6) (T.obj _ _ st6)
      refine thn (hg _ _ s6 _ H6 y u _ I6' r6 (step y H6 os hos y6)) fun _ s7 ⟨σ7, H7, I7, ⟨os', hos', e7⟩, q7⟩ => ?_
      subst e7
      have back : ∀ {H9 : Hp} {s9 : Shared}, Inv (X.blkZ z0 (".0" :: (tns ++ cns)) scope ⟨G2.objs.size, fp, s2, H2⟩) ([] ++ pinsAt fp s6.heap) (blkSt os' ci σ) H9 s9 → tn (i + 1) s9.heap ∧ ∀ b ∈ fp, H9 b = none := fun {H9 s9} I9 =>
        ⟨T.keep _ _ _ st6 fun b hb ob e => (I9.pin (b, ob) (List.mem_append_right _ (List.mem_append_right _ (mem_pinsAt hb e)))).1, fun b hb => by
          obtain ⟨ob, e, d⟩ := T.obj _ _ st6 b hb
          exact (I9.pin (b, ob) (List.mem_append_right _ (List.mem_append_right _ (mem_pinsAt hb e)))).2.1⟩
      refine thn (ht _ _ s7 _ H7 _ I7 q7) fun b s8 hhx => ?_
      obtain ⟨H8, I8, q8⟩ := hhx
      cases b with
      | false =>
        rw [if_neg Bool.false_ne_true] at q8 ⊢
        obtain ⟨m', hm', w8⟩ := hN _ _ q8
        exact ⟨m', hm', i + 1, os', ys, _, hos', I8.unpinned, (back I8).1, (back I8).2, w8⟩
      | true =>
        rw [if_pos rfl] at q8 ⊢
        refine thn (he _ _ s8 _ H8 _ I8 q8) fun zv s8 hhx => ?_
        obtain ⟨z, H8, I8, rz, ha8, hl8, n8⟩ := hhx
        obtain ⟨m', hm', w8⟩ := hN _ _ n8
        refine thn (mt_append (X := X.blkZ z0 (".0" :: (tns ++ cns)) scope ⟨G2.objs.size, fp, s2, H2⟩) _ s8 _ H8 (.ref s2.heap.objs.size) [z] (.ref s2.heap.objs.size) [zv] (fun _ H9 => H9 = upd H8 s2.heap.objs.size (.lst (ys ++ [z]))) I8 rfl (.cons rz .nil) ⟨_, ys, z, rfl, rfl, ha8, hl8, rfl⟩) fun _ s9 hhx => ?_
        obtain ⟨_, H9, I9, _, e9⟩ := hhx
        subst e9
        exact ⟨m', hm', i + 1, os', ys ++ [z], _, hos', I9.unpinned, (back I9).1, (back I9).2, w8⟩
  exact codeAny_compStart_list (loop _ rfl) (T.self _ 0 _ _ _ st3 (loop _ rfl))
theorem pe_compZ {X : Cx} {elt iter tgt : Expr} {ifs : List Expr} {pos : Pos} {scope : Scope} {z0 : Str} {wi : TI} {g : Bk → TG} {tt : Bk → TT} {te : Bk → TE} {tns cns : List Str} {ci : List Nat} (hc : X.calm = true) (S : CompScZ X z0 scope cns ci) (hi : PI X tgt iter wi)
    (hg : ∀ bk : Bk, PG (X.blkZ z0 (".0" :: (tns ++ cns)) scope bk) tgt (g bk))
    (ht : ∀ bk : Bk, PIfs (X.blkZ z0 (".0" :: (tns ++ cns)) scope bk) ifs (tt bk))
    (he : ∀ bk : Bk, PE (X.blkZ z0 (".0" :: (tns ++ cns)) scope bk) elt (te bk))
    (hs : ∀ v, foldedSetIterable iter X.env v = pure v := by intro _; rfl) :
    PE X (.ListComp elt [⟨tgt, iter, ifs, 0⟩] scope pos) (tCompG wi g tt te tns.length ci) := by
  intro pins s σ H Q I h
  have hfc : ∀ y ∈ scope.names, y.2 = .free → ∃ c, X.env.cells.lookup y.1 = some c := fun y hy hk => I.ok.has _ (S.free y hy hk)
  rw [eval_ListComp]
  refine wpAny_comprehension_free (use := none) rfl hs (closureFor_cl hfc) S.kind S.names (thn (hi pins s σ H _ I h) fun v s1 h1 => thn h1 fun itv s2 h2 => ?_)
  obtain ⟨it, fp, tn, J, H2, rfl, I2, T, st2, f2, hcw⟩ := h2
  refine comp_coreZ (RR := fun acc C => compPost (model X.prog X.w) X.A X.xe none (EP X pins σ Q) acc C) hc S hg ht he I2 T st2 f2 hcw fun D C s5 H4 m I5 hm fo q => ?_
  refine ⟨m, hm, fun h' hs' => ⟨.ref D, H4, ?_, rfl, q⟩⟩
  exact I5.turned (t' := s5.toks) (it := C) (fun b o hb e => (hs'.2 b hb).trans e) fo.1 fo.2.1 fo.2.2.2.1 fo.2.2.2.2.1 fo.2.2.2.2.2
noncomputable def chkZ (osc : Scope) (N : List Str) (z0 : Str) (scope : Scope) (cns : List Str) (ci : List Nat) : Bool :=
  scope.kind == .function && scope.names.all (fun y => y.2 != .local || scope.names.lookup y.1 == some .local) &&
  scope.names.all (fun y => y.2 != .free || (osc.names.lookup y.1 == some .cell || osc.names.lookup y.1 == some .free)) && capOk N scope.names cns ci &&
  scope.names.all (fun y => y.2 != .free || (relS scope osc).lookup y.1 != some .local) && scope.names.all (fun y => y.2 != .free || y.1 != z0) && scope.names.all (fun y => y.2 != .cell || y.1 == z0)
theorem relS_seen {osc : Scope} : ∀ {names : List (Str × NameKind)} {y : Str} {k : NameKind}, (names.map fun (n, k) => if (k == NameKind.free && osc.kind == .function && osc.names.lookup n == some .cell) then (n, NameKind.cell) else (n, k)).lookup y = some k → k = .cell ∨ k = .free →
    (y, NameKind.cell) ∈ names ∨ (y, NameKind.free) ∈ names
  | [], _, _, h, _ => by simp at h
  | (n, k0) :: r, y, k, h, hk => by
    rw [List.map_cons, List.lookup_cons] at h
    by_cases hf : (k0 == NameKind.free && osc.kind == .function && osc.names.lookup n == some .cell) = true
    · simp only [hf, if_true] at h
      have k0f : k0 = .free := by
        have := hf
        simp only [Bool.and_eq_true] at this
        simpa using this.1.1
      split at h
      · next hq =>
        have : y = n := by simpa using hq
        subst this; subst k0f
        exact .inr List.mem_cons_self
      · exact (relS_seen h hk).imp (List.mem_cons_of_mem _) (List.mem_cons_of_mem _)
    · simp only [hf] at h
      split at h
      · next hq =>
        have : y = n := by simpa using hq
        subst this
        have e : k0 = k := by simpa using h
        subst e
        rcases hk with z | z
        · subst z; exact .inl List.mem_cons_self
        · subst z; exact .inr List.mem_cons_self
      · exact (relS_seen h hk).imp (List.mem_cons_of_mem _) (List.mem_cons_of_mem _)
theorem CompScZ.of {X : Cx} {z0 : Str} {scope : Scope} {cns : List Str} {ci : List Nat} (h : chkZ X.env.scope X.N z0 scope cns ci = true)
    (hc : ∀ n acc, cellsFrom n scope.names acc = (z0, n) :: acc) (hp : ∀ h, pushCells h scope.names = h.push { cls := .type "cell", data := .cell none }) : CompScZ X z0 scope cns ci := by
  unfold chkZ at h
  rw [Bool.and_eq_true, Bool.and_eq_true, Bool.and_eq_true, Bool.and_eq_true, Bool.and_eq_true, Bool.and_eq_true] at h
  obtain ⟨⟨⟨⟨⟨⟨h1, h3⟩, h4⟩, h5⟩, h6⟩, h7⟩, h8⟩ := h
  obtain ⟨l, r⟩ := capOk_get h5
  refine ⟨by simpa using h1, fun y hy hk => ?_, fun y hy hk => ?_, r, l, fun y hy z => ?_, fun hm => ?_, fun y hy => ?_, hc, hp⟩
  · have := List.all_eq_true.mp h3 y hy
    rw [Bool.or_eq_true] at this
    rcases this with q | q
    · exact absurd hk (by simpa using q)
    · simpa using q
  · have := List.all_eq_true.mp h4 y hy
    rw [Bool.or_eq_true, Bool.or_eq_true] at this
    rcases this with q | q | q
    · exact absurd hk (by simpa using q)
    · exact .inl (show X.env.scope.names.lookup y.1 = _ by simpa using q)
    · exact .inr (show X.env.scope.names.lookup y.1 = _ by simpa using q)
  · have := List.all_eq_true.mp h6 _ hy
    rw [Bool.or_eq_true] at this
    rcases this with q | q
    · simp at q
    · have z' : (relS scope X.env.scope).lookup y = some .local := z
      have q' : ((relS scope X.env.scope).lookup y != some .local) = true := q
      rw [z'] at q'
      exact absurd q' (by decide)
  · have := List.all_eq_true.mp h7 _ hm
    simp at this
  · have key : (y, NameKind.cell) ∈ scope.names ∨ (y, NameKind.free) ∈ scope.names := by
      rcases hy with z | z
      · exact relS_seen (osc := X.env.scope) z (.inl rfl)
      · exact relS_seen (osc := X.env.scope) z (.inr rfl)
    rcases key with z | z
    · have := List.all_eq_true.mp h8 _ z
      left; simpa using this
    · exact .inr z
theorem xpe_compZ {X : Cx} {elt iter tgt : Expr} {ifs : List Expr} {pos : Pos} {scope : Scope} {z0 : Str} {wi : TI} {g : Bk → TG} {tt : Bk → TT} {te : Bk → TE} {tns cns : List Str} {ci : List Nat} (hc : X.calm = true) (S : CompScZ X z0 scope cns ci) (hi : XI X tgt iter wi)
    (hg : ∀ bk : Bk, XG (X.blkZ z0 (".0" :: (tns ++ cns)) scope bk) tgt (g bk))
    (ht : ∀ bk : Bk, XIfs (X.blkZ z0 (".0" :: (tns ++ cns)) scope bk) ifs (tt bk))
    (he : ∀ bk : Bk, XE (X.blkZ z0 (".0" :: (tns ++ cns)) scope bk) elt (te bk))
    (hs : ∀ v, foldedSetIterable iter X.env v = pure v := by intro _; rfl) :
    XE X (.ListComp elt [⟨tgt, iter, ifs, 0⟩] scope pos) (tCompG wi g tt te tns.length ci) := ⟨pe_compZ hc S hi.h (fun bk => (hg bk).h) (fun bk => (ht bk).h) (fun bk => (he bk).h) hs⟩
end L2
set_option maxHeartbeats 4000000
namespace FA
open PySem L2 PyProof.Rows
noncomputable def mixed (c k : Int) : Int :=
  if 10 ^ Int.toNat 40 ≤ c then (c - 10 ^ Int.toNat 40) / (1 * 2 ^ (100 * (k % 60)).toNat) % (1 * 2 ^ Int.toNat 100)
  else ((c * c + 3 * c + 7919 * k + 1) * 48271 % 2147483629 * ((c * c + 3 * c + 7919 * k + 1) * 48271 % 2147483629) + 7) % 2147483587
theorem CDivB.pow {i : Int} {n : Nat} (h : n < 9000) : CDivB i (1 * 2 ^ n) := by
  rw [Int.one_mul]
  refine ⟨Int.pow_pos (by decide), ?_⟩
  rw [Int.natAbs_pow]
  show (2 ^ n).log2 < 9000
  rw [Nat.log2_two_pow]
  exact h
theorem mulSelf {c : Int} (h : Builtin.Int.intBits c ≤ 2 ^ 20) : IntMulOk c c := mulOk_of_bits h h (by decide)
noncomputable def ltr (z : Int) : Nat := 97 + (z % 26).toNat
noncomputable def nmAt (m pl k : Int) (j : Nat) : Int := m / 36 + j * j + (if decide ((j : Int) = pl) = true then 1 else 0) * k
noncomputable def nm (m pl k : Int) : Nat → Str
  | 0 => ""
  | j + 1 => nm m pl k j ++ ⟨#[ltr (nmAt m pl k j)]⟩
noncomputable def pick (m : Int) (ns : List Str) : Str := ns.getD (m % (ns.length : Int)).toNat ""
theorem pick_at {m : Int} {ns : List Str} (h : ¬ ns = []) : atI (ns.map V.str) (m % (ns.length : Int)) = some (.str (pick m ns)) := by
  have hl : 0 < ns.length := List.length_pos_iff.mpr h
  have h0 : 0 ≤ m % (ns.length : Int) := Int.emod_nonneg _ (by omega)
  have h1 : m % (ns.length : Int) < ns.length := Int.emod_lt_of_pos _ (by omega)
  unfold pick
  obtain ⟨n, hn⟩ := Int.eq_ofNat_of_zero_le h0
  rw [hn]
  refine atI_nat ?_
  have hn' : n < ns.length := by omega
  rw [List.getElem?_map, Int.toNat_natCast, List.getD_eq_getElem?_getD, List.getElem?_eq_getElem hn']
  rfl
noncomputable def opdF (m : Int) (ns : List Str) (w : Int) : V := if 0 < m % 3 ∧ ¬ ns = [] then .str (pick (m / 3) ns) else .int (m / 3 % (1 * 2 ^ w.toNat))
noncomputable def opsL : List Str := ["plus", "less", "and", "or", "xor", "below", "same"]
noncomputable def deedF (m : Int) (ns : List Str) (w : Int) : List V :=
  if m % 9 = 0 ∨ ns = [] then [.str "tell", opdF (m / 16) ns w]
  else if m % 9 = 1 then [.str "copy", .str (pick (m / 7) ns), opdF (m / 16) ns w]
  else [.str (opsL.getD (m % 9 - 2).toNat ""), .str (pick (m / 7) ns), opdF (m / 16) ns w, opdF (m / 1009) ns w]
theorem ops_at7 : ∀ n : Nat, n < 7 → atI [V.str "plus", V.str "less", V.str "and", V.str "or", V.str "xor", V.str "below", V.str "same"] (n : Int) = some (.str (opsL.getD n "")) := by decide +kernel
theorem ops_at {j : Int} (h0 : 0 ≤ j) (h7 : j < 7) : atI [V.str "plus", V.str "less", V.str "and", V.str "or", V.str "xor", V.str "below", V.str "same"] j = some (.str (opsL.getD j.toNat "")) := by
  obtain ⟨n, rfl⟩ := Int.eq_ofNat_of_zero_le h0
  rw [Int.toNat_natCast]
  exact ops_at7 n (Int.ofNat_lt.mp h7)
end FA
namespace L2
open PySem PyProof.Rows
theorem hu_n {A : Around} {k n : Nat} (h : n ≤ 64) (hr : Room k A) : A.units + n < cLine := Nat.lt_of_le_of_lt (Nat.add_le_add_left h _) hr.units
theorem take_mapIdx {α β : Type} {f : Nat → α → β} {xs : List α} {i : Nat} {x : α} (h : xs[i]? = some x) : (xs.take (i + 1)).mapIdx f = (xs.take i).mapIdx f ++ [f i x] := by
  obtain ⟨hl, e⟩ := List.getElem?_eq_some_iff.mp h
  rw [List.take_succ_eq_append_getElem hl, e, List.mapIdx_append, List.length_take, Nat.min_eq_left (Nat.le_of_lt hl)]
  simp
theorem cutV_to {xs : List V} {k : Int} (h : 0 ≤ k) : cutV xs none (some k) = xs.take k.toNat := by
  obtain ⟨n, rfl⟩ := Int.eq_ofNat_of_zero_le h
  unfold cutV
  rw [HT.sIx_none, HT.sIx_nat, List.drop_zero, Int.toNat_natCast, Nat.sub_zero]
  by_cases hn : n ≤ xs.length
  · rw [Nat.min_eq_left hn]
  · rw [Nat.min_eq_right (by omega), List.take_length, List.take_of_length_le (by omega)]
section
variable {K : PySem.W.Frag} {te : TE} {ci : List Nat} {σ : St} {acc : Addr} {Q : Hp → Prop} {H1 : Hp} {a : Addr} {xs : List V}
theorem filter_yes {α : Type} (xs : List α) : xs.filter (fun _ => true) = xs := by simp
end
structure TSame (H H' : Hp) : Prop where
  tup : ∀ b xs, H b = some (.tup xs) → H' b = some (.tup xs)
  frz : ∀ b o u, H b = some (.frz o u) → H' b = some (.frz o u)
theorem Same.ts {H H' : Hp} (s : Same H H') : TSame H H' := ⟨fun b xs e => s b _ e, fun b o u e => s b _ e⟩
theorem TSame.trans {H H1 H2 : Hp} (a : TSame H H1) (b : TSame H1 H2) : TSame H H2 := ⟨fun c xs e => b.tup c xs (a.tup c xs e), fun c o u e => b.frz c o u (a.frz c o u e)⟩
theorem TSame.updL {H : Hp} {p : Addr} {ys : List V} {o : HO} (h : H p = some (.lst ys)) : TSame H (upd H p o) :=
  ⟨fun b xs e => by rw [upd_ne (ne_of e h (by intro z; cases z))]; exact e, fun b o u e => by rw [upd_ne (ne_of e h (by intro z; cases z))]; exact e⟩
theorem TSame.seqT {K : PySem.W.Frag} {H H' : Hp} {a : Addr} {xs : List V} (e : TSame H H') (h : SqT K H a xs) : SqT K H' a xs := by
  rcases h with (h | ⟨o, h⟩) | h
  · exact .inl (.inl (e.tup _ _ h))
  · exact .inl (.inr ⟨o, e.frz _ _ _ h⟩)
  · exact .inr h
noncomputable def DeedV (K : PySem.W.Frag) (H : Hp) (x : V) (d : FB.Deed) : Prop := d.fine ∧ ∃ q, x = .ref q ∧ SqT K H q d.vs
theorem DeedV.ts {K : PySem.W.Frag} {H H' : Hp} {x : V} {d : FB.Deed} (s : TSame H H') (h : DeedV K H x d) : DeedV K H' x d := ⟨h.1, let ⟨q, e, z⟩ := h.2; ⟨q, e, s.seqT z⟩⟩
noncomputable abbrev DeedsV (K : PySem.W.Frag) (H : Hp) : List V → List FB.Deed → Prop := Paired (DeedV K H)
theorem DeedsV.ts {K : PySem.W.Frag} {H H' : Hp} {xs : List V} {ds : List FB.Deed} (s : TSame H H') (h : DeedsV K H xs ds) : DeedsV K H' xs ds := h.mono fun _ _ z => z.ts s
end L2
namespace FA
open PySem L2
noncomputable def opdD (m : Int) (ns : List Str) (w : Int) : FB.Opd := if 0 < m % 3 ∧ ¬ ns = [] then .box (pick (m / 3) ns) else .word (m / 3 % (1 * 2 ^ w.toNat))
theorem opdD_v {m : Int} {ns : List Str} {w : Int} : (opdD m ns w).v = opdF m ns w := by
  unfold opdD opdF
  split <;> rfl
noncomputable def deedOf (m : Int) (ns : List Str) (w : Int) : FB.Deed :=
  if m % 9 = 0 ∨ ns = [] then .tell (opdD (m / 16) ns w)
  else if m % 9 = 1 then .copy (pick (m / 7) ns) (opdD (m / 16) ns w)
  else .op (opsL.getD (m % 9 - 2).toNat "") (pick (m / 7) ns) (opdD (m / 16) ns w) (opdD (m / 1009) ns w)
theorem deedOf_vs {m : Int} {ns : List Str} {w : Int} : (deedOf m ns w).vs = deedF m ns w := by
  unfold deedOf deedF
  split
  · simp only [FB.Deed.vs, opdD_v]
  · split
    · simp only [FB.Deed.vs, opdD_v]
    · simp only [FB.Deed.vs, opdD_v]
theorem deedOf_fine {m : Int} {ns : List Str} {w : Int} : (deedOf m ns w).fine := by
  unfold deedOf
  split
  · trivial
  · split
    · trivial
    · show opsL.getD (m % 9 - 2).toNat "" ∈ FB.opsL
      have h0 : 0 ≤ m % 9 := Int.emod_nonneg _ (by decide)
      have h1 : m % 9 < 9 := Int.emod_lt_of_pos _ (by decide)
      have h : ∀ n : Nat, n < 7 → opsL.getD n "" ∈ FB.opsL := by decide +kernel
      by_cases h2 : m % 9 - 2 < 7
      · exact h _ (by omega)
      · exact absurd h1 (by omega)
noncomputable def six : List Str := ["a", "bb", "bc", "dddddd", "x", "y"]
noncomputable def deedsF (cs : List Int) (boxes : Nat) : List FB.Deed := cs.mapIdx fun k c => deedOf (mixed c k) (six.take boxes) 4
end FA
namespace FL
open PySem L2 PyProof.Rows
noncomputable def rangeI (n : Nat) : List Int := (List.range n).map fun i : Nat => (i : Int)
theorem mem_rangeI {n : Nat} {p : Int} : p ∈ rangeI n ↔ 0 ≤ p ∧ p < n := by
  unfold rangeI
  rw [List.mem_map]
  constructor
  · rintro ⟨i, hi, rfl⟩
    have := List.mem_range.mp hi
    omega
  · rintro ⟨h0, h1⟩
    exact ⟨p.toNat, List.mem_range.mpr (by omega), by omega⟩
theorem rangeI_len (n : Nat) : (rangeI n).length = n := by unfold rangeI; rw [List.length_map, List.length_range]
theorem rangeI_lt (n : Nat) : (rangeI n).Pairwise (· < ·) := by
  unfold rangeI
  rw [List.pairwise_map]
  exact List.Pairwise.imp (fun h => by omega) List.pairwise_lt_range
theorem rangeI_nodup (n : Nat) : (rangeI n).Nodup := (rangeI_lt n).imp fun h => by omega
noncomputable def GoodP (b : List Int) : Prop := b ≠ [] ∧ b.Pairwise (· ≤ ·)
noncomputable instance (b : List Int) : Decidable (GoodP b) := by unfold GoodP; infer_instance
structure PlacesP (n : Nat) (bss : List (List Int)) : Prop where
  good : ∀ b ∈ bss, GoodP b
  perm : bss.flatten.Perm (rangeI n)
noncomputable instance (n : Nat) (bss : List (List Int)) : Decidable (PlacesP n bss) := decidable_of_iff ((∀ b ∈ bss, GoodP b) ∧ bss.flatten.Perm (rangeI n)) ⟨fun ⟨a, b⟩ => ⟨a, b⟩, fun h => ⟨h.good, h.perm⟩⟩
theorem PlacesP.nodup {n : Nat} {bss : List (List Int)} (h : PlacesP n bss) : bss.flatten.Nodup := h.perm.nodup_iff.mpr (rangeI_nodup n)
theorem PlacesP.mem {n : Nat} {bss : List (List Int)} (h : PlacesP n bss) {p : Int} : p ∈ bss.flatten ↔ 0 ≤ p ∧ p < n := h.perm.mem_iff.trans mem_rangeI
theorem PlacesP.len {n : Nat} {bss : List (List Int)} (h : PlacesP n bss) : bss.flatten.length = n := h.perm.length_eq.trans (rangeI_len n)
noncomputable def dFrom (k : Nat) : List (List Int) → List (Key × V)
  | [] => []
  | b :: r => b.map (fun p => (.inl p, .int k)) ++ dFrom (k + 1) r
theorem dFrom_snoc (b : List Int) : ∀ (l : List (List Int)) (k : Nat), dFrom k (l ++ [b]) = dFrom k l ++ b.map (fun p => (.inl p, .int ((k + l.length : Nat) : Int)))
  | [], k => by simp [dFrom]
  | c :: l, k => by
    rw [List.cons_append, dFrom, dFrom_snoc b l (k + 1), dFrom, List.append_assoc, List.length_cons, show k + 1 + l.length = k + (l.length + 1) by omega]
theorem dFrom_keys : ∀ (l : List (List Int)) (k : Nat), (dFrom k l).map (·.1) = l.flatten.map (fun p => (.inl p : Key))
  | [], k => rfl
  | c :: l, k => by
    rw [dFrom, List.map_append, dFrom_keys l (k + 1), List.flatten_cons, List.map_append, List.map_map]
    rfl
theorem dFrom_vals : ∀ (l : List (List Int)) (k : Nat), ∀ kv ∈ dFrom k l, ∃ i : Nat, kv.2 = .int i
  | [], k => by intro kv h; cases h
  | c :: l, k => by
    intro kv h
    rw [dFrom, List.mem_append] at h
    rcases h with h | h
    · obtain ⟨p, _, rfl⟩ := List.mem_map.mp h
      exact ⟨k, rfl⟩
    · exact dFrom_vals l (k + 1) kv h
theorem put_new {kvs : List (Key × V)} {p : Int} {v : V} {ps : List Int} (hk : kvs.map (·.1) = ps.map (fun p => (.inl p : Key))) (hp : p ∉ ps) : putK kvs (.inl p) v = kvs ++ [(.inl p, v)] := by
  unfold putK
  rw [if_neg]
  intro h
  obtain ⟨kv, hm, e⟩ := List.any_eq_true.mp h
  have e2 : kv.1 = .inl p := of_decide_eq_true e
  have : kv.1 ∈ ps.map (fun p => (.inl p : Key)) := hk ▸ List.mem_map.mpr ⟨kv, hm, rfl⟩
  rw [e2] at this
  obtain ⟨q, hq, eq⟩ := List.mem_map.mp this
  cases eq
  exact hp hq
theorem val_some {kvs : List (Key × V)} {p : Int} {ps : List Int} (hk : kvs.map (·.1) = ps.map (fun p => (.inl p : Key))) : (valV kvs (.inl p)).isSome = decide (p ∈ ps) := by
  unfold valV
  rw [Option.isSome_map, Bool.eq_iff_iff, List.find?_isSome, decide_eq_true_iff]
  constructor
  · rintro ⟨kv, hm, e⟩
    have e2 : kv.1 = .inl p := of_decide_eq_true e
    have : kv.1 ∈ ps.map (fun p => (.inl p : Key)) := hk ▸ List.mem_map.mpr ⟨kv, hm, rfl⟩
    rw [e2] at this
    obtain ⟨q, hq, eq⟩ := List.mem_map.mp this
    cases eq
    exact hq
  · intro h
    have : (.inl p : Key) ∈ kvs.map (·.1) := hk ▸ List.mem_map.mpr ⟨p, h, rfl⟩
    obtain ⟨kv, hm, e⟩ := List.mem_map.mp this
    exact ⟨kv, hm, decide_eq_true e⟩
noncomputable def atF (bss : List (List Int)) (p : Int) : Int := match valV (dFrom 0 bss) (.inl p) with
  | some (.int i) => i
  | _ => 0
theorem atF_val {bss : List (List Int)} {p : Int} (h : p ∈ bss.flatten) : valV (dFrom 0 bss) (.inl p) = some (.int (atF bss p)) := by
  have z : (valV (dFrom 0 bss) (.inl p)).isSome = true := by rw [val_some (dFrom_keys bss 0)]; exact decide_eq_true h
  obtain ⟨v, hv⟩ := Option.isSome_iff_exists.mp z
  have hv' := hv
  unfold valV at hv
  obtain ⟨kv, hf, e⟩ := Option.map_eq_some_iff.mp hv
  obtain ⟨i, ei⟩ := dFrom_vals bss 0 kv (List.mem_of_find?_eq_some hf)
  unfold atF
  rw [hv', ← e, ei]
theorem take_flat {bss : List (List Int)} {i : Nat} {b : List Int} (h : bss[i]? = some b) : (bss.take (i + 1)).flatten = (bss.take i).flatten ++ b := by
  obtain ⟨hi, e⟩ := List.getElem?_eq_some_iff.mp h
  rw [List.take_succ_eq_append_getElem hi, e, List.flatten_append]
  simp
theorem take_dFrom {bss : List (List Int)} {i : Nat} {b : List Int} (h : bss[i]? = some b) : dFrom 0 (bss.take (i + 1)) = dFrom 0 (bss.take i) ++ b.map (fun p => (.inl p, .int (i : Int))) := by
  obtain ⟨hi, e⟩ := List.getElem?_eq_some_iff.mp h
  rw [List.take_succ_eq_append_getElem hi, e, dFrom_snoc, List.length_take, Nat.min_eq_left (by omega), Nat.zero_add]
noncomputable def dAt (bss : List (List Int)) (i : Nat) (b : List Int) (j : Nat) : List (Key × V) := dFrom 0 (bss.take i) ++ (b.take j).map (fun p => (.inl p, .int (i : Int)))
theorem dAt_keys {bss : List (List Int)} {i : Nat} {b : List Int} {j : Nat} : (dAt bss i b j).map (·.1) = ((bss.take i).flatten ++ b.take j).map (fun p => (.inl p : Key)) := by
  unfold dAt
  rw [List.map_append, dFrom_keys, List.map_append, List.map_map]
  rfl
theorem dAt_put {bss : List (List Int)} {i : Nat} {b : List Int} {j : Nat} {p : Int} (hp : b[j]? = some p) (hn : p ∉ (bss.take i).flatten ++ b.take j) : putK (dAt bss i b j) (.inl p) (.int (i : Int)) = dAt bss i b (j + 1) := by
  rw [put_new dAt_keys hn]
  obtain ⟨hj, e⟩ := List.getElem?_eq_some_iff.mp hp
  unfold dAt
  rw [List.take_succ_eq_append_getElem hj, e, List.map_append, List.append_assoc]
  rfl
theorem dAt_zero {bss : List (List Int)} {i : Nat} {b : List Int} : dAt bss i b 0 = dFrom 0 (bss.take i) := by unfold dAt; simp
theorem dAt_all {bss : List (List Int)} {i : Nat} {b : List Int} (h : bss[i]? = some b) : dAt bss i b b.length = dFrom 0 (bss.take (i + 1)) := by rw [take_dFrom h]; unfold dAt; rw [List.take_length]
theorem dAt_len {bss : List (List Int)} {i : Nat} {b : List Int} {j : Nat} (h : bss[i]? = some b) : (dAt bss i b j).length ≤ bss.flatten.length := by
  have e : (dAt bss i b j).length = ((bss.take i).flatten ++ b.take j).length := by
    have := congrArg List.length (dAt_keys (bss := bss) (i := i) (b := b) (j := j))
    rw [List.length_map, List.length_map] at this
    exact this
  rw [e]
  have e2 : bss.flatten = (bss.take (i + 1)).flatten ++ (bss.drop (i + 1)).flatten := by rw [← List.flatten_append, List.take_append_drop]
  rw [e2, take_flat h]
  simp only [List.length_append, List.length_take]
  omega
theorem fresh_at {bss : List (List Int)} {i : Nat} {b : List Int} {j : Nat} {p : Int} (h : bss[i]? = some b) (hp : b[j]? = some p) (nd : bss.flatten.Nodup) : p ∉ (bss.take i).flatten ++ b.take j := by
  have e2 : bss.flatten = (bss.take (i + 1)).flatten ++ (bss.drop (i + 1)).flatten := by rw [← List.flatten_append, List.take_append_drop]
  have e3 : b = b.take j ++ p :: b.drop (j + 1) := by
    obtain ⟨hj, e⟩ := List.getElem?_eq_some_iff.mp hp
    rw [← e, ← List.drop_eq_getElem_cons hj, List.take_append_drop]
  intro hm
  generalize b.take j = c at e3 hm
  rw [e2, take_flat h, e3, ← List.append_assoc, List.append_assoc, List.cons_append] at nd
  exact (List.nodup_append.mp nd).2.2 p hm p (List.mem_cons_self ..) rfl
theorem dFrom_take_len {bss : List (List Int)} : (dFrom 0 bss).length = bss.flatten.length := by
  have := congrArg List.length (dFrom_keys bss 0)
  rw [List.length_map, List.length_map] at this
  exact this
theorem len_le_flat {bss : List (List Int)} {b : List Int} (h : b ∈ bss) : b.length ≤ bss.flatten.length := by
  induction bss with
  | nil => cases h
  | cons c r ih =>
    rw [List.flatten_cons, List.length_append]
    rcases List.mem_cons.mp h with e | e
    · rw [e]; omega
    · have := ih e; omega
noncomputable def BsV (H : Hp) (a : Addr) (bss : List (List Int)) : Prop := ∃ ps : List Addr, H a = some (.lst (ps.map V.ref)) ∧ Paired (fun p (b : List Int) => H p = some (.lst (b.map V.int))) ps bss
theorem eqV_int {i j : Int} : eqV (.int i) (.int j) = decide (i = j) := by
  first | rfl | (unfold eqV; simp)
theorem ixN_nat {n k : Nat} (h : k < n) : ixN n (k : Int) = some k := by
  unfold ixN
  rw [if_pos (by omega), if_pos (by omega), Int.toNat_natCast]
end FL
namespace FL
open PySem L2 PyProof.Rows
theorem Paired.snoc {α β : Type} {F : α → β → Prop} {a : α} {b : β} (hf : F a b) : ∀ {l₁ : List α} {l₂ : List β}, Paired F l₁ l₂ → Paired F (l₁ ++ [a]) (l₂ ++ [b])
  | _, _, .nil => .cons hf .nil
  | _, _, .cons h t => .cons h (Paired.snoc hf t)
section
variable {K : PySem.W.Frag} {te : TE} {ci : List Nat} {σ : L2.St} {acc : Addr} {Q : Hp → Prop} {H1 : Hp}
end
section
variable {K : PySem.W.Frag} {H : Hp}
end
end FL
namespace L2
open PySem PySem.Spec PyProof.Rows
section
variable {K : PySem.W.Frag} {tt : TT} {te : TE} {ci : List Nat} {σ : St} {acc : Addr} {Q : Hp → Prop} {H1 : Hp} {a : Addr} {xs : List V}
theorem cg_sameL (p : V → Bool) (f : V → V) (hz : xs.length ≤ sizeLine) (hl : SqL K H1 a xs) (hacc : H1 acc = none)
    (hp : ∀ x ∈ xs, ∀ H Q', Same H1 H → (∀ H', Same H H' → Q' (p x) H') → tt (blkSt [some x] ci σ) H Q') (hf : ∀ x ∈ xs, ∀ H Q', Same H1 H → p x = true → (∀ H', Same H H' → Q' (f x) H') → te (blkSt [some x] ci σ) H Q')
    (q : ∀ H, Same H1 H → H acc = some (.lst ((xs.filter p).map f)) → Q H) : CompGW (Itl K a) (gName 1) tt te 1 ci σ acc Q (upd H1 acc (.lst [])) := by
  refine cg_list (fun i ys H => ys = ((xs.take i).filter p).map f ∧ Same H1 H ∧ H acc = some (.lst ys)) ⟨by simp, Same.upd hacc, upd_same⟩ (fun i ys H _ h => h.2.1.seq hl) ?_ ?_
  · rintro i x ys H os hi ho ⟨rfl, sm, ha⟩
    have hm := List.mem_of_getElem? hi
    have e : (blkSt os ci σ).set 1 (some x) = blkSt [some x] ci σ := by
      match os, ho with
      | [o], _ => rfl
    show (∃ os', os'.length = 1 ∧ (blkSt os ci σ).set 1 (some x) = blkSt os' ci σ) ∧ tt ((blkSt os ci σ).set 1 (some x)) H _
    rw [e]
    refine ⟨⟨[some x], rfl, rfl⟩, hp x hm _ _ sm fun H2 s2 => ?_⟩
    cases hb : p x with
    | true =>
      rw [if_pos rfl]
      refine hf x hm _ _ (sm.trans s2) hb fun H3 s3 => ⟨s3 _ _ (s2 _ _ ha), flat_len hi hz, ?_, ((sm.trans s2).trans s3).updM hacc, upd_same⟩
      rw [take_filter_map hi, if_pos hb]
    | false =>
      rw [if_neg Bool.false_ne_true]
      refine ⟨?_, sm.trans s2, s2 _ _ ha⟩
      rw [take_filter_map hi, if_neg (by rw [hb]; exact Bool.false_ne_true), List.append_nil]
  · rintro ys H ⟨rfl, sm, ha⟩
    rw [List.take_length] at ha
    exact q H sm ha
theorem range_filter_succ (p : Nat → Bool) (f : Nat → V) (i : Nat) : ((List.range (i + 1)).filter p).map f = ((List.range i).filter p).map f ++ (if p i = true then [f i] else []) := by
  rw [List.range_succ, List.filter_append, List.map_append]
  congr 1
  cases hb : p i <;> simp [hb]
theorem cg_sameR {n : Nat} (p : Nat → Bool) (f : Nat → V) (hz : n ≤ sizeLine) (hacc : H1 acc = none)
    (hp : ∀ i : Nat, i < n → ∀ H Q', Same H1 H → (∀ H', Same H H' → Q' (p i) H') → tt (blkSt [some (.int (i : Int))] ci σ) H Q') (hf : ∀ i : Nat, i < n → ∀ H Q', Same H1 H → p i = true → (∀ H', Same H H' → Q' (f i) H') → te (blkSt [some (.int (i : Int))] ci σ) H Q')
    (q : ∀ H, Same H1 H → H acc = some (.lst (((List.range n).filter p).map f)) → Q H) : CompGW (Itr 0 n) (gName 1) tt te 1 ci σ acc Q (upd H1 acc (.lst [])) := by
  refine cg_range (fun i ys H => ys = ((List.range i).filter p).map f ∧ Same H1 H ∧ H acc = some (.lst ys)) ⟨by simp, Same.upd hacc, upd_same⟩ ?_ ?_
  · rintro i ys H os hi ho ⟨rfl, sm, ha⟩
    rw [show (0 : Int) + (i : Int) = (i : Int) by omega]
    have e : (blkSt os ci σ).set 1 (some (.int (i : Int))) = blkSt [some (.int (i : Int))] ci σ := by
      match os, ho with
      | [o], _ => rfl
    show (∃ os', os'.length = 1 ∧ (blkSt os ci σ).set 1 (some (.int (i : Int))) = blkSt os' ci σ) ∧ tt ((blkSt os ci σ).set 1 (some (.int (i : Int)))) H _
    rw [e]
    refine ⟨⟨[some (.int (i : Int))], rfl, rfl⟩, hp i hi _ _ sm fun H2 s2 => ?_⟩
    have hl : (((List.range i).filter p).map f).length < sizeLine := by
      rw [List.length_map]
      have := List.length_filter_le p (List.range i)
      rw [List.length_range] at this
      omega
    cases hb : p i with
    | true =>
      rw [if_pos rfl]
      refine hf i hi _ _ (sm.trans s2) hb fun H3 s3 => ⟨s3 _ _ (s2 _ _ ha), hl, ?_, ((sm.trans s2).trans s3).updM hacc, upd_same⟩
      rw [range_filter_succ, if_pos hb]
    | false =>
      rw [if_neg Bool.false_ne_true]
      refine ⟨?_, sm.trans s2, s2 _ _ ha⟩
      rw [range_filter_succ, if_neg (by rw [hb]; exact Bool.false_ne_true), List.append_nil]
  · rintro ys H ⟨rfl, sm, ha⟩
    exact q H sm ha
end
end L2
namespace K01M
theorem tb (x w : Nat) : x / 2 ^ w % 2 = (x.testBit w).toNat := by
  rw [Nat.testBit_eq_decide_div_mod_eq]
  have h : x / 2 ^ w % 2 = 0 ∨ x / 2 ^ w % 2 = 1 := by omega
  rcases h with h | h <;> simp [h]
end K01M
namespace FO
open PySem L2 K01M FB PyProof.Rows
noncomputable abbrev ops : List Str := FB.opsL
theorem bAnd (a b : Nat) : Builtin.bitAnd (a : Int) (b : Int) = ((a &&& b : Nat) : Int) := by
  unfold Builtin.bitAnd
  rw [decide_eq_true (by omega : (0 : Int) ≤ a), decide_eq_true (by omega : (0 : Int) ≤ b)]
  rfl
theorem bOr (a b : Nat) : Builtin.bitOr (a : Int) (b : Int) = ((a ||| b : Nat) : Int) := by
  unfold Builtin.bitOr Builtin.bitAnd
  have e1 : ∀ z : Nat, Builtin.bitNot (z : Int) = -(z : Int) - 1 := fun z => by unfold Builtin.bitNot; omega
  rw [e1, e1, decide_eq_false (by omega : ¬ (0 : Int) ≤ -(a : Int) - 1), decide_eq_false (by omega : ¬ (0 : Int) ≤ -(b : Int) - 1)]
  show Builtin.bitNot (Builtin.bitNot (((Builtin.bitNot (-(a : Int) - 1)).toNat ||| (Builtin.bitNot (-(b : Int) - 1)).toNat : Nat) : Int)) = _
  have e2 : ∀ z : Nat, (Builtin.bitNot (-(z : Int) - 1)).toNat = z := fun z => by unfold Builtin.bitNot; omega
  rw [e2, e2, e1]
  unfold Builtin.bitNot; omega
end FO
namespace GD
section
variable (G : Nat → Nat → Option Int) (so : Nat → Nat) (U : Nat → Int)
noncomputable def cntB (bt : List Nat) (s : Nat) : Nat := bt.countP fun o => decide (so o = s)
noncomputable def aheadB (dn bt : List Nat) (p j : Nat) : Bool := match G j p with
  | none => true
  | some l => decide (j ∈ dn) || (decide (l = 0) && decide (j ∈ bt))
noncomputable def fitsB (dn bt : List Nat) (p : Nat) : Bool := !(decide (so p < 3) && decide ((cntB so bt (so p) : Int) = U (so p))) && (List.range p).all (aheadB G dn bt p)
noncomputable def growB (dn bt : List Nat) (p : Nat) : List (List Nat) := (if fitsB G so U dn bt p = true then [bt ++ [p]] else []) ++ (if fitsB G so U dn bt p = false ∨ so p < 3 then [bt] else [])
noncomputable def grownF (dn : List Nat) (bts : List (List Nat)) (p : Nat) : List (List Nat) := bts.flatMap fun b => growB G so U dn b p
noncomputable def missF (n : Nat) (dn : List Nat) : List Nat := (List.range n).filter fun p => !decide (p ∈ dn)
noncomputable def roomB (dn b ms : List Nat) : Bool := ms.any fun p => !decide (p ∈ b) && fitsB G so U dn b p
noncomputable def fullF (n : Nat) (dn : List Nat) : List (List Nat) := ((missF n dn).foldl (grownF G so U dn) [[]]).filter fun b => !roomB G so U dn b (missF n dn)
noncomputable def keyF (n : Nat) (dn b : List Nat) : List Nat := (List.range n).filter fun p => decide (p ∈ dn) || decide (p ∈ b)
noncomputable def setD (acc : List (List Nat × List (List Nat))) (k : List Nat) (v : List (List Nat)) : List (List Nat × List (List Nat)) := if k ∈ acc.map (·.1) then acc else acc ++ [(k, v)]
noncomputable def addW (n : Nat) (acc : List (List Nat × List (List Nat))) (w : List Nat × List (List Nat)) (bs : List (List Nat)) : List (List Nat × List (List Nat)) := bs.foldl (fun acc b => setD acc (keyF n w.1 b) (w.2 ++ [b])) acc
noncomputable def stepW (n : Nat) (ws : List (List Nat × List (List Nat))) : List (List Nat × List (List Nat)) := ws.foldl (fun acc w => addW n acc w (fullF G so U n w.1)) []
noncomputable def waysF (n : Nat) : Nat → List (List Nat × List (List Nat))
  | 0 => [([], [])]
  | r + 1 => stepW G so U n (waysF n r)
inductive Lay (n : Nat) : List (List Nat) → List Nat → Prop
  | nil : Lay n [] []
  | snoc {bss dn b} : Lay n bss dn → b ∈ fullF G so U n dn → Lay n (bss ++ [b]) (keyF n dn b)
structure Fine (dn ms b : List Nat) : Prop where
  sub : b.Sublist ms
  lean : ∀ p ∈ b, ∀ j, j < p → aheadB G dn b p j = true
  load : ∀ s, s < 3 → (cntB so b s : Int) ≤ U s
end
section
variable {G : Nat → Nat → Option Int} {so : Nat → Nat} {U : Nat → Int} {n : Nat}
theorem cntB_snoc {bt : List Nat} {p s : Nat} : cntB so (bt ++ [p]) s = cntB so bt s + (if so p = s then 1 else 0) := by
  unfold cntB
  rw [List.countP_append]
  simp [List.countP_cons]
theorem ahead_more {dn b e : List Nat} {p j : Nat} (h : aheadB G dn b p j = true) : aheadB G dn (b ++ e) p j = true := by
  unfold aheadB at *
  split
  · rfl
  · rename_i l hl
    rw [hl] at h
    simp only [Bool.or_eq_true, Bool.and_eq_true, decide_eq_true_eq, List.mem_append] at *
    rcases h with h | ⟨h1, h2⟩
    · exact .inl h
    · exact .inr ⟨h1, .inl h2⟩
theorem fits_iff {dn bt : List Nat} {p : Nat} : fitsB G so U dn bt p = true ↔ (so p < 3 → (cntB so bt (so p) : Int) ≠ U (so p)) ∧ ∀ j, j < p → aheadB G dn bt p j = true := by
  unfold fitsB
  simp only [Bool.and_eq_true, Bool.not_eq_true', Bool.and_eq_false_iff, decide_eq_false_iff_not, List.all_eq_true, List.mem_range]
  constructor
  · rintro ⟨h1, h2⟩
    exact ⟨fun h => h1.elim (fun z => absurd h z) id, h2⟩
  · rintro ⟨h1, h2⟩
    refine ⟨?_, h2⟩
    by_cases h : so p < 3
    · exact .inr (h1 h)
    · exact .inl h
theorem Fine.mono {dn ms ms' b : List Nat} (h : Fine G so U dn ms b) (hs : ms.Sublist ms') : Fine G so U dn ms' b := ⟨h.sub.trans hs, h.lean, h.load⟩
theorem Fine.add {dn ms b : List Nat} {p : Nat} (h : Fine G so U dn ms b) (hf : fitsB G so U dn b p = true) : Fine G so U dn (ms ++ [p]) (b ++ [p]) := by
  obtain ⟨h1, h2⟩ := fits_iff.mp hf
  refine ⟨h.sub.append (List.Sublist.refl _), fun q hq j hj => ?_, fun s hs => ?_⟩
  · rcases List.mem_append.mp hq with hq | hq
    · exact ahead_more (h.lean q hq j hj)
    · rw [List.mem_singleton.mp hq] at hj ⊢
      exact ahead_more (h2 j hj)
  · rw [cntB_snoc]
    have := h.load s hs
    by_cases e : so p = s
    · have := h1 (by omega)
      rw [if_pos e]
      rw [e] at this
      omega
    · rw [if_neg e]; omega
theorem mem_grow {dn bt c : List Nat} {p : Nat} (h : c ∈ growB G so U dn bt p) : (fitsB G so U dn bt p = true ∧ c = bt ++ [p]) ∨ c = bt := by
  unfold growB at h
  rcases List.mem_append.mp h with h | h
  · split at h
    · exact .inl ⟨by assumption, List.mem_singleton.mp h⟩
    · cases h
  · split at h
    · exact .inr (List.mem_singleton.mp h)
    · cases h
theorem fine_grown {dn : List Nat} : ∀ (ms pre : List Nat) (bts : List (List Nat)), (∀ b ∈ bts, Fine G so U dn pre b) → ∀ b ∈ ms.foldl (grownF G so U dn) bts, Fine G so U dn (pre ++ ms) b
  | [], pre, bts, h, b, hb => by rw [List.append_nil]; exact h b hb
  | p :: ms, pre, bts, h, b, hb => by
    have z := fine_grown ms (pre ++ [p]) (grownF G so U dn bts p) (fun c hc => by
      obtain ⟨b', hb', hc⟩ := List.mem_flatMap.mp hc
      rcases mem_grow hc with ⟨hf, rfl⟩ | rfl
      · exact (h _ hb').add hf
      · exact (h _ hb').mono (List.sublist_append_left ..)) b hb
    rwa [List.append_assoc] at z
theorem full_fine (hU : ∀ s, s < 3 → 0 < U s) {dn b : List Nat} (h : b ∈ fullF G so U n dn) : Fine G so U dn (missF n dn) b := by
  have z := fine_grown (G := G) (so := so) (U := U) (dn := dn) (missF n dn) [] [[]] (fun c hc => by
    rw [List.mem_singleton.mp hc]
    exact ⟨List.Sublist.refl _, fun p hp => (by cases hp), fun s hs => by have := hU s hs; simp [cntB]; omega⟩) b (List.mem_filter.mp h).1
  rwa [List.nil_append] at z
theorem full_room {dn b : List Nat} (h : b ∈ fullF G so U n dn) : ∀ p ∈ missF n dn, p ∉ b → fitsB G so U dn b p = false := by
  intro p hp hb
  have z := (List.mem_filter.mp h).2
  simp only [Bool.not_eq_true', roomB, List.any_eq_false, Bool.and_eq_true, not_and, Bool.not_eq_true', decide_eq_false_iff_not] at z
  simpa using z p hp hb
theorem miss_iff {dn : List Nat} {p : Nat} : p ∈ missF n dn ↔ p < n ∧ p ∉ dn := by
  unfold missF
  rw [List.mem_filter, List.mem_range]
  simp
theorem miss_sorted {dn : List Nat} : (missF n dn).Pairwise (· < ·) := List.Pairwise.filter _ List.pairwise_lt_range
noncomputable def greedF (G : Nat → Nat → Option Int) (so : Nat → Nat) (U : Nat → Int) (dn : List Nat) (b : List Nat) (p : Nat) : List Nat := if fitsB G so U dn b p = true then b ++ [p] else b
theorem greed_in {dn : List Nat} : ∀ (ms : List Nat) (b : List Nat) (bts : List (List Nat)), b ∈ bts → ms.foldl (greedF G so U dn) b ∈ ms.foldl (grownF G so U dn) bts
  | [], _, _, h => h
  | p :: ms, b, bts, h => by
    refine greed_in ms _ _ (List.mem_flatMap.mpr ⟨b, h, ?_⟩)
    unfold greedF growB
    cases hf : fitsB G so U dn b p <;> simp
theorem greed_more {dn : List Nat} : ∀ (ms : List Nat) (b : List Nat), ∃ e, ms.foldl (greedF G so U dn) b = b ++ e ∧ ∀ q ∈ e, q ∈ ms
  | [], b => ⟨[], by simp, fun q hq => by cases hq⟩
  | p :: ms, b => by
    obtain ⟨e, h1, h2⟩ := greed_more ms (greedF G so U dn b p)
    rw [List.foldl_cons, h1]
    unfold greedF
    split
    · exact ⟨p :: e, by simp, fun q hq => by rcases List.mem_cons.mp hq with rfl | hq <;> simp_all⟩
    · exact ⟨e, rfl, fun q hq => List.mem_cons_of_mem _ (h2 q hq)⟩
theorem cntB_le {b e : List Nat} {s : Nat} : cntB so b s ≤ cntB so (b ++ e) s := by unfold cntB; rw [List.countP_append]; omega
theorem greed_full (hU : ∀ s, s < 3 → 0 < U s) {dn : List Nat} : (missF n dn).foldl (greedF G so U dn) [] ∈ fullF G so U n dn := by
  have hin := greed_in (G := G) (so := so) (U := U) (dn := dn) (missF n dn) [] [[]] (by simp)
  have hfin := fine_grown (G := G) (so := so) (U := U) (dn := dn) (missF n dn) [] [[]] (fun c hc => by
    rw [List.mem_singleton.mp hc]
    exact ⟨List.Sublist.refl _, fun p hp => (by cases hp), fun s hs => by have := hU s hs; simp [cntB]; omega⟩) _ hin
  refine List.mem_filter.mpr ⟨hin, ?_⟩
  simp only [Bool.not_eq_true', roomB, List.any_eq_false, Bool.and_eq_true, not_and, Bool.not_eq_true', decide_eq_false_iff_not]
  intro p hp hb hf
  obtain ⟨pre, post, e⟩ := List.append_of_mem hp
  have srt := miss_sorted (n := n) (dn := dn)
  rw [e] at srt hb hf hfin
  rw [List.foldl_append, List.foldl_cons] at hb hf hfin
  obtain ⟨b0, hb0⟩ : ∃ b0, b0 = List.foldl (greedF G so U dn) [] pre := ⟨_, rfl⟩
  rw [← hb0] at hb hf hfin
  obtain ⟨e2, h1, h2⟩ := greed_more (G := G) (so := so) (U := U) (dn := dn) post (greedF G so U dn b0 p)
  rw [h1] at hb hf hfin
  have srt2 := (List.pairwise_append.mp srt).2.1
  rw [List.pairwise_cons] at srt2
  unfold greedF at hb hf hfin
  by_cases hfb : fitsB G so U dn b0 p = true
  · rw [if_pos hfb] at hb
    exact hb (by simp)
  · rw [if_neg hfb] at hf hfin
    obtain ⟨f1, f2⟩ := fits_iff.mp hf
    refine hfb (fits_iff.mpr ⟨fun hs hc => ?_, fun j hj => ?_⟩)
    · have a := hfin.load _ hs
      have b := cntB_le (so := so) (b := b0) (e := e2) (s := so p)
      exact f1 hs (by omega)
    · have z := f2 j hj
      unfold aheadB at z ⊢
      cases hg : G j p with
      | none => rfl
      | some l =>
        rw [hg] at z
        simp only [Bool.or_eq_true, Bool.and_eq_true, decide_eq_true_eq, List.mem_append] at z ⊢
        rcases z with z | ⟨z1, z2 | z2⟩
        · exact .inl z
        · exact .inr ⟨z1, z2⟩
        · have := srt2.1 j (h2 j z2)
          omega
theorem full_ne (hU : ∀ s, s < 3 → 0 < U s) {dn b : List Nat} (h : b ∈ fullF G so U n dn) (hm : missF n dn ≠ []) : b ≠ [] := by
  rintro rfl
  obtain ⟨p, hp⟩ : ∃ p, p ∈ missF n dn := List.exists_mem_of_ne_nil _ hm
  have least : ∀ k p, p ≤ k → p ∈ missF n dn → ∃ q ∈ missF n dn, ∀ j, j < q → j ∈ dn := by
    intro k
    induction k with
    | zero => intro p hk hp; exact ⟨p, hp, fun j hj => by omega⟩
    | succ k ih =>
      intro p hk hp
      by_cases ha : ∀ j, j < p → j ∈ dn
      · exact ⟨p, hp, ha⟩
      · have : ∃ j, j < p ∧ j ∉ dn := by
          apply Classical.byContradiction
          intro h'
          apply ha
          intro j hj
          apply Classical.byContradiction
          intro h''
          exact h' ⟨j, hj, h''⟩
        obtain ⟨j, hj, hjd⟩ := this
        have := (miss_iff.mp hp).1
        exact ih j (by omega) (miss_iff.mpr ⟨by omega, hjd⟩)
  obtain ⟨q, hq, hall⟩ := least p p (Nat.le_refl _) hp
  have z := full_room h q hq (by simp)
  have y : fitsB G so U dn [] q = true := by
    refine fits_iff.mpr ⟨fun hs hc => ?_, fun j hj => ?_⟩
    · have := hU _ hs
      simp [cntB] at hc
      omega
    · unfold aheadB
      split
      · rfl
      · simp [hall j hj]
  rw [y] at z
  cases z
theorem mem_key {dn b : List Nat} {p : Nat} : p ∈ keyF n dn b ↔ p < n ∧ (p ∈ dn ∨ p ∈ b) := by
  unfold keyF
  rw [List.mem_filter, List.mem_range]
  simp
noncomputable def Can (n : Nat) (dn : List Nat) : Prop := dn.Sublist (List.range n)
theorem can_key {dn b : List Nat} : Can n (keyF n dn b) := List.filter_sublist
theorem Can.lt {dn : List Nat} (h : Can n dn) {p : Nat} (hp : p ∈ dn) : p < n := List.mem_range.mp (h.subset hp)
theorem Can.sorted {dn : List Nat} (h : Can n dn) : dn.Pairwise (· < ·) := List.Pairwise.sublist h List.pairwise_lt_range
theorem sorted_ext : ∀ {a b : List Nat}, a.Pairwise (· < ·) → b.Pairwise (· < ·) → (∀ p, p ∈ a ↔ p ∈ b) → a = b
  | [], [], _, _, _ => rfl
  | [], y :: b, _, _, h => absurd ((h y).mpr (by simp)) (by simp)
  | x :: a, [], _, _, h => absurd ((h x).mp (by simp)) (by simp)
  | x :: a, y :: b, ha, hb, h => by
    rw [List.pairwise_cons] at ha hb
    have exy : x = y := by
      have h1 := (h x).mp (by simp)
      have h2 := (h y).mpr (by simp)
      rcases List.mem_cons.mp h1 with e | h1
      · exact e
      · rcases List.mem_cons.mp h2 with e | h2
        · exact e.symm
        · have := ha.1 y h2; have := hb.1 x h1; omega
    subst exy
    rw [sorted_ext ha.2 hb.2 fun p => ?_]
    constructor
    · intro hp
      rcases List.mem_cons.mp ((h p).mp (List.mem_cons_of_mem _ hp)) with e | z
      · have := ha.1 p hp; omega
      · exact z
    · intro hp
      rcases List.mem_cons.mp ((h p).mpr (List.mem_cons_of_mem _ hp)) with e | z
      · have := hb.1 p hp; omega
      · exact z
theorem Can.miss {dn : List Nat} (h : Can n dn) (hne : dn ≠ List.range n) : missF n dn ≠ [] := by
  intro e
  apply hne
  refine sorted_ext h.sorted List.pairwise_lt_range fun p => ⟨fun hp => List.mem_range.mpr (h.lt hp), fun hp => ?_⟩
  apply Classical.byContradiction
  intro hd
  have := miss_iff.mpr ⟨List.mem_range.mp hp, hd⟩
  rw [e] at this
  cases this
theorem Can.len {dn : List Nat} (h : Can n dn) : dn.length ≤ n := by have := h.length_le; rwa [List.length_range] at this
theorem Can.len_lt {dn : List Nat} (h : Can n dn) (hne : dn ≠ List.range n) : dn.length < n := by
  rcases Nat.lt_or_ge dn.length n with z | z
  · exact z
  · exact absurd (h.eq_of_length (by rw [List.length_range]; have := h.len; omega)) hne
theorem Lay.can {bss : List (List Nat)} {dn : List Nat} (h : Lay G so U n bss dn) : Can n dn := by
  cases h with
  | nil => exact List.nil_sublist _
  | snoc => exact can_key
theorem key_perm {dn b : List Nat} (h : Can n dn) (hb : b.Sublist (missF n dn)) : (dn ++ b).Perm (keyF n dn b) := by
  have hbm : ∀ p ∈ b, p < n ∧ p ∉ dn := fun p hp => miss_iff.mp (hb.subset hp)
  have nb : b.Nodup := (List.Pairwise.sublist hb miss_sorted).imp fun h => Nat.ne_of_lt h
  have nd : dn.Nodup := h.sorted.imp fun h => Nat.ne_of_lt h
  have nk : (keyF n dn b).Nodup := (can_key (n := n) (dn := dn) (b := b)).sorted.imp fun h => Nat.ne_of_lt h
  have nab : (dn ++ b).Nodup := List.nodup_append.mpr ⟨nd, nb, fun x hx y hy e => by subst e; exact (hbm x hy).2 hx⟩
  refine (List.perm_ext_iff_of_nodup nab nk).mpr fun p => ?_
  rw [mem_key, List.mem_append]
  exact ⟨fun z => ⟨z.elim (fun z => h.lt z) fun z => (hbm p z).1, z⟩, fun z => z.2⟩
theorem key_len {dn b : List Nat} (h : Can n dn) (hb : b.Sublist (missF n dn)) : (keyF n dn b).length = dn.length + b.length := by rw [← (key_perm h hb).length_eq, List.length_append]
theorem setD_keys {acc : List (List Nat × List (List Nat))} {k : List Nat} {v : List (List Nat)} {x : List Nat × List (List Nat)} (h : x ∈ setD acc k v) : x ∈ acc ∨ x = (k, v) := by
  unfold setD at h
  split at h
  · exact .inl h
  · rcases List.mem_append.mp h with h | h
    · exact .inl h
    · exact .inr (List.mem_singleton.mp h)
theorem setD_has {acc : List (List Nat × List (List Nat))} {k : List Nat} {v : List (List Nat)} : k ∈ (setD acc k v).map (·.1) := by
  unfold setD
  split
  · assumption
  · simp
theorem setD_keep {acc : List (List Nat × List (List Nat))} {k : List Nat} {v : List (List Nat)} {x : List Nat × List (List Nat)} (h : x ∈ acc) : x ∈ setD acc k v := by
  unfold setD
  split
  · exact h
  · exact List.mem_append_left _ h
theorem setD_nodup {acc : List (List Nat × List (List Nat))} {k : List Nat} {v : List (List Nat)} (h : (acc.map (·.1)).Nodup) : ((setD acc k v).map (·.1)).Nodup := by
  unfold setD
  split
  · exact h
  · rename_i hk
    rw [List.map_append, List.nodup_append]
    exact ⟨h, by simp, fun x hx y hy e => by
      subst e
      rw [List.map_singleton, List.mem_singleton] at hy
      subst hy
      exact hk hx⟩
structure WOk (G : Nat → Nat → Option Int) (so : Nat → Nat) (U : Nat → Int) (n r : Nat) (ws : List (List Nat × List (List Nat))) : Prop where
  lay : ∀ w ∈ ws, Lay G so U n w.2 w.1 ∧ w.2.length = r
  nodup : (ws.map (·.1)).Nodup
theorem WOk.set {r : Nat} {acc : List (List Nat × List (List Nat))} {dn b : List Nat} {bss : List (List Nat)} (h : WOk G so U n (r + 1) acc) (hl : Lay G so U n bss dn) (hr : bss.length = r) (hb : b ∈ fullF G so U n dn) : WOk G so U n (r + 1) (setD acc (keyF n dn b) (bss ++ [b])) :=
  ⟨fun w hw => by
    rcases setD_keys hw with hw | rfl
    · exact h.lay w hw
    · exact ⟨hl.snoc hb, by simp [hr]⟩, setD_nodup h.nodup⟩
theorem WOk.add {r : Nat} {w : List Nat × List (List Nat)} (hl : Lay G so U n w.2 w.1) (hr : w.2.length = r) : ∀ (bs : List (List Nat)) (acc : List (List Nat × List (List Nat))), (∀ b ∈ bs, b ∈ fullF G so U n w.1) → WOk G so U n (r + 1) acc → WOk G so U n (r + 1) (addW n acc w bs)
  | [], _, _, h => h
  | b :: bs, acc, hb, h => WOk.add hl hr bs _ (fun c hc => hb c (List.mem_cons_of_mem _ hc)) (h.set hl hr (hb b (by simp)))
theorem WOk.step {r : Nat} : ∀ (ws acc : List (List Nat × List (List Nat))), (∀ w ∈ ws, Lay G so U n w.2 w.1 ∧ w.2.length = r) → WOk G so U n (r + 1) acc → WOk G so U n (r + 1) (ws.foldl (fun acc w => addW n acc w (fullF G so U n w.1)) acc)
  | [], _, _, h => h
  | w :: ws, acc, hw, h => WOk.step ws _ (fun x hx => hw x (List.mem_cons_of_mem _ hx)) (WOk.add (hw w (by simp)).1 (hw w (by simp)).2 _ _ (fun _ h => h) h)
theorem ways_ok : ∀ r, WOk G so U n r (waysF G so U n r)
  | 0 => ⟨fun w hw => by rw [waysF, List.mem_singleton] at hw; subst hw; exact ⟨.nil, rfl⟩, by simp [waysF]⟩
  | r + 1 => WOk.step _ _ (ways_ok r).lay ⟨fun w hw => (by cases hw), by simp⟩
theorem addW_keep {w x : List Nat × List (List Nat)} : ∀ (bs : List (List Nat)) (acc : List (List Nat × List (List Nat))), x ∈ acc → x ∈ addW n acc w bs
  | [], _, h => h
  | b :: bs, acc, h => addW_keep bs _ (setD_keep h)
theorem addW_has {w : List Nat × List (List Nat)} {b : List Nat} : ∀ (bs : List (List Nat)) (acc : List (List Nat × List (List Nat))), b ∈ bs → keyF n w.1 b ∈ (addW n acc w bs).map (·.1)
  | [], _, h => by cases h
  | c :: bs, acc, h => by
    rcases List.mem_cons.mp h with rfl | h
    · obtain ⟨x, hx, e⟩ := List.mem_map.mp (setD_has (acc := acc) (k := keyF n w.1 b) (v := w.2 ++ [b]))
      exact List.mem_map.mpr ⟨x, addW_keep bs _ hx, e⟩
    · exact addW_has bs _ h
theorem step_keep {x : List Nat × List (List Nat)} : ∀ (ws acc : List (List Nat × List (List Nat))), x ∈ acc → x ∈ ws.foldl (fun acc w => addW n acc w (fullF G so U n w.1)) acc
  | [], _, h => h
  | w :: ws, acc, h => step_keep ws _ (addW_keep _ _ h)
theorem step_has {w : List Nat × List (List Nat)} {b : List Nat} (hb : b ∈ fullF G so U n w.1) : ∀ (ws acc : List (List Nat × List (List Nat))), w ∈ ws → keyF n w.1 b ∈ (ws.foldl (fun acc w => addW n acc w (fullF G so U n w.1)) acc).map (·.1)
  | [], _, h => by cases h
  | c :: ws, acc, h => by
    rcases List.mem_cons.mp h with rfl | h
    · obtain ⟨x, hx, e⟩ := List.mem_map.mp (addW_has (n := n) (w := w) (fullF G so U n w.1) acc hb)
      exact List.mem_map.mpr ⟨x, step_keep ws _ hx, e⟩
    · exact step_has hb ws _ h
theorem ways_ne (hU : ∀ s, s < 3 → 0 < U s) : ∀ r, waysF G so U n r ≠ []
  | 0 => by simp [waysF]
  | r + 1 => by
    obtain ⟨w, hw⟩ := List.exists_mem_of_ne_nil _ (ways_ne hU r)
    have z := step_has (greed_full (G := G) (so := so) hU (n := n) (dn := w.1)) (waysF G so U n r) [] hw
    intro e
    rw [waysF, stepW] at e
    rw [e] at z
    cases z
theorem ways_len (hU : ∀ s, s < 3 → 0 < U s) : ∀ r, (∀ k, k < r → List.range n ∉ (waysF G so U n k).map (·.1)) → ∀ w ∈ waysF G so U n r, r ≤ w.1.length
  | 0, _, w, _ => Nat.zero_le _
  | r + 1, hn, w, hw => by
    have ih := ways_len hU r fun k hk => hn k (by omega)
    have hno := hn r (by omega)
    have key : ∀ (ws acc : List (List Nat × List (List Nat))), (∀ w ∈ ws, Can n w.1 ∧ w.1 ≠ List.range n ∧ r ≤ w.1.length) → (∀ w ∈ acc, r + 1 ≤ w.1.length) → ∀ w ∈ ws.foldl (fun acc w => addW n acc w (fullF G so U n w.1)) acc, r + 1 ≤ w.1.length := by
      intro ws
      induction ws with
      | nil => intro acc _ h; exact h
      | cons v ws ihw =>
        intro acc h1 h2
        refine ihw _ (fun x hx => h1 x (List.mem_cons_of_mem _ hx)) ?_
        obtain ⟨c1, c2, c3⟩ := h1 v (by simp)
        have inner : ∀ (bs : List (List Nat)) (acc : List (List Nat × List (List Nat))), (∀ b ∈ bs, b ∈ fullF G so U n v.1) → (∀ w ∈ acc, r + 1 ≤ w.1.length) → ∀ w ∈ addW n acc v bs, r + 1 ≤ w.1.length := by
          intro bs
          induction bs with
          | nil => intro acc _ h; exact h
          | cons b bs ihb =>
            intro acc h3 h4
            refine ihb _ (fun c hc => h3 c (List.mem_cons_of_mem _ hc)) fun x hx => ?_
            rcases setD_keys hx with hx | rfl
            · exact h4 x hx
            · have hb := h3 b (by simp)
              have ne := full_ne hU hb (c1.miss c2)
              have := List.length_pos_iff.mpr ne
              show r + 1 ≤ (keyF n v.1 b).length
              rw [key_len c1 (full_fine hU hb).sub]
              omega
        exact inner _ _ (fun _ h => h) h2
    exact key _ _ (fun x hx => ⟨((ways_ok r).lay x hx).1.can, fun e => hno (List.mem_map.mpr ⟨x, hx, e⟩), ih x hx⟩) (fun _ h => by cases h) w hw
theorem ways_lt (hU : ∀ s, s < 3 → 0 < U s) {r : Nat} (hn : ∀ k, k ≤ r → List.range n ∉ (waysF G so U n k).map (·.1)) : r < n := by
  obtain ⟨w, hw⟩ := List.exists_mem_of_ne_nil _ (ways_ne (G := G) (so := so) (U := U) (n := n) hU r)
  have h1 := ways_len hU r (fun k hk => hn k (by omega)) w hw
  have h2 := ((ways_ok r).lay w hw).1.can.len_lt fun e => hn r (Nat.le_refl _) (List.mem_map.mpr ⟨w, hw, e⟩)
  omega
theorem grown_len {dn : List Nat} : ∀ (bts : List (List Nat)) (p : Nat), (grownF G so U dn bts p).length ≤ 2 * bts.length
  | [], _ => by simp [grownF]
  | b :: bts, p => by
    have := grown_len (dn := dn) bts p
    have h1 : (growB G so U dn b p).length ≤ 2 := by
      unfold growB
      rw [List.length_append]
      have a : (if fitsB G so U dn b p = true then [b ++ [p]] else []).length ≤ 1 := by split <;> simp
      have c : (if fitsB G so U dn b p = false ∨ so p < 3 then [b] else []).length ≤ 1 := by split <;> simp
      omega
    unfold grownF at *
    rw [List.flatMap_cons, List.length_append, List.length_cons]
    omega
theorem growns_len {dn : List Nat} : ∀ (ms : List Nat) (bts : List (List Nat)), (ms.foldl (grownF G so U dn) bts).length ≤ 2 ^ ms.length * bts.length
  | [], bts => by simp
  | p :: ms, bts => by
    have a := growns_len (dn := dn) ms (grownF G so U dn bts p)
    have b := grown_len (G := G) (so := so) (U := U) (dn := dn) bts p
    rw [List.foldl_cons, List.length_cons, Nat.pow_succ]
    calc _ ≤ _ := a
      _ ≤ 2 ^ ms.length * (2 * bts.length) := Nat.mul_le_mul_left _ b
      _ = _ := by rw [Nat.mul_assoc]
noncomputable def subs : List Nat → List (List Nat)
  | [] => [[]]
  | x :: xs => subs xs ++ (subs xs).map (x :: ·)
theorem subs_len : ∀ xs, (subs xs).length = 2 ^ xs.length
  | [] => rfl
  | x :: xs => by rw [subs, List.length_append, List.length_map, subs_len xs, List.length_cons, Nat.pow_succ]; omega
theorem mem_subs : ∀ {xs ys : List Nat}, ys.Sublist xs → ys ∈ subs xs
  | _, _, .slnil => by simp [subs]
  | _, _, .cons _ h => List.mem_append_left _ (mem_subs h)
  | _, _, .cons₂ _ h => List.mem_append_right _ (List.mem_map.mpr ⟨_, mem_subs h, rfl⟩)
theorem nodup_len {α : Type} [DecidableEq α] : ∀ {L M : List α}, L.Nodup → (∀ x ∈ L, x ∈ M) → L.length ≤ M.length
  | [], M, _, _ => Nat.zero_le _
  | x :: L, M, h, hm => by
    rw [List.nodup_cons] at h
    have z := nodup_len (M := M.erase x) h.2 fun y hy => (List.mem_erase_of_ne (fun e => h.1 (by rw [← e]; exact hy))).mpr (hm y (List.mem_cons_of_mem _ hy))
    rw [List.length_erase_of_mem (hm x (by simp))] at z
    have := List.length_pos_of_mem (hm x (by simp))
    rw [List.length_cons]
    omega
theorem WOk.len {r : Nat} {ws : List (List Nat × List (List Nat))} (h : WOk G so U n r ws) : ws.length ≤ 2 ^ n := by
  have z := nodup_len (M := subs (List.range n)) h.nodup fun k hk => by
    obtain ⟨w, hw, e⟩ := List.mem_map.mp hk
    rw [← e]
    exact mem_subs (h.lay w hw).1.can
  rwa [List.length_map, subs_len, List.length_range] at z
end
end GD
namespace L2
open PySem PySem.Spec PyProof.Rows
section
variable {prog : Program} {w : World} {A : Around} {E : Value → Shared → Prop} {s : Shared}
theorem setdef_heap {κ : Type} [DecidableEq κ] {knd : HeapKind prog w κ} {d a : Addr} {xs : List (κ × Addr × Value)} {k : κ} {v : Value} {Q : Value → Shared → Prop} (hu : knd.room A) (hkey : knd.is s.heap k a) (hm : s.heap.DictOfH knd d xs)
    (h1 : ∀ p, atKey xs k = some p → Q p.2 { s with toks := s.toks + knd.draws k })
    (h2 : atKey xs k = none → ∀ h', h'.DictOfH knd d (xs ++ [(k, a, v)]) → Heap.SameBut d s.heap h' → Q v { s with heap := h', toks := s.toks + knd.draws k })
    (hsz : xs.length ≤ sizeLine) : wpAny (model prog w) A (dictSetDefault d (.ref a) v) Q E s := by
  obtain ⟨o, es, ep, ho, hc, hd, he, his, hn⟩ := hm
  unfold dictSetDefault
  try with_reducible refine wpAny_holding ?_
  refine wpAny_bind (knd.pyHash hu hkey (wpAny_bind (wpAny_dictFind_heap (s := { s with toks := s.toks + knd.draws k }) hu hkey ho hd he his hn ?_ ?_)))
  · intro hno
    have hat := atKey_none_of_get hno
    have hnot := not_mem_keys_of_get hno
    refine wpAny_bind (wpAny_rule (wpAny_bind (wpAny_updateDictKeys (hz := by have e := size_of_entries he; omega) (s := { s with toks := s.toks + knd.draws k }) ho hd (wpAny_pure (h2 hat _ ⟨_, _, ep + 1, Heap.get?_update_self _ ho (Obj.isFreed_of_dict (Obj.data_mapDictKeys hd _)),
      hc.mapDictKeys _, Obj.data_mapDictKeys hd _, by simp [he, entryOfKey], fun x hx => ?_, ?_⟩ (Heap.SameBut.update ..))))))
    · rcases List.mem_append.mp hx with hx | hx
      · exact knd.keeps (his x hx) ho hd (Heap.SameBut.update ..)
      · rw [List.mem_singleton.mp hx]
        exact knd.keeps hkey ho hd (Heap.SameBut.update ..)
    · rw [List.map_append, List.nodup_append]
      refine ⟨hn, by simp, fun x hx y hy e => ?_⟩
      simp only [List.map_cons, List.map_nil, List.mem_singleton] at hy
      subst hy
      exact hnot (e ▸ hx)
  · intro j p hj
    have hat := atKey_of_get hn hj
    refine wpAny_bind (wpAny_dictEntries (s := { s with toks := s.toks + knd.draws k }) ho hd ?_)
    rw [entry_at he j, hj]
    exact wpAny_bind (wpAny_rule (wpAny_pure (h1 p hat)))
theorem meets_setdefT {κ : Type} [DecidableEq κ] (knd : HeapKind prog w κ) (d a : Addr) (hd : (d == sysModules) = false) (dflt : Value) :
    MeetsIn prog w (Builtin.«dict.setdefault» ⟨[.ref d, .ref a, dflt], []⟩) (fun A R s => knd.room A.in1 ∧ ∃ k xs, knd.is s.heap k a ∧ s.heap.DictOfH knd d xs ∧ xs.length ≤ sizeLine ∧
      (∀ p, atKey xs k = some p → R (.ok (.ret p.2)) { s with toks := s.toks + knd.draws k }) ∧
      (atKey xs k = none → ∀ h', h'.DictOfH knd d (xs ++ [(k, a, dflt)]) → Heap.SameBut d s.heap h' → R (.ok (.ret dflt)) { s with heap := h', toks := s.toks + knd.draws k })) :=
  .of_wp fun A R s ⟨hu, k, xs, hkey, hm, hz, h1, h2⟩ => by
    unfold Builtin.«dict.setdefault»
    refine wpAny_bind ?_
    unfold Builtin.Dict.keyAndDefault
    refine wpAny_bind (wpAny_notOrdered_dict hm.typeIs ?_)
    show wpAny _ _ (pure (d, Value.ref a, some dflt)) _ _ s
    refine wpAny_pure ?_
    show wpAny _ _ (if (d == sysModules) = true then _ else (dictSetDefault d (.ref a) dflt >>= _)) _ _ s
    rw [if_neg (by rw [hd]; exact Bool.false_ne_true)]
    exact wpAny_bind (setdef_heap (hsz := hz) hu hkey hm (fun p hp => wpAny_pure ⟨p.2, rfl, h1 p hp⟩) fun hn h' hm' hs' => wpAny_pure ⟨dflt, rfl, h2 hn h' hm' hs'⟩)
theorem call_itemsD {d : Addr} {od : Obj} {Q : Value → Shared → Prop} (hd : (d == sysModules) = false) (hod : s.heap.get? d = some od) (hx : od.ExactDict)
    (h : Q (.ref s.heap.objs.size) { s with heap := s.heap.push { cls := .type "dict_items", data := .fields #[.ref d] } }) : wpAny (model prog w) A (call (.builtin "dict.items") [.ref d]) Q E s := by
  have hT : s.TypeIs (.ref d) "dict" := ⟨od, hod, hx.1⟩
  have M : MeetsIn prog w (Builtin.«dict.items» ⟨[.ref d], []⟩) (fun _ R s => s.TypeIs (.ref d) "dict" ∧ R (.ok (.ret (.ref s.heap.objs.size))) { s with heap := s.heap.push { cls := .type "dict_items", data := .fields #[.ref d] } }) := .of_wp fun A R s ⟨hT, h⟩ => by
    unfold Builtin.«dict.items»
    refine wpAny_bind ?_
    unfold Builtin.Dict.noArgs
    refine wpAny_bind (wpAny_notOrdered_dict hT ?_)
    show wpAny _ _ (pure d) _ _ s
    refine wpAny_pure ?_
    show wpAny _ _ (Builtin.Dict.showsAll d >>= _) _ _ s
    unfold Builtin.Dict.showsAll
    rw [if_neg (by rw [hd]; exact Bool.false_ne_true)]
    refine wpAny_bind (wpAny_pure ?_)
    exact wpAny_bind (wpAny_newObj_type (wpAny_pure ⟨_, rfl, h⟩))
  exact call_meetsIn PySem.F.slot_dict_items hT PySem.F.entry_dict_items (PySem.F.args_dict_items_1 _) M ⟨hT, h⟩
theorem iter_itemsD {v d : Addr} {od : Obj} {es : Array DictEntry} {ep : Nat} {Q : Value → Shared → Prop} (hv : s.heap.IsItemsView v d) (ho : s.heap.get? d = some od) (hd : od.data = .dict es ep)
    (hQ : Q (.ref s.heap.objs.size) { s with heap := s.heap.push { cls := .type "dict_itemiterator", data := .fields #[.none, .bool false, .ref d, .int 0 0, .int es.size 0, .int ep 0, .none, .none] } }) :
    wpAny (model prog w) A (pyIter (.ref v)) Q E s := by
  obtain ⟨ov, hov, hcv, hdv⟩ := id hv
  refine wpAny_pyIter_slot hv.typeIs F.slot_dict_items_iter (wpAny_call_entry F.slot_dict_items_iter hv.typeIs F.entry_dict_items_iter ?_ (F.args_dict_items_iter_1 _))
  unfold Builtin.«dict_items.__iter__»
  refine wpAny_bind (wpAny_pure (wpAny_bind ?_))
  unfold Builtin.Dict_items.dictOf
  refine wpAny_bind (wpAny_field hov hdv (x := .ref d) rfl (wpAny_pure (wpAny_bind ?_)))
  unfold Builtin.Dict_items.newIterator
  refine wpAny_bind (wpAny_dictEntries ho hd (wpAny_bind (wpAny_dictEpoch ho hd ?_)))
  rw [show Builtin.Dict_items.ownsTuple "dict_itemiterator" = true by decide]
  simp only [if_true]
  refine wpAny_newObj_type (wpAny_pure ⟨_, rfl, "dict_itemiterator", _, ⟨_, Heap.get?_push_size _ rfl, rfl⟩, F.slot_dict_itemiterator_next.lookup, ?_⟩)
    (by simp only [sizeOk, Builtin.Dict_items.ownedTupleFields, List.size_toArray, List.length_append, List.length_cons, List.length_nil, sizeLine_eq]; omega)
  simpa [rawInt, Builtin.Dict_items.ownedTupleFields] using hQ
theorem next_itemsD {it d : Addr} {i ep : Nat} {od : Obj} {es : Array DictEntry} {en : DictEntry} {ok ov : Value} {Q : Option Value → Shared → Prop} (hit : IsItemIter s.heap it d i es.size ep ok ov)
    (hod : s.heap.get? d = some od) (hdd : od.data = .dict es ep) (hx : es[i]? = some en)
    (hQ : ∀ h', IsItemIterOut h' it d (i + 1) es.size ep en.key en.val s.heap.objs.size → h'.get? s.heap.objs.size = some { cls := .type "tuple", data := .seq #[en.key, en.val] } → h'.objs.size = s.heap.objs.size + 1 →
      (∀ b o, b ≠ it → s.heap.get? b = some o → h'.get? b = some o) → Q (some (.ref s.heap.objs.size)) { s with heap := h' }) :
    wpAny (model prog w) A (pyNext (.ref it)) Q E s := by
  obtain ⟨hp, g, dr, tk, os⟩ := s
  have hT : Shared.TypeIs ⟨hp, g, dr, tk, os⟩ (.ref it) "dict_itemiterator" := ⟨_, hit, rfl⟩
  have hown : Builtin.Dict_items.ownsTuple "dict_itemiterator" = true := by decide
  have hlt : i < es.size := (Array.getElem?_eq_some_iff.mp hx).1
  unfold pyNext
  refine wpAny_bind (wpAny_attempt (wpAny_callSpecial?_slot (name := Str.ofString "__next__") hT F.slot_dict_itemiterator_next (wpAny_call_entry F.slot_dict_itemiterator_next hT F.entry_dict_itemiterator_next ?_ (F.args_dict_itemiterator_next_1 _))))
  refine wpAny_bind (wpAny_pure (wpAny_bind (wpAny_bind ?_)))
  first | refine wpAny_bind (wpAny_typeNameOfWhole_itemiter hT (wpAny_pure ?_)) | refine wpAny_bind (wpAny_typeNameOf_itemiter hT (wpAny_pure ?_))
  refine wpAny_bind (wpAny_fieldsOf hit rfl ?_)
  simp only [hown, if_true]
  show wpAny _ _ (if (Value.ref d == Value.none) = true then _ else _) _ _ _
  rw [if_neg (show ¬ ((Value.ref d == Value.none) = true) from Bool.false_ne_true)]
  refine wpAny_bind (wpAny_pure (wpAny_bind (wpAny_dictEntries hod hdd ?_)))
  rw [if_neg (by simp)]
  refine wpAny_bind (wpAny_pure (wpAny_bind (wpAny_dictEpoch hod hdd ?_)))
  rw [if_neg (by simp)]
  refine wpAny_pure ?_
  simp only [show ¬ ((i : Int) < 0) from by omega, if_false, Int.toNat_natCast, hx]
  refine wpAny_bind ?_
  first | refine wpAny_bind (wpAny_typeNameOfWhole_itemiter hT (wpAny_pure ?_)) | refine wpAny_bind (wpAny_typeNameOf_itemiter hT (wpAny_pure ?_))
  refine wpAny_bind (wpAny_isOneOf_itemiter hT ?_)
  show wpAny _ _ (setField (.ref it) 3 (rawInt ((i : Int) + 1)) >>= _) _ _ ⟨hp, g, dr, tk, os⟩
  refine wpAny_bind (wpAny_setField_rec hit (by simp) fun h₁ he₁ hs₁ => ?_)
  replace hs₁ : Heap.SameBut it hp h₁ := hs₁
  replace he₁ : IsItemIter h₁ it d (i + 1) es.size ep ok ov := by
    have e : ((i + 1 : Nat) : Int) = (i : Int) + 1 := by omega
    unfold IsItemIter; rw [e]; simpa [rawInt] using he₁
  have hT₁ : Shared.TypeIs ⟨h₁, g, dr, tk, os⟩ (.ref it) "dict_itemiterator" := ⟨_, he₁, rfl⟩
  refine wpAny_bind (wpAny_holding (wpAny_bind (wpAny_isOneOf_itemiter hT₁ (wpAny_bind (wpAny_isOneOf_itemiter hT₁ ?_)))))
  show wpAny _ _ (Builtin.Dict_items.pairFromOwner (.ref it) 6 en.key en.val) _ _ ⟨h₁, g, dr, tk, os⟩
  unfold Builtin.Dict_items.pairFromOwner
  refine wpAny_bind (wpAny_newTuple ?_)
  have he₂ : IsItemIter (h₁.push { cls := .type "tuple", data := .seq #[en.key, en.val] }) it d (i + 1) es.size ep ok ov := Heap.get?_push_of_some _ he₁
  have hz₁ : h₁.objs.size = hp.objs.size := hs₁.1
  have hil : it < hp.objs.size := Heap.lt_size hit
  have ht₂ : (h₁.push { cls := .type "tuple", data := .seq #[en.key, en.val] }).get? hp.objs.size = some { cls := .type "tuple", data := .seq #[en.key, en.val] } := by rw [← hz₁]; exact Heap.get?_push_size _ rfl
  have hz₂ : (h₁.push { cls := .type "tuple", data := .seq #[en.key, en.val] }).objs.size = hp.objs.size + 1 := by rw [Heap.size_push, hz₁]
  have hk₂ : ∀ b o, b ≠ it → hp.get? b = some o → (h₁.push { cls := .type "tuple", data := .seq #[en.key, en.val] }).get? b = some o := fun b o hb e => Heap.get?_push_of_some _ (hs₁.extBut b o hb e)
  generalize h₁.push { cls := .type "tuple", data := .seq #[en.key, en.val] } = h₂ at he₂ ht₂ hz₂ hk₂ ⊢
  show wpAny _ _ (Builtin.Dict_items.ownedTupleIsFree (.ref it) >>= _) _ _ ⟨h₂, g, dr, tk, os⟩
  rw [hz₁]
  clear he₁ hs₁ hT₁ hz₁ h₁
  refine wpAny_bind ?_
  unfold Builtin.Dict_items.ownedTupleIsFree
  refine wpAny_bind (wpAny_field he₂ rfl (x := .none) rfl (wpAny_pure ?_))
  simp only [if_true]
  refine wpAny_bind (wpAny_field he₂ rfl (x := ok) rfl (wpAny_bind (wpAny_field he₂ rfl (x := ov) rfl ?_)))
  refine wpAny_bind (wpAny_setField_rec he₂ (by simp) fun h₃ he₃ hs₃ => ?_)
  replace hs₃ : Heap.SameBut it h₂ h₃ := hs₃
  replace he₃ : IsItemIter h₃ it d (i + 1) es.size ep en.key ov := he₃
  refine wpAny_bind (wpAny_setField_rec he₃ (by simp) fun h₄ he₄ hs₄ => ?_)
  replace hs₄ : Heap.SameBut it h₃ h₄ := hs₄
  replace he₄ : IsItemIter h₄ it d (i + 1) es.size ep en.key en.val := he₄
  refine wpAny_bind (wpAny_setField_rec he₄ (by simp) fun h₅ he₅ hs₅ => ?_)
  replace hs₅ : Heap.SameBut it h₄ h₅ := hs₅
  replace he₅ : IsItemIterOut h₅ it d (i + 1) es.size ep en.key en.val hp.objs.size := he₅
  refine wpAny_bind (wpAny_setField_rec he₅ (by simp) fun h₆ he₆ hs₆ => ?_)
  replace hs₆ : Heap.SameBut it h₅ h₆ := hs₆
  replace he₆ : IsItemIterOut h₆ it d (i + 1) es.size ep en.key en.val hp.objs.size := he₆
  have kp : ∀ b o, b ≠ it → h₂.get? b = some o → h₆.get? b = some o := fun b o hb e => hs₆.extBut b o hb (hs₅.extBut b o hb (hs₄.extBut b o hb (hs₃.extBut b o hb e)))
  refine wpAny_bind (wpAny_letGo (wpAny_pure (wpAny_pure ⟨_, rfl, wpAny_pure (hQ h₆ he₆ (kp _ _ (Nat.ne_of_gt hil) ht₂) ?_ fun b o hb e => kp b o hb (hk₂ b o hb e))⟩)))
  show h₆.objs.size = hp.objs.size + 1
  rw [hs₆.1, hs₅.1, hs₄.1, hs₃.1, hz₂]
theorem end_itemsD {it d : Addr} {i ep : Nat} {od : Obj} {es : Array DictEntry} {ok ov : Value} {Q : Option Value → Shared → Prop} (hh : A.handled = none) (hit : IsItemIter s.heap it d i es.size ep ok ov)
    (hod : s.heap.get? d = some od) (hdd : od.data = .dict es ep) (hx : es.size ≤ i)
    (hQ : ∀ h', Heap.ExtBut it s.heap h' → Q none { s with heap := h' }) : wpAny (model prog w) A (pyNext (.ref it)) Q E s := by
  have hT : s.TypeIs (.ref it) "dict_itemiterator" := ⟨_, hit, rfl⟩
  have hown : Builtin.Dict_items.ownsTuple "dict_itemiterator" = true := by decide
  unfold pyNext
  refine wpAny_bind (wpAny_attempt (wpAny_callSpecial?_slot (name := Str.ofString "__next__") hT F.slot_dict_itemiterator_next (wpAny_call_entry F.slot_dict_itemiterator_next hT F.entry_dict_itemiterator_next ?_ (F.args_dict_itemiterator_next_1 _))))
  refine wpAny_bind (wpAny_pure (wpAny_bind (wpAny_bind ?_)))
  first | refine wpAny_bind (wpAny_typeNameOfWhole_itemiter hT (wpAny_pure ?_)) | refine wpAny_bind (wpAny_typeNameOf_itemiter hT (wpAny_pure ?_))
  refine wpAny_bind (wpAny_fieldsOf hit rfl ?_)
  simp only [hown, if_true]
  show wpAny _ _ (if (Value.ref d == Value.none) = true then _ else _) _ _ s
  rw [if_neg (show ¬ ((Value.ref d == Value.none) = true) from Bool.false_ne_true)]
  refine wpAny_bind (wpAny_pure (wpAny_bind (wpAny_dictEntries hod hdd ?_)))
  rw [if_neg (by simp)]
  refine wpAny_bind (wpAny_pure (wpAny_bind (wpAny_dictEpoch hod hdd ?_)))
  rw [if_neg (by simp)]
  refine wpAny_pure ?_
  simp only [show ¬ ((i : Int) < 0) from by omega, if_false, Int.toNat_natCast, Array.getElem?_eq_none hx]
  refine wpAny_bind ?_
  first | refine wpAny_bind (wpAny_typeNameOfWhole_itemiter hT (wpAny_pure ?_)) | refine wpAny_bind (wpAny_typeNameOf_itemiter hT (wpAny_pure ?_))
  show wpAny _ _ (setField (.ref it) 2 .none >>= _) _ _ s
  refine wpAny_bind (wpAny_setField hit rfl (by simp) ?_)
  show wpAny _ _ (newExc (.type "StopIteration") [] >>= _) _ _ _
  refine wpAny_bind ?_
  simp only [newExc, newTuple]
  refine wpAny_bind (wpAny_newObj_type ?_ (by size_fits))
  refine wpAny_bind (m := firstArgMember _ _) (wpAny_of_eq (a := Value.none) (by first | rfl | (simp only [firstArgMember]; rfl)) ?_)
  refine wpAny_newObj_type ?_ (by size_fits)
  simp only [raiseNew]
  refine wpAny_bind (wpAny_handled ?_)
  rw [show A.in1.handled = none from hh]
  refine wpAny_bind (wpAny_pure (wpAny_throw ?_))
  refine wpAny_bind (wpAny_isInstance (T := "StopIteration") (b := true) ⟨_, Heap.get?_push_size _ rfl, rfl⟩ isSubtype_stop ?_)
  exact wpAny_pure (hQ _ (((Heap.SameBut.update ..).extBut.push _).push _))
end
end L2
namespace L2
open PySem PySem.Spec PyProof.Rows
noncomputable def ItemsT (d : Addr) (o : Obj) (kvs : List (List Key × V)) : It :=
  ⟨fun i H => H d = some (.frz o (.dT kvs)) ∧ i < kvs.length,
   fun i H x H' => ∃ p k b v, x = .ref p ∧ H p = none ∧ H' = upd H p (.tup [.ref b, v]) ∧ kvs[i]? = some (k, v) ∧ H b = some (.tup (k.map kV)),
   fun i H => H d = some (.frz o (.dT kvs)) ∧ kvs.length ≤ i⟩
theorem Paired.at {α β : Type} {F : α → β → Prop} : ∀ {l : List α} {m : List β} {i : Nat} {x : α}, Paired F l m → l[i]? = some x → ∃ y, m[i]? = some y ∧ F x y
  | _, _, _, _, .nil, e => by simp at e
  | _, _, 0, _, .cons r _, e => by simp at e; subst e; exact ⟨_, rfl, r⟩
  | _, _, i + 1, x, .cons _ t, e => by
    obtain ⟨u, h1, h2⟩ := Paired.at (i := i) (x := x) t (by simpa using e)
    exact ⟨u, by simpa using h1, h2⟩
theorem frz_dT {P : Program} {w : World} {H : Hp} {h : Heap} {d : Addr} {o : Obj} {kvs : List (List Key × V)} (ok : HOk P w H h) (e : H d = some (.frz o (.dT kvs))) {es : Array DictEntry} {ep : Nat} (ho : o.data = .dict es ep) :
    h.get? d = some o ∧ es.size = kvs.length ∧ ∀ (i : Nat) (k : List Key) (v : V), kvs[i]? = some (k, v) → ∃ (hs : Int) (b : Addr) (u : Value), es[i]? = some (⟨hs, .ref b, u⟩ : DictEntry) ∧ H b = some (.tup (k.map kV)) ∧ RelV v u := by
  obtain ⟨e1, z, hd, xs, rel, o', es', ep', e2, ex, hdat, hes, hn⟩ := ok d _ e
  rw [e1] at e2
  cases e2
  rw [ho] at hdat
  cases hdat
  refine ⟨e1, (size_of_entries hes).trans (Paired.length rel).symm, fun i k v hk => ?_⟩
  obtain ⟨⟨k', b, u⟩, hx, h1, h2, h3⟩ := Paired.at rel hk
  refine ⟨(tupleKind (mixKind P w)).hash k', b, u, ?_, h2, h3⟩
  rw [entry_at hes i, hx]
  rfl
theorem entry_itit : entryFor table "dict_itemiterator.__iter__" = some Builtin.«dict_keyiterator.__iter__» := entryFor_alias (id' := "dict_keyiterator.__iter__") (by kernel_rfl) rfl (by decide +kernel) (by kernel_rfl)
theorem iter_itit {prog : Program} {w : World} {A : Around} {E : Value → Shared → Prop} {s : Shared} {it d : Addr} {i n ep : Nat} {ok ov : Value} {Q : Value → Shared → Prop} (he : IsItemIter s.heap it d i n ep ok ov) (h : Q (.ref it) s) : wpAny (model prog w) A (pyIter (.ref it)) Q E s := by
  have hT : s.TypeIs (.ref it) "dict_itemiterator" := ⟨_, he, rfl⟩
  refine wpAny_pyIter_slot hT F.slot_dict_itemiterator_iter (wpAny_call_entry F.slot_dict_itemiterator_iter hT entry_itit ?_ (F.args_dict_itemiterator_iter_1 _))
  show wpAny _ _ (ret (.ref it)) _ _ s
  exact wpAny_pure ⟨_, rfl, "dict_itemiterator", _, hT, F.slot_dict_itemiterator_next.lookup, h⟩
theorem turn_items {P : Program} {w : World} {K : PySem.W.Frag} {elts : List Expr} {k0 : Nat} {pos0 : Pos} (d it : Addr) (o : Obj) {es : Array DictEntry} {ep : Nat} (ho : o.data = .dict es ep) (kvs : List (List Key × V)) :
    Turn P w K (.Tuple elts k0 pos0) (ItemsT d o kvs) [it] it (fun i h => ∃ ok ov, IsItemIter h it d i es.size ep ok ov) where
  mem := by simp
  obj := fun i h ⟨ok, ov, he⟩ b hb => by
    have e : b = it := by simpa using hb
    subst e
    exact ⟨_, he, fun v z => by
      have z' : Data.fields _ = Data.cell v := z
      cases z'⟩
  keep := fun i h h' ⟨ok, ov, he⟩ k => ⟨ok, ov, k it (by simp) _ he⟩
  item := by
    intro X hP hw hK hc i pins s σ H E I hf st hg
    subst hP hw hK
    obtain ⟨ok, ov, he⟩ := st
    obtain ⟨hg1, hi⟩ := hg
    obtain ⟨hd, hsz, hat⟩ := frz_dT I.hok hg1 ho
    obtain ⟨⟨k, v⟩, hk⟩ : ∃ p, kvs[i]? = some p := ⟨_, List.getElem?_eq_getElem hi⟩
    obtain ⟨hs0, b, u, hen, hb, ru⟩ := hat i k v hk
    obtain ⟨f0, f1, f2, f3, f4, f5⟩ := hf it (by simp)
    refine next_itemsD he hd ho hen fun h1 ho1 hT hz1 hk1 => ?_
    refine ⟨_, rfl, wpAny_letOwnedTupleGo_items ho1 fun h2 he2 hs2 => ?_⟩
    replace hs2 : Heap.SameBut it h1 h2 := hs2
    have hlt : it < s.heap.objs.size := Heap.lt_size he
    have hk2 : ∀ b o, b ≠ it → s.heap.get? b = some o → h2.get? b = some o := fun b o b1 q => (hs2.2 b b1).trans (hk1 b o b1 q)
    have hT2 : h2.get? s.heap.objs.size = some { cls := .type "tuple", data := .seq #[.ref b, u] } := (hs2.2 _ (Nat.ne_of_gt hlt)).trans hT
    have hn : H s.heap.objs.size = none := I.hok.fresh (Nat.le_refl _)
    have nE : ∀ b v, H b = some v → b ≠ it := fun b v q z => by rw [z, f0] at q; cases q
    have ok2 : HOk X.prog X.w H h2 := fun b v q => (I.hok b v q).stay (fun c v' hc r => by
      rcases hc with z | z
      · exact hk2 c v' (by rw [z]; exact nE b v q) r
      · exact hk2 c v' (nE c _ z) r) (fun _ r => r) fun _ _ r => r
    have ok3 : HOk X.prog X.w (upd H s.heap.objs.size (.tup [.ref b, v])) h2 := fun c w' q => by
      by_cases hb' : c = s.heap.objs.size
      · subst hb'
        rw [upd_same] at q
        cases q
        exact ⟨by show 2 ≤ sizeLine; decide, [.ref b, u], .cons rfl (.cons ru .nil), ⟨_, hT2, rfl, _, rfl⟩⟩
      · rw [upd_ne hb'] at q
        exact (ok2 c w' q).stay (fun c v' _ r => r) (fun c r => by rw [upd_ne (ne_of_none r hn)]; exact r) fun c ys r => by rw [upd_ne (ne_of_none r hn)]; exact r
    have nlt : ∀ {b : Addr} {o : Obj}, s.heap.get? b = some o → b ≠ s.heap.objs.size := fun q => Nat.ne_of_lt (Heap.lt_size q)
    have I2 : Inv X pins σ (upd H s.heap.objs.size (.tup [.ref b, v])) { s with heap := h2, toks := s.toks } :=
      I.step (g' := s.gens) (d' := s.drawn) (ch := [it]) (fun b hb => by
          rw [List.mem_singleton.mp hb]
          exact ⟨f3, f1, f4, f5⟩)
        (fun b o _ _ hc q _ => hk2 b o (fun z => hc (by simp [z])) q)
        (fun b o _ _ hc q _ => ⟨o.slots, hk2 b o (fun z => hc (by simp [z])) q⟩)
        (fun b o _ q n => by rw [upd_ne (nlt q)]; exact n)
        (fun b o hc q => ⟨o, hk2 b o (fun z => hc (by simp [z])) q⟩)
        (fun b ys q => by rw [upd_ne (ne_of_none q hn)]; exact q) (fun b o v q => by rw [upd_ne (ne_of_none q hn)]; exact q) (fun b ps q => ⟨#[], by rw [upd_ne (ne_of_none q hn), q]; simp⟩)
        (fun m ⟨o, es, ep, hm, r⟩ => ⟨o, es, ep, hk2 _ o (Ne.symm f1) hm, r⟩) ok3 I.bare
    refine ⟨.ref s.heap.objs.size, _, I2, rfl, ⟨_, k, b, v, rfl, hn, rfl, hk, hb⟩, ⟨_, _, he2⟩, fun c hc => ?_⟩
    rw [List.mem_singleton.mp hc, upd_ne (Nat.ne_of_lt hlt)]
    exact f0
  done := by
    intro X hP hw hK hc i pins s σ H E I hf st hg
    subst hP hw hK
    obtain ⟨ok, ov, he⟩ := st
    obtain ⟨hg1, hi⟩ := hg
    obtain ⟨hd, hsz, hat⟩ := frz_dT I.hok hg1 ho
    obtain ⟨f0, f1, f2, f3, f4, f5⟩ := hf it (by simp)
    exact end_itemsD (I.ok.hd hc) he hd ho (by omega) fun h' eb => ⟨rfl, I.turned (t' := s.toks) (fun b o hb e => eb b o hb e) f0 f1 f3 f4 f5⟩
  self := fun _ _ _ _ _ ⟨_, _, he⟩ h => iter_itit he h
noncomputable def iItemsT (td : TE) : TI := fun σ H R => td σ H fun x H1 => ∃ a kvs, x = .ref a ∧ H1 a = some (.dT kvs) ∧ ∀ o, R (ItemsT a o kvs) (upd H1 a (.frz o (.dT kvs)))
theorem pi_itemsT {X : Cx} {o : Expr} {td : TE} {apos pos pos0 : Pos} {elts : List Expr} {k0 : Nat} (ho : PE X o td) (hbase : attributeBase o "items" X.env (eval o X.env) = eval o X.env := by rfl) (hline : (apos.endLine == pos.line) = true := by rfl) :
    PI X (.Tuple elts k0 pos0) (.Call (.Attribute o "items" apos) [] [] pos) (iItemsT td) := by
  intro pins s σ H R I h
  refine wpAny_Call_method0_late hbase hline (thn (ho pins s σ H _ I h) fun v s1 hhx => ?_)
  obtain ⟨x, H1, I1, r1, a, kvs, ex, e, q1⟩ := hhx
  subst ex
  cases r1
  obtain ⟨h1, h2⟩ := tyV_is (T := "dict") I1 (show RelV (.ref a) (.ref a) from rfl) (.inr (.inr (.inl ⟨rfl, .inr ⟨kvs, e⟩⟩)))
  refine ⟨"dict", _, PySem.F.plainAttrs_dict, PySem.F.slot_dict_items, PySem.F.type_dict_items, h1, h2, Calls.callWith_builtin rfl (PySem.evalArgs_none ?_)⟩
  have okd := I1.hok a _ e
  obtain ⟨z, hd, xs, rel, od, es, ep, g1, g2, g3, g4, g5⟩ := id okd
  refine call_itemsD hd g1 g2 ?_
  refine iter_itemsD (es := es) (ep := ep) ⟨_, Heap.get?_push_size _ rfl, rfl, rfl⟩ (Heap.get?_push_of_some _ g1) g3 ?_
  have I2 : Inv X pins σ (upd H1 a (.frz od (.dT kvs))) { s1 with heap := s1.heap, toks := s1.toks } := I1.write (x := a) (e := a) (by rw [e]; exact True.intro) (.inl rfl) (fun b u _ q => q) ⟨od, g1⟩ ⟨g1, okd.stay (fun _ _ _ q => q) (fun b q => by
    rw [upd_ne (ne_of q e (fun z => nomatch z))]; exact q) fun b ys q => by rw [upd_ne (ne_of q e (fun z => nomatch z))]; exact q⟩
  have I3 := I2.kept (h' := s1.heap.push { cls := .type "dict_items", data := .fields #[.ref a] }) (t' := s1.toks) fun b o e => Heap.get?_push_of_some _ e
  refine ⟨_, [_], _, _, _, rfl, I3.kept (t' := s1.toks) fun b o e => Heap.get?_push_of_some _ e, turn_items a _ od g3 kvs, ⟨_, _, Heap.get?_push_size _ rfl⟩, fun b hb => ?_, q1 od⟩
  rw [List.mem_singleton.mp hb]
  exact I3.fpOk (Nat.le_refl _) (I3.hok.fresh (Nat.le_refl _))
theorem xpi_itemsT {X : Cx} {o : Expr} {td : TE} {apos pos pos0 : Pos} {elts : List Expr} {k0 : Nat} (ho : XE X o td) (hbase : attributeBase o "items" X.env (eval o X.env) = eval o X.env := by rfl) (hline : (apos.endLine == pos.line) = true := by rfl) :
    XI X (.Tuple elts k0 pos0) (.Call (.Attribute o "items" apos) [] [] pos) (iItemsT td) := ⟨pi_itemsT ho.h hbase hline⟩
theorem r_iItemsT {td : TE} {σ : St} {H : Hp} {R : It → Hp → Prop} : iItemsT td σ H R = td σ H fun x H1 => ∃ a kvs, x = .ref a ∧ H1 a = some (.dT kvs) ∧ ∀ o, R (ItemsT a o kvs) (upd H1 a (.frz o (.dT kvs))) := rfl
theorem fw_items {d : Addr} {o : Obj} {kvs : List (List Key × V)} {g : TG} {tb : TS} {D : Ends} {σ : St} {H : Hp} (Pv : Nat → St → Hp → Prop) (h0 : Pv 0 σ H) (hl : ∀ i σ H, i ≤ kvs.length → Pv i σ H → H d = some (.frz o (.dT kvs)))
    (hs : ∀ (i : Nat) k v b σ H p, kvs[i]? = some (k, v) → H b = some (.tup (k.map kV)) → H p = none → Pv i σ H → g (.ref p) σ (upd H p (.tup [.ref b, v])) fun σ2 H2 => tb { D with nx := Pv (i + 1), ct := Pv (i + 1), bk := D.nx } σ2 H2) (hd : ∀ σ H, Pv kvs.length σ H → D.nx σ H) : ForW (ItemsT d o kvs) g tb D σ H := by
  refine ⟨fun i m σ H => m = kvs.length - i ∧ i ≤ kvs.length ∧ Pv i σ H, ⟨kvs.length, by simp, Nat.zero_le _, h0⟩, ?_⟩
  rintro i m σ H ⟨rfl, hi, p⟩
  have q := hl i σ H hi p
  by_cases hlt : i < kvs.length
  · refine .inr ⟨⟨q, hlt⟩, Pv (i + 1), fun σ' H' p' => ⟨kvs.length - (i + 1), by omega, rfl, hlt, p'⟩, fun x H' y => ?_⟩
    obtain ⟨pp, k, b, v, ex, hn, eH, hk, hb⟩ := y
    subst ex eH
    exact hs i k v b σ H pp hk hb hn p
  · obtain rfl : i = kvs.length := by omega
    exact .inl ⟨⟨q, Nat.le_refl _⟩, hd σ H p⟩
section
variable {X : Cx}
noncomputable def rSetT : V → List V → Hp → VK → Prop := fun x vs H Q => ∃ (l b : Addr) (kvs : List (List Key × V)) (k : List Key) (v : V), x = .ref l ∧ vs = [.ref b, v] ∧ H l = some (.dT kvs) ∧ H b = some (.tup (k.map kV)) ∧ kvs.length < sizeLine ∧
  (∀ y, valV kvs k = some y → Q y H) ∧ (valV kvs k = none → Q v (upd H l (.dT (kvs ++ [(k, v)]))))
theorem mt_setdefault (hu : X.A.units + 1 < cLine) : MtM X "dict.setdefault" rSetT := by
  intro pins s σ H x vs u us Q I rx rv h
  obtain ⟨l, b, kvs, k, v, rfl, rfl, hl, hb, hz, q1, q2⟩ := h
  cases rx
  obtain ⟨u1, u2, rfl, r1, r2⟩ := vals2 rv
  cases r1
  obtain ⟨z, hd, xs, rel, dd⟩ := dt_of I.hok hl
  have hlen := Paired.length rel
  refine call_meetsIn PySem.F.slot_dict_setdefault dd.typeIs PySem.F.entry_dict_setdefault (PySem.F.args_dict_setdefault_3 _ _ _) (meets_setdefT (tupleKind (mixKind X.prog X.w)) l b hd u2) ⟨tupleKind_room_in1 hu, k, xs, key_of I.hok hb, dd, by omega, fun p hp => ?_, fun hn h' dd' hs => ?_⟩
  · have rk := rel.val k
    rw [hp] at rk
    cases hv : valV kvs k with
    | none => rw [hv] at rk; exact rk.elim
    | some y => rw [hv] at rk; exact ⟨y, H, I.tok _, rk, q1 y hv⟩
  · have rk := rel.val k
    rw [hn] at rk
    have hv : valV kvs k = none := by
      cases hv : valV kvs k with
      | none => rfl
      | some y => rw [hv] at rk; exact rk.elim
    obtain ⟨q, es, ep, hq, h2, h3, h4, _, h5⟩ := dd'
    refine ⟨v, _, d_write (ob := .dT (kvs ++ [(k, v)])) I (by rw [hl]; exact True.intro) hs ⟨q, hq⟩ ⟨by rw [List.length_append, List.length_singleton]; omega, hd, _, KT.keeps (Paired.snoc rel ⟨rfl, hb, r2⟩) fun c ys ec => ?_, q, es, ep, hq, h2, h3, h4, h5⟩, r2, q2 hv⟩
    rw [upd_ne (ne_of ec hl (fun z => nomatch z))]
    exact ec
theorem r_setT {l b : Addr} {v : V} {H : Hp} {Q : VK} : rSetT (.ref l) [.ref b, v] H Q = ∃ (kvs : List (List Key × V)) (k : List Key), H l = some (.dT kvs) ∧ H b = some (.tup (k.map kV)) ∧ kvs.length < sizeLine ∧
    (∀ y, valV kvs k = some y → Q y H) ∧ (valV kvs k = none → Q v (upd H l (.dT (kvs ++ [(k, v)])))) := propext ⟨by rintro ⟨_, _, kvs, k, _, e1, e2, q⟩; cases e1; cases e2; exact ⟨kvs, k, q⟩, by rintro ⟨kvs, k, q⟩; exact ⟨l, b, kvs, k, v, rfl, rfl, q⟩⟩
noncomputable def tDispT1 (tk tv : TE) : TE := fun σ H Q => ∀ p, H p = none → tk σ (upd H p (.dT [])) fun x H1 => tv σ H1 fun y H2 => H2 p = some (.dT []) ∧ ∃ (b : Addr) (k : List Key), x = .ref b ∧ H2 b = some (.tup (k.map kV)) ∧ Q (.ref p) (upd H2 p (.dT [(k, y)]))
theorem pe_dispT1 {pos : Pos} {ke ve : Expr} {tk tv : TE} (hu : X.A.units + 1 < cLine) (hk : PE X ke tk) (hv : PE X ve tv) : PE X (.Dict [some ke] [ve] pos) (tDispT1 tk tv) := by
  intro pins s σ H Q I q
  have hn := I.hok.fresh (Nat.le_refl s.heap.objs.size)
  have I1 := I.laid (a := s.heap.objs.size) (o := .dT []) (h' := s.heap.push { cls := .type "dict", data := .dict #[] }) (t' := s.toks) (fun _ _ q => Heap.get?_push_of_some _ q) (Nat.le_refl _) (dt_empty s.heap I.big)
  refine wpAny_Dict_any rfl rfl (by simp) (by simp) ?_
  refine pairTrees_cons_walk (thn (hk pins _ σ _ _ I1 (q _ hn)) fun u s1 ⟨x, H1, J1, rx, q1⟩ => thn (hv pins s1 σ H1 _ J1 q1) fun w2 s2 ⟨y, H2, J2, ry, q2⟩ => pairTrees_nil_walk ?_)
  obtain ⟨e, b, k, ex, hb, q3⟩ := q2
  subst ex
  cases rx
  unfold storeAll
  rw [List.forIn_cons]
  obtain ⟨z, hd, xs, rel, dd⟩ := dt_of J2.hok e
  cases rel
  refine wpAny_bind (wpAny_bind (wpAny_dictSet_heap (hsz := Nat.zero_le _) (show X.A.units < cLine by omega) (key_of J2.hok hb) dd fun h' dd' hs => wpAny_pure ?_))
  dsimp only
  rw [List.forIn_nil]
  refine wpAny_pure ⟨.ref s.heap.objs.size, _, ?_, rfl, q3⟩
  obtain ⟨q, es, ep, hq, h2, h3, h4, _, h5⟩ := dd'
  refine d_write J2 (by rw [e]; exact True.intro) hs ⟨q, hq⟩ ⟨by show 1 ≤ sizeLine; decide, hd, _, .cons ⟨rfl, ?_, ry⟩ .nil, q, es, ep, hq, h2, h3, h4, h5⟩
  show upd H2 s.heap.objs.size _ b = _
  rw [upd_ne (ne_of hb e (fun z => nomatch z))]
  exact hb
theorem xpe_dispT1 {pos : Pos} {ke ve : Expr} {tk tv : TE} (hu : X.A.units + 1 < cLine) (hk : XE X ke tk) (hv : XE X ve tv) : XE X (.Dict [some ke] [ve] pos) (tDispT1 tk tv) := ⟨pe_dispT1 hu hk.h hv.h⟩
theorem r_dispT1 {tk tv : TE} {σ : St} {H : Hp} {Q : VK} : tDispT1 tk tv σ H Q = ∀ p, H p = none → tk σ (upd H p (.dT [])) fun x H1 => tv σ H1 fun y H2 => H2 p = some (.dT []) ∧ ∃ (b : Addr) (k : List Key), x = .ref b ∧ H2 b = some (.tup (k.map kV)) ∧ Q (.ref p) (upd H2 p (.dT [(k, y)])) := rfl
theorem xpe_dnewT {pos : Pos} : XE X (.Dict [] [] pos) tDNewT := ⟨pe_dnewT⟩
theorem r_dnewT {σ : St} {H : Hp} {Q : VK} : tDNewT σ H Q = ∀ p, H p = none → Q (.ref p) (upd H p (.dT [])) := rfl
end
end L2
namespace L2
open PySem PySem.Spec PyProof.Rows
section
variable {prog : Program} {w : World} {A : Around} {E : Value → Shared → Prop} {s : Shared}
theorem collect_rng {Q : List Value → Shared → Prop} {r : Addr} {a b c : Int} {t u v : Tok} {n : Nat} (hh : A.handled = none) (hr : IsRange s.heap r a b c t u v) (hsmall : Builtin.Range.small a b c = true) (hn : Builtin.Range.rangeSize a b c = n) (hlen : n ≤ 2 ^ 24)
    (hQ : ∀ h' tk acc, (∀ b o, s.heap.get? b = some o → h'.get? b = some o) → ItemsOf (fun i v => ∃ t, v = .int (a + i * c) t) acc n → Q acc.toList { s with heap := h', toks := tk }) : wpAny (model prog w) A (collect (.ref r)) Q E s := by
  unfold collect
  refine wpAny_bind (wpAny_runValue (codeAny_builtin F.entry_proto_collect ?_))
  rw [Around.under_plainId F.plain_proto_collect _]
  show wpAny _ A.in1 (newList [] >>= fun l => again (.builtin "list.__iadd__" ⟨[l, .ref r], []⟩)) _ _ s
  refine wpAny_bind (wpAny_newObj_type ?_)
  refine wpAny_pure ⟨plainId_quiet F.plain_list_iadd _, codeAny_builtin F.entry_list_iadd ?_⟩
  rw [Around.under_plainId F.plain_list_iadd _]
  show wpAny _ A.in1 (Builtin.List.listExtendWith (.ref s.heap.objs.size) (.ref r) (.ref s.heap.objs.size)) _ _ _
  have hS : (s.heap.push { cls := .type "list", data := .seq ([] : List Value).toArray }).get? s.heap.objs.size = some { cls := .type "list", data := .seq #[] 0 } := Heap.get?_push_size _ rfl
  refine wpAny_mono (wpAny_extend_range (A := A) (s := { s with heap := s.heap.push { cls := .type "list", data := .seq ([] : List Value).toArray } }) (R := fun r' s' => ∃ h' tk acc c', r' = .ok (.ret (.ref s.heap.objs.size)) ∧ s' = { s with heap := h', toks := tk } ∧ (∀ b o, s.heap.get? b = some o → h'.get? b = some o) ∧
      h'.get? s.heap.objs.size = some { cls := .type "list", dict := none, data := .seq acc c', slots := #[] } ∧ ItemsOf (fun i v => ∃ t, v = .int (a + i * c) t) acc n) hh (Heap.get?_push_of_some _ hr) hsmall hn hlen _ _ _ hS
    fun h' tk acc c' hk hS' hacc => ⟨h', tk, acc, c', rfl, rfl, fun b o e => hk b o (Nat.ne_of_lt (Heap.lt_size e)) (Heap.get?_push_of_some _ e), hS', hacc⟩) (fun fin s' h => ?_) (fun e s' h => ?_)
  · have fin' : ∀ s' r', (∃ h' tk acc c', r' = (Except.ok (.ret (.ref s.heap.objs.size)) : Result) ∧ s' = { s with heap := h', toks := tk } ∧ (∀ b o, s.heap.get? b = some o → h'.get? b = some o) ∧
      h'.get? s.heap.objs.size = some { cls := .type "list", dict := none, data := .seq acc c', slots := #[] } ∧ ItemsOf (fun i v => ∃ t, v = .int (a + i * c) t) acc n) → wpAny (model prog w) A (match Value.ref s.heap.objs.size with
      | Value.ref a => do
        match (← load a).data with
          | Data.seq xs _ => pure xs.toList
          | _ => unsupported "internal:collect"
      | _ => unsupported "internal:collect") Q E s' := by
      rintro s' r' ⟨h', tk, acc, c', _, rfl, hk, hS', hacc⟩
      show wpAny _ A (load s.heap.objs.size >>= _) _ _ _
      refine wpAny_bind (wpAny_load hS' ?_)
      exact wpAny_pure (hQ h' tk acc hk hacc)
    cases fin with
    | done f =>
      obtain ⟨h', tk, acc, c', e, r⟩ := id h
      cases e
      exact fin' _ _ h
    | again c' => exact ⟨h.1, codeAny_mono h.2 fun r s'' hr => by
        obtain ⟨h', tk, acc, c', e, r⟩ := id hr
        subst e
        exact fin' _ _ hr⟩
  · obtain ⟨_, _, _, _, e, _⟩ := h
    cases e
theorem meets_tuple_rng (r : Addr) (n : Nat) (hlen : n ≤ 1000) :
    Meets (Builtin.«tuple.__new__» ⟨[.type "tuple", .ref r], []⟩)
      (fun A R s => A.handled = none ∧ (∃ t u v, IsRange s.heap r 0 n 1 t u v) ∧ ∀ (h' : Heap) (tk : Nat) (acc : Array Value), (∀ b o, s.heap.get? b = some o → h'.get? b = some o) → ItemsOf (fun i v => ∃ t, v = .int (0 + i * 1) t) acc n →
        R (.ok (.ret (.ref h'.objs.size))) { s with heap := h'.push { cls := .type "tuple", data := .seq acc }, toks := tk }) :=
  .of_wp fun prog w A R s h => by
    obtain ⟨hh, ⟨t, u, v, hr⟩, h⟩ := h
    have hsub := sub_tuple_self
    have hinit := init_tuple_lookup
    have hmh := madeHere_tuple
    have hT : s.TypeIs (.ref r) "range" := ⟨_, hr, rfl⟩
    have hh1 : A.in1.handled = none := hh
    have hsm : Builtin.Range.small 0 n 1 = true := small_one (by omega) (by omega) (by omega) (by omega)
    have hsz : Builtin.Range.rangeSize 0 n 1 = n := by rw [rangeSize_one]; split <;> omega
    wp_walk using AutoSeq1.wpAny_loadPart' hr, wpAny_typeOf hT, collect_rng hh1 hr hsm hsz (Nat.le_trans hlen (by decide))
    intro h' tk acc hk hacc
    show wpAny _ _ (Builtin.Tuple.tupleExact acc.toList.toArray >>= fun v => ret v) _ _ _
    unfold Builtin.Tuple.tupleExact
    refine wpAny_bind (wpAny_newObj_type ?_ (show acc.toList.toArray.size ≤ sizeLine by simp only [Array.toArray_toList]; rw [hacc.1, sizeLine_eq]; omega))
    refine wpAny_pure ⟨_, rfl, ?_⟩
    have e : acc.toList.toArray = acc := by simp
    rw [e]
    exact h h' tk acc hk hacc
theorem call_tuple_rng {r : Addr} {n : Nat} {t u v : Tok} {Q : Value → Shared → Prop} (hh : A.handled = none) (hlen : n ≤ 1000) (hr : IsRange s.heap r 0 n 1 t u v)
    (h : ∀ (h' : Heap) (tk : Nat) (acc : Array Value), (∀ b o, s.heap.get? b = some o → h'.get? b = some o) → ItemsOf (fun i v => ∃ t, v = .int (0 + i * 1) t) acc n → Q (.ref h'.objs.size) { s with heap := h'.push { cls := .type "tuple", data := .seq acc }, toks := tk }) :
    wpAny (model prog w) A (call (.type "tuple") [.ref r]) Q E s :=
  callType_new F.called_tuple (by decide) (F.typeCall_tuple_1 _) (F.newCall_tuple_1 _) (fun obj => F.args_object_init_2 obj _) F.entry_tuple_new
    (meets_tuple_rng r n hlen) ⟨hh, ⟨t, u, v, hr⟩, fun h' tk acc hk hacc => ⟨⟨_, Heap.get?_push_size _ rfl, rfl⟩, h h' tk acc hk hacc⟩⟩
end
section
variable {X : Cx}
noncomputable def tTupRng (ta : TA) : TE := fun σ H Q => ta σ H fun vs H1 => ∃ n : Nat, vs = [.int n] ∧ n ≤ 1000 ∧ ∀ l, H1 l = none → Q (.ref l) (upd H1 l (.tup ((List.range n).map fun i : Nat => V.int i)))
theorem pe_tupRng {a : Expr} {ta : TA} {p p2 pos pos2 : Pos} (hc : X.calm = true) (hm : X.mg "tuple" = none) (hm2 : X.mg "range" = none) (ha : PA X [a] ta) (hg : Gl X "tuple") (hg2 : Gl X "range") (hs : starEach [a] X.env = [(false, eval a X.env)] := by rfl)
    (hs2 : starEach [.Call (.Name "range" p2) [a] [] pos2] X.env = [(false, eval (.Call (.Name "range" p2) [a] [] pos2) X.env)] := by rfl) :
    PE X (.Call (.Name "tuple" p) [.Call (.Name "range" p2) [a] [] pos2] [] pos) (tTupRng ta) := by
  intro pins s σ H Q I h
  refine Call_ (ld_blt I hg hm boot_tuple (PyProof.Rows.callWith_type1 ?_ hs2 rfl))
  rw [hs2]
  show wpAny _ _ (spliced ((false, eval (.Call (.Name "range" p2) [a] [] pos2) X.env) :: [])) _ _ s
  refine Calls.spliced_cons (Call_ (ld_blt I hg2 hm2 boot_range (PyProof.Rows.callWith_type1 (thn (ha pos2 pins s σ H _ I h) fun us s1 hhx => ?_) hs rfl)))
  obtain ⟨vs, H1, I1, r1, q1⟩ := hhx
  obtain ⟨n, e, hn, q⟩ := q1
  subst e
  cases r1 with
  | cons r rr =>
    cases rr
    obtain ⟨t, rfl⟩ := r
    refine call_range_1 (Calls.spliced_nil ?_)
    refine call_tuple_rng (n := n) (I.ok.hd hc) hn (IsRange.new ..) fun h' tk acc hk hacc => ?_
    have kp : ∀ b u, s1.heap.get? b = some u → h'.get? b = some u := fun b u e => hk b u (Heap.get?_push_of_some _ e)
    have I2 : Inv X pins σ H1 { s1 with heap := h', toks := tk } := I1.kept kp
    refine ⟨.ref h'.objs.size, _, I2.laid (t' := tk) (fun b u e => Heap.get?_push_of_some _ e) (Nat.le_refl _) (show ObjOk X.prog X.w _ _ _ (.tup ((List.range n).map fun i : Nat => V.int i)) from ⟨by rw [List.length_map, List.length_range, sizeLine_eq]; omega, acc.toList, items_rng hacc, ?_⟩), rfl, q _ (I2.hok.fresh (Nat.le_refl _))⟩
    have e := IsTup.new h' acc
    simpa using e
theorem xpe_tupRng {a : Expr} {ta : TA} {p p2 pos pos2 : Pos} (hc : X.calm = true) (hm : X.mg "tuple" = none) (hm2 : X.mg "range" = none) (ha : XA X [a] ta) (hg : Gl X "tuple") (hg2 : Gl X "range") (hs : starEach [a] X.env = [(false, eval a X.env)] := by rfl)
    (hs2 : starEach [.Call (.Name "range" p2) [a] [] pos2] X.env = [(false, eval (.Call (.Name "range" p2) [a] [] pos2) X.env)] := by rfl) :
    XE X (.Call (.Name "tuple" p) [.Call (.Name "range" p2) [a] [] pos2] [] pos) (tTupRng ta) := ⟨pe_tupRng hc hm hm2 ha.h hg hg2 hs hs2⟩
theorem r_tupRng {ta : TA} {σ : St} {H : Hp} {Q : VK} : tTupRng ta σ H Q = ta σ H fun vs H1 => ∃ n : Nat, vs = [.int n] ∧ n ≤ 1000 ∧ ∀ l, H1 l = none → Q (.ref l) (upd H1 l (.tup ((List.range n).map fun i : Nat => V.int i))) := rfl
end
section
variable {prog : Program} {w : World} {A : Around} {E : Value → Shared → Prop} {s : Shared} {l I S : Addr} {vs : List Value} {ln : Nat → Nat} {dv : Value} {R : Result → Shared → Prop}
end
section
variable {X : Cx}
end
end L2
namespace GD
section
variable {G : Nat → Nat → Option Int} {so : Nat → Nat} {U : Nat → Int} {n : Nat}
structure Beat (G : Nat → Nat → Option Int) (so : Nat → Nat) (U : Nat → Int) (n : Nat) (D : Nat → Bool) (B : List Nat) : Prop where
  sorted : B.Pairwise (· < ·)
  lt : ∀ p ∈ B, p < n
  lean : ∀ p ∈ B, ∀ j, j < p → ∀ l, G j p = some l → D j = true ∨ (l = 0 ∧ j ∈ B)
  load : ∀ s, s < 3 → (cntB so B s : Int) ≤ U s
inductive Reach (G : Nat → Nat → Option Int) (so : Nat → Nat) (U : Nat → Int) (n : Nat) : Nat → (Nat → Bool) → Prop
  | zero : Reach G so U n 0 (fun _ => false)
  | succ {i : Nat} {D : Nat → Bool} {B : List Nat} : Reach G so U n i D → Beat G so U n D B → Reach G so U n (i + 1) (fun p => D p || decide (p ∈ B))
noncomputable def keepF (G : Nat → Nat → Option Int) (so : Nat → Nat) (U : Nat → Int) (dn B : List Nat) (b : List Nat) (p : Nat) : List Nat :=
  if fitsB G so U dn b p = true ∧ (p ∈ B ∨ ¬ so p < 3 ∨ (cntB so b (so p) : Int) + (cntB so (B.filter fun q => decide (p ≤ q)) (so p) : Int) < U (so p)) then b ++ [p] else b
theorem keep_in {dn B : List Nat} : ∀ (ms : List Nat) (b : List Nat) (bts : List (List Nat)), b ∈ bts → ms.foldl (keepF G so U dn B) b ∈ ms.foldl (grownF G so U dn) bts
  | [], _, _, h => h
  | p :: ms, b, bts, h => by
    refine keep_in ms _ _ (List.mem_flatMap.mpr ⟨b, h, ?_⟩)
    by_cases hf : fitsB G so U dn b p = true
    · by_cases hc : p ∈ B ∨ ¬ so p < 3 ∨ (cntB so b (so p) : Int) + (cntB so (B.filter fun q => decide (p ≤ q)) (so p) : Int) < U (so p)
      · have e : keepF G so U dn B b p = b ++ [p] := if_pos ⟨hf, hc⟩
        rw [e]
        unfold growB
        rw [if_pos hf]; simp
      · have hs : so p < 3 := by
          apply Classical.byContradiction
          intro z
          exact hc (.inr (.inl z))
        have e : keepF G so U dn B b p = b := if_neg (fun z => hc z.2)
        rw [e]
        unfold growB
        rw [if_pos (show fitsB G so U dn b p = false ∨ so p < 3 from .inr hs)]
        simp
    · have hf' : fitsB G so U dn b p = false := by simpa using hf
      have e : keepF G so U dn B b p = b := if_neg (fun z => hf z.1)
      rw [e]
      unfold growB
      rw [if_pos (show fitsB G so U dn b p = false ∨ so p < 3 from .inl hf')]
      simp
theorem keep_more {dn B : List Nat} : ∀ (ms : List Nat) (b : List Nat), ∃ e, ms.foldl (keepF G so U dn B) b = b ++ e ∧ ∀ q ∈ e, q ∈ ms
  | [], b => ⟨[], by simp, fun q hq => by cases hq⟩
  | p :: ms, b => by
    obtain ⟨e, h1, h2⟩ := keep_more ms (keepF G so U dn B b p)
    rw [List.foldl_cons, h1]
    unfold keepF
    split
    · exact ⟨p :: e, by simp, fun q hq => by rcases List.mem_cons.mp hq with rfl | hq <;> simp_all⟩
    · exact ⟨e, rfl, fun q hq => List.mem_cons_of_mem _ (h2 q hq)⟩
structure Kept (G : Nat → Nat → Option Int) (so : Nat → Nat) (U : Nat → Int) (dn B pre b : List Nat) : Prop where
  has : ∀ p ∈ B, p ∈ pre → p ∈ b
  sub : ∀ p ∈ b, p ∈ pre
  room : ∀ s, s < 3 → (cntB so b s : Int) + (cntB so (B.filter fun q => !decide (q ∈ pre)) s : Int) ≤ U s
theorem cnt_split {B pre : List Nat} {p s : Nat} (hB : B.Nodup) (hp : p ∉ pre) : cntB so (B.filter fun q => !decide (q ∈ pre)) s = cntB so (B.filter fun q => !decide (q ∈ pre ++ [p])) s + (if p ∈ B ∧ so p = s then 1 else 0) := by
  induction B with
  | nil => simp [cntB]
  | cons x B ih =>
    rw [List.nodup_cons] at hB
    have ih := ih hB.2
    by_cases hx : x ∈ pre
    · rw [List.filter_cons_of_neg (by simp [hx]), List.filter_cons_of_neg (by simp [hx]), ih]
      have : x ≠ p := fun e => hp (e ▸ hx)
      simp [this.symm]
    · by_cases e : x = p
      · subst e
        rw [List.filter_cons_of_pos (by simp [hx]), List.filter_cons_of_neg (by simp)]
        unfold cntB at ih ⊢
        rw [List.countP_cons, ih]
        simp [hB.1]
      · rw [List.filter_cons_of_pos (by simp [hx]), List.filter_cons_of_pos (by simp [hx, e])]
        unfold cntB at ih ⊢
        rw [List.countP_cons, List.countP_cons, ih]
        have : p ≠ x := fun z => e z.symm
        simp only [List.mem_cons, this, false_or]
        omega
theorem kept_step {dn B pre b : List Nat} {p : Nat} (hB : B.Nodup) (hlean : ∀ p ∈ B, ∀ j, j < p → ∀ l, G j p = some l → j ∈ dn ∨ (l = 0 ∧ j ∈ B)) (hp : p ∉ pre) (hlt : ∀ q ∈ B, q < p → q ∈ pre) (hge : ∀ q ∈ pre, q < p) (h : Kept G so U dn B pre b) : Kept G so U dn B (pre ++ [p]) (keepF G so U dn B b p) := by
  have ef : (B.filter fun q => decide (p ≤ q)) = B.filter fun q => !decide (q ∈ pre) := by
    apply List.filter_congr
    intro q hq
    by_cases e : q ∈ pre
    · have := hge q e
      simp [e]; omega
    · have : p ≤ q := by
        apply Classical.byContradiction
        intro z
        exact e (hlt q hq (by omega))
      simp [e, this]
  have fits_B : p ∈ B → fitsB G so U dn b p = true := fun hpB => by
    refine fits_iff.mpr ⟨fun hs hc => ?_, fun j hj => ?_⟩
    · have r := h.room _ hs
      rw [cnt_split (so := so) (s := so p) hB hp, if_pos ⟨hpB, rfl⟩] at r
      omega
    · unfold aheadB
      cases hg : G j p with
      | none => rfl
      | some l =>
        rcases hlean p hpB j hj l hg with z | ⟨z1, z2⟩
        · simp [z]
        · have := h.has j z2 (hlt j z2 hj)
          simp [z1, this]
  unfold keepF
  rw [ef]
  split
  · rename_i hc
    refine ⟨fun q hq hm => ?_, fun q hq => ?_, fun s hs => ?_⟩
    · rcases List.mem_append.mp hm with hm | hm
      · exact List.mem_append_left _ (h.has q hq hm)
      · exact List.mem_append_right _ hm
    · rcases List.mem_append.mp hq with hq | hq
      · exact List.mem_append_left _ (h.sub q hq)
      · exact List.mem_append_right _ hq
    · have r := h.room s hs
      rw [cnt_split (so := so) (s := s) hB hp] at r
      rw [cntB_snoc]
      by_cases hpB : p ∈ B
      · by_cases e : so p = s
        · rw [if_pos ⟨hpB, e⟩] at r; rw [if_pos e]; omega
        · rw [if_neg (fun z => e z.2)] at r; rw [if_neg e]; omega
      · rw [if_neg (fun z => hpB z.1)] at r
        by_cases e : so p = s
        · rw [if_pos e]
          rcases hc.2 with z | z | z
          · exact absurd z hpB
          · omega
          · rw [cnt_split (so := so) (s := so p) hB hp, if_neg (fun z => hpB z.1), e] at z
            omega
        · rw [if_neg e]; omega
  · rename_i hc
    have hpB : p ∉ B := fun z => hc ⟨fits_B z, .inl z⟩
    refine ⟨fun q hq hm => ?_, fun q hq => List.mem_append_left _ (h.sub q hq), fun s hs => ?_⟩
    · rcases List.mem_append.mp hm with hm | hm
      · exact h.has q hq hm
      · rw [List.mem_singleton.mp hm] at hq; exact absurd hq hpB
    · have r := h.room s hs
      rw [cnt_split (so := so) (s := s) hB hp, if_neg (fun z => hpB z.1)] at r
      omega
theorem kept_all {dn B : List Nat} (hB : B.Nodup) (hlean : ∀ p ∈ B, ∀ j, j < p → ∀ l, G j p = some l → j ∈ dn ∨ (l = 0 ∧ j ∈ B)) : ∀ (post pre b : List Nat), (pre ++ post).Pairwise (· < ·) → (∀ q ∈ B, q ∈ pre ++ post) → Kept G so U dn B pre b → Kept G so U dn B (pre ++ post) (post.foldl (keepF G so U dn B) b)
  | [], pre, b, _, _, h => by rw [List.append_nil]; exact h
  | p :: post, pre, b, hs, hm, h => by
    have hs2 := hs
    rw [List.pairwise_append, List.pairwise_cons] at hs2
    have z := kept_all hB hlean post (pre ++ [p]) (keepF G so U dn B b p) (by rw [List.append_assoc]; exact hs) (fun q hq => by rw [List.append_assoc]; exact hm q hq) (kept_step hB hlean (fun hp => by have := hs2.2.2 p hp p (by simp); omega) (fun q hq hlt => by
      rcases List.mem_append.mp (hm q hq) with z | z
      · exact z
      · rcases List.mem_cons.mp z with rfl | z
        · omega
        · have := hs2.2.1.1 q z; omega) (fun q hq => hs2.2.2 q hq p (by simp)) h)
    rwa [List.append_assoc] at z
theorem full_above (hU : ∀ s, s < 3 → 0 < U s) {dn B : List Nat} (hB : B.Nodup) (hm : ∀ p ∈ B, p ∈ missF n dn) (hlean : ∀ p ∈ B, ∀ j, j < p → ∀ l, G j p = some l → j ∈ dn ∨ (l = 0 ∧ j ∈ B)) (hload : ∀ s, s < 3 → (cntB so B s : Int) ≤ U s) :
    ∃ F ∈ fullF G so U n dn, ∀ p ∈ B, p ∈ F := by
  have hin := keep_in (G := G) (so := so) (U := U) (dn := dn) (B := B) (missF n dn) [] [[]] (by simp)
  have srt := miss_sorted (n := n) (dn := dn)
  have K0 : Kept G so U dn B [] [] := by
    refine ⟨fun p _ h => (by cases h), fun p h => (by cases h), fun s hs => ?_⟩
    have e : (B.filter fun q => !decide (q ∈ ([] : List Nat))) = B := by simp
    rw [e]
    have := hload s hs
    simp [cntB] at this ⊢
    exact this
  have KA := kept_all (G := G) (so := so) (U := U) hB hlean (missF n dn) [] [] (by simpa using srt) (by simpa using hm) K0
  rw [List.nil_append] at KA
  refine ⟨_, List.mem_filter.mpr ⟨hin, ?_⟩, fun p hp => KA.has p hp (hm p hp)⟩
  simp only [Bool.not_eq_true', roomB, List.any_eq_false, Bool.and_eq_true, not_and, Bool.not_eq_true', decide_eq_false_iff_not]
  intro p hp hb hf
  obtain ⟨pre, post, e⟩ := List.append_of_mem hp
  have hfin := fine_grown (G := G) (so := so) (U := U) (dn := dn) (missF n dn) [] [[]] (fun c hc => by
    rw [List.mem_singleton.mp hc]
    exact ⟨List.Sublist.refl _, fun p hp => (by cases hp), fun s hs => by have := hU s hs; simp [cntB]; omega⟩) _ hin
  have srt' := srt
  rw [e] at srt'
  have s3 := List.pairwise_append.mp srt'
  rw [List.pairwise_cons] at s3
  have hall : List.foldl (keepF G so U dn B) [] (missF n dn) = List.foldl (keepF G so U dn B) (keepF G so U dn B (List.foldl (keepF G so U dn B) [] pre) p) post := by rw [e, List.foldl_append, List.foldl_cons]
  rw [hall] at hb hf hfin KA
  obtain ⟨b0, hb0⟩ : ∃ b0, b0 = List.foldl (keepF G so U dn B) [] pre := ⟨_, rfl⟩
  have b0sub : ∀ q ∈ b0, q ∈ pre := by
    obtain ⟨e1, h1, h2⟩ := keep_more (G := G) (so := so) (U := U) (dn := dn) (B := B) pre []
    intro q hq
    rw [hb0, h1, List.nil_append] at hq
    exact h2 q hq
  rw [← hb0] at hb hf hfin KA
  obtain ⟨e2, h1, h2⟩ := keep_more (G := G) (so := so) (U := U) (dn := dn) (B := B) post (keepF G so U dn B b0 p)
  rw [h1] at hb hf hfin KA
  by_cases hc : fitsB G so U dn b0 p = true ∧ (p ∈ B ∨ ¬ so p < 3 ∨ (cntB so b0 (so p) : Int) + (cntB so (B.filter fun q => decide (p ≤ q)) (so p) : Int) < U (so p))
  · have ek : keepF G so U dn B b0 p = b0 ++ [p] := if_pos hc
    rw [ek] at hb
    exact hb (by simp)
  · have ek : keepF G so U dn B b0 p = b0 := if_neg hc
    rw [ek] at hb hf hfin KA
    obtain ⟨f1, f2⟩ := fits_iff.mp hf
    have hle := cntB_le (so := so) (b := b0) (e := e2) (s := so p)
    have hf0 : fitsB G so U dn b0 p = true := by
      refine fits_iff.mpr ⟨fun hs hcc => ?_, fun j hj => ?_⟩
      · have a := hfin.load _ hs
        exact f1 hs (by omega)
      · have z := f2 j hj
        unfold aheadB at z ⊢
        cases hg : G j p with
        | none => rfl
        | some l =>
          rw [hg] at z
          simp only [Bool.or_eq_true, Bool.and_eq_true, decide_eq_true_eq, List.mem_append] at z ⊢
          rcases z with z | ⟨z1, z2 | z2⟩
          · exact .inl z
          · exact .inr ⟨z1, z2⟩
          · have := s3.2.1.1 j (h2 j z2)
            omega
    have hno : ¬ (p ∈ B ∨ ¬ so p < 3 ∨ (cntB so b0 (so p) : Int) + (cntB so (B.filter fun q => decide (p ≤ q)) (so p) : Int) < U (so p)) := fun z => hc ⟨hf0, z⟩
    have hs : so p < 3 := by
      apply Classical.byContradiction
      intro z
      exact hno (.inr (.inl z))
    have hpB : p ∉ B := fun z => hno (.inl z)
    have hge : ¬ (cntB so b0 (so p) : Int) + (cntB so (B.filter fun q => decide (p ≤ q)) (so p) : Int) < U (so p) := fun z => hno (.inr (.inr z))
    have hcnt : cntB so (B.filter fun q => decide (p ≤ q)) (so p) ≤ cntB so e2 (so p) := by
      unfold cntB
      rw [List.countP_eq_length_filter, List.countP_eq_length_filter]
      refine nodup_len ((hB.filter _).filter _) fun q hq => ?_
      obtain ⟨q1, q2⟩ := List.mem_filter.mp hq
      obtain ⟨q3, q4⟩ := List.mem_filter.mp q1
      refine List.mem_filter.mpr ⟨?_, q2⟩
      have hq5 : p ≤ q := of_decide_eq_true q4
      rcases List.mem_append.mp (KA.has q q3 (hm q q3)) with z | z
      · have := s3.2.2 q (b0sub q z) p (by simp)
        omega
      · exact z
    have hsum : cntB so (b0 ++ e2) (so p) = cntB so b0 (so p) + cntB so e2 (so p) := by unfold cntB; rw [List.countP_append]
    have a := hfin.load _ hs
    exact f1 hs (by omega)
theorem key_sub {dn b : List Nat} {p : Nat} (h : p < n) (hp : p ∈ dn ∨ p ∈ b) : p ∈ keyF n dn b := mem_key.mpr ⟨h, hp⟩
theorem reach_ways (hU : ∀ s, s < 3 → 0 < U s) {i : Nat} {D : Nat → Bool} (h : Reach G so U n i D) : ∃ k ∈ (waysF G so U n i).map (·.1), ∀ p, D p = true → p ∈ k := by
  induction h with
  | zero => exact ⟨[], by simp [waysF], fun p hp => by cases hp⟩
  | @succ i D B hD hB ih =>
    obtain ⟨dn, hdn, hsub⟩ := ih
    obtain ⟨w, hw, rfl⟩ := List.mem_map.mp hdn
    have nB : B.Nodup := hB.sorted.imp fun h => Nat.ne_of_lt h
    have mB' : ∀ p, p ∈ B.filter (fun p => !decide (p ∈ w.1)) ↔ p ∈ B ∧ p ∉ w.1 := fun p => by rw [List.mem_filter]; simp
    obtain ⟨F, hF, hFB⟩ := full_above (G := G) (so := so) (n := n) hU (dn := w.1) (B := B.filter fun p => !decide (p ∈ w.1)) (nB.filter _) (fun p hp => miss_iff.mpr ⟨hB.lt p ((mB' p).mp hp).1, ((mB' p).mp hp).2⟩) (fun p hp j hj l hl => by
      rcases hB.lean p ((mB' p).mp hp).1 j hj l hl with z | ⟨z1, z2⟩
      · exact .inl (hsub j z)
      · by_cases e : j ∈ w.1
        · exact .inl e
        · exact .inr ⟨z1, (mB' j).mpr ⟨z2, e⟩⟩) (fun s hs => by
      have a := hB.load s hs
      have b : cntB so (B.filter fun p => !decide (p ∈ w.1)) s ≤ cntB so B s := List.Sublist.countP_le List.filter_sublist
      omega)
    refine ⟨keyF n w.1 F, step_has hF _ _ hw, fun p hp => ?_⟩
    simp only [Bool.or_eq_true, decide_eq_true_eq] at hp
    have hcan := ((ways_ok i).lay w hw).1.can
    by_cases e : p ∈ w.1
    · exact key_sub (hcan.lt e) (.inl e)
    · rcases hp with hp | hp
      · exact absurd (hsub p hp) e
      · exact key_sub (hB.lt p hp) (.inr (hFB p ((mB' p).mpr ⟨hp, e⟩)))
theorem reach_not (hU : ∀ s, s < 3 → 0 < U s) {i : Nat} {D : Nat → Bool} (h : Reach G so U n i D) (hno : List.range n ∉ (waysF G so U n i).map (·.1)) : ∃ p, p < n ∧ D p = false := by
  obtain ⟨k, hk, hsub⟩ := reach_ways hU h
  apply Classical.byContradiction
  intro hc
  apply hno
  obtain ⟨w, hw, rfl⟩ := List.mem_map.mp hk
  have hcan := ((ways_ok i).lay w hw).1.can
  have e : w.1 = List.range n := sorted_ext hcan.sorted List.pairwise_lt_range fun p => ⟨fun hp => List.mem_range.mpr (hcan.lt hp), fun hp => by
    apply hsub
    cases hd : D p with
    | true => rfl
    | false => exact absurd ⟨p, List.mem_range.mp hp, hd⟩ hc⟩
  rw [← e]
  exact hk
end
end GD
namespace L2
open PySem PySem.Spec PyProof.Rows
theorem vals_by : ∀ {xs : List V} {us : List Value}, us.length = xs.length → (∀ (j : Nat) (v : Value), us[j]? = some v → ∃ x, xs[j]? = some x ∧ RelV x v) → Vals xs us
  | [], [], _, _ => .nil
  | [], _ :: _, h, _ => by simp at h
  | _ :: _, [], h, _ => by simp at h
  | x :: xs, u :: us, h, hv => by
    obtain ⟨y, e, r⟩ := hv 0 u rfl
    cases e
    refine .cons r (vals_by (by simpa using h) fun j v hj => ?_)
    obtain ⟨y, e, r⟩ := hv (j + 1) v (by simpa using hj)
    exact ⟨y, by simpa using e, r⟩
theorem kV_of {P : Program} {w : World} {k : Key} {v : Value} (h : (mixKind P w).is k v = true) : RelV (kV k) v := by
  cases k with
  | inl i => exact Value.isInt_shape h
  | inr x => exact Value.isStrOf_shape h
section
variable {X : Cx}
theorem call_listD (hc : X.calm = true) : CallR X (.type "list") (fun xs H Q => ∃ (a : Addr) (kvs : List (Key × V)), xs = [.ref a] ∧ H a = some (.dK kvs) ∧ ∀ l, H l = none → Q (.ref l) (upd H l (.lst (kvs.map fun kv => kV kv.1)))) := by
  intro pins s σ H xs us Q I r h
  obtain ⟨a, kvs, rfl, e, q⟩ := h
  obtain ⟨u, rfl, ru⟩ := vals1 r
  cases ru
  obtain ⟨z, hd, ws, rel, dd⟩ := dk_of I.hok e
  obtain ⟨ep, hat⟩ := dd.dictAt
  have hl := rel.length
  refine PySem.W.kdl_call (PySem.W.kdl_dict (knd := mixKind X.prog X.w) (kvs := ws) (ep := ep) hd) (I.ok.hd hc) hat (by rw [← hl]; exact z) fun h' tk acc c' hk hS hacc => ?_
  have hv : Vals (kvs.map fun kv => kV kv.1) acc.toList := by
    refine vals_by (by rw [List.length_map, Array.length_toList, hacc.1]; exact hl.symm) fun j v hj => ?_
    obtain ⟨k, x, h1, h2⟩ := hacc.2 j v (by rw [← Array.getElem?_toList]; exact hj)
    have hj' := (List.getElem?_eq_some_iff.mp h1).1
    obtain ⟨p, hp⟩ : ∃ p, kvs[j]? = some p := ⟨_, List.getElem?_eq_getElem (by omega)⟩
    obtain ⟨q2, hq2, e1, _⟩ := Paired.at rel hp
    rw [h1] at hq2
    cases hq2
    refine ⟨kV p.1, by rw [List.getElem?_map, hp]; rfl, ?_⟩
    rw [e1]
    exact kV_of h2
  exact ⟨.ref s.heap.objs.size, _, I.laid (t' := tk) hk (Nat.le_refl _) (show ObjOk X.prog X.w _ h' _ (.lst (kvs.map fun kv => kV kv.1)) from ⟨by rw [List.length_map]; exact z, _, c', hv, hS⟩), rfl, q _ (I.hok.fresh (Nat.le_refl _))⟩
end
end L2
set_option maxHeartbeats 4000000
local macro_rules | `(tactic| simp_arith [$ts,*]) => `(tactic| simp only [L2.r_v0, L2.r_g0, L2.r_v1, L2.r_g1, L2.r_v2, L2.r_g2, L2.r_v3, L2.r_g3, L2.r_v4, L2.r_g4, L2.r_v5, L2.r_g5, L2.r_v6, L2.r_g6, L2.r_v7, L2.r_g7, L2.r_v8, L2.r_g8, L2.r_v9, L2.r_g9, L2.r_v10, L2.r_g10, L2.r_v11, L2.r_g11, L2.r_v12, L2.r_g12, L2.r_g13, L2.r_g14, L2.r_g15, L2.r_g16, L2.r_g17, L2.r_g18, L2.r_g19, L2.r_g20, L2.r_g21, L2.r_g22, L2.r_g23, L2.r_c, L2.r_op, L2.r_un, L2.r_I0, L2.r_I, L2.r_U, L2.r_eqI, L2.r_eqS, L2.r_neI, L2.r_exbl, L2.r_exint, L2.r_test, L2.r_B, L2.r_and, L2.r_or, L2.r_not, L2.r_andV, L2.r_orV, L2.r_notV, L2.r_if, L2.r_next, L2.r_seq, L2.r_brk, L2.r_cont, L2.r_drop, L2.r_ret, L2.r_retN, L2.r_ifS, L2.r_asg, L2.r_CB, L2.r_nil, L2.r_cons, L2.r_call, L2.r_tup, L2.r_lst, L2.r_p0, L2.r_pS, L2.r_disp, L2.r_dget, L2.r_sl, L2.r_noPart, L2.r_part, L2.r_gNil, L2.r_gCons, L2.r_itF, L2.r_nT, L2.r_nF, L2.r_len0, L2.r_len1, L2.r_len2, L2.r_len3, L2.r_len4, L2.r_len6, L2.r_len7, L2.r_for, L2.r_iEnum, L2.r_iList, L2.r_iTup, L2.r_iRng1, L2.r_iRng2, L2.r_exI1, L2.r_exR1, L2.r_exR, L2.r_bm, L2.r_bm0, L2.r_ixL, L2.r_ixT, L2.r_cat, L2.r_slL, L2.r_append, L2.r_exRl, L2.r_gTup, true_and, and_true, forall_const, Int.reduceLT, L2.r_compG, L2.r_setComp, L2.r_yes, L2.r_isi_int_str, L2.r_isi_str_str, L2.r_slT, L2.r_inR, L2.r_notInR, L2.cxOf_K, L2.wish_K, L2.blk_K, L2.r_blk1, L2.r_blk2, List.map_cons, List.map_nil, List.getElem?_cons_zero, List.getElem?_cons_succ, Option.join_some, L2.r_Vs, L2.r_dnewK, L2.r_dput, L2.r_exRp, L2.r_gSub, List.set_cons_zero, List.set_cons_succ, L2.r_mid, L2.r_sfld, L2.r_gfld, L2.r_meth, L2.r_make, $ts,*])
namespace K32
open PySem L2 PyProof.Rows FA
noncomputable def top (i : Nat) : Stmt := PySem.Challenge.pw_deedloom_k32_whole_least_layings.main.body.getD i (.Pass ⟨0, 0, 0, 0⟩)
noncomputable abbrev s_operands_of : Stmt := top 2
theorem sc_operands_of : FnScope ["deed"] ["deed"] (defScope s_operands_of) := ⟨rfl, rfl, rfl, by decide +kernel, rfl, by decide +kernel, by decide +kernel⟩
noncomputable abbrev s_boxes_read : Stmt := top 3
theorem sc_boxes_read : FnScope ["deed"] ["deed"] (defScope s_boxes_read) := ⟨rfl, rfl, rfl, by decide +kernel, rfl, by decide +kernel, by decide +kernel⟩
noncomputable abbrev s_box_written : Stmt := top 4
theorem sc_box_written : FnScope ["deed"] ["deed"] (defScope s_box_written) := ⟨rfl, rfl, rfl, by decide +kernel, rfl, by decide +kernel, by decide +kernel⟩
noncomputable abbrev s_sort_of : Stmt := top 5
theorem sc_sort_of : FnScope ["deed"] ["deed"] (defScope s_sort_of) := ⟨rfl, rfl, rfl, by decide +kernel, rfl, by decide +kernel, by decide +kernel⟩
noncomputable abbrev s_gap : Stmt := top 7
theorem sc_gap : FnScope ["deeds", "j", "k", "earlier", "later", "name"] ["deeds", "j", "k"] (defScope s_gap) := ⟨rfl, rfl, rfl, by decide +kernel, rfl, by decide +kernel, by decide +kernel⟩
noncomputable abbrev s_laid : Stmt := top 8
theorem sc_laid : FnScope ["deeds", "units", "layer", "everything", "ways", "longer", "done", "beats", "beat"] ["deeds", "units"] (defScope s_laid) := ⟨rfl, rfl, rfl, by decide +kernel, rfl, by decide +kernel, by decide +kernel⟩
noncomputable abbrev s_Layer___init__ : Stmt := inClass (top 9) 0
theorem sc_Layer___init__ : FnScope ["self", "deeds", "units"] ["self", "deeds", "units"] (defScope s_Layer___init__) := ⟨rfl, rfl, rfl, by decide +kernel, rfl, by decide +kernel, by decide +kernel⟩
noncomputable abbrev s_Layer_full_beats : Stmt := inClass (top 9) 1
theorem sc_Layer_full_beats : FnScope ["self", "done", "place", "missing", "beats"] ["self", "done"] (defScope s_Layer_full_beats) := ⟨rfl, rfl, rfl, by decide +kernel, rfl, by decide +kernel, by decide +kernel⟩
noncomputable abbrev s_Layer_grown : Stmt := inClass (top 9) 2
theorem sc_Layer_grown : FnScope ["self", "done", "beats", "place", "more", "beat", "taken"] ["self", "done", "beats", "place"] (defScope s_Layer_grown) := ⟨rfl, rfl, rfl, by decide +kernel, rfl, by decide +kernel, by decide +kernel⟩
noncomputable abbrev s_Layer_has_room : Stmt := inClass (top 9) 3
theorem sc_Layer_has_room : FnScope ["self", "done", "beat", "missing"] ["self", "done", "beat", "missing"] (defScope s_Layer_has_room) := ⟨rfl, rfl, rfl, by decide +kernel, rfl, by decide +kernel, by decide +kernel⟩
noncomputable abbrev s_Layer_fits : Stmt := inClass (top 9) 4
theorem sc_Layer_fits : FnScope ["self", "done", "beat", "place", "sort", "earlier", "lean", "ahead"] ["self", "done", "beat", "place"] (defScope s_Layer_fits) := ⟨rfl, rfl, rfl, by decide +kernel, rfl, by decide +kernel, by decide +kernel⟩
noncomputable abbrev s__law_whole : Stmt := top 11
theorem sc__law_whole : FnScope ["_law_found"] ["_law_found"] (defScope s__law_whole) := ⟨rfl, rfl, rfl, by decide +kernel, rfl, by decide +kernel, by decide +kernel⟩
noncomputable abbrev s__law_mixed : Stmt := top 12
theorem sc__law_mixed : FnScope ["_law_cell", "_law_k", "_law_number"] ["_law_cell", "_law_k"] (defScope s__law_mixed) := ⟨rfl, rfl, rfl, by decide +kernel, rfl, by decide +kernel, by decide +kernel⟩
noncomputable abbrev s__law_operand : Stmt := top 13
theorem sc__law_operand : FnScope ["_law_mixed_here", "_law_names", "_law_width"] ["_law_mixed_here", "_law_names", "_law_width"] (defScope s__law_operand) := ⟨rfl, rfl, rfl, by decide +kernel, rfl, by decide +kernel, by decide +kernel⟩
noncomputable abbrev s__law_deed : Stmt := top 14
theorem sc__law_deed : FnScope ["_law_mixed_here", "_law_names", "_law_width", "_law_one", "_law_name", "_law_op"] ["_law_mixed_here", "_law_names", "_law_width"] (defScope s__law_deed) := ⟨rfl, rfl, rfl, by decide +kernel, rfl, by decide +kernel, by decide +kernel⟩
noncomputable abbrev s__law_reads : Stmt := top 15
theorem sc__law_reads : FnScope ["_law_deed_here", "_law_operands"] ["_law_deed_here"] (defScope s__law_reads) := ⟨rfl, rfl, rfl, by decide +kernel, rfl, by decide +kernel, by decide +kernel⟩
noncomputable abbrev s__law_gap : Stmt := top 16
theorem sc__law_gap : FnScope ["_law_one", "_law_other"] ["_law_one", "_law_other"] (defScope s__law_gap) := ⟨rfl, rfl, rfl, by decide +kernel, rfl, by decide +kernel, by decide +kernel⟩
noncomputable abbrev s__law_deeds : Stmt := top 17
theorem sc__law_deeds : FnScope ["_law_cells", "_law_most", "_law_boxes", "_law_deeds_here", "_law_k", "_law_cell"] ["_law_cells", "_law_most", "_law_boxes"] (defScope s__law_deeds) := ⟨rfl, rfl, rfl, by decide +kernel, rfl, by decide +kernel, by decide +kernel⟩
noncomputable abbrev s__law_sort : Stmt := top 18
theorem sc__law_sort : FnScope ["_law_deed_here"] ["_law_deed_here"] (defScope s__law_sort) := ⟨rfl, rfl, rfl, by decide +kernel, rfl, by decide +kernel, by decide +kernel⟩
noncomputable abbrev s__law_load : Stmt := top 19
theorem sc__law_load : FnScope ["_law_deeds_here", "_law_beat", "_law_units", "_law_many", "_law_k"] ["_law_deeds_here", "_law_beat", "_law_units"] (defScope s__law_load) := ⟨rfl, rfl, rfl, by decide +kernel, rfl, by decide +kernel, by decide +kernel⟩
noncomputable abbrev s__law_kept : Stmt := top 20
theorem sc__law_kept : FnScope ["_law_deeds_here", "_law_units", "_law_beats", "_law_at", "_law_place", "_law_beat", "_law_last", "_law_k", "_law_j", "_law_far"] ["_law_deeds_here", "_law_units", "_law_beats"] (defScope s__law_kept) := ⟨rfl, rfl, rfl, by decide +kernel, rfl, by decide +kernel, by decide +kernel⟩
noncomputable abbrev s__law_more : Stmt := top 21
theorem sc__law_more : FnScope ["_law_deeds_here", "_law_units", "_law_leans_here", "_law_done", "_law_found", "_law_k", "_law_grown", "_law_beat", "_law_j", "_law_inside", "_law_free", "_law_far"] ["_law_deeds_here", "_law_units", "_law_leans_here", "_law_done"] (defScope s__law_more) := ⟨rfl, rfl, rfl, by decide +kernel, rfl, by decide +kernel, by decide +kernel⟩
noncomputable abbrev s__law_leans : Stmt := top 22
theorem sc__law_leans : FnScope ["_law_deeds_here", "_law_found", "_law_k", "_law_some"] ["_law_deeds_here"] (defScope s__law_leans) := ⟨rfl, rfl, rfl, by decide +kernel, rfl, by decide +kernel, by decide +kernel⟩
noncomputable abbrev s_law : Stmt := top 23
theorem sc_law : FnScope ["_law_script", "_law_first", "_law_most", "_law_deeds_here", "_law_units", "_law_handed", "_law_found", "_law_leans_here", "_law_level", "_law_beat", "_law_grown", "_law_done", "_law_more_here"] ["_law_script"] (defScope s_law) := ⟨rfl, rfl, rfl, by decide +kernel, rfl, by decide +kernel, by decide +kernel⟩
noncomputable def kvs_SORTS : List (Key × V) := [(.inr "plus", .int 0), (.inr "less", .int 0), (.inr "below", .int 1), (.inr "same", .int 1), (.inr "and", .int 2), (.inr "or", .int 2), (.inr "xor", .int 2)]
set_option genInjectivity false in
structure Ad where
  pr : Params
  D_SORTS : Addr
  C_Layer : Addr
  f_operands_of : Addr
  e_operands_of : FuncData
  f_boxes_read : Addr
  e_boxes_read : FuncData
  f_box_written : Addr
  e_box_written : FuncData
  f_sort_of : Addr
  e_sort_of : FuncData
  f_gap : Addr
  e_gap : FuncData
  f_laid : Addr
  e_laid : FuncData
  f_Layer___init__ : Addr
  e_Layer___init__ : FuncData
  f_Layer_full_beats : Addr
  e_Layer_full_beats : FuncData
  f_Layer_grown : Addr
  e_Layer_grown : FuncData
  f_Layer_has_room : Addr
  e_Layer_has_room : FuncData
  f_Layer_fits : Addr
  e_Layer_fits : FuncData
  f__law_whole : Addr
  e__law_whole : FuncData
  f__law_mixed : Addr
  e__law_mixed : FuncData
  f__law_operand : Addr
  e__law_operand : FuncData
  f__law_deed : Addr
  e__law_deed : FuncData
  f__law_reads : Addr
  e__law_reads : FuncData
  f__law_gap : Addr
  e__law_gap : FuncData
  f__law_deeds : Addr
  e__law_deeds : FuncData
  f__law_sort : Addr
  e__law_sort : FuncData
  f__law_load : Addr
  e__law_load : FuncData
  f__law_kept : Addr
  e__law_kept : FuncData
  f__law_more : Addr
  e__law_more : FuncData
  f__law_leans : Addr
  e__law_leans : FuncData
  f_law : Addr
  e_law : FuncData
structure Txt (K : PySem.W.Frag) (mg : Str → Option Value) (t : Ad) : Prop where
  g_SORTS : mg "SORTS" = some (.ref t.D_SORTS)
  k_SORTS : DictK K t.pr t.D_SORTS kvs_SORTS
  c_Layer : KlsAt K mg "Layer" t.C_Layer
  n_Layer_units : NoAttr K t.C_Layer "units"
  n_Layer_sorts : NoAttr K t.C_Layer "sorts"
  n_Layer_gaps : NoAttr K t.C_Layer "gaps"
  d_operands_of : DefAt K mg "operands_of" s_operands_of ["deed"] t.f_operands_of t.e_operands_of
  d_boxes_read : DefAt K mg "boxes_read" s_boxes_read ["deed"] t.f_boxes_read t.e_boxes_read
  d_box_written : DefAt K mg "box_written" s_box_written ["deed"] t.f_box_written t.e_box_written
  d_sort_of : DefAt K mg "sort_of" s_sort_of ["deed"] t.f_sort_of t.e_sort_of
  d_gap : DefAt K mg "gap" s_gap ["deeds", "j", "k"] t.f_gap t.e_gap
  d_laid : DefAt K mg "laid" s_laid ["deeds", "units"] t.f_laid t.e_laid
  d_Layer___init__ : MethAt K t.C_Layer "__init__" "Layer.__init__" s_Layer___init__ ["self", "deeds", "units"] t.f_Layer___init__ t.e_Layer___init__
  d_Layer_full_beats : MethAt K t.C_Layer "full_beats" "Layer.full_beats" s_Layer_full_beats ["self", "done"] t.f_Layer_full_beats t.e_Layer_full_beats
  d_Layer_grown : MethAt K t.C_Layer "grown" "Layer.grown" s_Layer_grown ["self", "done", "beats", "place"] t.f_Layer_grown t.e_Layer_grown
  d_Layer_has_room : MethAt K t.C_Layer "has_room" "Layer.has_room" s_Layer_has_room ["self", "done", "beat", "missing"] t.f_Layer_has_room t.e_Layer_has_room
  d_Layer_fits : MethAt K t.C_Layer "fits" "Layer.fits" s_Layer_fits ["self", "done", "beat", "place"] t.f_Layer_fits t.e_Layer_fits
  d__law_whole : DefAt K mg "_law_whole" s__law_whole ["_law_found"] t.f__law_whole t.e__law_whole
  d__law_mixed : DefAt K mg "_law_mixed" s__law_mixed ["_law_cell", "_law_k"] t.f__law_mixed t.e__law_mixed
  d__law_operand : DefAt K mg "_law_operand" s__law_operand ["_law_mixed_here", "_law_names", "_law_width"] t.f__law_operand t.e__law_operand
  d__law_deed : DefAt K mg "_law_deed" s__law_deed ["_law_mixed_here", "_law_names", "_law_width"] t.f__law_deed t.e__law_deed
  d__law_reads : DefAt K mg "_law_reads" s__law_reads ["_law_deed_here"] t.f__law_reads t.e__law_reads
  d__law_gap : DefAt K mg "_law_gap" s__law_gap ["_law_one", "_law_other"] t.f__law_gap t.e__law_gap
  d__law_deeds : DefAt K mg "_law_deeds" s__law_deeds ["_law_cells", "_law_most", "_law_boxes"] t.f__law_deeds t.e__law_deeds
  d__law_sort : DefAt K mg "_law_sort" s__law_sort ["_law_deed_here"] t.f__law_sort t.e__law_sort
  d__law_load : DefAt K mg "_law_load" s__law_load ["_law_deeds_here", "_law_beat", "_law_units"] t.f__law_load t.e__law_load
  d__law_kept : DefAt K mg "_law_kept" s__law_kept ["_law_deeds_here", "_law_units", "_law_beats"] t.f__law_kept t.e__law_kept
  d__law_more : DefAt K mg "_law_more" s__law_more ["_law_deeds_here", "_law_units", "_law_leans_here", "_law_done"] t.f__law_more t.e__law_more
  d__law_leans : DefAt K mg "_law_leans" s__law_leans ["_law_deeds_here"] t.f__law_leans t.e__law_leans
  d_law : DefAt K mg "law" s_law ["_law_script"] t.f_law t.e_law
  z_range : mg "range" = none
  z_isinstance : mg "isinstance" = none
  z_int : mg "int" = none
  z_bool : mg "bool" = none
  z_str : mg "str" = none
  z_enumerate : mg "enumerate" = none
  z_len : mg "len" = none
  z_list : mg "list" = none
  z_sum : mg "sum" = none
  z_tuple : mg "tuple" = none
  z_sorted : mg "sorted" = none
  z_any : mg "any" = none
theorem len_1 {us : List Value} (h : us.length = 1) : ∃ a0, us = [a0] := by
  rcases us with _ | ⟨a0, _ | ⟨_, _⟩⟩ <;> simp at h ⊢
theorem len_2 {us : List Value} (h : us.length = 2) : ∃ a0 a1, us = [a0, a1] := by
  rcases us with _ | ⟨a0, _ | ⟨a1, _ | ⟨_, _⟩⟩⟩ <;> simp at h ⊢
theorem len_3 {us : List Value} (h : us.length = 3) : ∃ a0 a1 a2, us = [a0, a1, a2] := by
  rcases us with _ | ⟨a0, _ | ⟨a1, _ | ⟨a2, _ | ⟨_, _⟩⟩⟩⟩ <;> simp at h ⊢
theorem len_4 {us : List Value} (h : us.length = 4) : ∃ a0 a1 a2 a3, us = [a0, a1, a2, a3] := by
  rcases us with _ | ⟨a0, _ | ⟨a1, _ | ⟨a2, _ | ⟨a3, _ | ⟨_, _⟩⟩⟩⟩⟩ <;> simp at h ⊢
theorem all_mk {K : PySem.W.Frag} {h : Heap} {mg : Str → Option Value} (X : K.In h) (G : h.Ns mainGlobals mg)
    (pr : Params)
    {D_SORTS : Addr} {h_SORTS_0 h_SORTS_1 h_SORTS_2 h_SORTS_3 h_SORTS_4 h_SORTS_5 h_SORTS_6 : Int} {t_SORTS_0 u_SORTS_0 t_SORTS_1 u_SORTS_1 t_SORTS_2 u_SORTS_2 t_SORTS_3 u_SORTS_3 t_SORTS_4 u_SORTS_4 t_SORTS_5 u_SORTS_5 t_SORTS_6 u_SORTS_6 : Tok} {ep_SORTS : Nat}
    (aD_SORTS : PySem.W.nsIn K mainGlobals "SORTS" = some (some (.ref D_SORTS)))
    (lD_SORTS : K.lookup D_SORTS = some ⟨.type "dict", none, .dict #[⟨h_SORTS_0, .str "plus" t_SORTS_0, .int 0 u_SORTS_0⟩, ⟨h_SORTS_1, .str "less" t_SORTS_1, .int 0 u_SORTS_1⟩, ⟨h_SORTS_2, .str "below" t_SORTS_2, .int 1 u_SORTS_2⟩, ⟨h_SORTS_3, .str "same" t_SORTS_3, .int 1 u_SORTS_3⟩, ⟨h_SORTS_4, .str "and" t_SORTS_4, .int 2 u_SORTS_4⟩, ⟨h_SORTS_5, .str "or" t_SORTS_5, .int 2 u_SORTS_5⟩, ⟨h_SORTS_6, .str "xor" t_SORTS_6, .int 2 u_SORTS_6⟩] ep_SORTS, #[]⟩)
    (sD_SORTS : (D_SORTS == sysModules) = false)
    (hD_SORTS : [h_SORTS_0, h_SORTS_1, h_SORTS_2, h_SORTS_3, h_SORTS_4, h_SORTS_5, h_SORTS_6] = kvs_SORTS.map (fun kv => keyP pr kv.1))
    {C_Layer : Addr}
    (aC_Layer : PySem.W.nsIn K mainGlobals "Layer" = some (some (.ref C_Layer)))
    (pg_Layer : PySem.W.plainGet K C_Layer Str.empty = true)
    (hd_Layer : PySem.W.hasDictIn K C_Layer = true)
    (po_Layer : PySem.W.plainOver K C_Layer = true)
    (sa_Layer : PySem.W.findIn K (.ref C_Layer) "__setattr__" = some (some (.builtin "object.__setattr__")))
    (mk_Layer : PySem.W.makesIn K C_Layer = true)
    (kc_Layer : PySem.W.keepIn K (.ref C_Layer) = true)
    (n_Layer_units : PySem.W.findIn K (.ref C_Layer) "units" = some none)
    (n_Layer_sorts : PySem.W.findIn K (.ref C_Layer) "sorts" = some none)
    (n_Layer_gaps : PySem.W.findIn K (.ref C_Layer) "gaps" = some none)
    {f0 : Addr} {od0 an0 : Option Addr} {sl0 : Array (Option Value)} {oc0 kV0 dc0 pm0 cd0 ct0 : Value}
    (a0 : PySem.W.nsIn K mainGlobals "operands_of" = some (some (.ref f0)))
    (l0 : K.lookup f0 = some ⟨oc0, od0, .func (PySem.W.fnOf "operands_of" "operands_of" (defArgs s_operands_of) (defBody s_operands_of) (defScope s_operands_of) .none kV0 dc0 pm0 an0 cd0 ct0), sl0⟩) (c0 : PySem.W.codeIn K cd0 "operands_of" = true) (k0 : PySem.W.keepIn K (.ref f0) = true)
    {f1 : Addr} {od1 an1 : Option Addr} {sl1 : Array (Option Value)} {oc1 kV1 dc1 pm1 cd1 ct1 : Value}
    (a1 : PySem.W.nsIn K mainGlobals "boxes_read" = some (some (.ref f1)))
    (l1 : K.lookup f1 = some ⟨oc1, od1, .func (PySem.W.fnOf "boxes_read" "boxes_read" (defArgs s_boxes_read) (defBody s_boxes_read) (defScope s_boxes_read) .none kV1 dc1 pm1 an1 cd1 ct1), sl1⟩) (c1 : PySem.W.codeIn K cd1 "boxes_read" = true) (k1 : PySem.W.keepIn K (.ref f1) = true)
    {f2 : Addr} {od2 an2 : Option Addr} {sl2 : Array (Option Value)} {oc2 kV2 dc2 pm2 cd2 ct2 : Value}
    (a2 : PySem.W.nsIn K mainGlobals "box_written" = some (some (.ref f2)))
    (l2 : K.lookup f2 = some ⟨oc2, od2, .func (PySem.W.fnOf "box_written" "box_written" (defArgs s_box_written) (defBody s_box_written) (defScope s_box_written) .none kV2 dc2 pm2 an2 cd2 ct2), sl2⟩) (c2 : PySem.W.codeIn K cd2 "box_written" = true) (k2 : PySem.W.keepIn K (.ref f2) = true)
    {f3 : Addr} {od3 an3 : Option Addr} {sl3 : Array (Option Value)} {oc3 kV3 dc3 pm3 cd3 ct3 : Value}
    (a3 : PySem.W.nsIn K mainGlobals "sort_of" = some (some (.ref f3)))
    (l3 : K.lookup f3 = some ⟨oc3, od3, .func (PySem.W.fnOf "sort_of" "sort_of" (defArgs s_sort_of) (defBody s_sort_of) (defScope s_sort_of) .none kV3 dc3 pm3 an3 cd3 ct3), sl3⟩) (c3 : PySem.W.codeIn K cd3 "sort_of" = true) (k3 : PySem.W.keepIn K (.ref f3) = true)
    {f4 : Addr} {od4 an4 : Option Addr} {sl4 : Array (Option Value)} {oc4 kV4 dc4 pm4 cd4 ct4 : Value}
    (a4 : PySem.W.nsIn K mainGlobals "gap" = some (some (.ref f4)))
    (l4 : K.lookup f4 = some ⟨oc4, od4, .func (PySem.W.fnOf "gap" "gap" (defArgs s_gap) (defBody s_gap) (defScope s_gap) .none kV4 dc4 pm4 an4 cd4 ct4), sl4⟩) (c4 : PySem.W.codeIn K cd4 "gap" = true) (k4 : PySem.W.keepIn K (.ref f4) = true)
    {f5 : Addr} {od5 an5 : Option Addr} {sl5 : Array (Option Value)} {oc5 kV5 dc5 pm5 cd5 ct5 : Value}
    (a5 : PySem.W.nsIn K mainGlobals "laid" = some (some (.ref f5)))
    (l5 : K.lookup f5 = some ⟨oc5, od5, .func (PySem.W.fnOf "laid" "laid" (defArgs s_laid) (defBody s_laid) (defScope s_laid) .none kV5 dc5 pm5 an5 cd5 ct5), sl5⟩) (c5 : PySem.W.codeIn K cd5 "laid" = true) (k5 : PySem.W.keepIn K (.ref f5) = true)
    {f6 : Addr} {od6 an6 : Option Addr} {sl6 : Array (Option Value)} {oc6 kV6 dc6 pm6 cd6 ct6 : Value}
    (a6 : PySem.W.findIn K (.ref C_Layer) "__init__" = some (some (.ref f6))) (i6 : PySem.W.isFn K (.ref f6) = true)
    (l6 : K.lookup f6 = some ⟨oc6, od6, .func (PySem.W.fnOf "__init__" "Layer.__init__" (defArgs s_Layer___init__) (defBody s_Layer___init__) (defScope s_Layer___init__) .none kV6 dc6 pm6 an6 cd6 ct6), sl6⟩) (c6 : PySem.W.codeIn K cd6 "Layer.__init__" = true) (k6 : PySem.W.keepIn K (.ref f6) = true)
    {f7 : Addr} {od7 an7 : Option Addr} {sl7 : Array (Option Value)} {oc7 kV7 dc7 pm7 cd7 ct7 : Value}
    (a7 : PySem.W.findIn K (.ref C_Layer) "full_beats" = some (some (.ref f7))) (i7 : PySem.W.isFn K (.ref f7) = true)
    (l7 : K.lookup f7 = some ⟨oc7, od7, .func (PySem.W.fnOf "full_beats" "Layer.full_beats" (defArgs s_Layer_full_beats) (defBody s_Layer_full_beats) (defScope s_Layer_full_beats) .none kV7 dc7 pm7 an7 cd7 ct7), sl7⟩) (c7 : PySem.W.codeIn K cd7 "Layer.full_beats" = true) (k7 : PySem.W.keepIn K (.ref f7) = true)
    {f8 : Addr} {od8 an8 : Option Addr} {sl8 : Array (Option Value)} {oc8 kV8 dc8 pm8 cd8 ct8 : Value}
    (a8 : PySem.W.findIn K (.ref C_Layer) "grown" = some (some (.ref f8))) (i8 : PySem.W.isFn K (.ref f8) = true)
    (l8 : K.lookup f8 = some ⟨oc8, od8, .func (PySem.W.fnOf "grown" "Layer.grown" (defArgs s_Layer_grown) (defBody s_Layer_grown) (defScope s_Layer_grown) .none kV8 dc8 pm8 an8 cd8 ct8), sl8⟩) (c8 : PySem.W.codeIn K cd8 "Layer.grown" = true) (k8 : PySem.W.keepIn K (.ref f8) = true)
    {f9 : Addr} {od9 an9 : Option Addr} {sl9 : Array (Option Value)} {oc9 kV9 dc9 pm9 cd9 ct9 : Value}
    (a9 : PySem.W.findIn K (.ref C_Layer) "has_room" = some (some (.ref f9))) (i9 : PySem.W.isFn K (.ref f9) = true)
    (l9 : K.lookup f9 = some ⟨oc9, od9, .func (PySem.W.fnOf "has_room" "Layer.has_room" (defArgs s_Layer_has_room) (defBody s_Layer_has_room) (defScope s_Layer_has_room) .none kV9 dc9 pm9 an9 cd9 ct9), sl9⟩) (c9 : PySem.W.codeIn K cd9 "Layer.has_room" = true) (k9 : PySem.W.keepIn K (.ref f9) = true)
    {f10 : Addr} {od10 an10 : Option Addr} {sl10 : Array (Option Value)} {oc10 kV10 dc10 pm10 cd10 ct10 : Value}
    (a10 : PySem.W.findIn K (.ref C_Layer) "fits" = some (some (.ref f10))) (i10 : PySem.W.isFn K (.ref f10) = true)
    (l10 : K.lookup f10 = some ⟨oc10, od10, .func (PySem.W.fnOf "fits" "Layer.fits" (defArgs s_Layer_fits) (defBody s_Layer_fits) (defScope s_Layer_fits) .none kV10 dc10 pm10 an10 cd10 ct10), sl10⟩) (c10 : PySem.W.codeIn K cd10 "Layer.fits" = true) (k10 : PySem.W.keepIn K (.ref f10) = true)
    {f11 : Addr} {od11 an11 : Option Addr} {sl11 : Array (Option Value)} {oc11 kV11 dc11 pm11 cd11 ct11 : Value}
    (a11 : PySem.W.nsIn K mainGlobals "_law_whole" = some (some (.ref f11)))
    (l11 : K.lookup f11 = some ⟨oc11, od11, .func (PySem.W.fnOf "_law_whole" "_law_whole" (defArgs s__law_whole) (defBody s__law_whole) (defScope s__law_whole) .none kV11 dc11 pm11 an11 cd11 ct11), sl11⟩) (c11 : PySem.W.codeIn K cd11 "_law_whole" = true) (k11 : PySem.W.keepIn K (.ref f11) = true)
    {f12 : Addr} {od12 an12 : Option Addr} {sl12 : Array (Option Value)} {oc12 kV12 dc12 pm12 cd12 ct12 : Value}
    (a12 : PySem.W.nsIn K mainGlobals "_law_mixed" = some (some (.ref f12)))
    (l12 : K.lookup f12 = some ⟨oc12, od12, .func (PySem.W.fnOf "_law_mixed" "_law_mixed" (defArgs s__law_mixed) (defBody s__law_mixed) (defScope s__law_mixed) .none kV12 dc12 pm12 an12 cd12 ct12), sl12⟩) (c12 : PySem.W.codeIn K cd12 "_law_mixed" = true) (k12 : PySem.W.keepIn K (.ref f12) = true)
    {f13 : Addr} {od13 an13 : Option Addr} {sl13 : Array (Option Value)} {oc13 kV13 dc13 pm13 cd13 ct13 : Value}
    (a13 : PySem.W.nsIn K mainGlobals "_law_operand" = some (some (.ref f13)))
    (l13 : K.lookup f13 = some ⟨oc13, od13, .func (PySem.W.fnOf "_law_operand" "_law_operand" (defArgs s__law_operand) (defBody s__law_operand) (defScope s__law_operand) .none kV13 dc13 pm13 an13 cd13 ct13), sl13⟩) (c13 : PySem.W.codeIn K cd13 "_law_operand" = true) (k13 : PySem.W.keepIn K (.ref f13) = true)
    {f14 : Addr} {od14 an14 : Option Addr} {sl14 : Array (Option Value)} {oc14 kV14 dc14 pm14 cd14 ct14 : Value}
    (a14 : PySem.W.nsIn K mainGlobals "_law_deed" = some (some (.ref f14)))
    (l14 : K.lookup f14 = some ⟨oc14, od14, .func (PySem.W.fnOf "_law_deed" "_law_deed" (defArgs s__law_deed) (defBody s__law_deed) (defScope s__law_deed) .none kV14 dc14 pm14 an14 cd14 ct14), sl14⟩) (c14 : PySem.W.codeIn K cd14 "_law_deed" = true) (k14 : PySem.W.keepIn K (.ref f14) = true)
    {f15 : Addr} {od15 an15 : Option Addr} {sl15 : Array (Option Value)} {oc15 kV15 dc15 pm15 cd15 ct15 : Value}
    (a15 : PySem.W.nsIn K mainGlobals "_law_reads" = some (some (.ref f15)))
    (l15 : K.lookup f15 = some ⟨oc15, od15, .func (PySem.W.fnOf "_law_reads" "_law_reads" (defArgs s__law_reads) (defBody s__law_reads) (defScope s__law_reads) .none kV15 dc15 pm15 an15 cd15 ct15), sl15⟩) (c15 : PySem.W.codeIn K cd15 "_law_reads" = true) (k15 : PySem.W.keepIn K (.ref f15) = true)
    {f16 : Addr} {od16 an16 : Option Addr} {sl16 : Array (Option Value)} {oc16 kV16 dc16 pm16 cd16 ct16 : Value}
    (a16 : PySem.W.nsIn K mainGlobals "_law_gap" = some (some (.ref f16)))
    (l16 : K.lookup f16 = some ⟨oc16, od16, .func (PySem.W.fnOf "_law_gap" "_law_gap" (defArgs s__law_gap) (defBody s__law_gap) (defScope s__law_gap) .none kV16 dc16 pm16 an16 cd16 ct16), sl16⟩) (c16 : PySem.W.codeIn K cd16 "_law_gap" = true) (k16 : PySem.W.keepIn K (.ref f16) = true)
    {f17 : Addr} {od17 an17 : Option Addr} {sl17 : Array (Option Value)} {oc17 kV17 dc17 pm17 cd17 ct17 : Value}
    (a17 : PySem.W.nsIn K mainGlobals "_law_deeds" = some (some (.ref f17)))
    (l17 : K.lookup f17 = some ⟨oc17, od17, .func (PySem.W.fnOf "_law_deeds" "_law_deeds" (defArgs s__law_deeds) (defBody s__law_deeds) (defScope s__law_deeds) .none kV17 dc17 pm17 an17 cd17 ct17), sl17⟩) (c17 : PySem.W.codeIn K cd17 "_law_deeds" = true) (k17 : PySem.W.keepIn K (.ref f17) = true)
    {f18 : Addr} {od18 an18 : Option Addr} {sl18 : Array (Option Value)} {oc18 kV18 dc18 pm18 cd18 ct18 : Value}
    (a18 : PySem.W.nsIn K mainGlobals "_law_sort" = some (some (.ref f18)))
    (l18 : K.lookup f18 = some ⟨oc18, od18, .func (PySem.W.fnOf "_law_sort" "_law_sort" (defArgs s__law_sort) (defBody s__law_sort) (defScope s__law_sort) .none kV18 dc18 pm18 an18 cd18 ct18), sl18⟩) (c18 : PySem.W.codeIn K cd18 "_law_sort" = true) (k18 : PySem.W.keepIn K (.ref f18) = true)
    {f19 : Addr} {od19 an19 : Option Addr} {sl19 : Array (Option Value)} {oc19 kV19 dc19 pm19 cd19 ct19 : Value}
    (a19 : PySem.W.nsIn K mainGlobals "_law_load" = some (some (.ref f19)))
    (l19 : K.lookup f19 = some ⟨oc19, od19, .func (PySem.W.fnOf "_law_load" "_law_load" (defArgs s__law_load) (defBody s__law_load) (defScope s__law_load) .none kV19 dc19 pm19 an19 cd19 ct19), sl19⟩) (c19 : PySem.W.codeIn K cd19 "_law_load" = true) (k19 : PySem.W.keepIn K (.ref f19) = true)
    {f20 : Addr} {od20 an20 : Option Addr} {sl20 : Array (Option Value)} {oc20 kV20 dc20 pm20 cd20 ct20 : Value}
    (a20 : PySem.W.nsIn K mainGlobals "_law_kept" = some (some (.ref f20)))
    (l20 : K.lookup f20 = some ⟨oc20, od20, .func (PySem.W.fnOf "_law_kept" "_law_kept" (defArgs s__law_kept) (defBody s__law_kept) (defScope s__law_kept) .none kV20 dc20 pm20 an20 cd20 ct20), sl20⟩) (c20 : PySem.W.codeIn K cd20 "_law_kept" = true) (k20 : PySem.W.keepIn K (.ref f20) = true)
    {f21 : Addr} {od21 an21 : Option Addr} {sl21 : Array (Option Value)} {oc21 kV21 dc21 pm21 cd21 ct21 : Value}
    (a21 : PySem.W.nsIn K mainGlobals "_law_more" = some (some (.ref f21)))
    (l21 : K.lookup f21 = some ⟨oc21, od21, .func (PySem.W.fnOf "_law_more" "_law_more" (defArgs s__law_more) (defBody s__law_more) (defScope s__law_more) .none kV21 dc21 pm21 an21 cd21 ct21), sl21⟩) (c21 : PySem.W.codeIn K cd21 "_law_more" = true) (k21 : PySem.W.keepIn K (.ref f21) = true)
    {f22 : Addr} {od22 an22 : Option Addr} {sl22 : Array (Option Value)} {oc22 kV22 dc22 pm22 cd22 ct22 : Value}
    (a22 : PySem.W.nsIn K mainGlobals "_law_leans" = some (some (.ref f22)))
    (l22 : K.lookup f22 = some ⟨oc22, od22, .func (PySem.W.fnOf "_law_leans" "_law_leans" (defArgs s__law_leans) (defBody s__law_leans) (defScope s__law_leans) .none kV22 dc22 pm22 an22 cd22 ct22), sl22⟩) (c22 : PySem.W.codeIn K cd22 "_law_leans" = true) (k22 : PySem.W.keepIn K (.ref f22) = true)
    {f23 : Addr} {od23 an23 : Option Addr} {sl23 : Array (Option Value)} {oc23 kV23 dc23 pm23 cd23 ct23 : Value}
    (a23 : PySem.W.nsIn K mainGlobals "law" = some (some (.ref f23)))
    (l23 : K.lookup f23 = some ⟨oc23, od23, .func (PySem.W.fnOf "law" "law" (defArgs s_law) (defBody s_law) (defScope s_law) .none kV23 dc23 pm23 an23 cd23 ct23), sl23⟩) (c23 : PySem.W.codeIn K cd23 "law" = true) (k23 : PySem.W.keepIn K (.ref f23) = true)
    (z_range : PySem.W.nsIn K mainGlobals "range" = some none)
    (z_isinstance : PySem.W.nsIn K mainGlobals "isinstance" = some none)
    (z_int : PySem.W.nsIn K mainGlobals "int" = some none)
    (z_bool : PySem.W.nsIn K mainGlobals "bool" = some none)
    (z_str : PySem.W.nsIn K mainGlobals "str" = some none)
    (z_enumerate : PySem.W.nsIn K mainGlobals "enumerate" = some none)
    (z_len : PySem.W.nsIn K mainGlobals "len" = some none)
    (z_list : PySem.W.nsIn K mainGlobals "list" = some none)
    (z_sum : PySem.W.nsIn K mainGlobals "sum" = some none)
    (z_tuple : PySem.W.nsIn K mainGlobals "tuple" = some none)
    (z_sorted : PySem.W.nsIn K mainGlobals "sorted" = some none)
    (z_any : PySem.W.nsIn K mainGlobals "any" = some none)
    : ∃ t : Ad, Txt K mg t ∧ t.pr = pr := by
  simp only [kvs_SORTS, List.map_cons, List.map_nil, List.cons.injEq, and_true] at hD_SORTS
  obtain ⟨e0, e1, e2, e3, e4, e5, e6⟩ := hD_SORTS
  have kk_SORTS : DictK K pr D_SORTS kvs_SORTS := ⟨_, _, lD_SORTS, sD_SORTS, by decide +kernel, .cons ⟨by kernel_rfl, e0, ⟨_, rfl⟩⟩ (.cons ⟨by kernel_rfl, e1, ⟨_, rfl⟩⟩ (.cons ⟨by kernel_rfl, e2, ⟨_, rfl⟩⟩ (.cons ⟨by kernel_rfl, e3, ⟨_, rfl⟩⟩ (.cons ⟨by kernel_rfl, e4, ⟨_, rfl⟩⟩ (.cons ⟨by kernel_rfl, e5, ⟨_, rfl⟩⟩ (.cons ⟨by kernel_rfl, e6, ⟨_, rfl⟩⟩ (.nil)))))))⟩
  have F0 := fun_mk (st := s_operands_of) l0 c0 k0
  have b0 := F0.binds (ps := ["deed"]) fun _ _ _ _ _ _ us hl => by obtain ⟨_, rfl⟩ := len_1 hl; rfl
  have F1 := fun_mk (st := s_boxes_read) l1 c1 k1
  have b1 := F1.binds (ps := ["deed"]) fun _ _ _ _ _ _ us hl => by obtain ⟨_, rfl⟩ := len_1 hl; rfl
  have F2 := fun_mk (st := s_box_written) l2 c2 k2
  have b2 := F2.binds (ps := ["deed"]) fun _ _ _ _ _ _ us hl => by obtain ⟨_, rfl⟩ := len_1 hl; rfl
  have F3 := fun_mk (st := s_sort_of) l3 c3 k3
  have b3 := F3.binds (ps := ["deed"]) fun _ _ _ _ _ _ us hl => by obtain ⟨_, rfl⟩ := len_1 hl; rfl
  have F4 := fun_mk (st := s_gap) l4 c4 k4
  have b4 := F4.binds (ps := ["deeds", "j", "k"]) fun _ _ _ _ _ _ us hl => by obtain ⟨_, _, _, rfl⟩ := len_3 hl; rfl
  have F5 := fun_mk (st := s_laid) l5 c5 k5
  have b5 := F5.binds (ps := ["deeds", "units"]) fun _ _ _ _ _ _ us hl => by obtain ⟨_, _, rfl⟩ := len_2 hl; rfl
  have F6 := fun_mk (st := s_Layer___init__) l6 c6 k6
  have b6 := F6.binds (ps := ["self", "deeds", "units"]) fun _ _ _ _ _ _ us hl => by obtain ⟨_, _, _, rfl⟩ := len_3 hl; rfl
  have F7 := fun_mk (st := s_Layer_full_beats) l7 c7 k7
  have b7 := F7.binds (ps := ["self", "done"]) fun _ _ _ _ _ _ us hl => by obtain ⟨_, _, rfl⟩ := len_2 hl; rfl
  have F8 := fun_mk (st := s_Layer_grown) l8 c8 k8
  have b8 := F8.binds (ps := ["self", "done", "beats", "place"]) fun _ _ _ _ _ _ us hl => by obtain ⟨_, _, _, _, rfl⟩ := len_4 hl; rfl
  have F9 := fun_mk (st := s_Layer_has_room) l9 c9 k9
  have b9 := F9.binds (ps := ["self", "done", "beat", "missing"]) fun _ _ _ _ _ _ us hl => by obtain ⟨_, _, _, _, rfl⟩ := len_4 hl; rfl
  have F10 := fun_mk (st := s_Layer_fits) l10 c10 k10
  have b10 := F10.binds (ps := ["self", "done", "beat", "place"]) fun _ _ _ _ _ _ us hl => by obtain ⟨_, _, _, _, rfl⟩ := len_4 hl; rfl
  have F11 := fun_mk (st := s__law_whole) l11 c11 k11
  have b11 := F11.binds (ps := ["_law_found"]) fun _ _ _ _ _ _ us hl => by obtain ⟨_, rfl⟩ := len_1 hl; rfl
  have F12 := fun_mk (st := s__law_mixed) l12 c12 k12
  have b12 := F12.binds (ps := ["_law_cell", "_law_k"]) fun _ _ _ _ _ _ us hl => by obtain ⟨_, _, rfl⟩ := len_2 hl; rfl
  have F13 := fun_mk (st := s__law_operand) l13 c13 k13
  have b13 := F13.binds (ps := ["_law_mixed_here", "_law_names", "_law_width"]) fun _ _ _ _ _ _ us hl => by obtain ⟨_, _, _, rfl⟩ := len_3 hl; rfl
  have F14 := fun_mk (st := s__law_deed) l14 c14 k14
  have b14 := F14.binds (ps := ["_law_mixed_here", "_law_names", "_law_width"]) fun _ _ _ _ _ _ us hl => by obtain ⟨_, _, _, rfl⟩ := len_3 hl; rfl
  have F15 := fun_mk (st := s__law_reads) l15 c15 k15
  have b15 := F15.binds (ps := ["_law_deed_here"]) fun _ _ _ _ _ _ us hl => by obtain ⟨_, rfl⟩ := len_1 hl; rfl
  have F16 := fun_mk (st := s__law_gap) l16 c16 k16
  have b16 := F16.binds (ps := ["_law_one", "_law_other"]) fun _ _ _ _ _ _ us hl => by obtain ⟨_, _, rfl⟩ := len_2 hl; rfl
  have F17 := fun_mk (st := s__law_deeds) l17 c17 k17
  have b17 := F17.binds (ps := ["_law_cells", "_law_most", "_law_boxes"]) fun _ _ _ _ _ _ us hl => by obtain ⟨_, _, _, rfl⟩ := len_3 hl; rfl
  have F18 := fun_mk (st := s__law_sort) l18 c18 k18
  have b18 := F18.binds (ps := ["_law_deed_here"]) fun _ _ _ _ _ _ us hl => by obtain ⟨_, rfl⟩ := len_1 hl; rfl
  have F19 := fun_mk (st := s__law_load) l19 c19 k19
  have b19 := F19.binds (ps := ["_law_deeds_here", "_law_beat", "_law_units"]) fun _ _ _ _ _ _ us hl => by obtain ⟨_, _, _, rfl⟩ := len_3 hl; rfl
  have F20 := fun_mk (st := s__law_kept) l20 c20 k20
  have b20 := F20.binds (ps := ["_law_deeds_here", "_law_units", "_law_beats"]) fun _ _ _ _ _ _ us hl => by obtain ⟨_, _, _, rfl⟩ := len_3 hl; rfl
  have F21 := fun_mk (st := s__law_more) l21 c21 k21
  have b21 := F21.binds (ps := ["_law_deeds_here", "_law_units", "_law_leans_here", "_law_done"]) fun _ _ _ _ _ _ us hl => by obtain ⟨_, _, _, _, rfl⟩ := len_4 hl; rfl
  have F22 := fun_mk (st := s__law_leans) l22 c22 k22
  have b22 := F22.binds (ps := ["_law_deeds_here"]) fun _ _ _ _ _ _ us hl => by obtain ⟨_, rfl⟩ := len_1 hl; rfl
  have F23 := fun_mk (st := s_law) l23 c23 k23
  have b23 := F23.binds (ps := ["_law_script"]) fun _ _ _ _ _ _ us hl => by obtain ⟨_, rfl⟩ := len_1 hl; rfl
  exact ⟨⟨pr, _, _, _, _, _, _, _, _, _, _, _, _, _, _, _, _, _, _, _, _, _, _, _, _, _, _, _, _, _, _, _, _, _, _, _, _, _, _, _, _, _, _, _, _, _, _, _, _, _, _⟩, ⟨PySem.W.mg_of X G aD_SORTS, kk_SORTS, ⟨⟨pg_Layer, hd_Layer, po_Layer, sa_Layer⟩, mk_Layer, kc_Layer, PySem.W.mg_of X G aC_Layer⟩, n_Layer_units, n_Layer_sorts, n_Layer_gaps, ⟨F0, b0, PySem.W.mg_of X G a0⟩, ⟨F1, b1, PySem.W.mg_of X G a1⟩, ⟨F2, b2, PySem.W.mg_of X G a2⟩, ⟨F3, b3, PySem.W.mg_of X G a3⟩, ⟨F4, b4, PySem.W.mg_of X G a4⟩, ⟨F5, b5, PySem.W.mg_of X G a5⟩, ⟨F6, b6, ⟨a6, i6, k6⟩⟩, ⟨F7, b7, ⟨a7, i7, k7⟩⟩, ⟨F8, b8, ⟨a8, i8, k8⟩⟩, ⟨F9, b9, ⟨a9, i9, k9⟩⟩, ⟨F10, b10, ⟨a10, i10, k10⟩⟩, ⟨F11, b11, PySem.W.mg_of X G a11⟩, ⟨F12, b12, PySem.W.mg_of X G a12⟩, ⟨F13, b13, PySem.W.mg_of X G a13⟩, ⟨F14, b14, PySem.W.mg_of X G a14⟩, ⟨F15, b15, PySem.W.mg_of X G a15⟩, ⟨F16, b16, PySem.W.mg_of X G a16⟩, ⟨F17, b17, PySem.W.mg_of X G a17⟩, ⟨F18, b18, PySem.W.mg_of X G a18⟩, ⟨F19, b19, PySem.W.mg_of X G a19⟩, ⟨F20, b20, PySem.W.mg_of X G a20⟩, ⟨F21, b21, PySem.W.mg_of X G a21⟩, ⟨F22, b22, PySem.W.mg_of X G a22⟩, ⟨F23, b23, PySem.W.mg_of X G a23⟩, PySem.W.mg_none_of X G z_range, PySem.W.mg_none_of X G z_isinstance, PySem.W.mg_none_of X G z_int, PySem.W.mg_none_of X G z_bool, PySem.W.mg_none_of X G z_str, PySem.W.mg_none_of X G z_enumerate, PySem.W.mg_none_of X G z_len, PySem.W.mg_none_of X G z_list, PySem.W.mg_none_of X G z_sum, PySem.W.mg_none_of X G z_tuple, PySem.W.mg_none_of X G z_sorted, PySem.W.mg_none_of X G z_any⟩, rfl⟩
end K32
set_option maxHeartbeats 4000000
namespace K32
open PySem L2 PyProof.Rows FA
noncomputable def Later (u : TS) (D : Ends) : L2.St → Hp → Prop := u D
theorem later {u : TS} {D : Ends} {σ : L2.St} {H : Hp} (h : u D σ H) : Later u D σ H := h
theorem r_seqL {t u : TS} {D : Ends} {σ : L2.St} {H : Hp} : tSeq t u D σ H = t { D with nx := Later u D } σ H := rfl
theorem r_midL {t u : TS} {D : Ends} {σ : L2.St} {H : Hp} : tMid t u D σ H = ∃ Mid : L2.St → Hp → Prop, t { D with nx := Mid } σ H ∧ ∀ σ' H', Mid σ' H' → Later u D σ' H' := rfl
theorem r_ifSL {c : TT} {t u : TS} {D : Ends} {σ : L2.St} {H : Hp} : tIfS c t u D σ H = c σ H fun b H1 => if b = true then Later t D σ H1 else Later u D σ H1 := rfl
end K32
set_option maxHeartbeats 4000000
namespace K32
open PySem L2 PyProof.Rows FA
section
variable {P : Program} {w : World} {K : PySem.W.Frag} {mg : Str → Option Value} {base : Heap} {t : Ad}
theorem fil_opd {o : FB.Opd} : List.map id (List.filter isStrV [o.v]) = o.reads.map V.str := by cases o <;> rfl
theorem fil_opd2 {o p : FB.Opd} : List.map id (List.filter isStrV [o.v, p.v]) = (o.reads ++ p.reads).map V.str := by cases o <;> cases p <;> rfl
theorem isi_opd {o : FB.Opd} {H : Hp} {Q : VK} (h : Q (.bl (isStrV o.v)) H) : rIsi K [o.v, .ty "str"] H Q := by
  cases o with
  | box n => exact r_isi_str_str.mpr h
  | word i => exact r_isi_int_str.mpr h
theorem op_ne_tell {f : Str} (h : f ∈ FB.opsL) : ¬ f = "tell" := by
  rintro rfl
  revert h
  decide +kernel
theorem ix0 {d : FB.Deed} {H : Hp} {a : Addr} {Z : V → Hp → Prop} (f : d.fine) (hS : SqT K H a d.vs) (h : Z (.bl d.tells) H) : ∃ xs v, SqT K H a xs ∧ atI xs 0 = some v ∧ rEq v (.str "tell") H Z := by
  cases d with
  | tell o => exact ⟨_, _, hS, rfl, rfl, h⟩
  | copy n o => exact ⟨_, _, hS, rfl, rfl, h⟩
  | op g n o p =>
    refine ⟨_, _, hS, rfl, rfl, ?_⟩
    have e : decide (V.str g = V.str "tell") = false := decide_eq_false (fun z => op_ne_tell f (V.str.inj z))
    rw [e]; exact h
theorem ix0n {d : FB.Deed} {H : Hp} {a : Addr} {Z : V → Hp → Prop} (f : d.fine) (hS : SqT K H a d.vs) (h : Z (.bl (!d.tells)) H) : ∃ xs v, SqT K H a xs ∧ atI xs 0 = some v ∧ rNe v (.str "tell") H Z := by
  obtain ⟨xs, v, h1, h2, h3, h4⟩ := ix0 (Z := fun x H' => ∃ b, x = .bl b ∧ Z (.bl (!b)) H') f hS ⟨_, rfl, h⟩
  obtain ⟨b, e, h4⟩ := h4
  cases e
  exact ⟨xs, v, h1, h2, h3, h4⟩
noncomputable def wr (d : FB.Deed) : Str := d.writes.headD ""
theorem ix1 {d : FB.Deed} {H : Hp} {a : Addr} {Z : V → Prop} (f : d.tells = false) (hS : SqT K H a d.vs) (h : Z (.str (wr d))) : ∃ xs v, SqT K H a xs ∧ atI xs 1 = some v ∧ Z v := by
  cases d with
  | tell o => cases f
  | copy n o => exact ⟨_, _, hS, rfl, h⟩
  | op g n o p => exact ⟨_, _, hS, rfl, h⟩
theorem wr_of {d : FB.Deed} (f : d.tells = false) : d.writes = [wr d] := by
  cases d with
  | tell o => cases f
  | copy n o => rfl
  | op g n o p => rfl
theorem wr_no {d : FB.Deed} (f : d.tells = true) : d.writes = [] := by
  cases d with
  | tell o => rfl
  | copy n o => cases f
  | op g n o p => cases f
end
end K32
set_option maxHeartbeats 4000000
namespace K32
open PySem L2 PyProof.Rows FA
noncomputable def opds : FB.Deed → List FB.Opd
  | .tell a => [a]
  | .copy _ a => [a]
  | .op _ _ a b => [a, b]
noncomputable def wrV (d : FB.Deed) : V := match d.writes with | [] => .non | n :: _ => .str n
noncomputable def sp_opds (K : PySem.W.Frag) : Sp := fun vs H Q _ => ∃ (a : Addr) (d : FB.Deed), vs = [.ref a] ∧ SqT K H a d.vs ∧ d.fine ∧ ∀ p, H p = none → Q (.ref p) (upd H p (.tup ((opds d).map FB.Opd.v)))
noncomputable def sp_written (K : PySem.W.Frag) : Sp := fun vs H Q _ => ∃ (a : Addr) (d : FB.Deed), vs = [.ref a] ∧ SqT K H a d.vs ∧ d.fine ∧ Q (wrV d) H
theorem opds_len {d : FB.Deed} : (opds d).length ≤ 2 := by cases d <;> simp [opds]
section
variable {P : Program} {w : World} {K : PySem.W.Frag} {mg : Str → Option Value} {base : Heap} {t : Ad}
theorem ok_opds (T : Txt K mg t) : FnOk P w K mg base CX0 1 t.f_operands_of t.e_operands_of ["deed"] (sp_opds K) := by
  refine T.d_operands_of.F.ok sc_operands_of (fun vs H Q E h => by obtain ⟨_, _, rfl, _⟩ := h; rfl) (fun cdv A outer s H vs Q E hr h => ?_)
  obtain ⟨a, d, rfl, hS, hf, q⟩ := h
  refine ⟨_,
      (XSs.h
      (xpss_one
        (xps_ret (xpe_ifExp (xpt_cmpR op_eq (xpe_ix ix_tup (xqv 0 vl) xpe_int (fun _ _ => rfl)) xpe_str (nomark _)) (xpe_slice sl_tup (xqv 0 vl) (xpo_some xpe_int) xpo_none) (xpe_slice sl_tup (xqv 0 vl) (xpo_some xpe_int) xpo_none))))), ?_⟩
  rw [show start _ [V.ref a] = [some (.ref a)] from rfl]
  simp_arith [r_listRng, r_kget1, r_iEnumT, r_sorted, r_any, r_count, blkZ_K, r_iItemsT, r_setT, r_dispT1, r_dnewT, r_tupRng]
  refine ix0 hf hS ⟨_, rfl, ?_⟩
  cases d with
  | tell o => exact ⟨_, hS, notWhole (k := 1) (show ¬ HT.sIx 2 0 (some 1) = 0 by decide), q⟩
  | copy n o => exact ⟨_, hS, notWhole (k := 2) (show ¬ HT.sIx 3 0 (some 2) = 0 by decide), q⟩
  | op f n o o2 => exact ⟨_, hS, notWhole (k := 2) (show ¬ HT.sIx 4 0 (some 2) = 0 by decide), q⟩
theorem r_opds {a : Addr} {H : Hp} {Q : VK} {E : XK} : sp_opds K [.ref a] H Q E = ∃ d : FB.Deed, SqT K H a d.vs ∧ d.fine ∧ ∀ p, H p = none → Q (.ref p) (upd H p (.tup ((opds d).map FB.Opd.v))) := propext ⟨by rintro ⟨_, d, e, q⟩; cases e; exact ⟨d, q⟩, by rintro ⟨d, q⟩; exact ⟨a, d, rfl, q⟩⟩
theorem ok_written (T : Txt K mg t) : FnOk P w K mg base CX0 1 t.f_box_written t.e_box_written ["deed"] (sp_written K) := by
  refine T.d_box_written.F.ok sc_box_written (fun vs H Q E h => by obtain ⟨_, _, rfl, _⟩ := h; rfl) (fun cdv A outer s H vs Q E hr h => ?_)
  obtain ⟨a, d, rfl, hS, hf, q⟩ := h
  refine ⟨_,
      (XSs.h
      (xpss_one
        (xps_ret (xpe_ifExp (xpt_cmpR op_eq (xpe_ix ix_tup (xqv 0 vl) xpe_int (fun _ _ => rfl)) xpe_str (nomark _)) xpe_non (xpe_ix ix_tup (xqv 0 vl) xpe_int (fun _ _ => rfl)))))), ?_⟩
  rw [show start _ [V.ref a] = [some (.ref a)] from rfl]
  simp_arith [r_listRng, r_kget1, r_iEnumT, r_sorted, r_any, r_count, blkZ_K, r_iItemsT, r_setT, r_dispT1, r_dnewT, r_tupRng]
  refine ix0 hf hS ⟨_, rfl, ?_⟩
  cases d with
  | tell o => exact q
  | copy n o => exact ⟨_, _, hS, rfl, q⟩
  | op f n o o2 => exact ⟨_, _, hS, rfl, q⟩
theorem r_written {a : Addr} {H : Hp} {Q : VK} {E : XK} : sp_written K [.ref a] H Q E = ∃ d : FB.Deed, SqT K H a d.vs ∧ d.fine ∧ Q (wrV d) H := propext ⟨by rintro ⟨_, d, e, q⟩; cases e; exact ⟨d, q⟩, by rintro ⟨d, q⟩; exact ⟨a, d, rfl, q⟩⟩
end
end K32
set_option maxHeartbeats 4000000
namespace K32
open PySem L2 PyProof.Rows FA
noncomputable def sp_mixed : Sp := fun vs H Q _ => ∃ c k : Int, vs = [.int c, .int k] ∧ Builtin.Int.intBits c ≤ 2 ^ 20 ∧ 0 ≤ k ∧ k ≤ 1000 ∧ Q (.int (mixed c k)) H
theorem r_mixed {c k : Int} {H : Hp} {Q : VK} {E : XK} : sp_mixed [.int c, .int k] H Q E = (Builtin.Int.intBits c ≤ 2 ^ 20 ∧ 0 ≤ k ∧ k ≤ 1000 ∧ Q (.int (mixed c k)) H) := propext ⟨by rintro ⟨_, _, e, q⟩; cases e; exact q, by intro q; exact ⟨c, k, rfl, q⟩⟩
section
variable {P : Program} {w : World} {K : PySem.W.Frag} {mg : Str → Option Value} {base : Heap} {t : Ad}
theorem ok_mixed (T : Txt K mg t) : FnOk P w K mg base CX0 1 t.f__law_mixed t.e__law_mixed ["_law_cell", "_law_k"] sp_mixed := by
  refine T.d__law_mixed.F.ok sc__law_mixed (fun vs H Q E h => by obtain ⟨_, _, rfl, _⟩ := h; rfl) (fun cdv A outer s H vs Q E hr h => ?_)
  obtain ⟨c, k, rfl, hb, k0, k1, q⟩ := h
  refine ⟨_,
      (XSs.h
      (xpss_cons
        (xps_if (xpt_cmpR op_ge (xqv 0 vl) (xpe_op op_pow xpe_int xpe_int) (nomark _))
          (xpss_one
            (xps_ret (xpe_op op_mod (xpe_op op_fdivB (xpe_op op_sub (xqv 0 vl) (xpe_op op_pow xpe_int xpe_int)) (xpe_op op_shl xpe_int (xpe_op op_mul xpe_int (xpe_op op_mod (xqv 1 vl) xpe_int)))) (xpe_op op_shl xpe_int xpe_int))))
          xpss_nil)
      (xpss_cons
        (xps_set (i := 2) sc__law_mixed.nd rfl ll (xpe_op op_mod (xpe_op op_mul (xpe_op op_add (xpe_op op_add (xpe_op op_add (xpe_op op_mulB (xqv 0 vl) (xqv 0 vl)) (xpe_op op_mul xpe_int (xqv 0 vl))) (xpe_op op_mul xpe_int (xqv 1 vl))) xpe_int) xpe_int) xpe_int))
      (xpss_one
        (xps_ret (xpe_op op_mod (xpe_op op_add (xpe_op op_mul (xqv 2 vl) (xqv 2 vl)) xpe_int) xpe_int)))))), ?_⟩
  rw [show start _ [V.int c, V.int k] = [some (.int c), some (.int k), none] from rfl]
  simp_arith [r_listRng, r_kget1, r_iEnumT, r_sorted, r_any, r_count, blkZ_K, r_iItemsT, r_setT, r_dispT1, r_dnewT, r_tupRng]
  unfold mixed at q
  have cp : CPow 10 40 := ⟨by decide, by decide, by decide⟩
  refine ⟨cp, ite_dec (fun e => ?_) (fun e => ?_)⟩
  · rw [if_pos e] at q
    have m0 : 0 ≤ k % 60 := Int.emod_nonneg _ (by decide)
    have m1 : k % 60 < 60 := Int.emod_lt_of_pos _ (by decide)
    refine ⟨cp, .inl ⟨by decide, by decide⟩, ⟨by omega, by omega, by decide⟩, CDivB.pow (by omega), ⟨by decide, by decide, by decide⟩, by decide, q⟩
  · rw [if_neg e] at q
    have n0 : 0 ≤ (c * c + 3 * c + 7919 * k + 1) * 48271 % 2147483629 := Int.emod_nonneg _ (by decide)
    have n1 : (c * c + 3 * c + 7919 * k + 1) * 48271 % 2147483629 < 2147483629 := Int.emod_lt_of_pos _ (by decide)
    refine ⟨mulSelf hb, .inl ⟨by decide, by decide⟩, .inl ⟨by decide, by decide⟩, .inr ⟨by decide, by decide⟩, .inl ⟨by omega, by omega⟩, q⟩
end
end K32
set_option maxHeartbeats 4000000
namespace K32
open PySem L2 PyProof.Rows FA
noncomputable def bd_operand (K : PySem.W.Frag) (m : Int) (w : Int) (a : Addr) (H : Hp) (Q : VK) : Prop := ∃ (ns : List Str), SqL K H a (ns.map V.str) ∧ 0 ≤ w ∧ w ≤ 8 ∧ Q (opdF m ns w) H
noncomputable def sp_operand (K : PySem.W.Frag) : Sp := fun vs H Q _ => ∃ (m : Int) (w : Int) (a : Addr), vs = [.int m, .ref a, .int w] ∧ bd_operand K m w a H Q
section
variable {P : Program} {w : World} {K : PySem.W.Frag} {mg : Str → Option Value} {base : Heap} {t : Ad}
theorem ok_operand (T : Txt K mg t) : FnOk P w K mg base CX0 1 t.f__law_operand t.e__law_operand ["_law_mixed_here", "_law_names", "_law_width"] (sp_operand K) := by
  refine T.d__law_operand.F.ok sc__law_operand (fun vs H Q E h => by obtain ⟨_, _, _, rfl, _⟩ := h; rfl) (fun cdv A outer s H vs Q E hr h => ?_)
  obtain ⟨m, w, a, rfl, ns, hS, w0, w8, q⟩ := h
  refine ⟨_,
      (XSs.h
      (xpss_cons
        (xps_if (xPW_pt (xpw_and (xpt_cmpR op_gt (xpe_op op_mod (xqv 0 vl) xpe_int) xpe_int (nomark _)) (xpw_and1 (xpt_cmpR op_gt (xqe_callB call_len_seq gl T.z_len PySem.boot_len (xpa_cons (xqv 1 vl) xpa_nil)) xpe_int (nomark _)))))
          (xpss_one
            (xps_ret (xpe_ix ix_list (xqv 1 vl) (xpe_op op_mod (xpe_op op_fdivB (xqv 0 vl) xpe_int) (xqe_callB call_len_seq gl T.z_len PySem.boot_len (xpa_cons (xqv 1 vl) xpa_nil))) (fun _ _ => rfl))))
          xpss_nil)
      (xpss_one
        (xps_ret (xpe_op op_mod (xpe_op op_fdivB (xqv 0 vl) xpe_int) (xpe_op op_shl xpe_int (xqv 2 vl))))))), ?_⟩
  rw [show start _ [V.int m, V.ref a, V.int w] = [some (.int m), some (.ref a), some (.int w)] from rfl]
  simp_arith [r_listRng, r_kget1, r_iEnumT, r_sorted, r_any, r_count, blkZ_K, r_iItemsT, r_setT, r_dispT1, r_dnewT, r_tupRng]
  unfold opdF at q
  have np : (0 : Int) < 1 * 2 ^ w.toNat := by rw [Int.one_mul]; exact Int.pow_pos (by decide)
  refine ite_dec (fun e => ?_) (fun e => ?_)
  · refine ⟨_, .inl hS, ite_dec (fun e2 => ?_) (fun e2 => ?_)⟩
    · rw [List.length_map] at e2
      have hn : ¬ ns = [] := fun z => by rw [z] at e2; simp at e2
      rw [if_pos ⟨e, hn⟩] at q
      refine ⟨CDivB.small (by decide) (by decide), _, .inl hS, ?_, _, _, hS, ?_, q⟩
      · rw [List.length_map]; exact e2
      · rw [List.length_map]; exact pick_at hn
    · rw [List.length_map] at e2
      have hn : ns = [] := List.length_eq_zero_iff.mp (by omega)
      rw [if_neg (fun z => z.2 hn)] at q
      exact ⟨CDivB.small (by decide) (by decide), ⟨by omega, by omega, by decide⟩, np, q⟩
  · rw [if_neg (fun z => e z.1)] at q
    exact ⟨CDivB.small (by decide) (by decide), ⟨by omega, by omega, by decide⟩, np, q⟩
theorem r_operand {m w : Int} {a : Addr} {H : Hp} {Q : VK} {E : XK} : sp_operand K [.int m, .ref a, .int w] H Q E = ∃ ns, SqL K H a (ns.map V.str) ∧ 0 ≤ w ∧ w ≤ 8 ∧ Q (opdF m ns w) H := propext ⟨by rintro ⟨_, _, _, e, q⟩; cases e; exact q, fun q => ⟨_, _, _, rfl, q⟩⟩
end
end K32
set_option maxHeartbeats 4000000
namespace K32
open PySem L2 PyProof.Rows FA
noncomputable def bd_deed (K : PySem.W.Frag) (m : Int) (w : Int) (a : Addr) (H : Hp) (Q : VK) : Prop := ∃ (ns : List Str), SqL K H a (ns.map V.str) ∧ 0 ≤ w ∧ w ≤ 8 ∧ ∀ p H', Same H H' → H p = none → H' p = some (.tup (deedF m ns w)) → Q (.ref p) H'
noncomputable def sp_deed (K : PySem.W.Frag) : Sp := fun vs H Q _ => ∃ (m : Int) (w : Int) (a : Addr), vs = [.int m, .ref a, .int w] ∧ bd_deed K m w a H Q
section
variable {P : Program} {w : World} {K : PySem.W.Frag} {mg : Str → Option Value} {base : Heap} {t : Ad}
theorem ok_deed (T : Txt K mg t) : FnOk P w K mg base CX0 2 t.f__law_deed t.e__law_deed ["_law_mixed_here", "_law_names", "_law_width"] (sp_deed K) := by
  have G__law_operand := ok_operand (P := P) (w := w) (base := base) T
  refine T.d__law_deed.F.ok sc__law_deed (fun vs H Q E h => by obtain ⟨_, _, _, rfl, _⟩ := h; rfl) (fun cdv A outer s H vs Q E hr h => ?_)
  obtain ⟨m, w, a, rfl, ns, hS, w0, w8, q⟩ := h
  refine ⟨_,
      (XSs.h
      (xpss_cons
        (xps_set (i := 3) sc__law_deed.nd rfl ll (xqe_callD T.d__law_operand G__law_operand (hr.mono (by first | decide | omega)) (xpa_cons (xpe_op op_fdivB (xqv 0 vl) xpe_int) (xpa_cons (xqv 1 vl) (xpa_cons (xqv 2 vl) xpa_nil))) gl))
      (xpss_cons
        (xps_if (xPW_pt (xpw_or (xpt_cmpR op_eq (xpe_op op_mod (xqv 0 vl) xpe_int) xpe_int (nomark _)) (xpw_or1 (xpt_cmpR op_eq (xqe_callB call_len_seq gl T.z_len PySem.boot_len (xpa_cons (xqv 1 vl) xpa_nil)) xpe_int (nomark _)))))
          (xpss_one
            (xps_ret (xpe_tup (xpa_cons xpe_str (xpa_cons (xqv 3 vl) xpa_nil)))))
          xpss_nil)
      (xpss_cons
        (xps_set (i := 4) sc__law_deed.nd rfl ll (xpe_ix ix_list (xqv 1 vl) (xpe_op op_mod (xpe_op op_fdivB (xqv 0 vl) xpe_int) (xqe_callB call_len_seq gl T.z_len PySem.boot_len (xpa_cons (xqv 1 vl) xpa_nil))) (fun _ _ => rfl)))
      (xpss_cons
        (xps_if (xpt_cmpR op_eq (xpe_op op_mod (xqv 0 vl) xpe_int) xpe_int (nomark _))
          (xpss_one
            (xps_ret (xpe_tup (xpa_cons xpe_str (xpa_cons (xqv 4 vl) (xpa_cons (xqv 3 vl) xpa_nil))))))
          xpss_nil)
      (xpss_cons
        (xps_set (i := 5) sc__law_deed.nd rfl ll (xpe_ix ix_list (xpe_lst (xpa_const (by rfl))) (xpe_op op_sub (xpe_op op_mod (xqv 0 vl) xpe_int) xpe_int) (fun _ _ => rfl)))
      (xpss_one
        (xps_ret (xpe_tup (xpa_cons (xqv 5 vl) (xpa_cons (xqv 4 vl) (xpa_cons (xqv 3 vl) (xpa_cons (xqe_callD T.d__law_operand G__law_operand (hr.mono (by first | decide | omega)) (xpa_cons (xpe_op op_fdivB (xqv 0 vl) xpe_int) (xpa_cons (xqv 1 vl) (xpa_cons (xqv 2 vl) xpa_nil))) gl) xpa_nil))))))))))))), ?_⟩
  rw [show start _ [V.int m, V.ref a, V.int w] = [some (.int m), some (.ref a), some (.int w), none, none, none] from rfl]
  simp_arith [r_listRng, r_kget1, r_iEnumT, r_sorted, r_any, r_count, blkZ_K, r_iItemsT, r_setT, r_dispT1, r_dnewT, r_tupRng, r_operand]
  unfold deedF at q
  have n0 : 0 ≤ m % 9 := Int.emod_nonneg _ (by decide)
  have n1 : m % 9 < 9 := Int.emod_lt_of_pos _ (by decide)
  have cd : ∀ z, 0 < z → z < 1073741824 → CDivB m z := fun z h1 h2 => CDivB.small h1 h2
  refine ⟨cd _ (by decide) (by decide), ns, hS, w0, w8, ite_dec (fun e => ?_) (fun e => ?_)⟩
  · rw [if_pos (.inl e)] at q
    intro p hp
    exact q p _ (Same.upd hp) hp upd_same
  · refine ⟨_, .inl hS, ite_dec (fun e2 => ?_) (fun e2 => ?_)⟩
    · rw [List.length_map] at e2
      rw [if_pos (.inr (List.length_eq_zero_iff.mp (by omega)))] at q
      intro p hp
      exact q p _ (Same.upd hp) hp upd_same
    · rw [List.length_map] at e2
      have hn : ¬ ns = [] := fun z => e2 (by rw [z]; rfl)
      rw [if_neg (fun z => z.elim e hn)] at q
      refine ⟨cd _ (by decide) (by decide), _, .inl hS, ?_, _, _, hS, (by rw [List.length_map]; exact pick_at hn), ite_dec (fun e3 => ?_) (fun e3 => ?_)⟩
      · rw [List.length_map]
        have := List.length_pos_iff.mpr hn
        omega
      · rw [if_pos e3] at q
        intro p hp
        exact q p _ (Same.upd hp) hp upd_same
      · rw [if_neg e3] at q
        intro p hp
        refine ⟨_, _, SqL.of upd_same, ops_at (by omega) (by omega), cd _ (by decide) (by decide), ns, (Same.upd hp).seq hS, w0, w8, fun p2 hp2 => ?_⟩
        exact q p2 _ ((Same.upd hp).trans (Same.upd hp2)) ((Same.upd hp).free hp2) upd_same
theorem r_deed {m w : Int} {a : Addr} {H : Hp} {Q : VK} {E : XK} : sp_deed K [.int m, .ref a, .int w] H Q E = ∃ ns, SqL K H a (ns.map V.str) ∧ 0 ≤ w ∧ w ≤ 8 ∧ ∀ p H', Same H H' → H p = none → H' p = some (.tup (deedF m ns w)) → Q (.ref p) H' := propext ⟨by rintro ⟨_, _, _, e, q⟩; cases e; exact q, fun q => ⟨_, _, _, rfl, q⟩⟩
end
end K32
set_option maxHeartbeats 4000000
namespace K32
open PySem L2 PyProof.Rows FA
noncomputable def sp_reads (K : PySem.W.Frag) : Sp := fun vs H Q _ => ∃ (a : Addr) (d : FB.Deed), vs = [.ref a] ∧ SqT K H a d.vs ∧ d.fine ∧ ∀ p H', Same H H' → H p = none → H' p = some (.lst (d.reads.map V.str)) → Q (.ref p) H'
section
variable {P : Program} {w : World} {K : PySem.W.Frag} {mg : Str → Option Value} {base : Heap} {t : Ad}
theorem ok_reads (T : Txt K mg t) : FnOk P w K mg base CX0 1 t.f__law_reads t.e__law_reads ["_law_deed_here"] (sp_reads K) := by
  refine T.d__law_reads.F.ok sc__law_reads (fun vs H Q E h => by obtain ⟨_, _, rfl, _⟩ := h; rfl) (fun cdv A outer s H vs Q E hr h => ?_)
  obtain ⟨a, d, rfl, hS, hf, q⟩ := h
  refine ⟨_,
      (XSs.h
      (xpss_cons
        (xps_set (i := 1) sc__law_reads.nd rfl ll (xpe_slice sl_tup (xqv 0 vl) (xpo_some xpe_int) xpo_none))
      (xpss_cons
        (xps_if (xpt_cmpR op_eq (xpe_ix ix_tup (xqv 0 vl) xpe_int (fun _ _ => rfl)) xpe_str (nomark _))
          (xpss_one
            (xps_set (i := 1) sc__law_reads.nd rfl ll (xpe_slice sl_tup (xqv 0 vl) (xpo_some xpe_int) xpo_none)))
          xpss_nil)
      (xpss_one
        (xps_ret (xpe_compG (tns := ["_law_one"]) (cns := []) (ci := []) rfl (CompSc.of (by kernel_rfl)) (xpi_tup (xqv 1 vl)) (fun _ => (xpg_name (i := 1) (show List.Nodup [(".0" : Str), ("_law_one" : Str)] by decide +kernel) rfl ll (Or.inr (by kernel_rfl)))) (fun _ => (xpf_one (xpt_val (xqe_callB call_isi gl T.z_isinstance boot_isinstance (xpa_cons (xqv 1 vl) (xpa_cons (xqe_bltn (v := .ty "str") gl T.z_str boot_str rfl) xpa_nil)))))) (fun _ => (xqv 1 vl)))))))), ?_⟩
  rw [show start _ [V.ref a] = [some (.ref a), none] from rfl]
  simp_arith [r_listRng, r_kget1, r_iEnumT, r_sorted, r_any, r_count, blkZ_K, r_iItemsT, r_setT, r_dispT1, r_dnewT, r_tupRng]
  have fin : ∀ (zs : List V) (p acc : Addr) (bk : Bk) (H2 : Hp), Same H H2 → H2 p = some (.tup zs) → H2 acc = none → zs.length ≤ 2 → (∀ x ∈ zs, ∃ o : FB.Opd, x = o.v) → List.map id (List.filter isStrV zs) = d.reads.map V.str →
      CompGW (Itt K p) (gName 1) (tB (tCB (rIsi K) (tCons (tVar 1) (tCons (tC (V.ty "str")) tNil)))) (tVar 1) 1 [] [some (V.ref a), some (V.ref p)] acc (fun H' => Q (V.ref acc) H') (upd H2 acc (HO.lst [])) := by
    intro zs p acc bk H2 sm hp hacc hl hz he
    refine cg_flatT isStrV id (by rw [sizeLine_eq]; omega) (SqT.of hp) hacc (fun x hm H3 Q' s3 h => ?_) (fun x hm H3 Q' s3 _ h => ?_) ?_
    · obtain ⟨o, rfl⟩ := hz x hm
      simp_arith [r_listRng, r_kget1, r_iEnumT, r_sorted, r_any, r_count, blkZ_K, r_iItemsT, r_setT, r_dispT1, r_dnewT, r_tupRng]
      exact isi_opd ⟨_, rfl, h⟩
    · simp_arith [r_listRng, r_kget1, r_iEnumT, r_sorted, r_any, r_count, blkZ_K, r_iItemsT, r_setT, r_dispT1, r_dnewT, r_tupRng]
      exact h
    · rw [he]
      exact q acc _ (sm.trans (Same.upd hacc)) (sm.free hacc) upd_same
  cases d with
  | tell o =>
    refine ⟨_, hS, notWhole (k := 2) (show ¬ HT.sIx 2 0 (some 2) = 0 by decide), fun p hp => ⟨_, _, (Same.upd hp).seqT hS, rfl, ?_⟩⟩
    simp_arith [r_listRng, r_kget1, r_iEnumT, r_sorted, r_any, r_count, blkZ_K, r_iItemsT, r_setT, r_dispT1, r_dnewT, r_tupRng]
    refine ite_dec (fun _ => ⟨_, (Same.upd hp).seqT hS, notWhole (k := 1) (show ¬ HT.sIx 2 0 (some 1) = 0 by decide), fun p2 hp2 => ⟨⟨_, SqT.of upd_same⟩, fun acc hacc bk => ?_⟩⟩) (fun e => absurd trivial e)
    exact fin [o.v] p2 acc bk _ ((Same.upd hp).trans (Same.upd hp2)) upd_same hacc (by simp) (fun x hm => ⟨o, List.mem_singleton.mp hm⟩) fil_opd
  | copy n o =>
    refine ⟨_, hS, notWhole (k := 2) (show ¬ HT.sIx 3 0 (some 2) = 0 by decide), fun p hp => ⟨_, _, (Same.upd hp).seqT hS, rfl, ?_⟩⟩
    simp_arith [r_listRng, r_kget1, r_iEnumT, r_sorted, r_any, r_count, blkZ_K, r_iItemsT, r_setT, r_dispT1, r_dnewT, r_tupRng]
    refine ite_dec (fun e => absurd e (by decide +kernel)) (fun _ => ⟨⟨_, SqT.of upd_same⟩, fun acc hacc bk => ?_⟩)
    exact fin [o.v] p acc bk _ (Same.upd hp) upd_same hacc (by simp) (fun x hm => ⟨o, List.mem_singleton.mp hm⟩) fil_opd
  | op f n o o2 =>
    refine ⟨_, hS, notWhole (k := 2) (show ¬ HT.sIx 4 0 (some 2) = 0 by decide), fun p hp => ⟨_, _, (Same.upd hp).seqT hS, rfl, ?_⟩⟩
    simp_arith [r_listRng, r_kget1, r_iEnumT, r_sorted, r_any, r_count, blkZ_K, r_iItemsT, r_setT, r_dispT1, r_dnewT, r_tupRng]
    refine ite_dec (fun e => absurd e (op_ne_tell hf)) (fun _ => ⟨⟨_, SqT.of upd_same⟩, fun acc hacc bk => ?_⟩)
    exact fin [o.v, o2.v] p acc bk _ (Same.upd hp) upd_same hacc (by simp) (fun x hm => by rcases List.mem_cons.mp hm with z | z; exact ⟨o, z⟩; exact ⟨o2, List.mem_singleton.mp z⟩) fil_opd2
theorem r_reads {a : Addr} {H : Hp} {Q : VK} {E : XK} : sp_reads K [.ref a] H Q E = ∃ d : FB.Deed, SqT K H a d.vs ∧ d.fine ∧ ∀ p H', Same H H' → H p = none → H' p = some (.lst (d.reads.map V.str)) → Q (.ref p) H' := propext ⟨by rintro ⟨_, d, e, q⟩; cases e; exact ⟨d, q⟩, by rintro ⟨d, q⟩; exact ⟨a, d, rfl, q⟩⟩
end
end K32
set_option maxHeartbeats 4000000
namespace K32
open PySem L2 PyProof.Rows FA
noncomputable def sp_lgap (K : PySem.W.Frag) : Sp := fun vs H Q _ => ∃ (a b : Addr) (d e : FB.Deed), vs = [.ref a, .ref b] ∧ SqT K H a d.vs ∧ SqT K H b e.vs ∧ d.fine ∧ e.fine ∧ ∀ H', Same H H' → Q (FB.optV (FB.gapD d e)) H'
section
variable {P : Program} {w : World} {K : PySem.W.Frag} {mg : Str → Option Value} {base : Heap} {t : Ad}
theorem ok_lgap (T : Txt K mg t) : FnOk P w K mg base CX0 2 t.f__law_gap t.e__law_gap ["_law_one", "_law_other"] (sp_lgap K) := by
  have G__law_reads := ok_reads (P := P) (w := w) (base := base) T
  refine T.d__law_gap.F.ok sc__law_gap (fun vs H Q E h => by obtain ⟨_, _, _, _, rfl, _⟩ := h; rfl) (fun cdv A outer s H vs Q E hr h => ?_)
  obtain ⟨a, b, d, e, rfl, hA, hB, fA, fB, q⟩ := h
  refine ⟨_,
      (XSs.h
      (xpss_cons
        (xps_if (xpt_cmpR op_eq (xpe_ix ix_tup (xqv 0 vl) xpe_int (fun _ _ => rfl)) xpe_str (nomark _))
          (xpss_one
            (xps_if (xpt_cmpR op_eq (xpe_ix ix_tup (xqv 1 vl) xpe_int (fun _ _ => rfl)) xpe_str (nomark _))
              (xpss_one
                (xps_ret xpe_int))
              xpss_nil))
          (xpss_one
            (xps_if (xpt_cmpR op_in_seq (xpe_ix ix_tup (xqv 0 vl) xpe_int (fun _ _ => rfl)) (xqe_callD T.d__law_reads G__law_reads (hr.mono (by first | decide | omega)) (xpa_cons (xqv 1 vl) xpa_nil) gl) rfl)
              (xpss_one
                (xps_ret xpe_int))
              xpss_nil)))
      (xpss_cons
        (xps_if (xpt_cmpR op_eq (xpe_ix ix_tup (xqv 1 vl) xpe_int (fun _ _ => rfl)) xpe_str (nomark _))
          (xpss_one
            (xps_ret xpe_non))
          xpss_nil)
      (xpss_cons
        (xps_if (xPW_pt (xpw_and (xpt_cmpR op_ne (xpe_ix ix_tup (xqv 0 vl) xpe_int (fun _ _ => rfl)) xpe_str (nomark _)) (xpw_and1 (xpt_cmpR op_eq (xpe_ix ix_tup (xqv 0 vl) xpe_int (fun _ _ => rfl)) (xpe_ix ix_tup (xqv 1 vl) xpe_int (fun _ _ => rfl)) (nomark _)))))
          (xpss_one
            (xps_ret xpe_int))
          xpss_nil)
      (xpss_cons
        (xps_if (xpt_cmpR op_in_seq (xpe_ix ix_tup (xqv 1 vl) xpe_int (fun _ _ => rfl)) (xqe_callD T.d__law_reads G__law_reads (hr.mono (by first | decide | omega)) (xpa_cons (xqv 0 vl) xpa_nil) gl) rfl)
          (xpss_one
            (xps_ret xpe_int))
          xpss_nil)
      (xpss_one
        (xps_ret xpe_non))))))), ?_⟩
  rw [show start _ [V.ref a, V.ref b] = [some (.ref a), some (.ref b)] from rfl]
  simp_arith [r_listRng, r_kget1, r_iEnumT, r_sorted, r_any, r_count, blkZ_K, r_iItemsT, r_setT, r_dispT1, r_dnewT, r_tupRng, r_reads]
  unfold FB.gapD at q
  refine ix0 fA hA ⟨_, rfl, ite_bool (fun e1 => ix0 fB hB ⟨_, rfl, ite_bool (fun e2 => ?_) (fun e2 => ix0 fB hB ⟨_, rfl, ?_⟩)⟩) (fun e1 => ix1 e1 hA ⟨e, hB, fB, fun p H2 s2 hp hl => ⟨_, .inl (SqL.of hl), rfl, flat_strs, ite_bool (fun e2 => ?_) (fun e2 => ix0 fB (s2.seqT hB) ⟨_, rfl, ite_bool (fun e3 => ?_) (fun e3 => ix0n fA (s2.seqT hA) ⟨_, rfl, ?_⟩)⟩)⟩⟩)⟩
  · rw [if_pos ⟨e1, e2⟩] at q; exact q H (Same.refl H)
  · rw [e2, if_neg Bool.false_ne_true]
    refine ix0n fA hA ⟨_, rfl, ?_⟩
    rw [e1]
    simp_arith [r_listRng, r_kget1, r_iEnumT, r_sorted, r_any, r_count, blkZ_K, r_iItemsT, r_setT, r_dispT1, r_dnewT, r_tupRng]
    refine ix1 e2 hB ⟨d, hA, fA, fun p H2 s2 hp hl => ⟨_, .inl (SqL.of hl), rfl, flat_strs, ?_⟩⟩
    rw [if_neg (fun z => by rw [e2] at z; exact Bool.false_ne_true z.2), wr_no e1, wr_of e2] at q
    rw [inV_str]
    refine ite_dec (fun e3 => ?_) (fun e3 => ?_)
    · rw [if_neg (by simp), if_pos ⟨_, by simp, e3⟩] at q; exact q _ s2
    · rw [if_neg (by simp), if_neg (by simpa using e3)] at q; exact q _ s2
  · rw [inV_str] at e2
    rw [if_neg (fun z => by rw [e1] at z; exact Bool.false_ne_true z.1), if_pos ⟨wr d, by rw [wr_of e1]; simp, .inl (of_decide_eq_true e2)⟩] at q
    exact q _ s2
  · rw [inV_str] at e2
    rw [if_neg (fun z => by rw [e1] at z; exact Bool.false_ne_true z.1), wr_of e1, wr_no e3, if_neg (by simpa using of_decide_eq_false e2), if_neg (by simp)] at q
    exact q _ s2
  · rw [inV_str] at e2
    rw [e1]
    simp_arith [r_listRng, r_kget1, r_iEnumT, r_sorted, r_any, r_count, blkZ_K, r_iItemsT, r_setT, r_dispT1, r_dnewT, r_tupRng]
    refine ix1 e1 (s2.seqT hA) (ix1 e3 (s2.seqT hB) ?_)
    rw [if_neg (fun z => by rw [e1] at z; exact Bool.false_ne_true z.1), wr_of e1, wr_of e3] at q
    simp_arith [r_listRng, r_kget1, r_iEnumT, r_sorted, r_any, r_count, blkZ_K, r_iItemsT, r_setT, r_dispT1, r_dnewT, r_tupRng]
    refine ite_dec (fun e4 => ?_) (fun e4 => ?_)
    · rw [if_pos ⟨_, List.mem_singleton.mpr rfl, .inr (by rw [e4]; simp)⟩] at q; exact q _ s2
    · refine ix1 e3 (s2.seqT hB) ⟨d, s2.seqT hA, fA, fun p H3 s3 hp hl => ⟨_, .inl (SqL.of hl), rfl, flat_strs, ?_⟩⟩
      rw [inV_str]
      rw [if_neg (by rintro ⟨n, hn, h⟩; rw [List.mem_singleton.mp hn] at h; exact h.elim (of_decide_eq_false e2) (fun z => e4 (List.mem_singleton.mp z)))] at q
      refine ite_dec (fun e5 => ?_) (fun e5 => ?_)
      · rw [if_pos ⟨_, List.mem_singleton.mpr rfl, e5⟩] at q; exact q _ (s2.trans s3)
      · rw [if_neg (by rintro ⟨n, hn, h⟩; rw [List.mem_singleton.mp hn] at h; exact e5 h)] at q; exact q _ (s2.trans s3)
theorem r_lgap {a b : Addr} {H : Hp} {Q : VK} {E : XK} : sp_lgap K [.ref a, .ref b] H Q E = ∃ d e : FB.Deed, SqT K H a d.vs ∧ SqT K H b e.vs ∧ d.fine ∧ e.fine ∧ ∀ H', Same H H' → Q (FB.optV (FB.gapD d e)) H' := propext ⟨by rintro ⟨_, _, d, e, z, q⟩; cases z; exact ⟨d, e, q⟩, by rintro ⟨d, e, q⟩; exact ⟨a, b, d, e, rfl, q⟩⟩
end
end K32
set_option maxHeartbeats 4000000
namespace K32
open PySem L2 PyProof.Rows FA
noncomputable def sp_deeds (K : PySem.W.Frag) : Sp := fun vs H Q _ => ∃ (a : Addr) (ns : List Int) (m b : Int), vs = [.ref a, .int m, .int b] ∧ SqL K H a (ns.map V.int) ∧ ns.length ≤ 63 ∧ (∀ z ∈ ns, Builtin.Int.intBits z ≤ 2 ^ 20) ∧ 0 ≤ m ∧ 0 ≤ b ∧
  ∀ p xs H', Same H H' → H p = none → H' p = some (.lst xs) → DeedsV K H' xs (deedsF (ns.take m.toNat) b.toNat) → Q (.ref p) H'
section
variable {P : Program} {w : World} {K : PySem.W.Frag} {mg : Str → Option Value} {base : Heap} {t : Ad}
theorem six_cut {b : Int} (h : 0 ≤ b) : cutV [V.str "a", V.str "bb", V.str "bc", V.str "dddddd", V.str "x", V.str "y"] none (some b) = (six.take b.toNat).map V.str := by
  rw [cutV_to h, List.map_take]
  rfl
theorem ok_deeds (T : Txt K mg t) : FnOk P w K mg base CX0 3 t.f__law_deeds t.e__law_deeds ["_law_cells", "_law_most", "_law_boxes"] (sp_deeds K) := by
  have G__law_mixed := ok_mixed (P := P) (w := w) (base := base) T
  have G__law_deed := ok_deed (P := P) (w := w) (base := base) T
  refine T.d__law_deeds.F.ok sc__law_deeds (fun vs H Q E h => by obtain ⟨_, _, _, _, rfl, _⟩ := h; rfl) (fun cdv A outer s H vs Q E hr h => ?_)
  obtain ⟨a, ns, m, b, rfl, hS, hl, hb, m0, b0, q⟩ := h
  refine ⟨_,
      (XSs.h
      (xpss_cons
        (xps_set (i := 3) sc__law_deeds.nd rfl ll (xpe_lst xpa_nil))
      (xpss_cons
        (xps_for PassesOwn.never rfl (xpi_enum T.z_enumerate (xpa_cons (xpe_slice sl_list (xqv 0 vl) xpo_none (xpo_some (xqv 1 vl))) xpa_nil) gl) (xpg_tup rfl (xpgs_cons (xpg_name (i := 4) sc__law_deeds.nd rfl ll) (xpgs_cons (xpg_name (i := 5) sc__law_deeds.nd rfl ll) xpgs_nil)))
          (xpss_one
            (xps_expr (xpe_bm PySem.F.plainAttrs_list PySem.F.slot_list_append PySem.F.type_list_append mt_append (xqv 3 vl) (xpa_cons (xqe_callD T.d__law_deed G__law_deed (hr.mono (by first | decide | omega)) (xpa_cons (xqe_callD T.d__law_mixed G__law_mixed (hr.mono (by first | decide | omega)) (xpa_cons (xqv 5 vl) (xpa_cons (xqv 4 vl) xpa_nil)) gl) (xpa_cons (xpe_slice sl_list (xpe_lst (xpa_const (by rfl))) xpo_none (xpo_some (xqv 2 vl))) (xpa_cons xpe_int xpa_nil))) gl) xpa_nil)))))
      (xpss_one
        (xps_ret (xqv 3 vl)))))), ?_⟩
  rw [show start _ [V.ref a, V.int m, V.int b] = [some (.ref a), some (.int m), some (.int b), none, none, none] from rfl]
  simp_arith [r_listRng, r_kget1, r_iEnumT, r_sorted, r_any, r_count, blkZ_K, r_iItemsT, r_setT, r_dispT1, r_dnewT, r_tupRng, r_deed, r_mixed]
  intro p0 hp0
  refine ⟨_, (Same.upd hp0).seq hS, fun c hc => ⟨⟨_, SqL.of upd_same⟩, ?_⟩⟩
  rw [cutV_to m0, ← List.map_take]
  have hm : ∀ z ∈ ns.take m.toNat, Builtin.Int.intBits z ≤ 2 ^ 20 := fun z hz => hb z (List.mem_of_mem_take hz)
  have hlt : (ns.take m.toNat).length ≤ 63 := by rw [List.length_take]; omega
  unfold deedsF at q
  generalize ns.take m.toNat = cs at hm hlt q hc ⊢
  have sm0 : Same H (upd (upd H p0 (.lst [])) c (.lst (cs.map V.int))) := (Same.upd hp0).updN hc
  have np : ¬ c = p0 := fun z => by rw [z, upd_same] at hc; cases hc
  refine fw_enum (xs := cs.map V.int) (fun i σ H' => Same H H' ∧ H' c = some (.lst (cs.map V.int)) ∧ (∃ xs, H' p0 = some (.lst xs) ∧ DeedsV K H' xs ((cs.take i).mapIdx fun k c => deedOf (mixed c k) (six.take b.toNat) 4)) ∧ ∃ o4 o5, σ = [some (.ref a), some (.int m), some (.int b), some (.ref p0), o4, o5])
    ⟨sm0, upd_same, ⟨[], by rw [upd_ne (fun z => np z.symm), upd_same], .nil⟩, _, _, rfl⟩ (fun i σ H' _ h => SqL.of h.2.1) ?_ ?_
  · rintro i x σ H' pp hx hpp ⟨sm, hcs, ⟨xs, hxs, hds⟩, o4, o5, rfl⟩
    rw [List.getElem?_map] at hx
    obtain ⟨n, hn, rfl⟩ := Option.map_eq_some_iff.mp hx
    have hi : i < cs.length := (List.getElem?_eq_some_iff.mp hn).1
    simp_arith [r_listRng, r_kget1, r_iEnumT, r_sorted, r_any, r_count, blkZ_K, r_iItemsT, r_setT, r_dispT1, r_dnewT, r_tupRng]
    refine ⟨_, SqT.of upd_same, rfl, ?_⟩
    simp_arith [r_listRng, r_kget1, r_iEnumT, r_sorted, r_any, r_count, blkZ_K, r_iItemsT, r_setT, r_dispT1, r_dnewT, r_tupRng, r_deed, r_mixed]
    have s1 : Same H' (upd H' pp (.tup [.int i, .int n])) := Same.upd hpp
    refine ⟨.inl ⟨rfl, xs, SqL.of (s1 _ _ hxs)⟩, hm n (List.mem_of_getElem? hn), by omega, by omega, fun p2 hp2 => ?_⟩
    have s2 := s1.updN (o := .lst [V.str "a", V.str "bb", V.str "bc", V.str "dddddd", V.str "x", V.str "y"]) hp2
    refine ⟨_, SqL.of upd_same, fun p3 hp3 => ?_⟩
    have s3 := s2.updN (o := .lst (cutV [V.str "a", V.str "bb", V.str "bc", V.str "dddddd", V.str "x", V.str "y"] none (some b))) hp3
    refine ⟨six.take b.toNat, SqL.of (by rw [upd_same, six_cut b0]), by decide, by decide, fun p4 H4 s4 hp4 hd => ?_⟩
    have s5 := s3.trans s4
    have hl3 := hds.length
    refine ⟨xs, s5 _ _ hxs, ?_, (sm.trans s5).updM hp0, by rw [upd_ne np]; exact s5 _ _ hcs, ⟨xs ++ [.ref p4], upd_same, ?_⟩, _, _, rfl⟩
    · rw [hl3, List.length_mapIdx, List.length_take, sizeLine_eq]; omega
    · rw [take_mapIdx hn]
      have t5 : TSame H' (upd H4 p0 (.lst (xs ++ [V.ref p4]))) := s5.ts.trans (TSame.updL (s5 _ _ hxs))
      refine (hds.ts t5).snoc ⟨deedOf_fine, p4, rfl, ?_⟩
      rw [deedOf_vs]
      exact (TSame.updL (s5 _ _ hxs)).seqT (SqT.of hd)
  · rintro σ H' ⟨sm, hcs, ⟨xs, hxs, hds⟩, o4, o5, rfl⟩
    simp_arith [r_listRng, r_kget1, r_iEnumT, r_sorted, r_any, r_count, blkZ_K, r_iItemsT, r_setT, r_dispT1, r_dnewT, r_tupRng]
    rw [List.length_map, List.take_length] at hds
    exact q p0 xs H' sm hp0 hxs hds
theorem r_deeds {a : Addr} {m b : Int} {H : Hp} {Q : VK} {E : XK} : sp_deeds K [.ref a, .int m, .int b] H Q E = ∃ ns : List Int, SqL K H a (ns.map V.int) ∧ ns.length ≤ 63 ∧ (∀ z ∈ ns, Builtin.Int.intBits z ≤ 2 ^ 20) ∧ 0 ≤ m ∧ 0 ≤ b ∧
  ∀ p xs H', Same H H' → H p = none → H' p = some (.lst xs) → DeedsV K H' xs (deedsF (ns.take m.toNat) b.toNat) → Q (.ref p) H' := propext ⟨by rintro ⟨_, ns, _, _, e, q⟩; cases e; exact ⟨ns, q⟩, by rintro ⟨ns, q⟩; exact ⟨a, ns, m, b, rfl, q⟩⟩
end
end K32
set_option maxHeartbeats 4000000
namespace K32
open PySem L2 PyProof.Rows FA
noncomputable def sp_law (K : PySem.W.Frag) : Sp := fun vs H Q _ => ∃ (a : Addr) (ns : List Int), vs = [.ref a] ∧ SqL K H a (ns.map V.int) ∧ ns.length ≤ 63 ∧ (∀ z ∈ ns, Builtin.Int.intBits z ≤ 2 ^ 20) ∧ ∀ H', Q (.bl true) H'
noncomputable def sp_whole (K : PySem.W.Frag) : Sp := fun vs H Q _ => ∃ (x : V) (k : String), vs = [x] ∧ KindV K H x k ∧ Q (.bl (decide (k = "int"))) H
section
variable {P : Program} {w : World} {K : PySem.W.Frag} {mg : Str → Option Value} {base : Heap} {t : Ad}
theorem ok_whole (T : Txt K mg t) : FnOk P w K mg base CX0 1 t.f__law_whole t.e__law_whole ["_law_found"] (sp_whole K) := by
  refine T.d__law_whole.F.ok sc__law_whole (fun vs H Q E h => by obtain ⟨_, _, rfl, _⟩ := h; rfl) (fun cdv A outer s H vs Q E hr h => ?_)
  obtain ⟨x, k, rfl, hk, q⟩ := h
  refine ⟨_,
      (XSs.h
      (xpss_one
        (xps_ret (xpe_and (xqe_callB call_isi gl T.z_isinstance boot_isinstance (xpa_cons (xqv 0 vl) (xpa_cons (xqe_bltn (v := .ty "int") gl T.z_int boot_int rfl) xpa_nil))) (xpe_one (xpe_not (xqe_callB call_isi gl T.z_isinstance boot_isinstance (xpa_cons (xqv 0 vl) (xpa_cons (xqe_bltn (v := .ty "bool") gl T.z_bool boot_bool rfl) xpa_nil))))))))), ?_⟩
  rw [show start _ [x] = [some x] from rfl]
  simp_arith [r_listRng, r_kget1, r_iEnumT, r_sorted, r_any, r_count, blkZ_K, r_iItemsT, r_setT, r_dispT1, r_dnewT, r_tupRng]
  refine ⟨x, "int", k, rfl, by decide +kernel, hk, _, rfl, ite_bool (fun e => ⟨x, "bool", k, rfl, by decide +kernel, hk, _, rfl, ?_⟩) (fun e => ?_)⟩
  · have h : k = "int" ∨ k = "bool" := by
      unfold kindIs at e
      rw [Bool.or_eq_true, Bool.and_eq_true] at e
      rcases e with e | e
      · exact .inl (by simpa using e)
      · exact .inr (by simpa using e.1)
    rcases h with rfl | rfl
    · exact q
    · exact q
  · have h : ¬ k = "int" := fun z => by subst z; exact absurd e (by decide +kernel)
    rw [decide_eq_false h] at q
    exact q
theorem r_whole_i {i : Int} {H : Hp} {Q : VK} {E : XK} : sp_whole K [.int i] H Q E = Q (.bl true) H := propext ⟨by rintro ⟨_, _, e, k, q⟩; cases e; cases k; exact q, by intro q; exact ⟨_, _, rfl, .int, q⟩⟩
end
end K32
set_option maxHeartbeats 4000000
namespace K32
open PySem L2 PyProof.Rows FA
noncomputable def sortD : FB.Deed → Nat
  | .op f _ _ _ => if f ∈ (["plus", "less"] : List Str) then 0 else if f ∈ (["below", "same"] : List Str) then 1 else if f ∈ (["and", "or", "xor"] : List Str) then 2 else 3
  | _ => 3
noncomputable def sp_sort (K : PySem.W.Frag) : Sp := fun vs H Q _ => ∃ (a : Addr) (d : FB.Deed), vs = [.ref a] ∧ SqT K H a d.vs ∧ ∀ H', Same H H' → Q (.int (sortD d)) H'
section
variable {P : Program} {w : World} {K : PySem.W.Frag} {mg : Str → Option Value} {base : Heap} {t : Ad}
theorem ok_sort (T : Txt K mg t) : FnOk P w K mg base CX0 1 t.f__law_sort t.e__law_sort ["_law_deed_here"] (sp_sort K) := by
  refine T.d__law_sort.F.ok sc__law_sort (fun vs H Q E h => by obtain ⟨_, _, rfl, _⟩ := h; rfl) (fun cdv A outer s H vs Q E hr h => ?_)
  obtain ⟨a, d, rfl, hS, q⟩ := h
  refine ⟨_,
      (XSs.h
      (xpss_cons
        (xps_if (xpt_cmpR op_in_seq (xpe_ix ix_tup (xqv 0 vl) xpe_int (fun _ _ => rfl)) (xpe_tup (xpa_const (by rfl))) rfl)
          (xpss_one
            (xps_ret xpe_int))
          xpss_nil)
      (xpss_cons
        (xps_if (xpt_cmpR op_in_seq (xpe_ix ix_tup (xqv 0 vl) xpe_int (fun _ _ => rfl)) (xpe_tup (xpa_const (by rfl))) rfl)
          (xpss_one
            (xps_ret xpe_int))
          xpss_nil)
      (xpss_cons
        (xps_if (xpt_cmpR op_in_seq (xpe_ix ix_tup (xqv 0 vl) xpe_int (fun _ _ => rfl)) (xpe_tup (xpa_const (by rfl))) rfl)
          (xpss_one
            (xps_ret xpe_int))
          xpss_nil)
      (xpss_one
        (xps_ret xpe_int)))))), ?_⟩
  rw [show start _ [V.ref a] = [some (.ref a)] from rfl]
  obtain ⟨f, hf, he⟩ : ∃ f : Str, atI d.vs 0 = some (.str f) ∧ sortD d = if f ∈ (["plus", "less"] : List Str) then 0 else if f ∈ (["below", "same"] : List Str) then 1 else if f ∈ (["and", "or", "xor"] : List Str) then 2 else 3 := by
    cases d with
    | tell o => exact ⟨"tell", rfl, by rw [if_neg (by decide +kernel), if_neg (by decide +kernel), if_neg (by decide +kernel)]; rfl⟩
    | copy n o => exact ⟨"copy", rfl, by rw [if_neg (by decide +kernel), if_neg (by decide +kernel), if_neg (by decide +kernel)]; rfl⟩
    | op f n o o2 => exact ⟨f, rfl, rfl⟩
  rw [he] at q
  simp_arith [r_listRng, r_kget1, r_iEnumT, r_sorted, r_any, r_count, blkZ_K, r_iItemsT, r_setT, r_dispT1, r_dnewT, r_tupRng]
  refine ⟨_, _, hS, hf, fun p hp => ⟨_, .inr (SqT.of upd_same), rfl, rfl, ?_⟩⟩
  rw [show inV (.str f) [V.str "plus", V.str "less"] = decide (f ∈ (["plus", "less"] : List Str)) from inV_str (ns := ["plus", "less"])]
  refine ite_dec (fun h => by rw [if_pos h] at q; exact q _ (Same.upd hp)) (fun h => ?_)
  rw [if_neg h] at q
  refine ⟨_, _, (Same.upd hp).seqT hS, hf, fun p2 hp2 => ⟨_, .inr (SqT.of upd_same), rfl, rfl, ?_⟩⟩
  rw [show inV (.str f) [V.str "below", V.str "same"] = decide (f ∈ (["below", "same"] : List Str)) from inV_str (ns := ["below", "same"])]
  have s2 := (Same.upd hp).trans (Same.upd (o := .tup [V.str "below", V.str "same"]) hp2)
  refine ite_dec (fun h => by rw [if_pos h] at q; exact q _ s2) (fun h => ?_)
  rw [if_neg h] at q
  refine ⟨_, _, s2.seqT hS, hf, fun p3 hp3 => ⟨_, .inr (SqT.of upd_same), rfl, rfl, ?_⟩⟩
  rw [show inV (.str f) [V.str "and", V.str "or", V.str "xor"] = decide (f ∈ (["and", "or", "xor"] : List Str)) from inV_str (ns := ["and", "or", "xor"])]
  have s3 := s2.trans (Same.upd (o := .tup [V.str "and", V.str "or", V.str "xor"]) hp3)
  exact ite_dec (fun h => by rw [if_pos h] at q; exact q _ s3) (fun h => by rw [if_neg h] at q; exact q _ s3)
theorem r_sort {a : Addr} {H : Hp} {Q : VK} {E : XK} : sp_sort K [.ref a] H Q E = ∃ d : FB.Deed, SqT K H a d.vs ∧ ∀ H', Same H H' → Q (.int (sortD d)) H' := propext ⟨by rintro ⟨_, d, e, q⟩; cases e; exact ⟨d, q⟩, by rintro ⟨d, q⟩; exact ⟨a, d, rfl, q⟩⟩
end
end K32
set_option maxHeartbeats 4000000
namespace K32
open PySem L2 PyProof.Rows FA
noncomputable def gapN (ds : List FB.Deed) (j k : Nat) : Option Int := match ds[j]?, ds[k]? with
  | some d, some e => FB.gapD d e
  | _, _ => none
end K32
set_option maxHeartbeats 4000000
namespace K32
open PySem L2 PyProof.Rows FA
noncomputable def sp_gap (K : PySem.W.Frag) : Sp := fun vs H Q _ => ∃ (a : Addr) (xs : List V) (ds : List FB.Deed) (j k : Nat) (d e : FB.Deed), vs = [.ref a, .int j, .int k] ∧ SqL K H a xs ∧ DeedsV K H xs ds ∧ j < k ∧ ds[j]? = some d ∧ ds[k]? = some e ∧ ∀ H', Same H H' → Q (FB.optV (FB.gapD d e)) H'
end K32
set_option maxHeartbeats 4000000
namespace K32
open PySem L2 PyProof.Rows FA
noncomputable def sp_read (K : PySem.W.Frag) : Sp := fun vs H Q _ => ∃ (a : Addr) (d : FB.Deed), vs = [.ref a] ∧ SqT K H a d.vs ∧ d.fine ∧ ∀ p H', Same H H' → H p = none → H' p = some (.lst (d.reads.map V.str)) → Q (.ref p) H'
section
variable {P : Program} {w : World} {K : PySem.W.Frag} {mg : Str → Option Value} {base : Heap} {t : Ad}
theorem opds_reads {d : FB.Deed} : List.map id (List.filter isStrV ((opds d).map FB.Opd.v)) = d.reads.map V.str := by
  cases d with
  | tell o => exact fil_opd
  | copy n o => exact fil_opd
  | op f n o o2 => exact fil_opd2
theorem ok_read (T : Txt K mg t) : FnOk P w K mg base CX0 2 t.f_boxes_read t.e_boxes_read ["deed"] (sp_read K) := by
  have G_operands_of := ok_opds (P := P) (w := w) (base := base) T
  refine T.d_boxes_read.F.ok sc_boxes_read (fun vs H Q E h => by obtain ⟨_, _, rfl, _⟩ := h; rfl) (fun cdv A outer s H vs Q E hr h => ?_)
  obtain ⟨a, d, rfl, hS, hf, q⟩ := h
  refine ⟨_,
      (XSs.h
      (xpss_one
        (xps_ret (xpe_compG (tns := ["part"]) (cns := []) (ci := []) rfl (CompSc.of (by kernel_rfl)) (xpi_tup (xqe_callD T.d_operands_of G_operands_of (hr.mono (by first | decide | omega)) (xpa_cons (xqv 0 vl) xpa_nil) gl)) (fun _ => (xpg_name (i := 1) (show List.Nodup [(".0" : Str), ("part" : Str)] by decide +kernel) rfl ll (Or.inr (by kernel_rfl)))) (fun _ => (xpf_one (xpt_val (xqe_callB call_isi gl T.z_isinstance boot_isinstance (xpa_cons (xqv 1 vl) (xpa_cons (xqe_bltn (v := .ty "str") gl T.z_str boot_str rfl) xpa_nil)))))) (fun _ => (xqv 1 vl)))))), ?_⟩
  rw [show start _ [V.ref a] = [some (.ref a)] from rfl]
  simp_arith [r_listRng, r_kget1, r_iEnumT, r_sorted, r_any, r_count, blkZ_K, r_iItemsT, r_setT, r_dispT1, r_dnewT, r_tupRng, r_opds]
  refine ⟨d, hS, hf, fun p hp => ⟨⟨_, SqT.of upd_same⟩, fun acc hacc bk => ?_⟩⟩
  refine cg_flatT isStrV id (by rw [sizeLine_eq, List.length_map]; have := opds_len (d := d); omega) (SqT.of upd_same) hacc (fun x hm H3 Q' s3 h => ?_) (fun x hm H3 Q' s3 _ h => ?_) ?_
  · obtain ⟨o, _, rfl⟩ := List.mem_map.mp hm
    simp_arith [r_listRng, r_kget1, r_iEnumT, r_sorted, r_any, r_count, blkZ_K, r_iItemsT, r_setT, r_dispT1, r_dnewT, r_tupRng]
    exact isi_opd ⟨_, rfl, h⟩
  · simp_arith [r_listRng, r_kget1, r_iEnumT, r_sorted, r_any, r_count, blkZ_K, r_iItemsT, r_setT, r_dispT1, r_dnewT, r_tupRng]
    exact h
  · rw [opds_reads]
    exact q acc _ ((Same.upd hp).trans (Same.upd hacc)) ((Same.upd hp).free hacc) upd_same
theorem r_read {a : Addr} {H : Hp} {Q : VK} {E : XK} : sp_read K [.ref a] H Q E = ∃ d : FB.Deed, SqT K H a d.vs ∧ d.fine ∧ ∀ p H', Same H H' → H p = none → H' p = some (.lst (d.reads.map V.str)) → Q (.ref p) H' := propext ⟨by rintro ⟨_, d, e, q⟩; cases e; exact ⟨d, q⟩, by rintro ⟨d, q⟩; exact ⟨a, d, rfl, q⟩⟩
theorem inV_wr {d : FB.Deed} {ns : List Str} : inV (wrV d) (ns.map V.str) = decide (∃ n ∈ d.writes, n ∈ ns) := by
  have hn : ∀ ns : List Str, inV .non (ns.map V.str) = false := fun ns => by
    induction ns with
    | nil => rfl
    | cons m ns ih => unfold inV at ih ⊢; rw [List.map_cons, List.any_cons, ih]; rfl
  cases d with
  | tell o => show inV .non _ = _; rw [hn]; simp [FB.Deed.writes]
  | copy n o => show inV (.str n) _ = _; rw [inV_str]; simp [FB.Deed.writes]
  | op f n o o2 => show inV (.str n) _ = _; rw [inV_str]; simp [FB.Deed.writes]
theorem ok_gap (T : Txt K mg t) : FnOk P w K mg base CX0 10 t.f_gap t.e_gap ["deeds", "j", "k"] (sp_gap K) := by
  have G_boxes_read := ok_read (P := P) (w := w) (base := base) T
  have G_box_written := ok_written (P := P) (w := w) (base := base) T
  refine T.d_gap.F.ok sc_gap (fun vs H Q E h => by obtain ⟨_, _, _, _, _, _, _, rfl, _⟩ := h; rfl) (fun cdv A outer s H vs Q E hr h => ?_)
  obtain ⟨a, xs, ds, j, k, d, e, rfl, hS, hds, hjk, hd, he, q⟩ := h
  refine ⟨_,
      (XSs.h
      (xpss_cons
        (xps_set (i := 3) sc_gap.nd rfl ll (xpe_ix ix_list (xqv 0 vl) (xqv 1 vl) (fun _ _ => rfl)))
      (xpss_cons
        (xps_set (i := 4) sc_gap.nd rfl ll (xpe_ix ix_list (xqv 0 vl) (xqv 2 vl) (fun _ _ => rfl)))
      (xpss_cons
        (xps_if (xPW_pt (xpw_and (xpt_cmpR op_eq (xpe_ix ix_tup (xqv 3 vl) xpe_int (fun _ _ => rfl)) xpe_str (nomark _)) (xpw_and1 (xpt_cmpR op_eq (xpe_ix ix_tup (xqv 4 vl) xpe_int (fun _ _ => rfl)) xpe_str (nomark _)))))
          (xpss_one
            (xps_ret xpe_int))
          xpss_nil)
      (xpss_cons
        (xps_set (i := 5) sc_gap.nd rfl ll (xqe_callD T.d_box_written G_box_written (hr.mono (by first | decide | omega)) (xpa_cons (xqv 3 vl) xpa_nil) gl))
      (xpss_cons
        (xps_if (xPW_pt (xpw_and (xpt_cmpR op_notN (xqv 5 vl) xpe_non (nomark _)) (xpw_and1 (xPW_pt (xpw_or (xpt_cmpR op_in_seq (xqv 5 vl) (xqe_callD T.d_boxes_read G_boxes_read (hr.mono (by first | decide | omega)) (xpa_cons (xqv 4 vl) xpa_nil) gl) rfl) (xpw_or1 (xpt_cmpR op_eq (xqv 5 vl) (xqe_callD T.d_box_written G_box_written (hr.mono (by first | decide | omega)) (xpa_cons (xqv 4 vl) xpa_nil) gl) (nomark _))))))))
          (xpss_one
            (xps_ret xpe_int))
          xpss_nil)
      (xpss_one
        (xps_ret (xpe_ifExp (xpt_cmpR op_in_seq (xqe_callD T.d_box_written G_box_written (hr.mono (by first | decide | omega)) (xpa_cons (xqv 4 vl) xpa_nil) gl) (xqe_callD T.d_boxes_read G_boxes_read (hr.mono (by first | decide | omega)) (xpa_cons (xqv 3 vl) xpa_nil) gl) rfl) xpe_int xpe_non))))))))), ?_⟩
  rw [show start _ [V.ref a, V.int j, V.int k] = [some (.ref a), some (.int j), some (.int k), none, none, none] from rfl]
  simp_arith [r_listRng, r_kget1, r_iEnumT, r_sorted, r_any, r_count, blkZ_K, r_iItemsT, r_setT, r_dispT1, r_dnewT, r_tupRng, r_read, r_written]
  obtain ⟨x, hx, fd, qx, rfl, hqx⟩ := Paired.getR hds hd
  obtain ⟨y, hy, fe, qy, rfl, hqy⟩ := Paired.getR hds he
  refine ⟨_, _, hS, atI_nat hx, _, _, hS, atI_nat hy, ?_⟩
  simp_arith [r_listRng, r_kget1, r_iEnumT, r_sorted, r_any, r_count, blkZ_K, r_iItemsT, r_setT, r_dispT1, r_dnewT, r_tupRng, r_read, r_written]
  have fl : ∀ d : FB.Deed, flatV (wrV d) = true := fun d => by cases d <;> rfl
  have nw : ∀ d : FB.Deed, (!decide (wrV d = V.non)) = !d.tells := fun d => by cases d <;> rfl
  have last : ∀ H1, Same H H1 → ¬ (d.tells = true ∧ e.tells = true) → ¬ (∃ n ∈ d.writes, n ∈ e.reads ∨ n ∈ e.writes) → ∃ d0 : FB.Deed, SqT K H1 qy d0.vs ∧ d0.fine ∧ ∃ d1 : FB.Deed, SqT K H1 qx d1.vs ∧ d1.fine ∧
      ∀ p H2, Same H1 H2 → H1 p = none → H2 p = some (.lst (d1.reads.map V.str)) → ∃ xs, (SqL K H2 p xs ∨ SqT K H2 p xs) ∧ flatV (wrV d0) = true ∧ xs.all flatV = true ∧ if inV (wrV d0) xs = true then Q (.int 0) H2 else Q .non H2 := by
    intro H1 s1 h1 h2
    refine ⟨e, s1.seqT hqy, fe, d, s1.seqT hqx, fd, fun p H2 s2 hp hl => ⟨_, .inl (SqL.of hl), fl e, flat_strs, ?_⟩⟩
    rw [inV_wr]
    unfold FB.gapD at q
    rw [if_neg h1, if_neg h2] at q
    refine ite_dec (fun h => ?_) (fun h => ?_)
    · rw [if_pos h] at q; exact q _ (s1.trans s2)
    · rw [if_neg h] at q; exact q _ (s1.trans s2)
  have wrm : ∀ (d e : FB.Deed), d.tells = false → (wrV d = wrV e ↔ ∃ n ∈ d.writes, n ∈ e.writes) := fun d e h => by cases d <;> cases e <;> simp [wrV, FB.Deed.writes, FB.Deed.tells] at h ⊢
  refine ix0 fd hqx ⟨_, rfl, ite_bool (fun e1 => ix0 fe hqy ⟨_, rfl, ite_bool (fun e2 => ?_) (fun e2 => ?_)⟩) (fun e1 => ?_)⟩
  · unfold FB.gapD at q
    rw [if_pos ⟨e1, e2⟩] at q
    exact q H (Same.refl H)
  · have nt : ¬ (d.tells = true ∧ e.tells = true) := fun z => by rw [e2] at z; exact Bool.false_ne_true z.2
    refine ⟨d, hqx, fd, ?_⟩
    rw [nw, e1]
    refine last H (Same.refl H) nt ?_
    rw [wr_no e1]; simp
  · have nt : ¬ (d.tells = true ∧ e.tells = true) := fun z => by rw [e1] at z; exact Bool.false_ne_true z.1
    refine ⟨d, hqx, fd, ?_⟩
    rw [nw, e1]
    refine ⟨e, hqy, fe, fun p H2 s2 hp hl => ⟨_, .inl (SqL.of hl), fl d, flat_strs, ?_⟩⟩
    rw [inV_wr]
    refine ite_dec (fun h => ?_) (fun h => ⟨e, s2.seqT hqy, fe, ?_⟩)
    · unfold FB.gapD at q
      obtain ⟨n, h1, h2⟩ := h
      rw [if_neg nt, if_pos ⟨n, h1, .inl h2⟩] at q
      exact q _ s2
    refine ⟨by cases d <;> cases e <;> rfl, _, rfl, ite_dec (fun h2 => ?_) (fun h2 => ?_)⟩
    · unfold FB.gapD at q
      obtain ⟨n, h3, h4⟩ := (wrm d e e1).mp h2
      rw [if_neg nt, if_pos ⟨n, h3, .inr h4⟩] at q
      exact q _ s2
    · refine last H2 s2 nt ?_
      rintro ⟨n, h3, h4 | h4⟩
      · exact h ⟨n, h3, h4⟩
      · exact h2 ((wrm d e e1).mpr ⟨n, h3, h4⟩)
end
end K32
set_option maxHeartbeats 4000000
namespace K32
open PySem L2 PyProof.Rows FA
noncomputable def sV (d : FB.Deed) : V := if sortD d < 3 then .int (sortD d) else .non
noncomputable def dAtI (ds : List FB.Deed) (p : Int) : FB.Deed := ds.getD p.toNat (.tell (.word 0))
noncomputable def cnt (ds : List FB.Deed) (b : List Int) (s : Nat) : Nat := b.countP fun p => decide (sortD (dAtI ds p) = s)
noncomputable def loadB (ds : List FB.Deed) (us : List Int) (b : List Int) : Bool := (List.range 3).all fun s => decide ((cnt ds b s : Int) ≤ us.getD s 0)
theorem sorts_at {d : FB.Deed} (h : d.fine) : ∃ f : Str, atI d.vs 0 = some (.str f) ∧ (valV kvs_SORTS (.inr f)).getD .non = sV d := by
  cases d with
  | tell o => exact ⟨"tell", rfl, by kernel_rfl⟩
  | copy n o => exact ⟨"copy", rfl, by kernel_rfl⟩
  | op f n o o2 =>
    refine ⟨f, rfl, ?_⟩
    have h : f ∈ FB.opsL := h
    simp only [FB.opsL, List.mem_cons, List.not_mem_nil, or_false] at h
    rcases h with rfl | rfl | rfl | rfl | rfl | rfl | rfl <;> kernel_rfl
theorem eq_sV {d : FB.Deed} {s : Nat} (h : s < 3) : eqV (sV d) (.int s) = decide (sortD d = s) := by
  unfold sV
  split
  · rw [FL.eqV_int, Bool.eq_iff_iff, decide_eq_true_iff, decide_eq_true_iff]; omega
  · rw [decide_eq_false (by omega)]; rfl
noncomputable def sp_sortof (K : PySem.W.Frag) : Sp := fun vs H Q _ => ∃ (a : Addr) (d : FB.Deed), vs = [.ref a] ∧ SqT K H a d.vs ∧ d.fine ∧ Q (sV d) H
section
variable {P : Program} {w : World} {K : PySem.W.Frag} {mg : Str → Option Value} {base : Heap} {t : Ad}
theorem ok_sortof (T : Txt K mg t) (hw : t.pr = w.params) : FnOk P w K mg base CX0 1 t.f_sort_of t.e_sort_of ["deed"] (sp_sortof K) := by
  refine T.d_sort_of.F.ok sc_sort_of (fun vs H Q E h => by obtain ⟨_, _, rfl, _⟩ := h; rfl) (fun cdv A outer s H vs Q E hr h => ?_)
  obtain ⟨a, d, rfl, hS, hf, q⟩ := h
  refine ⟨_,
      (XSs.h
      (xpss_one
        (xps_ret (xqe_kget1 hw T.k_SORTS T.g_SORTS gl (xpe_ix ix_tup (xqv 0 vl) xpe_int (fun _ _ => rfl)) ⟨rfl, rfl, rfl, rfl⟩)))), ?_⟩
  rw [show start _ [V.ref a] = [some (.ref a)] from rfl]
  simp_arith [r_listRng, r_kget1, r_iEnumT, r_sorted, r_any, r_count, blkZ_K, r_iItemsT, r_setT, r_dispT1, r_dnewT, r_tupRng]
  obtain ⟨f, hf0, hv⟩ := sorts_at hf
  refine ⟨_, _, hS, hf0, .inr f, rfl, ?_⟩
  rw [hv]
  exact q
theorem r_sortof {a : Addr} {H : Hp} {Q : VK} {E : XK} : sp_sortof K [.ref a] H Q E = ∃ d : FB.Deed, SqT K H a d.vs ∧ d.fine ∧ Q (sV d) H := propext ⟨by rintro ⟨_, d, e, q⟩; cases e; exact ⟨d, q⟩, by rintro ⟨d, q⟩; exact ⟨a, d, rfl, q⟩⟩
theorem dAt_get {xs : List V} {ds : List FB.Deed} {H : Hp} {p : Int} (hds : DeedsV K H xs ds) (h : 0 ≤ p ∧ p < ds.length) : ∃ q, atI xs p = some (.ref q) ∧ SqT K H q (dAtI ds p).vs ∧ (dAtI ds p).fine := by
  have lx := hds.length
  obtain ⟨n, rfl⟩ := Int.eq_ofNat_of_zero_le h.1
  obtain ⟨x, hx⟩ : ∃ x, xs[n]? = some x := ⟨_, List.getElem?_eq_getElem (by omega)⟩
  obtain ⟨d, hd, fd, qx, rfl, hqx⟩ := Paired.get hds hx
  have e : dAtI ds n = d := by unfold dAtI; rw [Int.toNat_natCast, List.getD_eq_getElem?_getD, hd]; rfl
  rw [e]
  exact ⟨qx, atI_nat hx, hqx, fd⟩
end
end K32
set_option maxHeartbeats 4000000
namespace K32
open PySem L2 PyProof.Rows FA
noncomputable def nl (ps : List Nat) : List V := ps.map fun p : Nat => V.int p
noncomputable def soN (ds : List FB.Deed) (p : Nat) : Nat := sortD (ds.getD p (.tell (.word 0)))
noncomputable def uN (us : List Int) (s : Nat) : Int := us.getD s 0
theorem inV_nl {j : Nat} : ∀ {ps : List Nat}, inV (.int j) (nl ps) = decide (j ∈ ps)
  | [] => rfl
  | p :: ps => by
    have ih := inV_nl (j := j) (ps := ps)
    unfold inV nl at ih ⊢
    rw [List.map_cons, List.any_cons, ih, FL.eqV_int, Bool.eq_iff_iff]
    simp only [Bool.or_eq_true, decide_eq_true_eq, List.mem_cons]
    exact ⟨fun h => h.imp (fun e => by omega) id, fun h => h.imp (fun e => by omega) id⟩
theorem flat_nl : ∀ {ps : List Nat}, (nl ps).all flatV = true
  | [] => rfl
  | p :: ps => by
    have ih := flat_nl (ps := ps)
    unfold nl at ih ⊢
    rw [List.map_cons, List.all_cons, ih]
    rfl
theorem nl_len {ps : List Nat} : (nl ps).length = ps.length := by unfold nl; rw [List.length_map]
theorem sV_at {ds : List FB.Deed} {p : Nat} (h : p < ds.length) : (ds.map sV)[p]? = some (sV (ds.getD p (.tell (.word 0)))) := by
  rw [List.getElem?_map, List.getElem?_eq_getElem h, List.getD_eq_getElem?_getD, List.getElem?_eq_getElem h]; rfl
theorem cnt_nl {ds : List FB.Deed} {bt : List Nat} {s : Nat} (h : s < 3) : cntV (.int s) (bt.map fun p => sV (ds.getD p (.tell (.word 0)))) = GD.cntB (soN ds) bt s := by
  unfold cntV GD.cntB
  rw [List.countP_map]
  apply List.countP_congr
  intro p _
  show eqV (sV (ds.getD p (.tell (.word 0)))) (.int s) = true ↔ _
  rw [eq_sV h]
  rfl
theorem flat_sV {d : FB.Deed} : flatV (sV d) = true := by unfold sV; split <;> rfl
noncomputable def layFs (b so gp : Addr) : List (Str × V) := [("units", .ref b), ("sorts", .ref so), ("gaps", .ref gp)]
structure LayerH (K : PySem.W.Frag) (C : Addr) (H : Hp) (p : Addr) (ds : List FB.Deed) (us : List Int) : Prop where
  ob : ∃ (dx b so gp : Addr) (qs : List Addr), H p = some (.ins C dx (layFs b so gp)) ∧ SqT K H b (us.map V.int) ∧ H so = some (.lst (ds.map sV)) ∧ H gp = some (.lst (qs.map V.ref)) ∧ qs.length = ds.length ∧ ∀ (k : Nat) q, qs[k]? = some q → H q = some (.lst ((List.range k).map fun j => FB.optV (gapN ds j k)))
  h8 : ds.length ≤ 8
  h3 : us.length = 3
  hp : ∀ u ∈ us, 0 < u ∧ u ≤ 3
theorem LayerH.same {K : PySem.W.Frag} {C p : Addr} {H H' : Hp} {ds : List FB.Deed} {us : List Int} (s : Same H H') (h : LayerH K C H p ds us) : LayerH K C H' p ds us :=
  ⟨let ⟨dx, b, so, gp, qs, e1, e2, e3, e4, e5, e6⟩ := h.ob; ⟨dx, b, so, gp, qs, s _ _ e1, s.seqT e2, s _ _ e3, s _ _ e4, e5, fun k q hk => s _ _ (e6 k q hk)⟩, h.h8, h.h3, h.hp⟩
theorem LayerH.pos {K : PySem.W.Frag} {C p : Addr} {H : Hp} {ds : List FB.Deed} {us : List Int} (h : LayerH K C H p ds us) : ∀ s, s < 3 → 0 < uN us s := fun s hs => by
  have hl := h.h3
  unfold uN
  rw [List.getD_eq_getElem?_getD, List.getElem?_eq_getElem (by omega)]
  exact (h.hp _ (List.getElem_mem _)).1
noncomputable def bd_fits (K : PySem.W.Frag) (C : Addr) (p d b : Addr) (i : Int) (H : Hp) (Q : VK) : Prop := ∃ (ds : List FB.Deed) (us : List Int) (dn bt : List Nat) (pl : Nat), i = pl ∧ LayerH K C H p ds us ∧ SqT K H d (nl dn) ∧ SqL K H b (nl bt) ∧ pl < ds.length ∧ (∀ q ∈ bt, q < ds.length) ∧ bt.length ≤ 8 ∧ ∀ H', Same H H' → Q (.bl (GD.fitsB (gapN ds) (soN ds) (uN us) dn bt pl)) H'
noncomputable def sp_fits (K : PySem.W.Frag) (C : Addr) : Sp := fun vs H Q _ => ∃ (p d b : Addr) (i : Int), vs = [.ref p, .ref d, .ref b, .int i] ∧ bd_fits K C p d b i H Q
section
variable {P : Program} {w : World} {K : PySem.W.Frag} {mg : Str → Option Value} {base : Heap} {t : Ad}
theorem r_fits {C p d b : Addr} {i : Int} {H : Hp} {Q : VK} {E : XK} : sp_fits K C [.ref p, .ref d, .ref b, .int i] H Q E = bd_fits K C p d b i H Q := propext ⟨by rintro ⟨_, _, _, _, e, q⟩; cases e; exact q, fun q => ⟨p, d, b, i, rfl, q⟩⟩
theorem r_gapP {a : Addr} {i j : Int} {H : Hp} {Q : VK} {E : XK} : sp_gap K [.ref a, .int i, .int j] H Q E = ∃ (xs : List V) (ds : List FB.Deed) (m k : Nat), i = m ∧ j = k ∧ SqL K H a xs ∧ DeedsV K H xs ds ∧ m < k ∧ k < ds.length ∧ ∀ H', Same H H' → Q (FB.optV (gapN ds m k)) H' := propext ⟨by
    rintro ⟨_, xs, ds, m, k, d, e, ev, h1, h2, h3, h4, h5, q⟩
    cases ev
    refine ⟨xs, ds, m, k, rfl, rfl, h1, h2, h3, (List.getElem?_eq_some_iff.mp h5).1, ?_⟩
    unfold gapN
    rw [h4, h5]
    exact q, by
    rintro ⟨xs, ds, m, k, rfl, rfl, h1, h2, h3, h4, q⟩
    obtain ⟨d, hd⟩ : ∃ d, ds[m]? = some d := ⟨_, List.getElem?_eq_getElem (by omega)⟩
    obtain ⟨e, he⟩ : ∃ e, ds[k]? = some e := ⟨_, List.getElem?_eq_getElem h4⟩
    refine ⟨a, xs, ds, m, k, d, e, rfl, h1, h2, h3, hd, he, ?_⟩
    unfold gapN at q
    rw [hd, he] at q
    exact q⟩
theorem ixL {a : Addr} {xs : List V} {i : Nat} {v : V} {H : Hp} {Q : VK} (h : SqL K H a xs) (hv : xs[i]? = some v) (q : Q v H) : rIxL K (.ref a) (.int i) H Q := by
  simp_arith [r_listRng, r_kget1, r_iEnumT, r_sorted, r_any, r_count, blkZ_K, r_iItemsT, r_setT, r_dispT1, r_dnewT, r_tupRng]; exact ⟨_, _, h, atI_nat hv, q⟩
theorem ixT {a : Addr} {xs : List V} {i : Nat} {v : V} {H : Hp} {Q : VK} (h : SqT K H a xs) (hv : xs[i]? = some v) (q : Q v H) : rIxT K (.ref a) (.int i) H Q := by
  simp_arith [r_listRng, r_kget1, r_iEnumT, r_sorted, r_any, r_count, blkZ_K, r_iItemsT, r_setT, r_dispT1, r_dnewT, r_tupRng]; exact ⟨_, _, h, atI_nat hv, q⟩
theorem ok_fits (T : Txt K mg t) : FnOk P w K mg base CX0 1 t.f_Layer_fits t.e_Layer_fits ["self", "done", "beat", "place"] (sp_fits K t.C_Layer) := by
  refine T.d_Layer_fits.F.ok sc_Layer_fits (fun vs H Q E h => by obtain ⟨_, _, _, _, rfl, _⟩ := h; rfl) (fun cdv A outer s H vs Q E hr h => ?_)
  obtain ⟨p, d, b, i, rfl, ds, us, dn, bt, pl, rfl, L, hD, hB, hpl, hbt, hlb, q⟩ := h
  obtain ⟨dx, ub, sb, gb, qs, hob, hU, hSo, hGp, hql, hq⟩ := L.ob
  have h3 := L.h3
  refine ⟨_,
      (XSs.h
      (xpss_cons
        (xps_set (i := 4) sc_Layer_fits.nd rfl ll (xpe_ix ix_list (xpe_fld (xqv 0 vc) rfl) (xqv 3 vl) (fun _ _ => rfl)))
      (xpss_mid
        (xps_if (xPW_pt (xpw_and (xpt_cmpR op_notN (xqv 4 vl) xpe_non (nomark _)) (xpw_and1 (xpt_cmpR op_eq (xpe_bm PySem.F.plainAttrs_list PySem.F.slot_list_count PySem.F.type_list_count mt_count (xpe_compG (tns := ["other"]) (cns := ["self"]) (ci := [0]) rfl (CompSc.of (by kernel_rfl)) (xpi_list (xqv 2 vl)) (fun _ => (xpg_name (i := 1) (show List.Nodup [(".0" : Str), ("other" : Str), ("self" : Str)] by decide +kernel) rfl ll (Or.inr (by kernel_rfl)))) (fun _ => xpf_nil) (fun _ => (xpe_ix ix_list (xpe_fld (xqv 2 vc) rfl) (xqv 1 vl) (fun _ _ => rfl)))) (xpa_cons (xqv 4 vl) xpa_nil)) (xpe_ix ix_tup (xpe_fld (xqv 0 vc) rfl) (xqv 4 vl) (fun _ _ => rfl)) (nomark _)))))
          (xpss_one
            (xps_ret xpe_bl))
          xpss_nil)
      (xpss_cons
        (xps_for PassesOwn.never rfl (xpi_enum T.z_enumerate (xpa_cons (xpe_ix ix_list (xpe_fld (xqv 0 vc) rfl) (xqv 3 vl) (fun _ _ => rfl)) xpa_nil) gl) (xpg_tup rfl (xpgs_cons (xpg_name (i := 5) sc_Layer_fits.nd rfl ll) (xpgs_cons (xpg_name (i := 6) sc_Layer_fits.nd rfl ll) xpgs_nil)))
          (xpss_cons
            (xps_set (i := 7) sc_Layer_fits.nd rfl ll (xpe_or (xpe_cmpR op_in_seq (xqv 5 vl) (xqv 1 vl) rfl) (xpe_one (xpe_and (xpe_cmpR op_eq (xqv 6 vl) xpe_int (nomark _)) (xpe_one (xpe_cmpR op_in_seq (xqv 5 vl) (xqv 2 vl) rfl))))))
          (xpss_one
            (xps_if (xPW_pt (xpw_and (xpt_cmpR op_notN (xqv 6 vl) xpe_non (nomark _)) (xpw_and1 (xpt_not (xpt_val (xqv 7 vl))))))
              (xpss_one
                (xps_ret xpe_bl))
              xpss_nil))))
      (xpss_one
        (xps_ret xpe_bl)))))), ?_⟩
  rw [show start _ [V.ref p, V.ref d, V.ref b, V.int pl] = [some (.ref p), some (.ref d), some (.ref b), some (.int pl), none, none, none, none] from rfl]
  simp only [r_v0, r_g0, r_v1, r_g1, r_v2, r_g2, r_v3, r_g3, r_v4, r_g4, r_v5, r_g5, r_v6, r_g6, r_v7, r_g7, r_v8, r_g8, r_v9, r_g9, r_v10, r_g10, r_v11, r_g11, r_v12, r_g12, r_g13, r_g14, r_g15, r_c, r_op, r_un, r_I0, r_I, r_U, r_eqI, r_eqS, r_neI, r_exbl, r_exint, r_test, r_B, r_and, r_or, r_not, r_andV, r_orV, r_notV, r_if, r_next, r_seqL, r_brk, r_cont, r_drop, r_ret, r_retN, r_ifS, r_asg, r_CB, r_nil, r_cons, r_call, r_tup, r_lst, r_p0, r_pS, r_disp, r_dget, r_sl, r_noPart, r_part, r_gNil, r_gCons, r_itF, r_nT, r_nF, r_len0, r_len1, r_len2, r_len3, r_len4, r_len6, r_len7, r_for, r_iEnum, r_iList, r_iTup, r_iRng1, r_iRng2, r_exI1, r_exR1, r_exR, r_bm, r_bm0, r_ixL, r_ixT, r_cat, r_slL, r_append, r_exRl, r_gTup, true_and, and_true, forall_const, Int.reduceLT, r_compG, r_setComp, r_yes, r_isi_int_str, r_isi_str_str, r_slT, r_inR, r_notInR, cxOf_K, wish_K, blk_K, r_blk1, r_blk2, List.map_cons, List.map_nil, List.getElem?_cons_zero, List.getElem?_cons_succ, Option.join_some, r_Vs, r_dnewK, r_dput, r_exRp, r_gSub, List.set_cons_zero, List.set_cons_succ, r_midL, r_sfld, r_gfld, r_meth, r_make, r_listRng, r_kget1, r_iEnumT, r_sorted, r_any, r_count, blkZ_K, r_iItemsT, r_setT, r_dispT1, r_dnewT, r_tupRng]
  refine fget hob T.c_Layer.cl T.n_Layer_sorts rfl (ixL (SqL.of hSo) (sV_at hpl) ?_)
  refine later ?_
  simp only [r_v0, r_g0, r_v1, r_g1, r_v2, r_g2, r_v3, r_g3, r_v4, r_g4, r_v5, r_g5, r_v6, r_g6, r_v7, r_g7, r_v8, r_g8, r_v9, r_g9, r_v10, r_g10, r_v11, r_g11, r_v12, r_g12, r_g13, r_g14, r_g15, r_c, r_op, r_un, r_I0, r_I, r_U, r_eqI, r_eqS, r_neI, r_exbl, r_exint, r_test, r_B, r_and, r_or, r_not, r_andV, r_orV, r_notV, r_if, r_next, r_seqL, r_brk, r_cont, r_drop, r_ret, r_retN, r_ifS, r_asg, r_CB, r_nil, r_cons, r_call, r_tup, r_lst, r_p0, r_pS, r_disp, r_dget, r_sl, r_noPart, r_part, r_gNil, r_gCons, r_itF, r_nT, r_nF, r_len0, r_len1, r_len2, r_len3, r_len4, r_len6, r_len7, r_for, r_iEnum, r_iList, r_iTup, r_iRng1, r_iRng2, r_exI1, r_exR1, r_exR, r_bm, r_bm0, r_ixL, r_ixT, r_cat, r_slL, r_append, r_exRl, r_gTup, true_and, and_true, forall_const, Int.reduceLT, r_compG, r_setComp, r_yes, r_isi_int_str, r_isi_str_str, r_slT, r_inR, r_notInR, cxOf_K, wish_K, blk_K, r_blk1, r_blk2, List.map_cons, List.map_nil, List.getElem?_cons_zero, List.getElem?_cons_succ, Option.join_some, r_Vs, r_dnewK, r_dput, r_exRp, r_gSub, List.set_cons_zero, List.set_cons_succ, r_midL, r_sfld, r_gfld, r_meth, r_make, r_listRng, r_kget1, r_iEnumT, r_sorted, r_any, r_count, blkZ_K, r_iItemsT, r_setT, r_dispT1, r_dnewT, r_tupRng]
  refine ⟨fun σ H' => Same H H' ∧ (soN ds pl < 3 → (GD.cntB (soN ds) bt (soN ds pl) : Int) ≠ uN us (soN ds pl)) ∧ σ = [some (.ref p), some (.ref d), some (.ref b), some (.int pl), some (sV (ds.getD pl (.tell (.word 0)))), none, none, none], ?_, ?_⟩
  · by_cases hs : soN ds pl < 3
    · have e : sV (ds.getD pl (.tell (.word 0))) = .int (soN ds pl) := if_pos hs
      rw [e]
      simp_arith [r_listRng, r_kget1, r_iEnumT, r_sorted, r_any, r_count, blkZ_K, r_iItemsT, r_setT, r_dispT1, r_dnewT, r_tupRng]
      refine ⟨⟨_, hB⟩, fun acc hacc bk => ?_⟩
      refine cg_sameL (fun _ => true) (fun x => sV (dAtI ds (match x with | .int i => i | _ => 0))) (by rw [nl_len, sizeLine_eq]; omega) hB hacc (fun x _ H2 Q' s2 h => h H2 (Same.refl _)) (fun x hx H2 Q' s2 _ h => ?_) fun H2 s2 hacc2 => ?_
      · obtain ⟨qp, hqm, rfl⟩ := List.mem_map.mp hx
        simp_arith [r_listRng, r_kget1, r_iEnumT, r_sorted, r_any, r_count, blkZ_K, r_iItemsT, r_setT, r_dispT1, r_dnewT, r_tupRng]
        exact fget (s2 _ _ hob) T.c_Layer.cl T.n_Layer_sorts rfl (ixL (SqL.of (s2 _ _ hSo)) (sV_at (hbt qp hqm)) (h H2 (Same.refl _)))
      · rw [filter_yes] at hacc2
        have el : List.map (fun x => sV (dAtI ds (match x with | .int i => i | _ => 0))) (nl bt) = bt.map fun p => sV (ds.getD p (.tell (.word 0))) := by unfold nl; rw [List.map_map]; rfl
        rw [el] at hacc2
        have hu : (us.map V.int)[soN ds pl]? = some (V.int (uN us (soN ds pl))) := by
          unfold uN
          rw [List.getElem?_map, List.getElem?_eq_getElem (by omega), List.getD_eq_getElem?_getD, List.getElem?_eq_getElem (by omega)]; rfl
        refine ⟨.inl ⟨rfl, _, SqL.of hacc2⟩, _, SqL.of hacc2, rfl, ?_, ?_⟩
        · rw [List.all_map, List.all_eq_true]
          exact fun x _ => flat_sV
        refine fget (s2 _ _ hob) T.c_Layer.cl T.n_Layer_units rfl (ixT (s2.seqT hU) hu ?_)
        rw [cnt_nl hs]
        simp_arith [r_listRng, r_kget1, r_iEnumT, r_sorted, r_any, r_count, blkZ_K, r_iItemsT, r_setT, r_dispT1, r_dnewT, r_tupRng]
        refine ite_dec (fun z => ?_) (fun z => ⟨s2, fun _ => z⟩)
        have hf : GD.fitsB (gapN ds) (soN ds) (uN us) dn bt pl = false := by
          cases hf : GD.fitsB (gapN ds) (soN ds) (uN us) dn bt pl with
          | false => rfl
          | true => exact absurd z ((GD.fits_iff.mp hf).1 hs)
        rw [hf] at q
        exact q H2 s2
    · have e : sV (ds.getD pl (.tell (.word 0))) = .non := if_neg hs
      rw [e]
      simp_arith [r_listRng, r_kget1, r_iEnumT, r_sorted, r_any, r_count, blkZ_K, r_iItemsT, r_setT, r_dispT1, r_dnewT, r_tupRng]
      exact ⟨Same.refl H, fun z => absurd z hs⟩
  · rintro σ H1 ⟨s1, hc, rfl⟩
    refine later ?_
    obtain ⟨gq, hgq⟩ : ∃ gq, qs[pl]? = some gq := ⟨_, List.getElem?_eq_getElem (by omega)⟩
    have hG := hq pl gq hgq
    simp_arith [r_listRng, r_kget1, r_iEnumT, r_sorted, r_any, r_count, blkZ_K, r_iItemsT, r_setT, r_dispT1, r_dnewT, r_tupRng]
    refine fget (s1 _ _ hob) T.c_Layer.cl T.n_Layer_gaps rfl (ixL (SqL.of (s1 _ _ hGp)) (v := .ref gq) (by rw [List.getElem?_map, hgq]; rfl) ⟨gq, rfl, ⟨_, SqL.of (s1 _ _ hG)⟩, ?_⟩)
    refine fw_enum (xs := (List.range pl).map fun j => FB.optV (gapN ds j pl)) (fun i σ H' => Same H H' ∧ (∀ j, j < i → GD.aheadB (gapN ds) dn bt pl j = true) ∧ ∃ o5 o6 o7, σ = [some (.ref p), some (.ref d), some (.ref b), some (.int pl), some (sV (ds.getD pl (.tell (.word 0)))), o5, o6, o7]) ⟨s1, fun j hj => absurd hj (by omega), _, _, _, rfl⟩ (fun i σ H' _ h => SqL.of (h.1 _ _ hG)) ?_ ?_
    · rintro i x σ H2 pp hx hpp ⟨s2, hah, o5, o6, o7, rfl⟩
      have hi : i < pl := by have := (List.getElem?_eq_some_iff.mp hx).1; rwa [List.length_map, List.length_range] at this
      rw [List.getElem?_map, List.getElem?_range hi] at hx
      cases hx
      have s3 : Same H (upd H2 pp (.tup [.int i, FB.optV (gapN ds i pl)])) := s2.updN hpp
      simp_arith [r_listRng, r_kget1, r_iEnumT, r_sorted, r_any, r_count, blkZ_K, r_iItemsT, r_setT, r_dispT1, r_dnewT, r_tupRng]
      refine ⟨_, SqT.of upd_same, rfl, ?_⟩
      have ih : GD.aheadB (gapN ds) dn bt pl i = true → ∀ j, j < i + 1 → GD.aheadB (gapN ds) dn bt pl j = true := fun h j hj => by
        by_cases e : j = i
        · rw [e]; exact h
        · exact hah j (by omega)
      have no : GD.aheadB (gapN ds) dn bt pl i = false → GD.fitsB (gapN ds) (soN ds) (uN us) dn bt pl = false := fun h => by
        cases hf : GD.fitsB (gapN ds) (soN ds) (uN us) dn bt pl with
        | false => rfl
        | true => have z := (GD.fits_iff.mp hf).2 i hi; rw [h] at z; cases z
      unfold GD.aheadB at ih no
      cases hg : gapN ds i pl with
      | none =>
        rw [hg] at ih s3
        simp only [r_v0, r_g0, r_v1, r_g1, r_v2, r_g2, r_v3, r_g3, r_v4, r_g4, r_v5, r_g5, r_v6, r_g6, r_v7, r_g7, r_v8, r_g8, r_v9, r_g9, r_v10, r_g10, r_v11, r_g11, r_v12, r_g12, r_v13, r_g13, r_v14, r_g14, r_v15, r_g15, r_v16, r_g16, r_v17, r_g17, r_v18, r_g18, r_v19, r_g19, r_v20, r_g20, r_v21, r_g21, r_v22, r_g22, r_v23, r_g23, r_c, r_op, r_un, r_I0, r_I, r_U, r_eqI, r_eqS, r_eqB, r_neI, r_neS, r_exbl, r_exint, r_test, r_B, r_and, r_or, r_not, r_andV, r_orV, r_notV, r_if, r_next, r_seq, r_brk, r_cont, r_drop, r_ret, r_retN, r_ifS, r_asg, r_CB, r_nil, r_cons, r_call, r_tup, r_lst, r_p0, r_pS, r_disp, r_dget, r_sl, r_noPart, r_part, r_gNil, r_gCons, r_itT, r_itF, r_nT, r_nF, r_len0, r_len1, r_len2, r_len3, r_len4, r_len5, r_len6, r_len7, r_len8, r_len9, r_len10, r_len11, r_for, r_iEnum, r_iList, r_iTup, r_iRng1, r_iRng2, r_exI1, r_exI2, r_exR1, r_exR, r_bm, r_bm0, r_ixS, r_ixL, r_ixT, r_cat, r_slL, r_append, r_pop, r_exS2, r_exRl, r_intB, r_intI, r_gTup, true_and, and_true, forall_const, Int.reduceLT, r_compG, r_setComp, r_yes, r_isi_int_int, r_isi_int_bool, r_isi_int_str, r_isi_int_list, r_isi_int_tuple, r_isi_int_dict, r_isi_bl_int, r_isi_bl_bool, r_isi_bl_str, r_isi_bl_list, r_isi_bl_tuple, r_isi_bl_dict, r_isi_str_int, r_isi_str_bool, r_isi_str_str, r_isi_str_list, r_isi_str_tuple, r_isi_str_dict, r_isi_non_int, r_isi_non_bool, r_isi_non_str, r_isi_non_list, r_isi_non_tuple, r_isi_non_dict, r_slT, r_inR, r_notInR, cxOf_K, wish_K, blk_K, r_blk1, r_blk2, List.map_cons, List.map_nil, List.getElem?_cons_zero, List.getElem?_cons_succ, Option.join_some, r_Vs, r_join, r_tyStr, r_dnewK, r_dput, r_exRp, r_gSub, List.set_cons_zero, List.set_cons_succ, r_mid, r_sfld, r_gfld, r_meth, r_make, r_listRng, r_kget1, r_iEnumT, r_sorted, r_all, r_any, r_insert, r_count, r_popAt, r_reverse, r_extend, blkZ_K, r_iItemsT, r_setT, r_dispT1, r_dnewT, r_tupRng, FB.optV] at s3 ⊢
        have ih' := ih rfl
        refine ⟨_, .inr (s3.seqT hD), rfl, flat_nl, ?_⟩
        split
        · split <;> exact ⟨s3, ih', _, _, _, rfl⟩
        · refine ⟨rfl, _, rfl, ?_⟩
          rw [show decide (V.non = V.int 0) = false from rfl]
          simp only [decide_true, Bool.not_true, Bool.false_eq_true, if_false]
          exact ⟨s3, ih', _, _, _, rfl⟩
      | some l =>
        rw [hg] at ih no s3
        simp only [r_v0, r_g0, r_v1, r_g1, r_v2, r_g2, r_v3, r_g3, r_v4, r_g4, r_v5, r_g5, r_v6, r_g6, r_v7, r_g7, r_v8, r_g8, r_v9, r_g9, r_v10, r_g10, r_v11, r_g11, r_v12, r_g12, r_v13, r_g13, r_v14, r_g14, r_v15, r_g15, r_v16, r_g16, r_v17, r_g17, r_v18, r_g18, r_v19, r_g19, r_v20, r_g20, r_v21, r_g21, r_v22, r_g22, r_v23, r_g23, r_c, r_op, r_un, r_I0, r_I, r_U, r_eqI, r_eqS, r_eqB, r_neI, r_neS, r_exbl, r_exint, r_test, r_B, r_and, r_or, r_not, r_andV, r_orV, r_notV, r_if, r_next, r_seq, r_brk, r_cont, r_drop, r_ret, r_retN, r_ifS, r_asg, r_CB, r_nil, r_cons, r_call, r_tup, r_lst, r_p0, r_pS, r_disp, r_dget, r_sl, r_noPart, r_part, r_gNil, r_gCons, r_itT, r_itF, r_nT, r_nF, r_len0, r_len1, r_len2, r_len3, r_len4, r_len5, r_len6, r_len7, r_len8, r_len9, r_len10, r_len11, r_for, r_iEnum, r_iList, r_iTup, r_iRng1, r_iRng2, r_exI1, r_exI2, r_exR1, r_exR, r_bm, r_bm0, r_ixS, r_ixL, r_ixT, r_cat, r_slL, r_append, r_pop, r_exS2, r_exRl, r_intB, r_intI, r_gTup, true_and, and_true, forall_const, Int.reduceLT, r_compG, r_setComp, r_yes, r_isi_int_int, r_isi_int_bool, r_isi_int_str, r_isi_int_list, r_isi_int_tuple, r_isi_int_dict, r_isi_bl_int, r_isi_bl_bool, r_isi_bl_str, r_isi_bl_list, r_isi_bl_tuple, r_isi_bl_dict, r_isi_str_int, r_isi_str_bool, r_isi_str_str, r_isi_str_list, r_isi_str_tuple, r_isi_str_dict, r_isi_non_int, r_isi_non_bool, r_isi_non_str, r_isi_non_list, r_isi_non_tuple, r_isi_non_dict, r_slT, r_inR, r_notInR, cxOf_K, wish_K, blk_K, r_blk1, r_blk2, List.map_cons, List.map_nil, List.getElem?_cons_zero, List.getElem?_cons_succ, Option.join_some, r_Vs, r_join, r_tyStr, r_dnewK, r_dput, r_exRp, r_gSub, List.set_cons_zero, List.set_cons_succ, r_mid, r_sfld, r_gfld, r_meth, r_make, r_listRng, r_kget1, r_iEnumT, r_sorted, r_all, r_any, r_insert, r_count, r_popAt, r_reverse, r_extend, blkZ_K, r_iItemsT, r_setT, r_dispT1, r_dnewT, r_tupRng, FB.optV] at s3 ⊢
        dsimp only at ih no
        refine ⟨_, .inr (s3.seqT hD), rfl, flat_nl, ?_⟩
        rw [inV_nl, show decide (V.int l = V.non) = false from rfl]
        by_cases h1 : i ∈ dn
        · rw [if_pos (decide_eq_true h1)]
          split <;> exact ⟨s3, ih (by simp [h1]), _, _, _, rfl⟩
        · rw [if_neg (by simp [h1])]
          by_cases h2 : l = 0
          · rw [if_pos (decide_eq_true h2)]
            refine ⟨_, .inl (s3.seq hB), rfl, flat_nl, ?_⟩
            rw [inV_nl]
            by_cases h3' : i ∈ bt
            · simp only [h3', decide_true, Bool.not_true, Bool.not_false, Bool.false_eq_true, if_false, if_true]
              exact ⟨s3, ih (by simp [h2, h3']), _, _, _, rfl⟩
            · simp only [h3', decide_false, Bool.not_true, Bool.not_false, Bool.false_eq_true, if_false, if_true]
              rw [no (by simp [h1, h3'])] at q
              exact q _ s3
          · rw [if_neg (by simp [h2])]
            simp only [Bool.not_true, Bool.not_false, Bool.false_eq_true, if_false, if_true]
            rw [no (by simp [h1, h2])] at q
            exact q _ s3
    · rintro σ H2 ⟨s2, hah, o5, o6, o7, rfl⟩
      rw [List.length_map, List.length_range] at hah
      have hf : GD.fitsB (gapN ds) (soN ds) (uN us) dn bt pl = true := GD.fits_iff.mpr ⟨hc, hah⟩
      rw [hf] at q
      simp_arith [r_listRng, r_kget1, r_iEnumT, r_sorted, r_any, r_count, blkZ_K, r_iItemsT, r_setT, r_dispT1, r_dnewT, r_tupRng]
      exact q H2 s2
end
end K32
set_option maxHeartbeats 4000000
namespace K32
open PySem L2 PyProof.Rows FA
noncomputable def DeedsIn (K : PySem.W.Frag) (H : Hp) (a b : Addr) (ds : List FB.Deed) (us : List Int) : Prop := ∃ xs, SqL K H a xs ∧ DeedsV K H xs ds ∧ ds.length ≤ 8 ∧ SqT K H b (us.map V.int) ∧ us.length = 3 ∧ ∀ u ∈ us, 0 < u ∧ u ≤ 3
end K32
set_option maxHeartbeats 4000000
namespace K32
open PySem L2 PyProof.Rows FA
noncomputable def LLN (H : Hp) (c : Addr) (bts : List (List Nat)) : Prop := ∃ ps : List Addr, H c = some (.lst (ps.map V.ref)) ∧ Paired (fun p (b : List Nat) => H p = some (.lst (nl b))) ps bts
theorem LLN.same {H H' : Hp} {c : Addr} {bts : List (List Nat)} (s : Same H H') (h : LLN H c bts) : LLN H' c bts :=
  let ⟨ps, e, r⟩ := h; ⟨ps, s _ _ e, Paired.mapP r fun _ _ z => s _ _ z⟩
theorem ne_ref {H : Hp} {mo r : Addr} {rs : List Addr} {b : List Nat} (h1 : H mo = some (.lst (rs.map V.ref))) (h2 : H r = some (.lst (nl b))) (hr : r ∈ rs) : r ≠ mo := by
  rintro rfl
  rw [h1] at h2
  have e : rs.map V.ref = nl b := HO.lst.inj (Option.some.inj h2)
  cases rs with
  | nil => cases hr
  | cons x xs =>
    cases b with
    | nil => cases e
    | cons y ys =>
      unfold nl at e
      rw [List.map_cons, List.map_cons] at e
      cases (List.cons.inj e).1
theorem pr_updA {H : Hp} {mo : Addr} {rs : List Addr} {o : HO} (h : H mo = some (.lst (rs.map V.ref))) : ∀ {rs' : List Addr} {bs : List (List Nat)}, Paired (fun r (b : List Nat) => H r = some (.lst (nl b))) rs' bs → (∀ r ∈ rs', r ∈ rs) → Paired (fun r (b : List Nat) => upd H mo o r = some (.lst (nl b))) rs' bs
  | _, _, .nil, _ => .nil
  | _, _, .cons z t, hm => .cons (by rw [upd_ne (ne_ref h z (hm _ (by simp)))]; exact z) (pr_updA h t fun r hr => hm r (List.mem_cons_of_mem _ hr))
theorem pr_add {H : Hp} {mo : Addr} {rs : List Addr} {bs : List (List Nat)} {r : Addr} {b : List Nat} (h : H mo = some (.lst (rs.map V.ref))) (hp : Paired (fun r (b : List Nat) => H r = some (.lst (nl b))) rs bs) (hr : H r = some (.lst (nl b))) (ne : r ≠ mo) :
    Paired (fun q (b : List Nat) => upd H mo (.lst (rs.map V.ref ++ [.ref r])) q = some (.lst (nl b))) (rs ++ [r]) (bs ++ [b]) := Paired.snoc (pr_updA h hp fun _ h => h) (by rw [upd_ne ne]; exact hr)
theorem nl_snoc {bt : List Nat} {p : Nat} : nl bt ++ [V.int p] = nl (bt ++ [p]) := by unfold nl; rw [List.map_append]; rfl
noncomputable def bd_room (K : PySem.W.Frag) (C : Addr) (p d b m : Addr) (H : Hp) (Q : VK) : Prop := ∃ (ds : List FB.Deed) (us : List Int) (dn bt ms : List Nat), LayerH K C H p ds us ∧ SqT K H d (nl dn) ∧ SqL K H b (nl bt) ∧ SqL K H m (nl ms) ∧ (∀ q ∈ bt, q < ds.length) ∧ bt.length ≤ 8 ∧ (∀ q ∈ ms, q < ds.length) ∧ ms.length ≤ 8 ∧ ∀ H', Same H H' → Q (.bl (GD.roomB (gapN ds) (soN ds) (uN us) dn bt ms)) H'
noncomputable def sp_room (K : PySem.W.Frag) (C : Addr) : Sp := fun vs H Q _ => ∃ (p d b m : Addr), vs = [.ref p, .ref d, .ref b, .ref m] ∧ bd_room K C p d b m H Q
noncomputable def bd_grown (K : PySem.W.Frag) (C : Addr) (p d c : Addr) (i : Int) (H : Hp) (Q : VK) : Prop := ∃ (ds : List FB.Deed) (us : List Int) (dn : List Nat) (bts : List (List Nat)) (pl : Nat), i = pl ∧ LayerH K C H p ds us ∧ SqT K H d (nl dn) ∧ LLN H c bts ∧ pl < ds.length ∧ (∀ b ∈ bts, (∀ q ∈ b, q < ds.length) ∧ b.length ≤ 7) ∧ bts.length ≤ 1000 ∧
  ∀ c' H', Same H H' → LLN H' c' (GD.grownF (gapN ds) (soN ds) (uN us) dn bts pl) → Q (.ref c') H'
noncomputable def sp_grown (K : PySem.W.Frag) (C : Addr) : Sp := fun vs H Q _ => ∃ (p d c : Addr) (i : Int), vs = [.ref p, .ref d, .ref c, .int i] ∧ bd_grown K C p d c i H Q
section
variable {P : Program} {w : World} {K : PySem.W.Frag} {mg : Str → Option Value} {base : Heap} {t : Ad}
theorem r_room {C p d b m : Addr} {H : Hp} {Q : VK} {E : XK} : sp_room K C [.ref p, .ref d, .ref b, .ref m] H Q E = bd_room K C p d b m H Q := propext ⟨by rintro ⟨_, _, _, _, e, q⟩; cases e; exact q, fun q => ⟨p, d, b, m, rfl, q⟩⟩
theorem r_grown {C p d c : Addr} {i : Int} {H : Hp} {Q : VK} {E : XK} : sp_grown K C [.ref p, .ref d, .ref c, .int i] H Q E = bd_grown K C p d c i H Q := propext ⟨by rintro ⟨_, _, _, _, e, q⟩; cases e; exact q, fun q => ⟨p, d, c, i, rfl, q⟩⟩
noncomputable def fRm (f : Nat → Bool) : V → V
  | .int i => .bl (f i.toNat)
  | _ => .non
theorem ok_room (T : Txt K mg t) : FnOk P w K mg base CX0 2 t.f_Layer_has_room t.e_Layer_has_room ["self", "done", "beat", "missing"] (sp_room K t.C_Layer) := by
  have G_Layer_fits := ok_fits (P := P) (w := w) (base := base) T
  refine T.d_Layer_has_room.F.ok sc_Layer_has_room (fun vs H Q E h => by obtain ⟨_, _, _, _, rfl, _⟩ := h; rfl) (fun cdv A outer s H vs Q E hr h => ?_)
  obtain ⟨p, d, b, m, rfl, ds, us, dn, bt, ms, L, hD, hB, hM, hbt, hlb, hms, hlm, q⟩ := h
  refine ⟨_,
      (XSs.h
      (xpss_one
        (xps_ret (xqe_callB (call_any rfl) gl T.z_any boot_any (xpa_cons (xpe_compG (tns := ["place"]) (cns := ["self", "done", "beat"]) (ci := [0, 1, 2]) rfl (CompSc.of (by kernel_rfl)) (xpi_list (xqv 3 vl)) (fun _ => (xpg_name (i := 1) (show List.Nodup [(".0" : Str), ("place" : Str), ("self" : Str), ("done" : Str), ("beat" : Str)] by decide +kernel) rfl ll (Or.inr (by kernel_rfl)))) (fun _ => xpf_nil) (fun _ => (xpe_and (xpe_cmpR op_notIn_seq (xqv 1 vl) (xqv 4 vc) rfl) (xpe_one (xqe_methD T.c_Layer.cl T.d_Layer_fits G_Layer_fits (hr.mono (by first | decide | omega)) (xqv 2 vc) (xpa_cons (xqv 3 vc) (xpa_cons (xqv 4 vc) (xpa_cons (xqv 1 vl) xpa_nil)))))))) xpa_nil))))), ?_⟩
  rw [show start _ [V.ref p, V.ref d, V.ref b, V.ref m] = [some (.ref p), some (.ref d), some (.ref b), some (.ref m)] from rfl]
  simp_arith [r_listRng, r_kget1, r_iEnumT, r_sorted, r_any, r_count, blkZ_K, r_iItemsT, r_setT, r_dispT1, r_dnewT, r_tupRng, r_fits]
  refine ⟨⟨_, hM⟩, fun acc hacc bk => ?_⟩
  refine cg_sameL (fun _ => true) (fRm fun q => !decide (q ∈ bt) && GD.fitsB (gapN ds) (soN ds) (uN us) dn bt q) (by rw [nl_len, sizeLine_eq]; omega) hM hacc (fun x _ H2 Q' s2 h => h H2 (Same.refl _)) (fun x hx H2 Q' s2 _ h => ?_) fun H2 s2 hacc2 => ?_
  · obtain ⟨qp, hqm, rfl⟩ := List.mem_map.mp hx
    simp_arith [r_listRng, r_kget1, r_iEnumT, r_sorted, r_any, r_count, blkZ_K, r_iItemsT, r_setT, r_dispT1, r_dnewT, r_tupRng, r_fits]
    refine ⟨_, .inl (s2.seq hB), rfl, flat_nl, ?_⟩
    rw [inV_nl]
    have h' : ∀ H', Same H2 H' → Q' (.bl (!decide (qp ∈ bt) && GD.fitsB (gapN ds) (soN ds) (uN us) dn bt qp)) H' := h
    obtain ⟨dx, ub, sb, gb, qs, hob, _⟩ := (L.same s2).ob
    refine ite_ndec (fun hn => ?_) (fun hn => ?_)
    · rw [decide_eq_false hn, Bool.not_false, Bool.true_and] at h'
      exact methOf hob rfl ⟨ds, us, dn, bt, qp, rfl, L.same s2, s2.seqT hD, s2.seq hB, hms qp hqm, hbt, hlb, h'⟩
    · rw [decide_eq_true hn, Bool.not_true, Bool.false_and] at h'
      exact h' H2 (Same.refl _)
  rw [filter_yes] at hacc2
  refine ⟨ms.map fun q => !decide (q ∈ bt) && GD.fitsB (gapN ds) (soN ds) (uN us) dn bt q, SqL.of ?_, ?_⟩
  · rw [hacc2]
    unfold nl
    rw [List.map_map, List.map_map]
    rfl
  · have z := q H2 s2
    unfold GD.roomB at z
    rw [List.any_map]
    exact z
theorem ok_grown (T : Txt K mg t) : FnOk P w K mg base CX0 2 t.f_Layer_grown t.e_Layer_grown ["self", "done", "beats", "place"] (sp_grown K t.C_Layer) := by
  have G_Layer_fits := ok_fits (P := P) (w := w) (base := base) T
  refine T.d_Layer_grown.F.ok sc_Layer_grown (fun vs H Q E h => by obtain ⟨_, _, _, _, rfl, _⟩ := h; rfl) (fun cdv A outer s H vs Q E hr h => ?_)
  obtain ⟨p, d, c, i, rfl, ds, us, dn, bts, pl, rfl, L, hD, hC, hpl, hb, hl, q⟩ := h
  obtain ⟨ps, hc, hps⟩ := hC
  have lps := hps.length
  refine ⟨_,
      (XSs.h
      (xpss_cons
        (xps_set (i := 4) sc_Layer_grown.nd rfl ll (xpe_lst xpa_nil))
      (xpss_cons
        (xps_for PassesOwn.never rfl (xpi_list (xqv 2 vl)) (xpg_name (i := 5) sc_Layer_grown.nd rfl ll)
          (xpss_cons
            (xps_set (i := 6) sc_Layer_grown.nd rfl ll (xqe_methD T.c_Layer.cl T.d_Layer_fits G_Layer_fits (hr.mono (by first | decide | omega)) (xqv 0 vl) (xpa_cons (xqv 1 vl) (xpa_cons (xqv 5 vl) (xpa_cons (xqv 3 vl) xpa_nil)))))
          (xpss_mid
            (xps_if (xpt_val (xqv 6 vl))
              (xpss_one
                (xps_expr (xpe_bm PySem.F.plainAttrs_list PySem.F.slot_list_append PySem.F.type_list_append mt_append (xqv 4 vl) (xpa_cons (xpe_op op_cat (xqv 5 vl) (xpe_lst (xpa_cons (xqv 3 vl) xpa_nil))) xpa_nil))))
              xpss_nil)
          (xpss_one
            (xps_if (xPW_pt (xpw_or (xpt_not (xpt_val (xqv 6 vl))) (xpw_or1 (xpt_cmpR op_notN (xpe_ix ix_list (xpe_fld (xqv 0 vl) rfl) (xqv 3 vl) (fun _ _ => rfl)) xpe_non (nomark _)))))
              (xpss_one
                (xps_expr (xpe_bm PySem.F.plainAttrs_list PySem.F.slot_list_append PySem.F.type_list_append mt_append (xqv 4 vl) (xpa_cons (xqv 5 vl) xpa_nil))))
              xpss_nil)))))
      (xpss_one
        (xps_ret (xqv 4 vl)))))), ?_⟩
  rw [show start _ [V.ref p, V.ref d, V.ref c, V.int pl] = [some (.ref p), some (.ref d), some (.ref c), some (.int pl), none, none, none] from rfl]
  simp_arith [r_listRng, r_kget1, r_iEnumT, r_sorted, r_any, r_count, blkZ_K, r_iItemsT, r_setT, r_dispT1, r_dnewT, r_tupRng, r_fits]
  intro mo hmo
  refine ⟨⟨_, SqL.of (Same.upd hmo _ _ hc)⟩, ?_⟩
  refine fw_list (xs := ps.map V.ref) (fun i σ H' => Same H H' ∧ ∃ (rs : List Addr) (o5 o6 : Option V), σ = [some (.ref p), some (.ref d), some (.ref c), some (.int pl), some (.ref mo), o5, o6] ∧ H' mo = some (.lst (rs.map V.ref)) ∧ Paired (fun p (b : List Nat) => H' p = some (.lst (nl b))) rs (GD.grownF (gapN ds) (soN ds) (uN us) dn (bts.take i) pl)) ⟨Same.upd hmo, [], none, none, rfl, upd_same, .nil⟩ (fun i σ H' _ h => SqL.of (h.1 _ _ hc)) ?_ ?_
  · rintro i x σ H1 hx ⟨s1, rs, o5, o6, rfl, hm1, hrs⟩
    rw [List.getElem?_map] at hx
    obtain ⟨bp, hbp, rfl⟩ := Option.map_eq_some_iff.mp hx
    obtain ⟨bt, hbt, hpb⟩ := Paired.get hps hbp
    obtain ⟨hi, ei⟩ := List.getElem?_eq_some_iff.mp hbt
    obtain ⟨b1, b2⟩ := hb bt (List.mem_of_getElem? hbt)
    simp only [r_v0, r_g0, r_v1, r_g1, r_v2, r_g2, r_v3, r_g3, r_v4, r_g4, r_v5, r_g5, r_v6, r_g6, r_v7, r_g7, r_v8, r_g8, r_v9, r_g9, r_v10, r_g10, r_v11, r_g11, r_v12, r_g12, r_g13, r_g14, r_g15, r_c, r_op, r_un, r_I0, r_I, r_U, r_eqI, r_eqS, r_neI, r_exbl, r_exint, r_test, r_B, r_and, r_or, r_not, r_andV, r_orV, r_notV, r_if, r_next, r_seqL, r_brk, r_cont, r_drop, r_ret, r_retN, r_ifSL, r_asg, r_CB, r_nil, r_cons, r_call, r_tup, r_lst, r_p0, r_pS, r_disp, r_dget, r_sl, r_noPart, r_part, r_gNil, r_gCons, r_itF, r_nT, r_nF, r_len0, r_len1, r_len2, r_len3, r_len4, r_len6, r_len7, r_for, r_iEnum, r_iList, r_iTup, r_iRng1, r_iRng2, r_exI1, r_exR1, r_exR, r_bm, r_bm0, r_ixL, r_ixT, r_cat, r_slL, r_append, r_exRl, r_gTup, true_and, and_true, forall_const, Int.reduceLT, r_compG, r_setComp, r_yes, r_isi_int_str, r_isi_str_str, r_slT, r_inR, r_notInR, cxOf_K, wish_K, blk_K, r_blk1, r_blk2, List.map_cons, List.map_nil, List.getElem?_cons_zero, List.getElem?_cons_succ, Option.join_some, r_Vs, r_dnewK, r_dput, r_exRp, r_gSub, List.set_cons_zero, List.set_cons_succ, r_midL, r_sfld, r_gfld, r_meth, r_make, r_listRng, r_kget1, r_iEnumT, r_sorted, r_any, r_count, blkZ_K, r_iItemsT, r_setT, r_dispT1, r_dnewT, r_tupRng, r_fits]
    obtain ⟨dx, ub, sb, gb, qs, hob, hU, hSo, hGp, hql, hq⟩ := (L.same s1).ob
    refine methOf hob rfl ⟨ds, us, dn, bt, pl, rfl, L.same s1, s1.seqT hD, SqL.of (s1 _ _ hpb), hpl, b1, by omega, fun H2 s2 => ?_⟩
    refine later ?_
    simp only [r_v0, r_g0, r_v1, r_g1, r_v2, r_g2, r_v3, r_g3, r_v4, r_g4, r_v5, r_g5, r_v6, r_g6, r_v7, r_g7, r_v8, r_g8, r_v9, r_g9, r_v10, r_g10, r_v11, r_g11, r_v12, r_g12, r_g13, r_g14, r_g15, r_c, r_op, r_un, r_I0, r_I, r_U, r_eqI, r_eqS, r_neI, r_exbl, r_exint, r_test, r_B, r_and, r_or, r_not, r_andV, r_orV, r_notV, r_if, r_next, r_seqL, r_brk, r_cont, r_drop, r_ret, r_retN, r_ifS, r_asg, r_CB, r_nil, r_cons, r_call, r_tup, r_lst, r_p0, r_pS, r_disp, r_dget, r_sl, r_noPart, r_part, r_gNil, r_gCons, r_itF, r_nT, r_nF, r_len0, r_len1, r_len2, r_len3, r_len4, r_len6, r_len7, r_for, r_iEnum, r_iList, r_iTup, r_iRng1, r_iRng2, r_exI1, r_exR1, r_exR, r_bm, r_bm0, r_ixL, r_ixT, r_cat, r_slL, r_append, r_exRl, r_gTup, true_and, and_true, forall_const, Int.reduceLT, r_compG, r_setComp, r_yes, r_isi_int_str, r_isi_str_str, r_slT, r_inR, r_notInR, cxOf_K, wish_K, blk_K, r_blk1, r_blk2, List.map_cons, List.map_nil, List.getElem?_cons_zero, List.getElem?_cons_succ, Option.join_some, r_Vs, r_dnewK, r_dput, r_exRp, r_gSub, List.set_cons_zero, List.set_cons_succ, r_midL, r_sfld, r_gfld, r_meth, r_make, r_listRng, r_kget1, r_iEnumT, r_sorted, r_any, r_count, blkZ_K, r_iItemsT, r_setT, r_dispT1, r_dnewT, r_tupRng, r_fits]
    have s3 := s1.trans s2
    have hr2 : Paired (fun p (b : List Nat) => H2 p = some (.lst (nl b))) rs (GD.grownF (gapN ds) (soN ds) (uN us) dn (bts.take i) pl) := Paired.mapP hrs fun _ _ z => s2 _ _ z
    have e4 : GD.grownF (gapN ds) (soN ds) (uN us) dn (bts.take (i + 1)) pl = GD.grownF (gapN ds) (soN ds) (uN us) dn (bts.take i) pl ++ GD.growB (gapN ds) (soN ds) (uN us) dn bt pl := by
      unfold GD.grownF
      rw [List.take_succ_eq_append_getElem hi, ei, List.flatMap_append, List.flatMap_singleton]
    rw [e4]
    have lr := hrs.length
    have lg := GD.grown_len (G := gapN ds) (so := soN ds) (U := uN us) (dn := dn) (bts.take i) pl
    rw [List.length_take] at lg
    refine ⟨fun σ H' => Same H H' ∧ ∃ rs : List Addr, σ = [some (.ref p), some (.ref d), some (.ref c), some (.int pl), some (.ref mo), some (.ref bp), some (.bl (GD.fitsB (gapN ds) (soN ds) (uN us) dn bt pl))] ∧ H' mo = some (.lst (rs.map V.ref)) ∧ Paired (fun p (b : List Nat) => H' p = some (.lst (nl b))) rs (GD.grownF (gapN ds) (soN ds) (uN us) dn (bts.take i) pl ++ (if GD.fitsB (gapN ds) (soN ds) (uN us) dn bt pl = true then [bt ++ [pl]] else [])), ?_, ?_⟩
    · cases hf : GD.fitsB (gapN ds) (soN ds) (uN us) dn bt pl with
      | true =>
        simp_arith [r_listRng, r_kget1, r_iEnumT, r_sorted, r_any, r_count, blkZ_K, r_iItemsT, r_setT, r_dispT1, r_dnewT, r_tupRng, if_true]
        refine ⟨.inl ⟨rfl, _, SqL.of (s2 _ _ hm1)⟩, fun p3 hp3 => ⟨nl bt, [V.int pl], Same.upd hp3 _ _ (s2 _ _ (s1 _ _ hpb)), upd_same, by rw [nl_len, sizeLine_eq, List.length_singleton]; omega, fun p4 hp4 => ?_⟩⟩
        have s5 := (Same.upd (o := .lst [V.int pl]) hp3).trans (Same.upd (o := .lst (nl bt ++ [V.int pl])) hp4)
        have m5 := s5 _ _ (s2 _ _ hm1)
        refine ⟨rs.map V.ref, m5, by rw [List.length_map, sizeLine_eq]; omega, (s3.trans s5).updM hmo, rs ++ [p4], by rw [upd_same, List.map_append]; rfl, ?_⟩
        exact pr_add m5 (Paired.mapP hr2 fun _ _ z => s5 _ _ z) (by rw [upd_same, nl_snoc]) (ne_of_none (Same.upd hp3 _ _ (s2 _ _ hm1)) hp4).symm
      | false =>
        simp_arith [r_listRng, r_kget1, r_iEnumT, r_sorted, r_any, r_count, blkZ_K, r_iItemsT, r_setT, r_dispT1, r_dnewT, r_tupRng, Bool.false_eq_true, if_false, List.append_nil]
        exact ⟨s3, rs, s2 _ _ hm1, hr2⟩
    · rintro σ H3 ⟨s4, rs2, rfl, hm3, hr3⟩
      refine later ?_
      have lr3 := hr3.length
      rw [List.length_append] at lr3
      have l1 : (if GD.fitsB (gapN ds) (soN ds) (uN us) dn bt pl = true then [bt ++ [pl]] else []).length ≤ 1 := by split <;> simp
      have app : ∀ v6 : V, (GD.fitsB (gapN ds) (soN ds) (uN us) dn bt pl = false ∨ soN ds pl < 3) → tyV K "list" (V.ref mo) H3 ∧ ∃ xs, H3 mo = some (.lst xs) ∧ xs.length < sizeLine ∧ Same H (upd H3 mo (.lst (xs ++ [V.ref bp]))) ∧ ∃ (rs : List Addr) (o5 o6 : Option V),
          [some (V.ref p), some (V.ref d), some (V.ref c), some (V.int ↑pl), some (V.ref mo), some (V.ref bp), some v6] = [some (V.ref p), some (V.ref d), some (V.ref c), some (V.int ↑pl), some (V.ref mo), o5, o6] ∧ upd H3 mo (.lst (xs ++ [V.ref bp])) mo = some (.lst (rs.map V.ref)) ∧
            Paired (fun p (b : List Nat) => upd H3 mo (.lst (xs ++ [V.ref bp])) p = some (.lst (nl b))) rs (GD.grownF (gapN ds) (soN ds) (uN us) dn (bts.take i) pl ++ GD.growB (gapN ds) (soN ds) (uN us) dn bt pl) := fun v6 hor => by
        refine ⟨.inl ⟨rfl, _, SqL.of hm3⟩, _, hm3, by rw [List.length_map, sizeLine_eq]; omega, s4.updM hmo, rs2 ++ [bp], _, _, rfl, by rw [upd_same, List.map_append]; rfl, ?_⟩
        unfold GD.growB
        rw [if_pos hor, ← List.append_assoc]
        exact pr_add hm3 hr3 (s4 _ _ hpb) (ne_of_none hpb hmo)
      simp_arith [r_listRng, r_kget1, r_iEnumT, r_sorted, r_any, r_count, blkZ_K, r_iItemsT, r_setT, r_dispT1, r_dnewT, r_tupRng]
      cases hf : GD.fitsB (gapN ds) (soN ds) (uN us) dn bt pl with
      | false =>
        simp only [Bool.not_false, if_true]
        exact app _ (.inl hf)
      | true =>
        simp only [Bool.not_true, Bool.false_eq_true, if_false]
        obtain ⟨dx, ub, sb, gb, qs, hob, hU, hSo, hGp, hql, hq⟩ := (L.same s4).ob
        refine fget hob T.c_Layer.cl T.n_Layer_sorts rfl (ixL (SqL.of hSo) (sV_at hpl) ?_)
        by_cases hs : soN ds pl < 3
        · rw [show sV (ds.getD pl (.tell (.word 0))) = .int (soN ds pl) from if_pos hs, show decide (V.int (soN ds pl) = V.non) = false from rfl]
          simp only [Bool.not_false, if_true]
          exact app _ (.inr hs)
        · rw [show sV (ds.getD pl (.tell (.word 0))) = .non from if_neg hs]
          simp only [decide_true, Bool.not_true, Bool.false_eq_true, if_false]
          refine ⟨s4, rs2, _, _, rfl, hm3, ?_⟩
          unfold GD.growB
          rw [if_neg (show ¬ (GD.fitsB (gapN ds) (soN ds) (uN us) dn bt pl = false ∨ soN ds pl < 3) by rw [hf]; simp [hs]), List.append_nil]
          exact hr3
  · rintro σ H1 ⟨s1, rs, o5, o6, rfl, hm1, hrs⟩
    simp_arith [r_listRng, r_kget1, r_iEnumT, r_sorted, r_any, r_count, blkZ_K, r_iItemsT, r_setT, r_dispT1, r_dnewT, r_tupRng]
    rw [List.length_map, lps, List.take_length] at hrs
    exact q mo H1 s1 ⟨rs, hm1, hrs⟩
end
end K32
set_option maxHeartbeats 4000000
namespace K32
open PySem L2 PyProof.Rows FA
noncomputable def bd_full (K : PySem.W.Frag) (C : Addr) (p d : Addr) (H : Hp) (Q : VK) : Prop := ∃ (ds : List FB.Deed) (us : List Int) (dn : List Nat), LayerH K C H p ds us ∧ SqT K H d (nl dn) ∧ ∀ c H', Same H H' → LLN H' c (GD.fullF (gapN ds) (soN ds) (uN us) ds.length dn) → Q (.ref c) H'
noncomputable def sp_full (K : PySem.W.Frag) (C : Addr) : Sp := fun vs H Q _ => ∃ (p d : Addr), vs = [.ref p, .ref d] ∧ bd_full K C p d H Q
noncomputable def bd_linit (K : PySem.W.Frag) (C : Addr) (p a b : Addr) (H : Hp) (Q : VK) : Prop := ∃ (H0 : Hp) (dx : Addr) (ds : List FB.Deed) (us : List Int), Same H0 H ∧ H0 p = none ∧ H p = some (.ins C dx []) ∧ DeedsIn K H0 a b ds us ∧ ∀ H', Same H0 H' → LayerH K C H' p ds us → Q .non H'
noncomputable def sp_linit (K : PySem.W.Frag) (C : Addr) : Sp := fun vs H Q _ => ∃ (p a b : Addr), vs = [.ref p, .ref a, .ref b] ∧ bd_linit K C p a b H Q
section
variable {P : Program} {w : World} {K : PySem.W.Frag} {mg : Str → Option Value} {base : Heap} {t : Ad}
theorem r_full {C p d : Addr} {H : Hp} {Q : VK} {E : XK} : sp_full K C [.ref p, .ref d] H Q E = bd_full K C p d H Q := propext ⟨by rintro ⟨_, _, e, q⟩; cases e; exact q, fun q => ⟨p, d, rfl, q⟩⟩
theorem r_linit {C p a b : Addr} {H : Hp} {Q : VK} {E : XK} : sp_linit K C [.ref p, .ref a, .ref b] H Q E = bd_linit K C p a b H Q := propext ⟨by rintro ⟨_, _, _, e, q⟩; cases e; exact q, fun q => ⟨p, a, b, rfl, q⟩⟩
theorem putF_newL {f : Str} {v : V} : ∀ {fs : List (Str × V)}, (fs.map (·.1)).contains f = false → putF f v fs = fs ++ [(f, v)]
  | [], _ => rfl
  | (g, x) :: r, h => by
    rw [List.map_cons, List.contains_cons, Bool.or_eq_false_iff] at h
    have n : ¬ g = f := fun z => by subst z; simp at h
    rw [show putF f v ((g, x) :: r) = (if g = f then (g, v) :: r else (g, x) :: putF f v r) from rfl, if_neg n, putF_newL h.2]; rfl
theorem grown_b {ds : List FB.Deed} {us : List Int} {dn : List Nat} : ∀ (ms : List Nat) (bts : List (List Nat)) (m : Nat), (∀ q ∈ ms, q < ds.length) → (∀ b ∈ bts, (∀ q ∈ b, q < ds.length) ∧ b.length ≤ m) → ∀ b ∈ ms.foldl (GD.grownF (gapN ds) (soN ds) (uN us) dn) bts, (∀ q ∈ b, q < ds.length) ∧ b.length ≤ m + ms.length
  | [], _, _, _, h => h
  | p :: ms, bts, m, h1, h2 => fun b hb => by
    have z := grown_b ms (GD.grownF (gapN ds) (soN ds) (uN us) dn bts p) (m + 1) (fun q hq => h1 q (List.mem_cons_of_mem _ hq)) (fun c hc => by
      obtain ⟨b', hb', hc⟩ := List.mem_flatMap.mp hc
      obtain ⟨g1, g2⟩ := h2 b' hb'
      rcases GD.mem_grow hc with ⟨_, rfl⟩ | rfl
      · refine ⟨fun q hq => ?_, by rw [List.length_append, List.length_singleton]; omega⟩
        rcases List.mem_append.mp hq with hq | hq
        · exact g1 q hq
        · rw [List.mem_singleton.mp hq]; exact h1 p (by simp)
      · exact ⟨g1, by omega⟩) b hb
    exact ⟨z.1, by rw [List.length_cons]; omega⟩
theorem miss_len {n : Nat} {dn : List Nat} : (GD.missF n dn).length ≤ n := by
  have := List.length_filter_le (fun p => !decide (p ∈ dn)) (List.range n)
  rwa [List.length_range] at this
theorem ok_full (T : Txt K mg t) : FnOk P w K mg base CX0 3 t.f_Layer_full_beats t.e_Layer_full_beats ["self", "done"] (sp_full K t.C_Layer) := by
  have G_Layer_has_room := ok_room (P := P) (w := w) (base := base) T
  have G_Layer_grown := ok_grown (P := P) (w := w) (base := base) T
  refine T.d_Layer_full_beats.F.ok sc_Layer_full_beats (fun vs H Q E h => by obtain ⟨_, _, rfl, _⟩ := h; rfl) (fun cdv A outer s H vs Q E hr h => ?_)
  obtain ⟨p, d, rfl, ds, us, dn, L, hD, q⟩ := h
  have h8 := L.h8
  obtain ⟨dx, ub, sb, gb, qs, hob, hU, hSo, hGp, hql, hq⟩ := L.ob
  refine ⟨_,
      (XSs.h
      (xpss_cons
        (xps_set (i := 3) sc_Layer_full_beats.nd rfl lc (xpe_compG (tns := ["place"]) (cns := ["done"]) (ci := [1]) rfl (CompSc.of (by kernel_rfl)) (xpi_range1 gl T.z_range (xpa_cons (xqe_callB call_len_seq gl T.z_len PySem.boot_len (xpa_cons (xpe_fld (xqv 0 vc) rfl) xpa_nil)) xpa_nil)) (fun _ => (xpg_name (i := 1) (show List.Nodup [(".0" : Str), ("place" : Str), ("done" : Str)] by decide +kernel) rfl ll (Or.inr (by kernel_rfl)))) (fun _ => (xpf_one (xpt_cmpR op_notIn_seq (xqv 1 vl) (xqv 2 vc) rfl))) (fun _ => (xqv 1 vl))))
      (xpss_cons
        (xps_set (i := 4) sc_Layer_full_beats.nd rfl ll (xpe_lst (xpa_cons (xpe_lst xpa_nil) xpa_nil)))
      (xpss_cons
        (xps_for PassesOwn.never rfl (xpi_list (xqv 3 vc)) (xpg_name (i := 2) sc_Layer_full_beats.nd rfl ll)
          (xpss_one
            (xps_set (i := 4) sc_Layer_full_beats.nd rfl ll (xqe_methD T.c_Layer.cl T.d_Layer_grown G_Layer_grown (hr.mono (by first | decide | omega)) (xqv 0 vc) (xpa_cons (xqv 1 vc) (xpa_cons (xqv 4 vl) (xpa_cons (xqv 2 vl) xpa_nil)))))))
      (xpss_one
        (xps_ret (xpe_compG (tns := ["beat"]) (cns := ["self", "done", "missing"]) (ci := [0, 1, 3]) rfl (CompSc.of (by kernel_rfl)) (xpi_list (xqv 4 vl)) (fun _ => (xpg_name (i := 1) (show List.Nodup [(".0" : Str), ("beat" : Str), ("self" : Str), ("done" : Str), ("missing" : Str)] by decide +kernel) rfl ll (Or.inr (by kernel_rfl)))) (fun _ => (xpf_one (xpt_not (xpt_val (xqe_methD T.c_Layer.cl T.d_Layer_has_room G_Layer_has_room (hr.mono (by first | decide | omega)) (xqv 2 vc) (xpa_cons (xqv 3 vc) (xpa_cons (xqv 1 vl) (xpa_cons (xqv 4 vc) xpa_nil)))))))) (fun _ => (xqv 1 vl))))))))), ?_⟩
  rw [show start _ [V.ref p, V.ref d] = [some (.ref p), some (.ref d), none, none, none] from rfl]
  simp_arith [r_listRng, r_kget1, r_iEnumT, r_sorted, r_any, r_count, blkZ_K, r_iItemsT, r_setT, r_dispT1, r_dnewT, r_tupRng, r_room, r_grown]
  refine fget hob T.c_Layer.cl T.n_Layer_sorts rfl ?_
  refine ⟨sb, _, rfl, .inl (SqL.of hSo), by rw [List.length_map]; omega, by rw [List.length_map]; omega, fun acc hacc bk => ?_⟩
  rw [List.length_map, Int.toNat_natCast]
  refine cg_sameR (fun q => !decide (q ∈ dn)) (fun q => V.int q) (by rw [sizeLine_eq]; omega) hacc (fun i hi H2 Q' s2 h => ?_) (fun i hi H2 Q' s2 _ h => ?_) fun H2 s2 hm => ?_
  · simp_arith [r_listRng, r_kget1, r_iEnumT, r_sorted, r_any, r_count, blkZ_K, r_iItemsT, r_setT, r_dispT1, r_dnewT, r_tupRng]
    refine ⟨_, .inr (s2.seqT hD), rfl, flat_nl, ?_⟩
    rw [inV_nl]
    exact h H2 (Same.refl _)
  · simp_arith [r_listRng, r_kget1, r_iEnumT, r_sorted, r_any, r_count, blkZ_K, r_iItemsT, r_setT, r_dispT1, r_dnewT, r_tupRng]
    exact h H2 (Same.refl _)
  replace hm : H2 acc = some (.lst (nl (GD.missF ds.length dn))) := hm
  have hml := miss_len (n := ds.length) (dn := dn)
  have hmm : ∀ q ∈ GD.missF ds.length dn, q < ds.length := fun q hq => (GD.miss_iff.mp hq).1
  have hfull : GD.fullF (gapN ds) (soN ds) (uN us) ds.length dn = ((GD.missF ds.length dn).foldl (GD.grownF (gapN ds) (soN ds) (uN us) dn) [[]]).filter fun b => !GD.roomB (gapN ds) (soN ds) (uN us) dn b (GD.missF ds.length dn) := rfl
  rw [hfull] at q
  generalize GD.missF ds.length dn = ms at hm hml hmm q
  have hbs : ∀ i, i ≤ ms.length → ∀ b ∈ (ms.take i).foldl (GD.grownF (gapN ds) (soN ds) (uN us) dn) [[]], (∀ q ∈ b, q < ds.length) ∧ b.length ≤ i := fun i hi b hb => by
    have z := grown_b (us := us) (dn := dn) (ms.take i) [[]] 0 (fun q hq => hmm q (List.mem_of_mem_take hq)) (fun b hb => by rw [List.mem_singleton.mp hb]; exact ⟨fun q hq => (by cases hq), Nat.le_refl _⟩) b hb
    rw [List.length_take] at z
    exact ⟨z.1, by omega⟩
  have hbl : ∀ i, i ≤ ms.length → ((ms.take i).foldl (GD.grownF (gapN ds) (soN ds) (uN us) dn) [[]]).length ≤ 256 := fun i hi => by
    have z := GD.growns_len (G := gapN ds) (so := soN ds) (U := uN us) (dn := dn) (ms.take i) [[]]
    rw [List.length_take, List.length_singleton, Nat.mul_one] at z
    exact Nat.le_trans z (Nat.le_trans (Nat.pow_le_pow_right (by decide) (show min i ms.length ≤ 8 by omega)) (by decide))
  intro p2 hp2 p3 hp3
  have s3 := (Same.upd (o := .lst []) hp2).trans (Same.upd (o := .lst [V.ref p2]) hp3)
  refine ⟨⟨_, SqL.of (s3 _ _ hm)⟩, ?_⟩
  refine fw_list (xs := nl ms) (fun i σ H' => Same H H' ∧ H' acc = some (.lst (nl ms)) ∧ ∃ (o2 : Option V) (c : Addr), σ = [some (.ref p), some (.ref d), o2, some (.ref acc), some (.ref c)] ∧ LLN H' c ((ms.take i).foldl (GD.grownF (gapN ds) (soN ds) (uN us) dn) [[]])) ⟨s2.trans s3, s3 _ _ hm, _, p3, rfl, [p2], upd_same, .cons ?_ .nil⟩ (fun i σ H' _ h => SqL.of h.2.1) ?_ ?_
  · rw [upd_ne (ne_of_none upd_same hp3)]; exact upd_same
  · rintro i x σ H3 hx ⟨s4, hm3, o2, c, rfl, hl⟩
    unfold nl at hx
    rw [List.getElem?_map] at hx
    obtain ⟨pl, hpl, rfl⟩ := Option.map_eq_some_iff.mp hx
    obtain ⟨hi, ei⟩ := List.getElem?_eq_some_iff.mp hpl
    simp_arith [r_listRng, r_kget1, r_iEnumT, r_sorted, r_any, r_count, blkZ_K, r_iItemsT, r_setT, r_dispT1, r_dnewT, r_tupRng, r_grown]
    refine methOf (s4 _ _ hob) rfl ⟨ds, us, dn, _, pl, rfl, L.same s4, s4.seqT hD, hl, hmm pl (List.mem_of_getElem? hpl), fun b hb => ⟨(hbs i (by omega) b hb).1, by have := (hbs i (by omega) b hb).2; omega⟩, by have := hbl i (by omega); omega, fun c' H4 s5 hl4 => ⟨s4.trans s5, s5 _ _ hm3, _, c', rfl, ?_⟩⟩
    rw [List.take_succ_eq_append_getElem hi, ei, List.foldl_append]
    exact hl4
  · rintro σ H3 ⟨s4, hm3, o2, c, rfl, ps, hc, hps⟩
    rw [nl_len] at hps
    have hbs' := hbs ms.length (Nat.le_refl _)
    have hbl' := hbl ms.length (Nat.le_refl _)
    rw [List.take_length] at hps hbs' hbl'
    generalize ms.foldl (GD.grownF (gapN ds) (soN ds) (uN us) dn) [[]] = bts at hps hbs' hbl' q
    have lps := hps.length
    simp_arith [r_listRng, r_kget1, r_iEnumT, r_sorted, r_any, r_count, blkZ_K, r_iItemsT, r_setT, r_dispT1, r_dnewT, r_tupRng, r_room]
    refine ⟨⟨_, SqL.of hc⟩, fun acc2 hacc2 bk2 => ?_⟩
    refine cg_list (xs := ps.map V.ref) (fun i ys H' => Same H3 H' ∧ ∃ rs : List Addr, ys = rs.map V.ref ∧ H' acc2 = some (.lst ys) ∧ rs.length ≤ i ∧ Paired (fun r (b : List Nat) => H3 r = some (.lst (nl b))) rs ((bts.take i).filter fun b => !GD.roomB (gapN ds) (soN ds) (uN us) dn b ms)) ⟨Same.upd hacc2, [], rfl, upd_same, Nat.le_refl _, .nil⟩ (fun i ys H' _ h => SqL.of (h.1 _ _ hc)) ?_ ?_
    · rintro i x ys H' os hx ho ⟨sm, rs, rfl, e1, lrs, hrs⟩
      rw [List.getElem?_map] at hx
      obtain ⟨bp, hbp, rfl⟩ := Option.map_eq_some_iff.mp hx
      obtain ⟨bt, hbt, hpb⟩ := Paired.get hps hbp
      obtain ⟨hi, ei⟩ := List.getElem?_eq_some_iff.mp hbt
      obtain ⟨b1, b2⟩ := hbs' bt (List.mem_of_getElem? hbt)
      match os, ho with
      | [o], _ =>
        simp_arith [r_listRng, r_kget1, r_iEnumT, r_sorted, r_any, r_count, blkZ_K, r_iItemsT, r_setT, r_dispT1, r_dnewT, r_tupRng, r_room]
        have s5 := s4.trans sm
        refine ⟨⟨[some (.ref bp)], rfl, rfl⟩, methOf (s5 _ _ hob) rfl ⟨ds, us, dn, bt, ms, L.same s5, s5.seqT hD, SqL.of (sm _ _ hpb), SqL.of (sm _ _ hm3), b1, by omega, hmm, by omega, fun H5 s6 => ⟨_, rfl, ?_⟩⟩⟩
        have s7 := sm.trans s6
        rw [List.take_succ_eq_append_getElem hi, ei, List.filter_append]
        cases hroom : GD.roomB (gapN ds) (soN ds) (uN us) dn bt ms with
        | false =>
          simp only [Bool.not_false, if_true]
          refine ⟨s6 _ _ e1, by rw [List.length_map, sizeLine_eq]; omega, s7.updM hacc2, rs ++ [bp], by rw [List.map_append]; rfl, upd_same, by rw [List.length_append, List.length_singleton]; omega, ?_⟩
          rw [List.filter_cons_of_pos (by rw [hroom]; rfl), List.filter_nil]
          exact Paired.snoc hrs hpb
        | true =>
          simp only [Bool.not_true, Bool.false_eq_true, if_false]
          refine ⟨s7, rs, rfl, s6 _ _ e1, by omega, ?_⟩
          rw [List.filter_cons_of_neg (by rw [hroom]; simp), List.filter_nil, List.append_nil]
          exact hrs
    · rintro ys H' ⟨sm, rs, rfl, e1, lrs, hrs⟩
      rw [List.length_map, lps, List.take_length] at hrs
      exact q acc2 H' (s4.trans sm) ⟨rs, e1, Paired.mapP hrs fun _ _ z => sm _ _ z⟩
theorem ok_linit (T : Txt K mg t) (hw : t.pr = w.params) : FnOk P w K mg base CX0 11 t.f_Layer___init__ t.e_Layer___init__ ["self", "deeds", "units"] (sp_linit K t.C_Layer) := by
  have G_sort_of := ok_sortof (P := P) (base := base) T hw
  have G_gap := ok_gap (P := P) (w := w) (base := base) T
  refine T.d_Layer___init__.F.ok sc_Layer___init__ (fun vs H Q E h => by obtain ⟨_, _, _, rfl, _⟩ := h; rfl) (fun cdv A outer s H vs Q E hr h => ?_)
  obtain ⟨p, a, b, rfl, H0, dx, ds, us, s0, hp0, hp, hI, q⟩ := h
  obtain ⟨xs, hS, hds, h8, hU, h3, hpos⟩ := hI
  have lx := hds.length
  refine ⟨_,
      (XSs.h
      (xpss_cons
        (xps_fld (xqv 0 vl) (xqv 2 vl) rfl)
      (xpss_cons
        (xps_fld (xqv 0 vl) (xpe_compG (tns := ["deed"]) (cns := []) (ci := []) rfl (CompSc.of (by kernel_rfl)) (xpi_list (xqv 1 vc)) (fun _ => (xpg_name (i := 1) (show List.Nodup [(".0" : Str), ("deed" : Str)] by decide +kernel) rfl ll (Or.inr (by kernel_rfl)))) (fun _ => xpf_nil) (fun _ => (xqe_callD T.d_sort_of G_sort_of (hr.mono (by first | decide | omega)) (xpa_cons (xqv 1 vl) xpa_nil) gl))) rfl)
      (xpss_one
        (xps_fld (xqv 0 vl) (xpe_compZ (z0 := "k") (tns := ["k"]) (cns := ["deeds"]) (ci := [1]) rfl (CompScZ.of (by kernel_rfl) (fun _ _ => rfl) (fun _ => rfl)) (xpi_range1 gl T.z_range (xpa_cons (xqe_callB call_len_seq gl T.z_len PySem.boot_len (xpa_cons (xqv 1 vc) xpa_nil)) xpa_nil)) (fun _ => (xpg_name (i := 1) (show List.Nodup [(".0" : Str), ("k" : Str), ("deeds" : Str)] by decide +kernel) rfl lc (Or.inl rfl))) (fun _ => xpf_nil) (fun _ => (xpe_compG (tns := ["j"]) (cns := ["k", "deeds"]) (ci := [1, 2]) rfl (CompSc.of (by kernel_rfl)) (xpi_range1 gl T.z_range (xpa_cons (xqv 1 vc) xpa_nil)) (fun _ => (xpg_name (i := 1) (show List.Nodup [(".0" : Str), ("j" : Str), ("k" : Str), ("deeds" : Str)] by decide +kernel) rfl ll (Or.inr (by kernel_rfl)))) (fun _ => xpf_nil) (fun _ => (xqe_callD T.d_gap G_gap (hr.mono (by first | decide | omega)) (xpa_cons (xqv 3 vc) (xpa_cons (xqv 1 vl) (xpa_cons (xqv 2 vc) xpa_nil))) gl))))) rfl))))), ?_⟩
  rw [show start _ [V.ref p, V.ref a, V.ref b] = [some (.ref p), some (.ref a), some (.ref b)] from rfl]
  simp only [r_v0, r_g0, r_v1, r_g1, r_v2, r_g2, r_v3, r_g3, r_v4, r_g4, r_v5, r_g5, r_v6, r_g6, r_v7, r_g7, r_v8, r_g8, r_v9, r_g9, r_v10, r_g10, r_v11, r_g11, r_v12, r_g12, r_g13, r_g14, r_g15, r_c, r_op, r_un, r_I0, r_I, r_U, r_eqI, r_eqS, r_neI, r_exbl, r_exint, r_test, r_B, r_and, r_or, r_not, r_andV, r_orV, r_notV, r_if, r_next, r_seqL, r_brk, r_cont, r_drop, r_ret, r_retN, r_ifS, r_asg, r_CB, r_nil, r_cons, r_call, r_tup, r_lst, r_p0, r_pS, r_disp, r_dget, r_sl, r_noPart, r_part, r_gNil, r_gCons, r_itF, r_nT, r_nF, r_len0, r_len1, r_len2, r_len3, r_len4, r_len6, r_len7, r_for, r_iEnum, r_iList, r_iTup, r_iRng1, r_iRng2, r_exI1, r_exR1, r_exR, r_bm, r_bm0, r_ixL, r_ixT, r_cat, r_slL, r_append, r_exRl, r_gTup, true_and, and_true, forall_const, Int.reduceLT, r_compG, r_setComp, r_yes, r_isi_int_str, r_isi_str_str, r_slT, r_inR, r_notInR, cxOf_K, wish_K, blk_K, r_blk1, r_blk2, List.map_cons, List.map_nil, List.getElem?_cons_zero, List.getElem?_cons_succ, Option.join_some, r_Vs, r_dnewK, r_dput, r_exRp, r_gSub, List.set_cons_zero, List.set_cons_succ, r_midL, r_sfld, r_gfld, r_meth, r_make, r_listRng, r_kget1, r_iEnumT, r_sorted, r_any, r_count, blkZ_K, r_iItemsT, r_setT, r_dispT1, r_dnewT, r_tupRng, r_sortof, r_gapP]
  refine fput hp T.c_Layer.cl T.n_Layer_units (by simp) ?_
  rw [putF_newL (by rfl), List.nil_append]
  have s1 := s0.updM (o := .ins t.C_Layer dx [("units", V.ref b)]) hp0
  have e1 : upd H p (.ins t.C_Layer dx [("units", V.ref b)]) p = some (.ins t.C_Layer dx [("units", V.ref b)]) := upd_same
  generalize upd H p (.ins t.C_Layer dx [("units", V.ref b)]) = H1 at s1 e1 ⊢
  refine later ?_
  simp only [r_v0, r_g0, r_v1, r_g1, r_v2, r_g2, r_v3, r_g3, r_v4, r_g4, r_v5, r_g5, r_v6, r_g6, r_v7, r_g7, r_v8, r_g8, r_v9, r_g9, r_v10, r_g10, r_v11, r_g11, r_v12, r_g12, r_g13, r_g14, r_g15, r_c, r_op, r_un, r_I0, r_I, r_U, r_eqI, r_eqS, r_neI, r_exbl, r_exint, r_test, r_B, r_and, r_or, r_not, r_andV, r_orV, r_notV, r_if, r_next, r_seqL, r_brk, r_cont, r_drop, r_ret, r_retN, r_ifS, r_asg, r_CB, r_nil, r_cons, r_call, r_tup, r_lst, r_p0, r_pS, r_disp, r_dget, r_sl, r_noPart, r_part, r_gNil, r_gCons, r_itF, r_nT, r_nF, r_len0, r_len1, r_len2, r_len3, r_len4, r_len6, r_len7, r_for, r_iEnum, r_iList, r_iTup, r_iRng1, r_iRng2, r_exI1, r_exR1, r_exR, r_bm, r_bm0, r_ixL, r_ixT, r_cat, r_slL, r_append, r_exRl, r_gTup, true_and, and_true, forall_const, Int.reduceLT, r_compG, r_setComp, r_yes, r_isi_int_str, r_isi_str_str, r_slT, r_inR, r_notInR, cxOf_K, wish_K, blk_K, r_blk1, r_blk2, List.map_cons, List.map_nil, List.getElem?_cons_zero, List.getElem?_cons_succ, Option.join_some, r_Vs, r_dnewK, r_dput, r_exRp, r_gSub, List.set_cons_zero, List.set_cons_succ, r_midL, r_sfld, r_gfld, r_meth, r_make, r_listRng, r_kget1, r_iEnumT, r_sorted, r_any, r_count, blkZ_K, r_iItemsT, r_setT, r_dispT1, r_dnewT, r_tupRng, r_sortof, r_gapP]
  refine ⟨⟨_, s1.seq hS⟩, fun acc hacc bk => ?_⟩
  refine cg_list (xs := xs) (fun i ys H' => Same H1 H' ∧ H' acc = some (.lst ys) ∧ ys = (ds.take i).map sV) ⟨Same.upd hacc, upd_same, by simp⟩ (fun i ys H' _ h => (s1.trans h.1).seq hS) ?_ ?_
  · rintro i x ys H' os hx ho ⟨sm, e2, rfl⟩
    obtain ⟨d, hd, fd, qx, rfl, hqx⟩ := Paired.get (hds.ts (s1.trans sm).ts) hx
    obtain ⟨hi, ei⟩ := List.getElem?_eq_some_iff.mp hd
    match os, ho with
    | [o], _ =>
      simp_arith [r_listRng, r_kget1, r_iEnumT, r_sorted, r_any, r_count, blkZ_K, r_iItemsT, r_setT, r_dispT1, r_dnewT, r_tupRng, r_sortof]
      refine ⟨⟨[some (.ref qx)], rfl, rfl⟩, d, hqx, fd, e2, by rw [List.length_map, List.length_take, sizeLine_eq]; omega, sm.updM hacc, upd_same, ?_⟩
      rw [List.take_succ_eq_append_getElem hi, ei, List.map_append]
      rfl
  · rintro ys H2 ⟨s2, e2, rfl⟩
    rw [lx, List.take_length] at e2
    have fa := s1.free hacc
    refine fput (s2 _ _ e1) T.c_Layer.cl T.n_Layer_sorts (by simp) ?_
    rw [putF_newL (by kernel_rfl)]
    have npa : acc ≠ p := (ne_of_none e1 hacc).symm
    have s3 := (s1.trans s2).updM (o := .ins t.C_Layer dx ([(("units" : Str), V.ref b)] ++ [(("sorts" : Str), V.ref acc)])) hp0
    have e3 : upd H2 p (.ins t.C_Layer dx ([(("units" : Str), V.ref b)] ++ [(("sorts" : Str), V.ref acc)])) p = some (.ins t.C_Layer dx ([(("units" : Str), V.ref b)] ++ [(("sorts" : Str), V.ref acc)])) := upd_same
    have g3 : upd H2 p (.ins t.C_Layer dx ([(("units" : Str), V.ref b)] ++ [(("sorts" : Str), V.ref acc)])) acc = some (.lst (ds.map sV)) := by rw [upd_ne npa]; exact e2
    generalize upd H2 p (.ins t.C_Layer dx ([(("units" : Str), V.ref b)] ++ [(("sorts" : Str), V.ref acc)])) = H3 at s3 e3 g3 ⊢
    refine later ?_
    simp only [r_v0, r_g0, r_v1, r_g1, r_v2, r_g2, r_v3, r_g3, r_v4, r_g4, r_v5, r_g5, r_v6, r_g6, r_v7, r_g7, r_v8, r_g8, r_v9, r_g9, r_v10, r_g10, r_v11, r_g11, r_v12, r_g12, r_g13, r_g14, r_g15, r_c, r_op, r_un, r_I0, r_I, r_U, r_eqI, r_eqS, r_neI, r_exbl, r_exint, r_test, r_B, r_and, r_or, r_not, r_andV, r_orV, r_notV, r_if, r_next, r_seqL, r_brk, r_cont, r_drop, r_ret, r_retN, r_ifS, r_asg, r_CB, r_nil, r_cons, r_call, r_tup, r_lst, r_p0, r_pS, r_disp, r_dget, r_sl, r_noPart, r_part, r_gNil, r_gCons, r_itF, r_nT, r_nF, r_len0, r_len1, r_len2, r_len3, r_len4, r_len6, r_len7, r_for, r_iEnum, r_iList, r_iTup, r_iRng1, r_iRng2, r_exI1, r_exR1, r_exR, r_bm, r_bm0, r_ixL, r_ixT, r_cat, r_slL, r_append, r_exRl, r_gTup, true_and, and_true, forall_const, Int.reduceLT, r_compG, r_setComp, r_yes, r_isi_int_str, r_isi_str_str, r_slT, r_inR, r_notInR, cxOf_K, wish_K, blk_K, r_blk1, r_blk2, List.map_cons, List.map_nil, List.getElem?_cons_zero, List.getElem?_cons_succ, Option.join_some, r_Vs, r_dnewK, r_dput, r_exRp, r_gSub, List.set_cons_zero, List.set_cons_succ, r_midL, r_sfld, r_gfld, r_meth, r_make, r_listRng, r_kget1, r_iEnumT, r_sorted, r_any, r_count, blkZ_K, r_iItemsT, r_setT, r_dispT1, r_dnewT, r_tupRng, r_gapP]
    refine ⟨xs, .inl (s3.seq hS), by omega, by omega, fun ac2 hac2 bk2 => ?_⟩
    rw [Int.toNat_natCast, lx]
    refine cg_range (fun k ys H' => Same H3 H' ∧ ∃ qs : List Addr, ys = qs.map V.ref ∧ H' ac2 = some (.lst ys) ∧ qs.length = k ∧ ∀ (j : Nat) q, qs[j]? = some q → q ≠ ac2 ∧ H' q = some (.lst ((List.range j).map fun i => FB.optV (gapN ds i j)))) ⟨Same.upd hac2, [], rfl, upd_same, rfl, fun j q h => by simp at h⟩ ?_ ?_
    · rintro k ys H' os hk ho ⟨sm, qs, rfl, e4, lq, hqs⟩
      rw [show (0 : Int) + (k : Int) = (k : Int) by omega]
      match os, ho with
      | [o], _ =>
        simp_arith [r_listRng, r_kget1, r_iEnumT, r_sorted, r_any, r_count, blkZ_K, r_iItemsT, r_setT, r_dispT1, r_dnewT, r_tupRng, r_gapP]
        refine ⟨⟨[some (.int k)], rfl, rfl⟩, by omega, by omega, fun ac3 hac3 bk3 => ?_⟩
        rw [Int.toNat_natCast]
        refine cg_sameR (fun _ => true) (fun j => FB.optV (gapN ds j k)) (by rw [sizeLine_eq]; omega) hac3 (fun j hj H4 Q' s4 h => h H4 (Same.refl _)) (fun j hj H4 Q' s4 _ h => ?_) fun H4 s4 e5 => ?_
        · simp_arith [r_listRng, r_kget1, r_iEnumT, r_sorted, r_any, r_count, blkZ_K, r_iItemsT, r_setT, r_dispT1, r_dnewT, r_tupRng, r_gapP]
          have s5 := (s3.trans sm).trans s4
          exact ⟨xs, ds, j, k, rfl, rfl, s5.seq hS, hds.ts s5.ts, hj, by omega, h⟩
        · rw [List.filter_eq_self.mpr (fun _ _ => rfl)] at e5
          refine ⟨s4 _ _ e4, by rw [List.length_map, sizeLine_eq]; omega, (sm.trans s4).updM hac2, qs ++ [ac3], by rw [List.map_append]; rfl, upd_same, by rw [List.length_append, List.length_singleton]; omega, fun j q hj => ?_⟩
          have n3 : ac3 ≠ ac2 := (ne_of_none e4 hac3).symm
          by_cases hlt : j < qs.length
          · rw [List.getElem?_append_left hlt] at hj
            obtain ⟨z1, z2⟩ := hqs j q hj
            exact ⟨z1, by rw [upd_ne z1]; exact s4 _ _ z2⟩
          · have hjl := (List.getElem?_eq_some_iff.mp hj).1
            rw [List.length_append, List.length_singleton] at hjl
            obtain rfl : j = qs.length := by omega
            rw [List.getElem?_append_right (Nat.le_refl _), Nat.sub_self] at hj
            cases hj
            refine ⟨n3, ?_⟩
            rw [upd_ne n3, lq]
            exact e5
    · rintro ys H4 ⟨s4, qs, rfl, e4, lq, hqs⟩
      refine fput (s4 _ _ e3) T.c_Layer.cl T.n_Layer_gaps (by simp) ?_
      rw [putF_newL (by kernel_rfl)]
      have nac : ac2 ≠ p := (ne_of_none e3 hac2).symm
      have s5 := (s3.trans s4).updM (o := .ins t.C_Layer dx ([(("units" : Str), V.ref b)] ++ [(("sorts" : Str), V.ref acc)] ++ [(("gaps" : Str), V.ref ac2)])) hp0
      refine q _ s5 ⟨⟨dx, b, acc, ac2, qs, upd_same, s5.seqT hU, ?_, ?_, lq, fun k qq hk => ?_⟩, h8, h3, hpos⟩
      · rw [upd_ne npa]; exact s4 _ _ g3
      · rw [upd_ne nac]; exact e4
      · obtain ⟨z1, z2⟩ := hqs k qq hk
        rw [upd_ne (ne_of z2 (s4 _ _ e3) (by intro z; cases z))]
        exact z2
end
end K32
set_option maxHeartbeats 4000000
namespace K32
open PySem L2 PyProof.Rows FA
noncomputable def LSt (H H' : Hp) : Prop := ∀ b xs, H b = some (.lst xs) → H' b = some (.lst xs)
theorem LSt.of {H H' : Hp} (s : Same H H') : LSt H H' := fun b xs e => s _ _ e
theorem LSt.trans {H H1 H2 : Hp} (a : LSt H H1) (b : LSt H1 H2) : LSt H H2 := fun c xs e => b _ _ (a _ _ e)
theorem LSt.upd {H : Hp} {l : Addr} {o u : HO} (e : H l = some u) (hn : ∀ xs, u ≠ .lst xs) : LSt H (upd H l o) := fun b xs eb => by rw [upd_ne (ne_of eb e (fun z => hn xs z.symm))]; exact eb
theorem LLN.lst {H H' : Hp} {c : Addr} {bts : List (List Nat)} (s : LSt H H') (h : LLN H c bts) : LLN H' c bts :=
  let ⟨ps, e, r⟩ := h; ⟨ps, s _ _ e, Paired.mapP r fun _ _ z => s _ _ z⟩
noncomputable def km (ps : List Nat) : List Key := ps.map fun p : Nat => (Sum.inl (p : Int) : Key)
theorem km_kV {ps : List Nat} : (km ps).map kV = nl ps := by unfold km nl; rw [List.map_map]; rfl
theorem km_inj : ∀ {a b : List Nat}, km a = km b → a = b
  | [], [], _ => rfl
  | [], _ :: _, h => by cases h
  | _ :: _, [], h => by cases h
  | x :: a, y :: b, h => by
    unfold km at h
    rw [List.map_cons, List.map_cons, List.cons.injEq] at h
    have e : (x : Int) = (y : Int) := Sum.inl.inj h.1
    rw [km_inj (a := a) (b := b) h.2, show x = y by omega]
noncomputable def WsV (H : Hp) (kvs : List (List Key × V)) (ws : List (List Nat × List (List Nat))) : Prop := Paired (fun (kv : List Key × V) (w : List Nat × List (List Nat)) => kv.1 = km w.1 ∧ ∃ c, kv.2 = .ref c ∧ LLN H c w.2) kvs ws
theorem WsV.lst {H H' : Hp} {kvs : List (List Key × V)} {ws : List (List Nat × List (List Nat))} (s : LSt H H') (h : WsV H kvs ws) : WsV H' kvs ws := Paired.mapP h fun _ _ ⟨z1, c, z2, z3⟩ => ⟨z1, c, z2, z3.lst s⟩
theorem WsV.val {H : Hp} {kvs : List (List Key × V)} {ws : List (List Nat × List (List Nat))} (h : WsV H kvs ws) (k : List Nat) : (k ∉ ws.map (·.1) ∧ valV kvs (km k) = none) ∨ ∃ w ∈ ws, w.1 = k ∧ ∃ c, valV kvs (km k) = some (.ref c) ∧ LLN H c w.2 := by
  unfold WsV at h
  induction h with
  | nil => exact .inl ⟨by simp, rfl⟩
  | @cons kv w kvs ws hd tl ih =>
    obtain ⟨e1, c, e2, hl⟩ := hd
    by_cases e : w.1 = k
    · refine .inr ⟨w, by simp, e, c, ?_, hl⟩
      rw [valV_pos (by rw [e1, e]), e2]
    · have ne : ¬ kv.1 = km k := fun z => e (km_inj (e1.symm.trans z))
      rcases ih with ⟨h1, h2⟩ | ⟨w', hw', h1, c', h2, h3⟩
      · refine .inl ⟨?_, by rw [valV_neg ne]; exact h2⟩
        rw [List.map_cons, List.mem_cons]
        exact fun z => z.elim (fun z => e z.symm) h1
      · exact .inr ⟨w', List.mem_cons_of_mem _ hw', h1, c', by rw [valV_neg ne]; exact h2, h3⟩
theorem WsV.put {H : Hp} {kvs : List (List Key × V)} {ws : List (List Nat × List (List Nat))} (h : WsV H kvs ws) {k : List Nat} {c : Addr} {bss : List (List Nat)} (hc : LLN H c bss) : WsV H (kvs ++ [(km k, .ref c)]) (ws ++ [(k, bss)]) := Paired.snoc h ⟨rfl, c, rfl, hc⟩
section
variable {P : Program} {w : World} {K : PySem.W.Frag} {mg : Str → Option Value} {base : Heap} {t : Ad}
structure RoundH (H1 H : Hp) (wa lo : Addr) (o : Obj) (kvs : List (List Key × V)) (ws acc : List (List Nat × List (List Nat))) : Prop where
  same : Same H1 H
  fr : H1 lo = none
  old : H wa = some (.frz o (.dT kvs))
  wsv : WsV H kvs ws
  now : ∃ kv2, H lo = some (.dT kv2) ∧ WsV H kv2 acc
theorem RoundH.mv {H1 H H' : Hp} {wa lo : Addr} {o : Obj} {kvs : List (List Key × V)} {ws acc : List (List Nat × List (List Nat))} (h : RoundH H1 H wa lo o kvs ws acc) (s : Same H H') : RoundH H1 H' wa lo o kvs ws acc :=
  ⟨h.same.trans s, h.fr, s _ _ h.old, h.wsv.lst (LSt.of s), let ⟨kv2, e, r⟩ := h.now; ⟨kv2, s _ _ e, r.lst (LSt.of s)⟩⟩
theorem RoundH.put {H1 H : Hp} {wa lo : Addr} {o : Obj} {kvs kv2 : List (List Key × V)} {ws acc : List (List Nat × List (List Nat))} {k : List Nat} {c : Addr} {bss : List (List Nat)} (h : RoundH H1 H wa lo o kvs ws acc) (e : H lo = some (.dT kv2)) (r : WsV H kv2 acc) (hk : k ∉ acc.map (·.1)) (hc : LLN H c bss) :
    RoundH H1 (upd H lo (.dT (kv2 ++ [(km k, .ref c)]))) wa lo o kvs ws (GD.setD acc k bss) := by
  have ls : LSt H (upd H lo (.dT (kv2 ++ [(km k, .ref c)]))) := LSt.upd e (by intro xs z; cases z)
  refine ⟨h.same.updM h.fr, h.fr, ?_, h.wsv.lst ls, kv2 ++ [(km k, .ref c)], upd_same, ?_⟩
  · rw [upd_ne (ne_of h.old e (by intro z; cases z))]; exact h.old
  · unfold GD.setD
    rw [if_neg hk]
    exact (r.put hc).lst ls
end
end K32
set_option maxHeartbeats 4000000
namespace K32
open PySem L2 PyProof.Rows FA
noncomputable def sp_laidB (K : PySem.W.Frag) : Sp := fun vs H Q _ => ∃ (a b : Addr) (ds : List FB.Deed) (us : List Int), vs = [.ref a, .ref b] ∧ DeedsIn K H a b ds us ∧ ∀ c r bss H', Same H H' → LLN H' c bss → (List.range ds.length, bss) ∈ GD.waysF (gapN ds) (soN ds) (uN us) ds.length r → (∀ k, k < r → List.range ds.length ∉ (GD.waysF (gapN ds) (soN ds) (uN us) ds.length k).map (·.1)) → Q (.ref c) H'
section
variable {P : Program} {w : World} {K : PySem.W.Frag} {mg : Str → Option Value} {base : Heap} {t : Ad}
theorem r_dNotIn {ty td : TE} {σ : L2.St} {H : Hp} {Q : VK} : tDNotIn ty td σ H Q = ty σ H fun y H1 => td σ H1 fun x H2 => ∃ a o, x = .ref a ∧ DGet H2 a y o ∧ Q (.bl (!o.isSome)) H2 := rfl
theorem ok_laidB (T : Txt K mg t) (hw : t.pr = w.params) : FnOk P w K mg base CX0 14 t.f_laid t.e_laid ["deeds", "units"] (sp_laidB K) := by
  have G_Layer___init__ := ok_linit (P := P) (base := base) T hw
  have G_Layer_full_beats := ok_full (P := P) (w := w) (base := base) T
  refine T.d_laid.F.ok sc_laid (fun vs H Q E h => by obtain ⟨_, _, _, _, rfl, _⟩ := h; rfl) (fun cdv A outer s H vs Q E hr h => ?_)
  obtain ⟨a, b, ds, us, rfl, hI, q⟩ := h
  have hu := hu_of hr
  refine ⟨_,
      (XSs.h
      (xpss_cons
        (xps_set (i := 2) sc_laid.nd rfl ll (xqe_makeD T.c_Layer T.d_Layer___init__ G_Layer___init__ (hr.mono (by first | decide | omega)) (xpa_cons (xqv 0 vl) (xpa_cons (xqv 1 vl) xpa_nil)) gl))
      (xpss_cons
        (xps_set (i := 3) sc_laid.nd rfl ll (xpe_tupRng rfl T.z_tuple T.z_range (xpa_cons (xqe_callB call_len_seq gl T.z_len PySem.boot_len (xpa_cons (xqv 0 vl) xpa_nil)) xpa_nil) gl gl))
      (xpss_cons
        (xps_set (i := 4) sc_laid.nd rfl ll (xpe_dispT1 hu (xpe_tup xpa_nil) (xpe_lst xpa_nil)))
      (xpss_cons
        (xps_while PassesOwn.never (xpt_cmp (xpc_dnotin hu (xqv 3 vl) (xqv 4 vl)))
          (xpss_cons
            (xps_set (i := 5) sc_laid.nd rfl ll xpe_dnewT)
          (xpss_cons
            (xps_for PassesOwn.never rfl (xpi_itemsT (xqv 4 vl)) (xpg_tup rfl (xpgs_cons (xpg_name (i := 6) sc_laid.nd rfl ll) (xpgs_cons (xpg_name (i := 7) sc_laid.nd rfl ll) xpgs_nil)))
              (xpss_one
                (xps_for PassesOwn.never rfl (xpi_list (xqe_methD T.c_Layer.cl T.d_Layer_full_beats G_Layer_full_beats (hr.mono (by first | decide | omega)) (xqv 2 vl) (xpa_cons (xqv 6 vl) xpa_nil))) (xpg_name (i := 8) sc_laid.nd rfl ll)
                  (xpss_one
                    (xps_expr (xpe_bm PySem.F.plainAttrs_dict PySem.F.slot_dict_setdefault PySem.F.type_dict_setdefault (mt_setdefault hu) (xqv 5 vl) (xpa_cons (xqe_callTy call_tuple_of gl T.z_tuple boot_tuple (xpa_cons (xqe_callB call_sorted gl T.z_sorted boot_sorted (xpa_cons (xpe_op op_cat (xqe_callTy call_list_of gl T.z_list boot_list (xpa_cons (xqv 6 vl) xpa_nil)) (xqv 8 vl)) xpa_nil)) xpa_nil)) (xpa_cons (xpe_op op_cat (xqv 7 vl) (xpe_lst (xpa_cons (xqv 8 vl) xpa_nil))) xpa_nil))))))))
          (xpss_one
            (xps_set (i := 4) sc_laid.nd rfl ll (xqv 5 vl))))))
      (xpss_one
        (xps_ret (xpe_dget hu (xqv 4 vl) (xqv 3 vl) (fun _ _ => rfl))))))))), ?_⟩
  rw [show start _ [V.ref a, V.ref b] = [some (.ref a), some (.ref b), none, none, none, none, none, none, none] from rfl]
  simp only [r_v0, r_g0, r_v1, r_g1, r_v2, r_g2, r_v3, r_g3, r_v4, r_g4, r_v5, r_g5, r_v6, r_g6, r_v7, r_g7, r_v8, r_g8, r_v9, r_g9, r_v10, r_g10, r_v11, r_g11, r_v12, r_g12, r_g13, r_g14, r_g15, r_c, r_op, r_un, r_I0, r_I, r_U, r_eqI, r_eqS, r_neI, r_exbl, r_exint, r_test, r_B, r_and, r_or, r_not, r_andV, r_orV, r_notV, r_if, r_next, r_seqL, r_brk, r_cont, r_drop, r_ret, r_retN, r_ifS, r_asg, r_CB, r_nil, r_cons, r_call, r_tup, r_lst, r_p0, r_pS, r_disp, r_dget, r_sl, r_noPart, r_part, r_gNil, r_gCons, r_itF, r_nT, r_nF, r_len0, r_len1, r_len2, r_len3, r_len4, r_len6, r_len7, r_for, r_iEnum, r_iList, r_iTup, r_iRng1, r_iRng2, r_exI1, r_exR1, r_exR, r_bm, r_bm0, r_ixL, r_ixT, r_cat, r_slL, r_append, r_exRl, r_gTup, true_and, and_true, forall_const, Int.reduceLT, r_compG, r_setComp, r_yes, r_isi_int_str, r_isi_str_str, r_slT, r_inR, r_notInR, cxOf_K, wish_K, blk_K, r_blk1, r_blk2, List.map_cons, List.map_nil, List.getElem?_cons_zero, List.getElem?_cons_succ, Option.join_some, r_Vs, r_dnewK, r_dput, r_exRp, r_gSub, List.set_cons_zero, List.set_cons_succ, r_midL, r_sfld, r_gfld, r_meth, r_make, r_listRng, r_kget1, r_iEnumT, r_sorted, r_any, r_count, blkZ_K, r_iItemsT, r_setT, r_dispT1, r_dnewT, r_tupRng, r_linit, r_full]
  intro ly dx hly hdx hne
  refine ⟨ly, a, b, rfl, H, dx, ds, us, (Same.upd hdx).trans (Same.upd (by rw [upd_ne hne.symm]; exact hly)), hly, upd_same, hI, fun H1 s1 L1 => ⟨rfl, ?_⟩⟩
  obtain ⟨xs, hS, hds, h8, hU, h3, hpos⟩ := hI
  have lx := hds.length
  refine later ?_
  simp only [r_v0, r_g0, r_v1, r_g1, r_v2, r_g2, r_v3, r_g3, r_v4, r_g4, r_v5, r_g5, r_v6, r_g6, r_v7, r_g7, r_v8, r_g8, r_v9, r_g9, r_v10, r_g10, r_v11, r_g11, r_v12, r_g12, r_g13, r_g14, r_g15, r_c, r_op, r_un, r_I0, r_I, r_U, r_eqI, r_eqS, r_neI, r_exbl, r_exint, r_test, r_B, r_and, r_or, r_not, r_andV, r_orV, r_notV, r_if, r_next, r_seqL, r_brk, r_cont, r_drop, r_ret, r_retN, r_ifS, r_asg, r_CB, r_nil, r_cons, r_call, r_tup, r_lst, r_p0, r_pS, r_disp, r_dget, r_sl, r_noPart, r_part, r_gNil, r_gCons, r_itF, r_nT, r_nF, r_len0, r_len1, r_len2, r_len3, r_len4, r_len6, r_len7, r_for, r_iEnum, r_iList, r_iTup, r_iRng1, r_iRng2, r_exI1, r_exR1, r_exR, r_bm, r_bm0, r_ixL, r_ixT, r_cat, r_slL, r_append, r_exRl, r_gTup, true_and, and_true, forall_const, Int.reduceLT, r_compG, r_setComp, r_yes, r_isi_int_str, r_isi_str_str, r_slT, r_inR, r_notInR, cxOf_K, wish_K, blk_K, r_blk1, r_blk2, List.map_cons, List.map_nil, List.getElem?_cons_zero, List.getElem?_cons_succ, Option.join_some, r_Vs, r_dnewK, r_dput, r_exRp, r_gSub, List.set_cons_zero, List.set_cons_succ, r_midL, r_sfld, r_gfld, r_meth, r_make, r_listRng, r_kget1, r_iEnumT, r_sorted, r_any, r_count, blkZ_K, r_iItemsT, r_setT, r_dispT1, r_dnewT, r_tupRng]
  refine ⟨xs, .inl (s1.seq hS), ds.length, by rw [lx], by omega, fun ev hev => ?_⟩
  have s2 := s1.updN (o := .tup ((List.range ds.length).map fun i : Nat => V.int i)) hev
  have L2 := L1.same (Same.upd (o := .tup ((List.range ds.length).map fun i : Nat => V.int i)) hev)
  have e2 : upd H1 ev (.tup ((List.range ds.length).map fun i : Nat => V.int i)) ev = some (.tup (nl (List.range ds.length))) := upd_same
  generalize upd H1 ev (.tup ((List.range ds.length).map fun i : Nat => V.int i)) = H2 at s2 L2 e2 ⊢
  refine later ?_
  simp only [r_v0, r_g0, r_v1, r_g1, r_v2, r_g2, r_v3, r_g3, r_v4, r_g4, r_v5, r_g5, r_v6, r_g6, r_v7, r_g7, r_v8, r_g8, r_v9, r_g9, r_v10, r_g10, r_v11, r_g11, r_v12, r_g12, r_g13, r_g14, r_g15, r_c, r_op, r_un, r_I0, r_I, r_U, r_eqI, r_eqS, r_neI, r_exbl, r_exint, r_test, r_B, r_and, r_or, r_not, r_andV, r_orV, r_notV, r_if, r_next, r_seqL, r_brk, r_cont, r_drop, r_ret, r_retN, r_ifS, r_asg, r_CB, r_nil, r_cons, r_call, r_tup, r_lst, r_p0, r_pS, r_disp, r_dget, r_sl, r_noPart, r_part, r_gNil, r_gCons, r_itF, r_nT, r_nF, r_len0, r_len1, r_len2, r_len3, r_len4, r_len6, r_len7, r_for, r_iEnum, r_iList, r_iTup, r_iRng1, r_iRng2, r_exI1, r_exR1, r_exR, r_bm, r_bm0, r_ixL, r_ixT, r_cat, r_slL, r_append, r_exRl, r_gTup, true_and, and_true, forall_const, Int.reduceLT, r_compG, r_setComp, r_yes, r_isi_int_str, r_isi_str_str, r_slT, r_inR, r_notInR, cxOf_K, wish_K, blk_K, r_blk1, r_blk2, List.map_cons, List.map_nil, List.getElem?_cons_zero, List.getElem?_cons_succ, Option.join_some, r_Vs, r_dnewK, r_dput, r_exRp, r_gSub, List.set_cons_zero, List.set_cons_succ, r_midL, r_sfld, r_gfld, r_meth, r_make, r_listRng, r_kget1, r_iEnumT, r_sorted, r_any, r_count, blkZ_K, r_iItemsT, r_setT, r_dispT1, r_dnewT, r_tupRng]
  intro wa hwa tp htp li hli
  have eW := ((Same.upd (o := .tup []) htp).trans (Same.upd (o := .lst []) hli)) wa _ upd_same
  refine ⟨eW, tp, [], rfl, Same.upd hli _ _ upd_same, ?_⟩
  have s3 : Same H2 (upd (upd (upd (upd H2 wa (.dT [])) tp (.tup [])) li (.lst [])) wa (.dT [([], .ref li)])) := ((Same.upd hwa).trans ((Same.upd htp).trans (Same.upd hli))).updM hwa
  have e3 : upd (upd (upd (upd H2 wa (.dT [])) tp (.tup [])) li (.lst [])) wa (.dT [([], .ref li)]) wa = some (.dT [([], .ref li)]) := upd_same
  have w3 : WsV (upd (upd (upd (upd H2 wa (.dT [])) tp (.tup [])) li (.lst [])) wa (.dT [([], .ref li)])) [([], .ref li)] (GD.waysF (gapN ds) (soN ds) (uN us) ds.length 0) :=
    .cons ⟨rfl, li, rfl, [], by rw [upd_ne (ne_of_none (Same.upd htp _ _ upd_same) hli).symm]; exact upd_same, .nil⟩ .nil
  generalize upd (upd (upd (upd H2 wa (.dT [])) tp (.tup [])) li (.lst [])) wa (.dT [([], .ref li)]) = H3 at s3 e3 w3 ⊢
  refine later ?_
  simp only [r_v0, r_g0, r_v1, r_g1, r_v2, r_g2, r_v3, r_g3, r_v4, r_g4, r_v5, r_g5, r_v6, r_g6, r_v7, r_g7, r_v8, r_g8, r_v9, r_g9, r_v10, r_g10, r_v11, r_g11, r_v12, r_g12, r_g13, r_g14, r_g15, r_c, r_op, r_un, r_I0, r_I, r_U, r_eqI, r_eqS, r_neI, r_exbl, r_exint, r_test, r_B, r_and, r_or, r_not, r_andV, r_orV, r_notV, r_if, r_next, r_seqL, r_brk, r_cont, r_drop, r_ret, r_retN, r_ifS, r_asg, r_CB, r_nil, r_cons, r_call, r_tup, r_lst, r_p0, r_pS, r_disp, r_dget, r_sl, r_noPart, r_part, r_gNil, r_gCons, r_itF, r_nT, r_nF, r_len0, r_len1, r_len2, r_len3, r_len4, r_len6, r_len7, r_for, r_iEnum, r_iList, r_iTup, r_iRng1, r_iRng2, r_exI1, r_exR1, r_exR, r_bm, r_bm0, r_ixL, r_ixT, r_cat, r_slL, r_append, r_exRl, r_gTup, true_and, and_true, forall_const, Int.reduceLT, r_compG, r_setComp, r_yes, r_isi_int_str, r_isi_str_str, r_slT, r_inR, r_notInR, cxOf_K, wish_K, blk_K, r_blk1, r_blk2, List.map_cons, List.map_nil, List.getElem?_cons_zero, List.getElem?_cons_succ, Option.join_some, r_Vs, r_dnewK, r_dput, r_exRp, r_gSub, List.set_cons_zero, List.set_cons_succ, r_midL, r_sfld, r_gfld, r_meth, r_make, r_listRng, r_kget1, r_iEnumT, r_sorted, r_any, r_count, blkZ_K, r_iItemsT, r_setT, r_dispT1, r_dnewT, r_tupRng]
  have hpos2 := L2.pos
  obtain ⟨n, hn⟩ : ∃ n, n = ds.length := ⟨_, rfl⟩
  rw [← hn] at e2 w3 q h8
  obtain ⟨dx2, ub, sb, gb, qs, hob, _⟩ := L2.ob
  refine ⟨fun m σ H' => ∃ (r : Nat) (wa : Addr) (kvs : List (List Key × V)) (o5 o6 o7 o8 : Option V), m = n - r ∧ σ = [some (.ref a), some (.ref b), some (.ref ly), some (.ref ev), some (.ref wa), o5, o6, o7, o8] ∧ Same H2 H' ∧ H2 wa = none ∧ H' wa = some (.dT kvs) ∧ WsV H' kvs (GD.waysF (gapN ds) (soN ds) (uN us) n r) ∧ ∀ k, k < r → List.range n ∉ (GD.waysF (gapN ds) (soN ds) (uN us) n k).map (·.1),
    ⟨_, 0, wa, _, none, none, none, none, rfl, rfl, s3, hwa, e3, w3, fun k hk => absurd hk (by omega)⟩, ?_⟩
  rintro m σ H4 ⟨r, wb, kvs, o5, o6, o7, o8, rfl, rfl, s4, hwb, e4, w4, hno⟩
  simp only [r_v0, r_g0, r_v1, r_g1, r_v2, r_g2, r_v3, r_g3, r_v4, r_g4, r_v5, r_g5, r_v6, r_g6, r_v7, r_g7, r_v8, r_g8, r_v9, r_g9, r_v10, r_g10, r_v11, r_g11, r_v12, r_g12, r_g13, r_g14, r_g15, r_c, r_op, r_un, r_I0, r_I, r_U, r_eqI, r_eqS, r_neI, r_exbl, r_exint, r_test, r_B, r_and, r_or, r_not, r_andV, r_orV, r_notV, r_if, r_next, r_seqL, r_brk, r_cont, r_drop, r_ret, r_retN, r_ifS, r_asg, r_CB, r_nil, r_cons, r_call, r_tup, r_lst, r_p0, r_pS, r_disp, r_dget, r_sl, r_noPart, r_part, r_gNil, r_gCons, r_itF, r_nT, r_nF, r_len0, r_len1, r_len2, r_len3, r_len4, r_len6, r_len7, r_for, r_iEnum, r_iList, r_iTup, r_iRng1, r_iRng2, r_exI1, r_exR1, r_exR, r_bm, r_bm0, r_ixL, r_ixT, r_cat, r_slL, r_append, r_exRl, r_gTup, true_and, and_true, forall_const, Int.reduceLT, r_compG, r_setComp, r_yes, r_isi_int_str, r_isi_str_str, r_slT, r_inR, r_notInR, cxOf_K, wish_K, blk_K, r_blk1, r_blk2, List.map_cons, List.map_nil, List.getElem?_cons_zero, List.getElem?_cons_succ, Option.join_some, r_Vs, r_dnewK, r_dput, r_exRp, r_gSub, List.set_cons_zero, List.set_cons_succ, r_midL, r_sfld, r_gfld, r_meth, r_make, r_listRng, r_kget1, r_iEnumT, r_sorted, r_any, r_count, blkZ_K, r_iItemsT, r_setT, r_dispT1, r_dnewT, r_tupRng, r_dNotIn]
  refine ⟨wb, _, rfl, DGet.t (k := km (List.range n)) e4 (by rw [km_kV]; exact s4 _ _ e2), ?_⟩
  rcases w4.val (List.range n) with ⟨hk, hv⟩ | ⟨w', hw', hk', c, hv, hl⟩
  · rw [hv, if_pos (show (!(none : Option V).isSome) = true from rfl)]
    have hlt : r < n := GD.ways_lt hpos2 fun k hk2 => by
      by_cases e : k = r
      · rw [e]; exact hk
      · exact hno k (by omega)
    refine ⟨fun σ H' => ∃ (wa : Addr) (kvs : List (List Key × V)) (o5 o6 o7 o8 : Option V), σ = [some (.ref a), some (.ref b), some (.ref ly), some (.ref ev), some (.ref wa), o5, o6, o7, o8] ∧ Same H2 H' ∧ H2 wa = none ∧ H' wa = some (.dT kvs) ∧ WsV H' kvs (GD.waysF (gapN ds) (soN ds) (uN us) n (r + 1)), ?_, ?_⟩
    · rintro σ' H' ⟨wc, kv2, p5, p6, p7, p8, rfl, z1, z2, z3, z4⟩
      refine ⟨n - (r + 1), by omega, r + 1, wc, kv2, p5, p6, p7, p8, rfl, rfl, z1, z2, z3, z4, fun k hk2 => ?_⟩
      by_cases e : k = r
      · rw [e]; exact hk
      · exact hno k (by omega)
    intro lo hlo
    refine later ?_
    simp only [r_v0, r_g0, r_v1, r_g1, r_v2, r_g2, r_v3, r_g3, r_v4, r_g4, r_v5, r_g5, r_v6, r_g6, r_v7, r_g7, r_v8, r_g8, r_v9, r_g9, r_v10, r_g10, r_v11, r_g11, r_v12, r_g12, r_g13, r_g14, r_g15, r_c, r_op, r_un, r_I0, r_I, r_U, r_eqI, r_eqS, r_neI, r_exbl, r_exint, r_test, r_B, r_and, r_or, r_not, r_andV, r_orV, r_notV, r_if, r_next, r_seqL, r_brk, r_cont, r_drop, r_ret, r_retN, r_ifS, r_asg, r_CB, r_nil, r_cons, r_call, r_tup, r_lst, r_p0, r_pS, r_disp, r_dget, r_sl, r_noPart, r_part, r_gNil, r_gCons, r_itF, r_nT, r_nF, r_len0, r_len1, r_len2, r_len3, r_len4, r_len6, r_len7, r_for, r_iEnum, r_iList, r_iTup, r_iRng1, r_iRng2, r_exI1, r_exR1, r_exR, r_bm, r_bm0, r_ixL, r_ixT, r_cat, r_slL, r_append, r_exRl, r_gTup, true_and, and_true, forall_const, Int.reduceLT, r_compG, r_setComp, r_yes, r_isi_int_str, r_isi_str_str, r_slT, r_inR, r_notInR, cxOf_K, wish_K, blk_K, r_blk1, r_blk2, List.map_cons, List.map_nil, List.getElem?_cons_zero, List.getElem?_cons_succ, Option.join_some, r_Vs, r_dnewK, r_dput, r_exRp, r_gSub, List.set_cons_zero, List.set_cons_succ, r_midL, r_sfld, r_gfld, r_meth, r_make, r_listRng, r_kget1, r_iEnumT, r_sorted, r_any, r_count, blkZ_K, r_iItemsT, r_setT, r_dispT1, r_dnewT, r_tupRng]
    have sl := Same.upd (o := .dT []) hlo
    refine ⟨wb, kvs, rfl, sl _ _ e4, fun o => ?_⟩
    have nlw : lo ≠ wb := (ne_of_none e4 hlo).symm
    have R0 : RoundH H2 (upd (upd H4 lo (.dT [])) wb (.frz o (.dT kvs))) wb lo o kvs (GD.waysF (gapN ds) (soN ds) (uN us) n r) [] :=
      ⟨(s4.trans sl).updM hwb, s4.free hlo, upd_same, w4.lst ((LSt.of sl).trans (LSt.upd (sl _ _ e4) (by intro xs z; cases z))), [], by rw [upd_ne nlw]; exact upd_same, .nil⟩
    generalize upd (upd H4 lo (.dT [])) wb (.frz o (.dT kvs)) = H6 at R0 ⊢
    have lw := w4.length
    have wok := GD.ways_ok (G := gapN ds) (so := soN ds) (U := uN us) (n := n) r
    have hstep : GD.waysF (gapN ds) (soN ds) (uN us) n (r + 1) = (GD.waysF (gapN ds) (soN ds) (uN us) n r).foldl (fun acc w => GD.addW n acc w (GD.fullF (gapN ds) (soN ds) (uN us) n w.1)) [] := rfl
    rw [hstep]
    generalize GD.waysF (gapN ds) (soN ds) (uN us) n r = ws at lw wok R0 ⊢
    refine fw_items (fun i σ H' => RoundH H2 H' wb lo o kvs ws ((ws.take i).foldl (fun acc w => GD.addW n acc w (GD.fullF (gapN ds) (soN ds) (uN us) n w.1)) []) ∧ ∃ o6 o7 o8, σ = [some (.ref a), some (.ref b), some (.ref ly), some (.ref ev), some (.ref wb), some (.ref lo), o6, o7, o8]) ⟨R0, _, _, _, rfl⟩ (fun i σ H' _ h => h.1.old) ?_ ?_
    · rintro i k v bb σ H7 p hki hb hp ⟨R, o6, o7, o8, rfl⟩
      obtain ⟨w, hwi, ek, c, ev2, hlc⟩ := Paired.get R.wsv hki
      subst ev2
      subst ek
      obtain ⟨hi, ei⟩ := List.getElem?_eq_some_iff.mp hwi
      simp only [r_v0, r_g0, r_v1, r_g1, r_v2, r_g2, r_v3, r_g3, r_v4, r_g4, r_v5, r_g5, r_v6, r_g6, r_v7, r_g7, r_v8, r_g8, r_v9, r_g9, r_v10, r_g10, r_v11, r_g11, r_v12, r_g12, r_g13, r_g14, r_g15, r_c, r_op, r_un, r_I0, r_I, r_U, r_eqI, r_eqS, r_neI, r_exbl, r_exint, r_test, r_B, r_and, r_or, r_not, r_andV, r_orV, r_notV, r_if, r_next, r_seqL, r_brk, r_cont, r_drop, r_ret, r_retN, r_ifS, r_asg, r_CB, r_nil, r_cons, r_call, r_tup, r_lst, r_p0, r_pS, r_disp, r_dget, r_sl, r_noPart, r_part, r_gNil, r_gCons, r_itF, r_nT, r_nF, r_len0, r_len1, r_len2, r_len3, r_len4, r_len6, r_len7, r_for, r_iEnum, r_iList, r_iTup, r_iRng1, r_iRng2, r_exI1, r_exR1, r_exR, r_bm, r_bm0, r_ixL, r_ixT, r_cat, r_slL, r_append, r_exRl, r_gTup, true_and, and_true, forall_const, Int.reduceLT, r_compG, r_setComp, r_yes, r_isi_int_str, r_isi_str_str, r_slT, r_inR, r_notInR, cxOf_K, wish_K, blk_K, r_blk1, r_blk2, List.map_cons, List.map_nil, List.getElem?_cons_zero, List.getElem?_cons_succ, Option.join_some, r_Vs, r_dnewK, r_dput, r_exRp, r_gSub, List.set_cons_zero, List.set_cons_succ, r_midL, r_sfld, r_gfld, r_meth, r_make, r_listRng, r_kget1, r_iEnumT, r_sorted, r_any, r_count, blkZ_K, r_iItemsT, r_setT, r_dispT1, r_dnewT, r_tupRng, r_full]
      refine ⟨_, SqT.of upd_same, rfl, ?_⟩
      have sp := Same.upd (o := .tup [.ref bb, .ref c]) hp
      have R8 := R.mv sp
      have hb8 := sp _ _ hb
      have hlc8 := hlc.same sp
      generalize upd H7 p (.tup [.ref bb, .ref c]) = H8 at R8 hb8 hlc8 ⊢
      rw [km_kV] at hb8
      simp only [r_v0, r_g0, r_v1, r_g1, r_v2, r_g2, r_v3, r_g3, r_v4, r_g4, r_v5, r_g5, r_v6, r_g6, r_v7, r_g7, r_v8, r_g8, r_v9, r_g9, r_v10, r_g10, r_v11, r_g11, r_v12, r_g12, r_g13, r_g14, r_g15, r_c, r_op, r_un, r_I0, r_I, r_U, r_eqI, r_eqS, r_neI, r_exbl, r_exint, r_test, r_B, r_and, r_or, r_not, r_andV, r_orV, r_notV, r_if, r_next, r_seqL, r_brk, r_cont, r_drop, r_ret, r_retN, r_ifS, r_asg, r_CB, r_nil, r_cons, r_call, r_tup, r_lst, r_p0, r_pS, r_disp, r_dget, r_sl, r_noPart, r_part, r_gNil, r_gCons, r_itF, r_nT, r_nF, r_len0, r_len1, r_len2, r_len3, r_len4, r_len6, r_len7, r_for, r_iEnum, r_iList, r_iTup, r_iRng1, r_iRng2, r_exI1, r_exR1, r_exR, r_bm, r_bm0, r_ixL, r_ixT, r_cat, r_slL, r_append, r_exRl, r_gTup, true_and, and_true, forall_const, Int.reduceLT, r_compG, r_setComp, r_yes, r_isi_int_str, r_isi_str_str, r_slT, r_inR, r_notInR, cxOf_K, wish_K, blk_K, r_blk1, r_blk2, List.map_cons, List.map_nil, List.getElem?_cons_zero, List.getElem?_cons_succ, Option.join_some, r_Vs, r_dnewK, r_dput, r_exRp, r_gSub, List.set_cons_zero, List.set_cons_succ, r_midL, r_sfld, r_gfld, r_meth, r_make, r_listRng, r_kget1, r_iEnumT, r_sorted, r_any, r_count, blkZ_K, r_iItemsT, r_setT, r_dispT1, r_dnewT, r_tupRng, r_full]
      refine methOf (R8.same _ _ hob) rfl ⟨ds, us, w.1, L2.same R8.same, SqT.of hb8, fun c2 H9 s9 hl9 => ?_⟩
      rw [← hn] at hl9
      obtain ⟨ps, hc2, hps⟩ := hl9
      have lps := hps.length
      have R9 := R8.mv s9
      have hl := wok.lay w (List.mem_of_getElem? hwi)
      obtain ⟨acc, hacc⟩ : ∃ acc, acc = (ws.take i).foldl (fun acc w => GD.addW n acc w (GD.fullF (gapN ds) (soN ds) (uN us) n w.1)) [] := ⟨_, rfl⟩
      have eacc : (ws.take (i + 1)).foldl (fun acc w => GD.addW n acc w (GD.fullF (gapN ds) (soN ds) (uN us) n w.1)) [] = GD.addW n acc w (GD.fullF (gapN ds) (soN ds) (uN us) n w.1) := by rw [List.take_succ_eq_append_getElem hi, ei, List.foldl_append, hacc]; rfl
      have aok : GD.WOk (gapN ds) (soN ds) (uN us) n (r + 1) acc := by
        rw [hacc]
        exact GD.WOk.step _ _ (fun x hx => wok.lay x (List.mem_of_mem_take hx)) ⟨fun x hx => (by cases hx), by simp⟩
      rw [eacc]
      rw [← hacc] at R9
      have hfine : ∀ b ∈ GD.fullF (gapN ds) (soN ds) (uN us) n w.1, GD.Fine (gapN ds) (soN ds) (uN us) w.1 (GD.missF n w.1) b ∧ b ∈ GD.fullF (gapN ds) (soN ds) (uN us) n w.1 := fun b hb => ⟨GD.full_fine hpos2 hb, hb⟩
      generalize hbs : GD.fullF (gapN ds) (soN ds) (uN us) n w.1 = bs at hps hfine lps ⊢
      refine ⟨c2, rfl, ⟨_, SqL.of hc2⟩, ?_⟩
      refine fw_list (xs := ps.map V.ref) (fun j σ H' => RoundH H2 H' wb lo o kvs ws (GD.addW n acc w (bs.take j)) ∧ LSt H9 H' ∧ H' bb = some (.tup (nl w.1)) ∧ ∃ o8, σ = [some (.ref a), some (.ref b), some (.ref ly), some (.ref ev), some (.ref wb), some (.ref lo), some (.ref bb), some (.ref c), o8]) ⟨by simpa [GD.addW] using R9, fun _ _ e => e, s9 _ _ hb8, _, rfl⟩ (fun j σ H' _ h => SqL.of (h.2.1 _ _ hc2)) ?_ ?_
      · rintro j x σ H10 hx ⟨R10, ls, hb10, o9, rfl⟩
        rw [List.getElem?_map] at hx
        obtain ⟨bp, hbp, rfl⟩ := Option.map_eq_some_iff.mp hx
        obtain ⟨bt, hbt, hpb⟩ := Paired.get hps hbp
        obtain ⟨hj, ej⟩ := List.getElem?_eq_some_iff.mp hbt
        obtain ⟨hf, hff⟩ := hfine bt (List.mem_of_getElem? hbt)
        simp_arith [r_listRng, r_kget1, r_iEnumT, r_sorted, r_any, r_count, blkZ_K, r_iItemsT, r_setT, r_dispT1, r_dnewT, r_tupRng]
        obtain ⟨kv2, elo, wlo⟩ := R10.now
        have hcan := hl.1.can
        have hwl : w.1.length ≤ 8 := by have := hcan.len; omega
        have hbl : bt.length ≤ 8 := by have := hf.sub.length_le; have := miss_len (n := n) (dn := w.1); omega
        have aok' : GD.WOk (gapN ds) (soN ds) (uN us) n (r + 1) (GD.addW n acc w (bs.take j)) := GD.WOk.add hl.1 hl.2 _ _ (fun b hb => by rw [hbs]; exact (hfine b (List.mem_of_mem_take hb)).2) aok
        have hkl : kv2.length ≤ 256 := by
          rw [wlo.length]
          exact Nat.le_trans aok'.len (Nat.le_trans (Nat.pow_le_pow_right (by decide) h8) (by decide))
        obtain ⟨cs, hcc, hcs⟩ := (hlc8.same s9).lst ls
        have lcs := hcs.length
        have lr := hl.2
        refine ⟨.inr (.inr (.inl ⟨rfl, .inr ⟨kv2, elo⟩⟩)), nl w.1, .inr (SqT.of hb10), fun l1 hl1 => ⟨nl w.1, nl bt, upd_same, Same.upd hl1 _ _ (ls _ _ hpb), by rw [nl_len, nl_len, sizeLine_eq]; omega, fun l2 hl2 => ?_⟩⟩
        have Sb := (Same.upd (o := .lst (nl w.1)) hl1).trans (Same.upd (o := .lst (nl w.1 ++ nl bt)) hl2)
        have eb : upd (upd H10 l1 (.lst (nl w.1))) l2 (.lst (nl w.1 ++ nl bt)) l2 = some (.lst (((w.1 ++ bt).map fun p : Nat => (p : Int)).map V.int)) := by
          rw [upd_same, List.map_map, List.map_append]; rfl
        generalize upd (upd H10 l1 (.lst (nl w.1))) l2 (.lst (nl w.1 ++ nl bt)) = Hb at Sb eb ⊢
        refine ⟨_, SqL.of eb, by rw [List.length_map, List.length_append]; omega, fun l3 ns' hl3 hperm hsort => ?_⟩
        have ens : ns' = (GD.keyF n w.1 bt).map fun p : Nat => (p : Int) := List.Perm.eq_of_pairwise (fun x y _ _ h1 h2 => Int.le_antisymm h1 h2) hsort (List.pairwise_map.mpr ((GD.can_key (n := n) (dn := w.1) (b := bt)).sorted.imp fun h => by omega)) (hperm.trans ((GD.key_perm hcan hf.sub).map _))
        subst ens
        have Sc := Sb.trans (Same.upd (o := .lst (((GD.keyF n w.1 bt).map fun p : Nat => (p : Int)).map V.int)) hl3)
        have ec : upd Hb l3 (.lst (((GD.keyF n w.1 bt).map fun p : Nat => (p : Int)).map V.int)) l3 = some (.lst (nl (GD.keyF n w.1 bt))) := by rw [upd_same, List.map_map]; rfl
        generalize upd Hb l3 (.lst (((GD.keyF n w.1 bt).map fun p : Nat => (p : Int)).map V.int)) = Hc at Sc ec ⊢
        refine ⟨_, .inl ⟨SqL.of ec, fun l4 hl4 l5 hl5 => ⟨cs.map V.ref, [.ref bp], ((Sc.trans (Same.upd hl4)).trans (Same.upd hl5)) _ _ hcc, upd_same, by rw [List.length_map, List.length_singleton, sizeLine_eq]; omega, fun l6 hl6 => ?_⟩⟩⟩
        have Se := (Same.upd (o := .lst [V.ref bp]) hl5).trans (Same.upd (o := .lst (cs.map V.ref ++ [.ref bp])) hl6)
        have Sf := (Sc.trans (Same.upd (o := .tup (nl (GD.keyF n w.1 bt))) hl4)).trans Se
        have e4' : upd (upd (upd Hc l4 (.tup (nl (GD.keyF n w.1 bt)))) l5 (.lst [V.ref bp])) l6 (.lst (cs.map V.ref ++ [.ref bp])) l4 = some (.tup (nl (GD.keyF n w.1 bt))) := Se _ _ upd_same
        have e6 : LLN (upd (upd (upd Hc l4 (.tup (nl (GD.keyF n w.1 bt)))) l5 (.lst [V.ref bp])) l6 (.lst (cs.map V.ref ++ [.ref bp]))) l6 (w.2 ++ [bt]) := ⟨cs ++ [bp], by rw [upd_same, List.map_append]; rfl, Paired.snoc (Paired.mapP hcs fun _ _ z => Sf _ _ z) (Sf _ _ (ls _ _ hpb))⟩
        generalize upd (upd (upd Hc l4 (.tup (nl (GD.keyF n w.1 bt)))) l5 (.lst [V.ref bp])) l6 (.lst (cs.map V.ref ++ [.ref bp])) = Hf at Sf e4' e6 ⊢
        have eadd : GD.addW n acc w (bs.take (j + 1)) = GD.setD (GD.addW n acc w (bs.take j)) (GD.keyF n w.1 bt) (w.2 ++ [bt]) := by
          rw [List.take_succ_eq_append_getElem hj, ej]
          unfold GD.addW
          rw [List.foldl_append]
          rfl
        rw [eadd]
        have R11 := R10.mv Sf
        have wlo' := wlo.lst (LSt.of Sf)
        refine ⟨kv2, km (GD.keyF n w.1 bt), Sf _ _ elo, by rw [km_kV]; exact e4', by rw [sizeLine_eq]; omega, fun y hy => ?_, fun hy => ?_⟩
        · rcases wlo'.val (GD.keyF n w.1 bt) with ⟨_, hv2⟩ | ⟨w2, hw2, hk2, _⟩
          · rw [hy] at hv2; cases hv2
          · unfold GD.setD
            rw [if_pos (List.mem_map.mpr ⟨w2, hw2, hk2⟩)]
            exact ⟨R11, ls.trans (LSt.of Sf), Sf _ _ hb10, _, rfl⟩
        · rcases wlo'.val (GD.keyF n w.1 bt) with ⟨hk2, _⟩ | ⟨_, _, _, _, hv2, _⟩
          · refine ⟨R11.put (Sf _ _ elo) wlo' hk2 e6, (ls.trans (LSt.of Sf)).trans (LSt.upd (Sf _ _ elo) (by intro xs z; cases z)), ?_, _, rfl⟩
            rw [upd_ne (ne_of (Sf _ _ hb10) (Sf _ _ elo) (by intro z; cases z))]
            exact Sf _ _ hb10
          · rw [hy] at hv2; cases hv2
      · rintro σ H10 ⟨R10, ls, hb10, o9, rfl⟩
        rw [List.length_map, lps, List.take_length] at R10
        exact ⟨R10, _, _, _, rfl⟩
    · rintro σ H7 ⟨R, o6, o7, o8, rfl⟩
      rw [lw, List.take_length] at R
      refine later ?_
      simp_arith [r_listRng, r_kget1, r_iEnumT, r_sorted, r_any, r_count, blkZ_K, r_iItemsT, r_setT, r_dispT1, r_dnewT, r_tupRng]
      obtain ⟨kv2, e7, w7⟩ := R.now
      refine later ?_
      simp_arith [r_listRng, r_kget1, r_iEnumT, r_sorted, r_any, r_count, blkZ_K, r_iItemsT, r_setT, r_dispT1, r_dnewT, r_tupRng]
      exact ⟨lo, kv2, _, _, _, _, rfl, R.same, R.fr, e7, w7⟩
  · rw [hv]
    rw [if_neg (by simp)]
    refine later ?_
    simp_arith [r_listRng, r_kget1, r_iEnumT, r_sorted, r_any, r_count, blkZ_K, r_iItemsT, r_setT, r_dispT1, r_dnewT, r_tupRng]
    refine ⟨wb, _, rfl, (by have z := DGet.t (k := km (List.range n)) e4 (by rw [km_kV]; exact s4 _ _ e2); rw [hv] at z; exact z), ?_⟩
    exact q c r w'.2 H4 (s2.trans s4) hl (by rw [← hk']; exact hw') hno
end
end K32
set_option maxHeartbeats 4000000
namespace K32
open PySem L2 PyProof.Rows FA
noncomputable def sp_units (K : PySem.W.Frag) : Sp := fun vs H Q _ => ∃ (a b c : Addr) (xs : List V) (ds : List FB.Deed) (us bt : List Int), vs = [.ref a, .ref b, .ref c] ∧ SqL K H a xs ∧ DeedsV K H xs ds ∧ SqT K H b (us.map V.int) ∧ us.length = 3 ∧ SqL K H c (bt.map V.int) ∧ bt.length ≤ 1000 ∧ (∀ p ∈ bt, 0 ≤ p ∧ p < ds.length) ∧
  ∀ H', Same H H' → Q (.bl (loadB ds us bt)) H'
section
variable {K : PySem.W.Frag}
theorem r_units {a b c : Addr} {H : Hp} {Q : VK} {E : XK} : sp_units K [.ref a, .ref b, .ref c] H Q E = ∃ (xs : List V) (ds : List FB.Deed) (us bt : List Int), SqL K H a xs ∧ DeedsV K H xs ds ∧ SqT K H b (us.map V.int) ∧ us.length = 3 ∧ SqL K H c (bt.map V.int) ∧ bt.length ≤ 1000 ∧ (∀ p ∈ bt, 0 ≤ p ∧ p < ds.length) ∧
  ∀ H', Same H H' → Q (.bl (loadB ds us bt)) H' := propext ⟨by rintro ⟨_, _, _, xs, ds, us, bt, e, q⟩; cases e; exact ⟨xs, ds, us, bt, q⟩, by rintro ⟨xs, ds, us, bt, q⟩; exact ⟨a, b, c, xs, ds, us, bt, rfl, q⟩⟩
end
end K32
set_option maxHeartbeats 4000000
namespace K32
open PySem L2 PyProof.Rows FA
noncomputable def cnts (ds : List FB.Deed) (b : List Int) : List Int := (List.range 4).map fun s => (cnt ds b s : Int)
theorem sortD_lt (d : FB.Deed) : sortD d < 4 := by
  unfold sortD
  split
  · split
    · decide
    · split
      · decide
      · split <;> decide
  · decide
theorem cnts_snoc {ds : List FB.Deed} {b : List Int} {p : Int} : cnts ds (b ++ [p]) = (cnts ds b).set (sortD (dAtI ds p)) ((cnt ds b (sortD (dAtI ds p)) : Int) + 1) := by
  unfold cnts
  apply List.ext_getElem
  · simp
  · intro i h1 h2
    rw [List.getElem_set]
    simp only [List.getElem_map, List.getElem_range]
    unfold cnt
    rw [List.countP_append, List.countP_singleton]
    by_cases h : sortD (dAtI ds p) = i
    · subst h; simp
    · simp [h]
theorem cnts_get {ds : List FB.Deed} {b : List Int} {s : Nat} (h : s < 4) : (cnts ds b)[s]? = some (cnt ds b s : Int) := by
  unfold cnts
  rw [List.getElem?_map, List.getElem?_range h]; rfl
section
variable {P : Program} {w : World} {K : PySem.W.Frag} {mg : Str → Option Value} {base : Heap} {t : Ad}
theorem ok_lload (T : Txt K mg t) : FnOk P w K mg base CX0 2 t.f__law_load t.e__law_load ["_law_deeds_here", "_law_beat", "_law_units"] (fun vs H Q E => ∃ a b c, vs = [.ref a, .ref b, .ref c] ∧ sp_units K [.ref a, .ref c, .ref b] H Q E) := by
  have G__law_sort := ok_sort (P := P) (w := w) (base := base) T
  refine T.d__law_load.F.ok sc__law_load (fun vs H Q E h => by obtain ⟨_, _, _, rfl, _⟩ := h; rfl) (fun cdv A outer s H vs Q E hr h => ?_)
  obtain ⟨a, c, b, rfl, h⟩ := h
  rw [r_units] at h
  obtain ⟨xs, ds, us, bt, hS, hds, hU, h3, hB, h64, hp, q⟩ := h
  refine ⟨_,
      (XSs.h
      (xpss_cons
        (xps_set (i := 3) sc__law_load.nd rfl ll (xpe_lst (xpa_const (by rfl))))
      (xpss_cons
        (xps_for PassesOwn.never rfl (xpi_list (xqv 1 vl)) (xpg_name (i := 4) sc__law_load.nd rfl ll)
          (xpss_one
            (xps_asg (xpe_op op_add (xpe_ix ix_list (xqv 3 vl) (xqe_callD T.d__law_sort G__law_sort (hr.mono (by first | decide | omega)) (xpa_cons (xpe_ix ix_list (xqv 0 vl) (xqv 4 vl) (fun _ _ => rfl)) xpa_nil) gl) (fun _ _ => rfl)) xpe_int) (xpg_sub (xqv 3 vl) (xqe_callD T.d__law_sort G__law_sort (hr.mono (by first | decide | omega)) (xpa_cons (xpe_ix ix_list (xqv 0 vl) (xqv 4 vl) (fun _ _ => rfl)) xpa_nil) gl) set_list))))
      (xpss_one
        (xps_ret (xpe_and (xpe_cmpR op_le (xpe_ix ix_list (xqv 3 vl) xpe_int (fun _ _ => rfl)) (xpe_ix ix_tup (xqv 2 vl) xpe_int (fun _ _ => rfl)) (nomark _)) (xpe_and (xpe_cmpR op_le (xpe_ix ix_list (xqv 3 vl) xpe_int (fun _ _ => rfl)) (xpe_ix ix_tup (xqv 2 vl) xpe_int (fun _ _ => rfl)) (nomark _)) (xpe_one (xpe_cmpR op_le (xpe_ix ix_list (xqv 3 vl) xpe_int (fun _ _ => rfl)) (xpe_ix ix_tup (xqv 2 vl) xpe_int (fun _ _ => rfl)) (nomark _)))))))))), ?_⟩
  rw [show start _ [V.ref a, V.ref c, V.ref b] = [some (.ref a), some (.ref c), some (.ref b), none, none] from rfl]
  simp_arith [r_listRng, r_kget1, r_iEnumT, r_sorted, r_any, r_count, blkZ_K, r_iItemsT, r_setT, r_dispT1, r_dnewT, r_tupRng, r_sort]
  intro m hm
  have s1 : Same H (upd H m (.lst ([0, 0, 0, 0].map V.int))) := Same.upd hm
  refine ⟨⟨_, s1.seq hB⟩, ?_⟩
  refine fw_list (xs := bt.map V.int) (fun j σ H' => Same H H' ∧ H' m = some (.lst ((cnts ds (bt.take j)).map V.int)) ∧ ∃ o, σ = [some (.ref a), some (.ref c), some (.ref b), some (.ref m), o])
    ⟨s1, by rw [upd_same]; rfl, _, rfl⟩ (fun j σ H' _ h => h.1.seq hB) ?_ ?_
  · rintro j x σ H1 hx ⟨sm, hm1, o, rfl⟩
    rw [List.getElem?_map] at hx
    obtain ⟨p, hz, rfl⟩ := Option.map_eq_some_iff.mp hx
    obtain ⟨qx, g1, g2, g4⟩ := dAt_get (hds.ts sm.ts) (hp p (List.mem_of_getElem? hz))
    have hs4 := sortD_lt (dAtI ds p)
    simp_arith [r_listRng, r_kget1, r_iEnumT, r_sorted, r_any, r_count, blkZ_K, r_iItemsT, r_setT, r_dispT1, r_dnewT, r_tupRng, r_sort]
    refine ⟨_, _, sm.seq hS, g1, ?_⟩
    simp_arith [r_listRng, r_kget1, r_iEnumT, r_sorted, r_any, r_count, blkZ_K, r_iItemsT, r_setT, r_dispT1, r_dnewT, r_tupRng, r_sort]
    refine ⟨_, g2, fun H2 s2 => ⟨_, _, SqL.of (s2 _ _ hm1), atI_nat (by rw [List.getElem?_map, cnts_get hs4]; rfl), ?_⟩⟩
    simp_arith [r_listRng, r_kget1, r_iEnumT, r_sorted, r_any, r_count, blkZ_K, r_iItemsT, r_setT, r_dispT1, r_dnewT, r_tupRng, r_sort]
    refine ⟨_, _, (sm.trans s2).seq hS, g1, ?_⟩
    simp_arith [r_listRng, r_kget1, r_iEnumT, r_sorted, r_any, r_count, blkZ_K, r_iItemsT, r_setT, r_dispT1, r_dnewT, r_tupRng, r_sort]
    refine ⟨_, s2.seqT g2, fun H3 s3 => ?_⟩
    refine ⟨m, _, _, sortD (dAtI ds p), rfl, rfl, s3 _ _ (s2 _ _ hm1), FL.ixN_nat (by rw [List.length_map]; unfold cnts; rw [List.length_map, List.length_range]; exact hs4), ((sm.trans s2).trans s3).updM hm, ?_, _, rfl⟩
    obtain ⟨hj, ej⟩ := List.getElem?_eq_some_iff.mp hz
    rw [upd_same, List.take_succ_eq_append_getElem hj, ej, cnts_snoc, List.map_set]
  · rintro σ H1 ⟨sm, hm1, o, rfl⟩
    rw [List.length_map, List.take_length] at hm1
    simp_arith [r_listRng, r_kget1, r_iEnumT, r_sorted, r_any, r_count, blkZ_K, r_iItemsT, r_setT, r_dispT1, r_dnewT, r_tupRng, r_sort]
    obtain ⟨u0, u1, u2, rfl⟩ : ∃ u0 u1 u2, us = [u0, u1, u2] := by
      rcases us with _ | ⟨u0, _ | ⟨u1, _ | ⟨u2, _ | ⟨_, _⟩⟩⟩⟩ <;> simp at h3 ⊢
    have hM := SqL.of (K := K) hm1
    have hU1 := sm.seqT hU
    have z := q H1 sm
    have el : loadB ds [u0, u1, u2] bt = (decide ((cnt ds bt 0 : Int) ≤ u0) && (decide ((cnt ds bt 1 : Int) ≤ u1) && (decide ((cnt ds bt 2 : Int) ≤ u2) && true))) := rfl
    rw [el, Bool.and_true] at z
    refine ⟨_, .int (cnt ds bt 0), hM, rfl, _, .int u0, hU1, rfl, ?_⟩
    simp_arith [r_listRng, r_kget1, r_iEnumT, r_sorted, r_any, r_count, blkZ_K, r_iItemsT, r_setT, r_dispT1, r_dnewT, r_tupRng]
    refine ite_dec (fun h0 => ?_) (fun h0 => by rw [decide_eq_false h0] at z; exact z)
    rw [decide_eq_true h0, Bool.true_and] at z
    refine ⟨_, .int (cnt ds bt 1), hM, rfl, _, .int u1, hU1, rfl, ?_⟩
    simp_arith [r_listRng, r_kget1, r_iEnumT, r_sorted, r_any, r_count, blkZ_K, r_iItemsT, r_setT, r_dispT1, r_dnewT, r_tupRng]
    refine ite_dec (fun h0 => ?_) (fun h0 => by rw [decide_eq_false h0] at z; exact z)
    rw [decide_eq_true h0, Bool.true_and] at z
    refine ⟨_, .int (cnt ds bt 2), hM, rfl, _, .int u2, hU1, rfl, ?_⟩
    simp_arith [r_listRng, r_kget1, r_iEnumT, r_sorted, r_any, r_count, blkZ_K, r_iItemsT, r_setT, r_dispT1, r_dnewT, r_tupRng]
    exact z
end
end K32
set_option maxHeartbeats 4000000
namespace K32
open PySem L2 PyProof.Rows FA
theorem addW_mem {n : Nat} {w x : List Nat × List (List Nat)} : ∀ (bs : List (List Nat)) (acc : List (List Nat × List (List Nat))), x ∈ GD.addW n acc w bs → x ∈ acc ∨ ∃ b ∈ bs, x = (GD.keyF n w.1 b, w.2 ++ [b])
  | [], _, h => .inl h
  | b :: bs, acc, h => by
    rcases addW_mem bs _ h with h | ⟨c, hc, e⟩
    · rcases GD.setD_keys h with h | h
      · exact .inl h
      · exact .inr ⟨b, by simp, h⟩
    · exact .inr ⟨c, List.mem_cons_of_mem _ hc, e⟩
theorem step_mem {n : Nat} {G : Nat → Nat → Option Int} {so : Nat → Nat} {U : Nat → Int} {x : List Nat × List (List Nat)} : ∀ (ws acc : List (List Nat × List (List Nat))), x ∈ ws.foldl (fun acc w => GD.addW n acc w (GD.fullF G so U n w.1)) acc → x ∈ acc ∨ ∃ w ∈ ws, ∃ b ∈ GD.fullF G so U n w.1, x = (GD.keyF n w.1 b, w.2 ++ [b])
  | [], _, h => .inl h
  | w :: ws, acc, h => by
    rcases step_mem ws _ h with h | ⟨v, hv, e⟩
    · rcases addW_mem _ _ h with h | ⟨b, hb, e⟩
      · exact .inl h
      · exact .inr ⟨w, by simp, b, hb, e⟩
    · exact .inr ⟨v, List.mem_cons_of_mem _ hv, e⟩
structure GoodL (G : Nat → Nat → Option Int) (so : Nat → Nat) (U : Nat → Int) (bss : List (List Nat)) (dn : List Nat) : Prop where
  ne : ∀ b ∈ bss, b ≠ []
  srt : ∀ b ∈ bss, b.Pairwise (· < ·)
  perm : bss.flatten.Perm dn
  load : ∀ b ∈ bss, ∀ s, s < 3 → (GD.cntB so b s : Int) ≤ U s
  lean : ∀ (i : Nat) b k, bss[i]? = some b → k ∈ b → ∀ j, j < k → ∀ l, G j k = some l → ∃ (i' : Nat) (b' : List Nat), bss[i']? = some b' ∧ j ∈ b' ∧ (i' : Int) + l ≤ i
theorem ways_good {n : Nat} {G : Nat → Nat → Option Int} {so : Nat → Nat} {U : Nat → Int} (hU : ∀ s, s < 3 → 0 < U s) (hG : ∀ j k l, G j k = some l → l ≤ 1) : ∀ r, (∀ k, k < r → List.range n ∉ (GD.waysF G so U n k).map (·.1)) → ∀ w ∈ GD.waysF G so U n r, GoodL G so U w.2 w.1
  | 0, _, w, hw => by
    rw [GD.waysF, List.mem_singleton] at hw
    subst hw
    exact ⟨fun b h => (by cases h), fun b h => (by cases h), .refl _, fun b h => (by cases h), fun i b k h => by simp at h⟩
  | r + 1, hno, w, hw => by
    rcases step_mem _ _ hw with h | ⟨v, hv, b, hb, rfl⟩
    · cases h
    have ih := ways_good hU hG r (fun k hk => hno k (by omega)) v hv
    have hcan := ((GD.ways_ok r).lay v hv).1.can
    have hne : v.1 ≠ List.range n := fun e => hno r (by omega) (List.mem_map.mpr ⟨v, hv, e⟩)
    have fb := GD.full_fine hU hb
    refine ⟨fun c hc => ?_, fun c hc => ?_, ?_, fun c hc => ?_, fun i c k hi hk j hj l hl => ?_⟩
    · rcases List.mem_append.mp hc with hc | hc
      · exact ih.ne c hc
      · rw [List.mem_singleton.mp hc]; exact GD.full_ne hU hb (hcan.miss hne)
    · rcases List.mem_append.mp hc with hc | hc
      · exact ih.srt c hc
      · rw [List.mem_singleton.mp hc]; exact List.Pairwise.sublist fb.sub GD.miss_sorted
    · rw [List.flatten_append]
      simp only [List.flatten_cons, List.flatten_nil, List.append_nil]
      exact (ih.perm.append_right b).trans (GD.key_perm hcan fb.sub)
    · rcases List.mem_append.mp hc with hc | hc
      · exact ih.load c hc
      · rw [List.mem_singleton.mp hc]; exact fb.load
    · by_cases hlt : i < v.2.length
      · rw [List.getElem?_append_left hlt] at hi
        obtain ⟨i', b', h1, h2, h3⟩ := ih.lean i c k hi hk j hj l hl
        have := (List.getElem?_eq_some_iff.mp h1).1
        exact ⟨i', b', by rw [List.getElem?_append_left this]; exact h1, h2, h3⟩
      · have hil := (List.getElem?_eq_some_iff.mp hi).1
        rw [List.length_append, List.length_singleton] at hil
        obtain rfl : i = v.2.length := by omega
        rw [List.getElem?_append_right (Nat.le_refl _), Nat.sub_self] at hi
        cases hi
        have z := fb.lean k hk j hj
        unfold GD.aheadB at z
        rw [hl] at z
        simp only [Bool.or_eq_true, Bool.and_eq_true, decide_eq_true_eq] at z
        rcases z with z | ⟨z1, z2⟩
        · obtain ⟨b', hb', hjb⟩ := List.mem_flatten.mp (ih.perm.mem_iff.mpr z)
          obtain ⟨i', hi', e⟩ := List.mem_iff_getElem.mp hb'
          refine ⟨i', b', by rw [List.getElem?_append_left hi', List.getElem?_eq_getElem hi', e], hjb, ?_⟩
          have := hG j k l hl
          omega
        · exact ⟨v.2.length, b, by rw [List.getElem?_append_right (Nat.le_refl _), Nat.sub_self]; rfl, z2, by omega⟩
theorem gap_le {ds : List FB.Deed} {j k : Nat} {l : Int} (h : gapN ds j k = some l) : 0 ≤ l ∧ l ≤ 1 := by
  unfold gapN at h
  split at h
  · unfold FB.gapD at h
    split at h
    · cases h; decide
    · split at h
      · cases h; decide
      · split at h
        · cases h; decide
        · cases h
  · cases h
noncomputable def ci (b : List Nat) : List Int := b.map fun p : Nat => (p : Int)
theorem ci_nl {b : List Nat} : (ci b).map V.int = nl b := by unfold ci nl; rw [List.map_map]; rfl
theorem flat_ci {bss : List (List Nat)} : (bss.map ci).flatten = ci bss.flatten := by unfold ci; rw [List.map_flatten]
theorem mem_ci {b : List Nat} {p : Int} : p ∈ ci b ↔ ∃ q ∈ b, p = (q : Int) := by
  unfold ci; rw [List.mem_map]; exact ⟨fun ⟨q, h, e⟩ => ⟨q, h, e.symm⟩, fun ⟨q, h, e⟩ => ⟨q, h, e.symm⟩⟩
theorem places_ci {G : Nat → Nat → Option Int} {so : Nat → Nat} {U : Nat → Int} {n : Nat} {bss : List (List Nat)} (h : GoodL G so U bss (List.range n)) : FL.PlacesP n (bss.map ci) := by
  refine ⟨fun b hb => ?_, ?_⟩
  · obtain ⟨c, hc, rfl⟩ := List.mem_map.mp hb
    refine ⟨fun z => h.ne c hc (List.map_eq_nil_iff.mp z), ?_⟩
    unfold ci
    rw [List.pairwise_map]
    exact (h.srt c hc).imp fun z => by omega
  · rw [flat_ci]
    exact h.perm.map _
theorem atF_at {bss : List (List Int)} {i : Nat} {b : List Int} {p : Int} (nd : bss.flatten.Nodup) (hb : bss[i]? = some b) (hp : p ∈ b) : FL.atF bss p = i := by
  have hf : p ∈ bss.flatten := List.mem_flatten.mpr ⟨b, List.mem_of_getElem? hb, hp⟩
  have e0 := FL.atF_val hf
  obtain ⟨j, hj⟩ := List.mem_iff_getElem?.mp hp
  have fr := FL.fresh_at hb hj nd
  obtain ⟨rest, split⟩ : ∃ rest, FL.dFrom 0 bss = FL.dAt bss i b j ++ ((.inl p, .int (i : Int)) :: rest) := by
    have e1 : FL.dFrom 0 bss = FL.dFrom 0 (bss.take (i + 1)) ++ FL.dFrom (i + 1) (bss.drop (i + 1)) := by
      have gen : ∀ (l m : List (List Int)) (k : Nat), FL.dFrom k (l ++ m) = FL.dFrom k l ++ FL.dFrom (k + l.length) m := by
        intro l
        induction l with
        | nil => intro m k; rfl
        | cons c l ih => intro m k; rw [List.cons_append, FL.dFrom, ih, FL.dFrom, List.append_assoc, List.length_cons, show k + 1 + l.length = k + (l.length + 1) by omega]
      conv => lhs; rw [← List.take_append_drop (i + 1) bss]
      rw [gen]
      have hl := (List.getElem?_eq_some_iff.mp hb).1
      rw [List.length_take, Nat.min_eq_left (by omega), Nat.zero_add]
    have e2 : FL.dFrom 0 (bss.take (i + 1)) = FL.dAt bss i b j ++ ((.inl p, .int (i : Int)) :: (b.drop (j + 1)).map (fun p => ((.inl p : Key), V.int (i : Int)))) := by
      rw [FL.take_dFrom hb]
      unfold FL.dAt
      obtain ⟨hjl, ej⟩ := List.getElem?_eq_some_iff.mp hj
      rw [List.append_assoc]
      congr 1
      conv => lhs; rw [← List.take_append_drop j b, List.drop_eq_getElem_cons hjl, ej]
      rw [List.map_append, List.map_cons]
    have e3 : (FL.dFrom 0 bss) = FL.dAt bss i b j ++ ((.inl p, .int (i : Int)) :: ((b.drop (j + 1)).map (fun p => ((.inl p : Key), V.int (i : Int))) ++ FL.dFrom (i + 1) (bss.drop (i + 1)))) := by rw [e1, e2, List.append_assoc]; rfl
    exact ⟨_, e3⟩
  have hv : valV (FL.dFrom 0 bss) (.inl p) = some (.int (i : Int)) := by
    rw [split]
    have no : ∀ kv ∈ FL.dAt bss i b j, ¬ kv.1 = (.inl p : Key) := fun kv hkv e => by
      have : kv.1 ∈ (FL.dAt bss i b j).map (·.1) := List.mem_map.mpr ⟨kv, hkv, rfl⟩
      rw [FL.dAt_keys, e] at this
      obtain ⟨q, hq, eq⟩ := List.mem_map.mp this
      cases eq
      exact fr hq
    unfold valV
    rw [List.find?_append, List.find?_eq_none.mpr (fun kv hkv => by simpa using no kv hkv)]
    simp
  rw [hv] at e0
  exact (V.int.inj (Option.some.inj e0)).symm
theorem lean_ci {G : Nat → Nat → Option Int} {so : Nat → Nat} {U : Nat → Int} {n : Nat} {bss : List (List Nat)} (h : GoodL G so U bss (List.range n)) {j k : Nat} {l : Int} (hk : k < n) (hj : j < k) (hg : G j k = some l) : FL.atF (bss.map ci) j + l ≤ FL.atF (bss.map ci) k := by
  have nd := (places_ci h).nodup
  obtain ⟨b, hb, hkb⟩ := List.mem_flatten.mp (h.perm.mem_iff.mpr (List.mem_range.mpr hk))
  obtain ⟨i, hi⟩ := List.mem_iff_getElem?.mp hb
  obtain ⟨i', b', h1, h2, h3⟩ := h.lean i b k hi hkb j hj l hg
  rw [atF_at nd (i := i) (b := ci b) (by rw [List.getElem?_map, hi]; rfl) (mem_ci.mpr ⟨k, hkb, rfl⟩), atF_at nd (i := i') (b := ci b') (by rw [List.getElem?_map, h1]; rfl) (mem_ci.mpr ⟨j, h2, rfl⟩)]
  exact h3
theorem cnt_ci {ds : List FB.Deed} {b : List Nat} {s : Nat} : cnt ds (ci b) s = GD.cntB (soN ds) b s := by
  unfold cnt ci GD.cntB
  rw [List.countP_map]
  rfl
theorem load_ci {ds : List FB.Deed} {us : List Int} {b : List Nat} : loadB ds us (ci b) = true ↔ ∀ s, s < 3 → (GD.cntB (soN ds) b s : Int) ≤ uN us s := by
  unfold loadB
  rw [List.all_eq_true]
  constructor
  · intro h s hs
    have z := of_decide_eq_true (h s (List.mem_range.mpr hs))
    rwa [cnt_ci] at z
  · intro h s hs
    have z := h s (List.mem_range.mp hs)
    rw [← cnt_ci] at z
    exact decide_eq_true z
end K32
set_option maxHeartbeats 4000000
namespace K32
open PySem L2 PyProof.Rows FA
structure KeptIn (K : PySem.W.Frag) (H : Hp) (a b c : Addr) (xs : List V) (ds : List FB.Deed) (us : List Int) (bss : List (List Int)) : Prop where
  hS : SqL K H a xs
  hds : DeedsV K H xs ds
  h8 : ds.length ≤ 8
  hU : SqT K H b (us.map V.int)
  h3 : us.length = 3
  hB : FL.BsV H c bss
  hP : FL.PlacesP ds.length bss
  hr : ∀ b ∈ bss, b.Pairwise (· < ·)
  hl : ∀ b ∈ bss, loadB ds us b = true
  hg : ∀ (j k : Nat) (l : Int), k < ds.length → j < k → gapN ds j k = some l → FL.atF bss j + l ≤ FL.atF bss k
noncomputable def bd_keptG (K : PySem.W.Frag) (a b c : Addr) (H : Hp) (Q : VK) : Prop := ∃ (xs : List V) (ds : List FB.Deed) (us : List Int) (bss : List (List Int)), KeptIn K H a b c xs ds us bss ∧ ∀ H', Same H H' → Q (.bl true) H'
noncomputable def sp_keptG (K : PySem.W.Frag) : Sp := fun vs H Q _ => ∃ (a b c : Addr), vs = [.ref a, .ref b, .ref c] ∧ bd_keptG K a b c H Q
section
variable {P : Program} {w : World} {K : PySem.W.Frag} {mg : Str → Option Value} {base : Heap} {t : Ad}
theorem r_keptG {a b c : Addr} {H : Hp} {Q : VK} {E : XK} : sp_keptG K [.ref a, .ref b, .ref c] H Q E = bd_keptG K a b c H Q := propext ⟨by rintro ⟨_, _, _, e, q⟩; cases e; exact q, fun q => ⟨a, b, c, rfl, q⟩⟩
theorem r_din {ty td : TE} {σ : L2.St} {H : Hp} {Q : VK} : tDIn ty td σ H Q = ty σ H fun y H1 => td σ H1 fun x H2 => ∃ a o, x = .ref a ∧ DGet H2 a y o ∧ Q (.bl o.isSome) H2 := rfl
theorem ok_keptG (T : Txt K mg t) : FnOk P w K mg base CX0 12 t.f__law_kept t.e__law_kept ["_law_deeds_here", "_law_units", "_law_beats"] (sp_keptG K) := by
  have G__law_gap := ok_lgap (P := P) (w := w) (base := base) T
  have G__law_load := ok_lload (P := P) (w := w) (base := base) T
  have G__law_whole := ok_whole (P := P) (w := w) (base := base) T
  refine T.d__law_kept.F.ok sc__law_kept (fun vs H Q E h => by obtain ⟨_, _, _, rfl, _⟩ := h; rfl) (fun cdv A outer s H vs Q E hr h => ?_)
  obtain ⟨a, b, c, rfl, xs, ds, us, bss, L, q⟩ := h
  have hu := hu_of hr
  have lx := L.hds.length
  have h8 := L.h8
  have hlen := L.hP.len
  obtain ⟨ps, hC, hps⟩ := L.hB
  have lps := hps.length
  refine ⟨_,
      (XSs.h
      (xpss_cons
        (xps_set (i := 3) sc__law_kept.nd rfl ll xpe_dnewK)
      (xpss_cons
        (xps_for PassesOwn.never rfl (xpi_enum T.z_enumerate (xpa_cons (xqv 2 vl) xpa_nil) gl) (xpg_tup rfl (xpgs_cons (xpg_name (i := 4) sc__law_kept.nd rfl ll) (xpgs_cons (xpg_name (i := 5) sc__law_kept.nd rfl ll) xpgs_nil)))
          (xpss_cons
            (xps_if (xPW_pt (xpw_or (xpt_not (xpt_val (xqe_callB call_isi gl T.z_isinstance boot_isinstance (xpa_cons (xqv 5 vl) (xpa_cons (xqe_bltn (v := .ty "list") gl T.z_list boot_list rfl) xpa_nil))))) (xpw_or1 (xpt_cmpR op_eq (xqe_callB call_len_seq gl T.z_len PySem.boot_len (xpa_cons (xqv 5 vl) xpa_nil)) xpe_int (nomark _)))))
              (xpss_one
                (xps_ret xpe_bl))
              xpss_nil)
          (xpss_cons
            (xps_set (i := 6) sc__law_kept.nd rfl ll (xpe_un un_neg xpe_int))
          (xpss_cons
            (xps_for PassesOwn.never rfl (xpi_list (xqv 5 vl)) (xpg_name (i := 7) sc__law_kept.nd rfl ll)
              (xpss_cons
                (xps_if (xPW_pt (xpw_or (xpt_not (xpt_val (xqe_callD T.d__law_whole G__law_whole (hr.mono (by first | decide | omega)) (xpa_cons (xqv 7 vl) xpa_nil) gl))) (xpw_or (xpt_cmpR op_le (xqv 7 vl) (xqv 6 vl) (nomark _)) (xpw_or (xpt_cmpR op_ge (xqv 7 vl) (xqe_callB call_len_seq gl T.z_len PySem.boot_len (xpa_cons (xqv 0 vl) xpa_nil)) (nomark _)) (xpw_or1 (xpt_cmp (xpc_din hu (xqv 7 vl) (xqv 3 vl))))))))
                  (xpss_one
                    (xps_ret xpe_bl))
                  xpss_nil)
              (xpss_cons
                (xps_dput hu (xqv 3 vl) (xqv 7 vl) (xqv 4 vl) rfl)
              (xpss_one
                (xps_set (i := 6) sc__law_kept.nd rfl ll (xqv 7 vl))))))
          (xpss_one
            (xps_if (xpt_not (xpt_val (xqe_callD T.d__law_load G__law_load (hr.mono (by first | decide | omega)) (xpa_cons (xqv 0 vl) (xpa_cons (xqv 5 vl) (xpa_cons (xqv 1 vl) xpa_nil))) gl)))
              (xpss_one
                (xps_ret xpe_bl))
              xpss_nil))))))
      (xpss_cons
        (xps_if (xpt_cmpR op_ne (xqe_callB call_lenD gl T.z_len PySem.boot_len (xpa_cons (xqv 3 vl) xpa_nil)) (xqe_callB call_len_seq gl T.z_len PySem.boot_len (xpa_cons (xqv 0 vl) xpa_nil)) (nomark _))
          (xpss_one
            (xps_ret xpe_bl))
          xpss_nil)
      (xpss_cons
        (xps_for PassesOwn.never rfl (xpi_range1 gl T.z_range (xpa_cons (xqe_callB call_len_seq gl T.z_len PySem.boot_len (xpa_cons (xqv 0 vl) xpa_nil)) xpa_nil)) (xpg_name (i := 7) sc__law_kept.nd rfl ll)
          (xpss_one
            (xps_for PassesOwn.never rfl (xpi_range1 gl T.z_range (xpa_cons (xqv 7 vl) xpa_nil)) (xpg_name (i := 8) sc__law_kept.nd rfl ll)
              (xpss_cons
                (xps_set (i := 9) sc__law_kept.nd rfl ll (xqe_callD T.d__law_gap G__law_gap (hr.mono (by first | decide | omega)) (xpa_cons (xpe_ix ix_list (xqv 0 vl) (xqv 8 vl) (fun _ _ => rfl)) (xpa_cons (xpe_ix ix_list (xqv 0 vl) (xqv 7 vl) (fun _ _ => rfl)) xpa_nil)) gl))
              (xpss_one
                (xps_if (xPW_pt (xpw_and (xpt_cmpR op_notN (xqv 9 vl) xpe_non (nomark _)) (xpw_and1 (xpt_cmpR op_lt (xpe_op op_sub (xpe_dget hu (xqv 3 vl) (xqv 7 vl) (fun _ _ => rfl)) (xpe_dget hu (xqv 3 vl) (xqv 8 vl) (fun _ _ => rfl))) (xqv 9 vl) (nomark _)))))
                  (xpss_one
                    (xps_ret xpe_bl))
                  xpss_nil))))))
      (xpss_one
        (xps_ret xpe_bl))))))), ?_⟩
  rw [show start _ [V.ref a, V.ref b, V.ref c] = [some (.ref a), some (.ref b), some (.ref c), none, none, none, none, none, none, none] from rfl]
  simp only [r_v0, r_g0, r_v1, r_g1, r_v2, r_g2, r_v3, r_g3, r_v4, r_g4, r_v5, r_g5, r_v6, r_g6, r_v7, r_g7, r_v8, r_g8, r_v9, r_g9, r_v10, r_g10, r_v11, r_g11, r_v12, r_g12, r_g13, r_g14, r_g15, r_c, r_op, r_un, r_I0, r_I, r_U, r_eqI, r_eqS, r_neI, r_exbl, r_exint, r_test, r_B, r_and, r_or, r_not, r_andV, r_orV, r_notV, r_if, r_next, r_seqL, r_brk, r_cont, r_drop, r_ret, r_retN, r_ifS, r_asg, r_CB, r_nil, r_cons, r_call, r_tup, r_lst, r_p0, r_pS, r_disp, r_dget, r_sl, r_noPart, r_part, r_gNil, r_gCons, r_itF, r_nT, r_nF, r_len0, r_len1, r_len2, r_len3, r_len4, r_len6, r_len7, r_for, r_iEnum, r_iList, r_iTup, r_iRng1, r_iRng2, r_exI1, r_exR1, r_exR, r_bm, r_bm0, r_ixL, r_ixT, r_cat, r_slL, r_append, r_exRl, r_gTup, true_and, and_true, forall_const, Int.reduceLT, r_compG, r_setComp, r_yes, r_isi_int_str, r_isi_str_str, r_slT, r_inR, r_notInR, cxOf_K, wish_K, blk_K, r_blk1, r_blk2, List.map_cons, List.map_nil, List.getElem?_cons_zero, List.getElem?_cons_succ, Option.join_some, r_Vs, r_dnewK, r_dput, r_exRp, r_gSub, List.set_cons_zero, List.set_cons_succ, r_midL, r_sfld, r_gfld, r_meth, r_make, r_listRng, r_kget1, r_iEnumT, r_sorted, r_any, r_count, blkZ_K, r_iItemsT, r_setT, r_dispT1, r_dnewT, r_tupRng]
  intro d hd
  refine later ?_
  simp only [r_v0, r_g0, r_v1, r_g1, r_v2, r_g2, r_v3, r_g3, r_v4, r_g4, r_v5, r_g5, r_v6, r_g6, r_v7, r_g7, r_v8, r_g8, r_v9, r_g9, r_v10, r_g10, r_v11, r_g11, r_v12, r_g12, r_g13, r_g14, r_g15, r_c, r_op, r_un, r_I0, r_I, r_U, r_eqI, r_eqS, r_neI, r_exbl, r_exint, r_test, r_B, r_and, r_or, r_not, r_andV, r_orV, r_notV, r_if, r_next, r_seqL, r_brk, r_cont, r_drop, r_ret, r_retN, r_ifS, r_asg, r_CB, r_nil, r_cons, r_call, r_tup, r_lst, r_p0, r_pS, r_disp, r_dget, r_sl, r_noPart, r_part, r_gNil, r_gCons, r_itF, r_nT, r_nF, r_len0, r_len1, r_len2, r_len3, r_len4, r_len6, r_len7, r_for, r_iEnum, r_iList, r_iTup, r_iRng1, r_iRng2, r_exI1, r_exR1, r_exR, r_bm, r_bm0, r_ixL, r_ixT, r_cat, r_slL, r_append, r_exRl, r_gTup, true_and, and_true, forall_const, Int.reduceLT, r_compG, r_setComp, r_yes, r_isi_int_str, r_isi_str_str, r_slT, r_inR, r_notInR, cxOf_K, wish_K, blk_K, r_blk1, r_blk2, List.map_cons, List.map_nil, List.getElem?_cons_zero, List.getElem?_cons_succ, Option.join_some, r_Vs, r_dnewK, r_dput, r_exRp, r_gSub, List.set_cons_zero, List.set_cons_succ, r_midL, r_sfld, r_gfld, r_meth, r_make, r_listRng, r_kget1, r_iEnumT, r_sorted, r_any, r_count, blkZ_K, r_iItemsT, r_setT, r_dispT1, r_dnewT, r_tupRng]
  have s1 : Same H (upd H d (.dK [])) := Same.upd hd
  refine ⟨⟨_, SqL.of (s1 _ _ hC)⟩, ?_⟩
  refine fw_enum (xs := ps.map V.ref) (fun i σ H' => Same H H' ∧ H' d = some (.dK (FL.dFrom 0 (bss.take i))) ∧ ∃ o4 o5 o6 o7, σ = [some (.ref a), some (.ref b), some (.ref c), some (.ref d), o4, o5, o6, o7, none, none])
    ⟨s1, by rw [upd_same]; rfl, _, _, _, _, rfl⟩ (fun i σ H' _ h => SqL.of (h.1 _ _ hC)) ?_ ?_
  · rintro i x σ H1 pp hx hpp ⟨sm, hd1, o4, o5, o6, o7, rfl⟩
    rw [List.getElem?_map] at hx
    obtain ⟨p, hpx, rfl⟩ := Option.map_eq_some_iff.mp hx
    obtain ⟨bt, hb, hpb⟩ := Paired.get hps hpx
    have hm := List.mem_of_getElem? hb
    have hbl := FL.len_le_flat hm
    have gd := L.hP.good bt hm
    simp only [r_v0, r_g0, r_v1, r_g1, r_v2, r_g2, r_v3, r_g3, r_v4, r_g4, r_v5, r_g5, r_v6, r_g6, r_v7, r_g7, r_v8, r_g8, r_v9, r_g9, r_v10, r_g10, r_v11, r_g11, r_v12, r_g12, r_g13, r_g14, r_g15, r_c, r_op, r_un, r_I0, r_I, r_U, r_eqI, r_eqS, r_neI, r_exbl, r_exint, r_test, r_B, r_and, r_or, r_not, r_andV, r_orV, r_notV, r_if, r_next, r_seqL, r_brk, r_cont, r_drop, r_ret, r_retN, r_ifS, r_asg, r_CB, r_nil, r_cons, r_call, r_tup, r_lst, r_p0, r_pS, r_disp, r_dget, r_sl, r_noPart, r_part, r_gNil, r_gCons, r_itF, r_nT, r_nF, r_len0, r_len1, r_len2, r_len3, r_len4, r_len6, r_len7, r_for, r_iEnum, r_iList, r_iTup, r_iRng1, r_iRng2, r_exI1, r_exR1, r_exR, r_bm, r_bm0, r_ixL, r_ixT, r_cat, r_slL, r_append, r_exRl, r_gTup, true_and, and_true, forall_const, Int.reduceLT, r_compG, r_setComp, r_yes, r_isi_int_str, r_isi_str_str, r_slT, r_inR, r_notInR, cxOf_K, wish_K, blk_K, r_blk1, r_blk2, List.map_cons, List.map_nil, List.getElem?_cons_zero, List.getElem?_cons_succ, Option.join_some, r_Vs, r_dnewK, r_dput, r_exRp, r_gSub, List.set_cons_zero, List.set_cons_succ, r_midL, r_sfld, r_gfld, r_meth, r_make, r_listRng, r_kget1, r_iEnumT, r_sorted, r_any, r_count, blkZ_K, r_iItemsT, r_setT, r_dispT1, r_dnewT, r_tupRng]
    refine ⟨_, SqT.of upd_same, rfl, ?_⟩
    have s2 := Same.upd (o := .tup [.int i, .ref p]) hpp
    have sm2 := sm.trans s2
    have e2 := sm2 _ _ hpb
    have hd2 := s2 _ _ hd1
    generalize upd H1 pp (.tup [.int i, .ref p]) = H2 at sm2 e2 hd2 ⊢
    simp only [r_v0, r_g0, r_v1, r_g1, r_v2, r_g2, r_v3, r_g3, r_v4, r_g4, r_v5, r_g5, r_v6, r_g6, r_v7, r_g7, r_v8, r_g8, r_v9, r_g9, r_v10, r_g10, r_v11, r_g11, r_v12, r_g12, r_g13, r_g14, r_g15, r_c, r_op, r_un, r_I0, r_I, r_U, r_eqI, r_eqS, r_neI, r_exbl, r_exint, r_test, r_B, r_and, r_or, r_not, r_andV, r_orV, r_notV, r_if, r_next, r_seqL, r_brk, r_cont, r_drop, r_ret, r_retN, r_ifS, r_asg, r_CB, r_nil, r_cons, r_call, r_tup, r_lst, r_p0, r_pS, r_disp, r_dget, r_sl, r_noPart, r_part, r_gNil, r_gCons, r_itF, r_nT, r_nF, r_len0, r_len1, r_len2, r_len3, r_len4, r_len6, r_len7, r_for, r_iEnum, r_iList, r_iTup, r_iRng1, r_iRng2, r_exI1, r_exR1, r_exR, r_bm, r_bm0, r_ixL, r_ixT, r_cat, r_slL, r_append, r_exRl, r_gTup, true_and, and_true, forall_const, Int.reduceLT, r_compG, r_setComp, r_yes, r_isi_int_str, r_isi_str_str, r_slT, r_inR, r_notInR, cxOf_K, wish_K, blk_K, r_blk1, r_blk2, List.map_cons, List.map_nil, List.getElem?_cons_zero, List.getElem?_cons_succ, Option.join_some, r_Vs, r_dnewK, r_dput, r_exRp, r_gSub, List.set_cons_zero, List.set_cons_succ, r_midL, r_sfld, r_gfld, r_meth, r_make, r_listRng, r_kget1, r_iEnumT, r_sorted, r_any, r_count, blkZ_K, r_iItemsT, r_setT, r_dispT1, r_dnewT, r_tupRng]
    refine ⟨_, _, _, rfl, by decide +kernel, .lst (SqL.of e2), _, rfl, ?_⟩
    rw [show kindIs "list" "list" = true by decide +kernel, Bool.not_true, if_neg Bool.false_ne_true]
    refine ⟨_, .inl (SqL.of e2), ?_⟩
    rw [List.length_map]
    refine ite_dec (fun e => absurd (List.length_eq_zero_iff.mp (by omega)) gd.1) (fun _ => ?_)
    refine later ?_
    simp only [r_v0, r_g0, r_v1, r_g1, r_v2, r_g2, r_v3, r_g3, r_v4, r_g4, r_v5, r_g5, r_v6, r_g6, r_v7, r_g7, r_v8, r_g8, r_v9, r_g9, r_v10, r_g10, r_v11, r_g11, r_v12, r_g12, r_g13, r_g14, r_g15, r_c, r_op, r_un, r_I0, r_I, r_U, r_eqI, r_eqS, r_neI, r_exbl, r_exint, r_test, r_B, r_and, r_or, r_not, r_andV, r_orV, r_notV, r_if, r_next, r_seqL, r_brk, r_cont, r_drop, r_ret, r_retN, r_ifS, r_asg, r_CB, r_nil, r_cons, r_call, r_tup, r_lst, r_p0, r_pS, r_disp, r_dget, r_sl, r_noPart, r_part, r_gNil, r_gCons, r_itF, r_nT, r_nF, r_len0, r_len1, r_len2, r_len3, r_len4, r_len6, r_len7, r_for, r_iEnum, r_iList, r_iTup, r_iRng1, r_iRng2, r_exI1, r_exR1, r_exR, r_bm, r_bm0, r_ixL, r_ixT, r_cat, r_slL, r_append, r_exRl, r_gTup, true_and, and_true, forall_const, Int.reduceLT, r_compG, r_setComp, r_yes, r_isi_int_str, r_isi_str_str, r_slT, r_inR, r_notInR, cxOf_K, wish_K, blk_K, r_blk1, r_blk2, List.map_cons, List.map_nil, List.getElem?_cons_zero, List.getElem?_cons_succ, Option.join_some, r_Vs, r_dnewK, r_dput, r_exRp, r_gSub, List.set_cons_zero, List.set_cons_succ, r_midL, r_sfld, r_gfld, r_meth, r_make, r_listRng, r_kget1, r_iEnumT, r_sorted, r_any, r_count, blkZ_K, r_iItemsT, r_setT, r_dispT1, r_dnewT, r_tupRng]
    refine later ?_
    simp only [r_v0, r_g0, r_v1, r_g1, r_v2, r_g2, r_v3, r_g3, r_v4, r_g4, r_v5, r_g5, r_v6, r_g6, r_v7, r_g7, r_v8, r_g8, r_v9, r_g9, r_v10, r_g10, r_v11, r_g11, r_v12, r_g12, r_g13, r_g14, r_g15, r_c, r_op, r_un, r_I0, r_I, r_U, r_eqI, r_eqS, r_neI, r_exbl, r_exint, r_test, r_B, r_and, r_or, r_not, r_andV, r_orV, r_notV, r_if, r_next, r_seqL, r_brk, r_cont, r_drop, r_ret, r_retN, r_ifS, r_asg, r_CB, r_nil, r_cons, r_call, r_tup, r_lst, r_p0, r_pS, r_disp, r_dget, r_sl, r_noPart, r_part, r_gNil, r_gCons, r_itF, r_nT, r_nF, r_len0, r_len1, r_len2, r_len3, r_len4, r_len6, r_len7, r_for, r_iEnum, r_iList, r_iTup, r_iRng1, r_iRng2, r_exI1, r_exR1, r_exR, r_bm, r_bm0, r_ixL, r_ixT, r_cat, r_slL, r_append, r_exRl, r_gTup, true_and, and_true, forall_const, Int.reduceLT, r_compG, r_setComp, r_yes, r_isi_int_str, r_isi_str_str, r_slT, r_inR, r_notInR, cxOf_K, wish_K, blk_K, r_blk1, r_blk2, List.map_cons, List.map_nil, List.getElem?_cons_zero, List.getElem?_cons_succ, Option.join_some, r_Vs, r_dnewK, r_dput, r_exRp, r_gSub, List.set_cons_zero, List.set_cons_succ, r_midL, r_sfld, r_gfld, r_meth, r_make, r_listRng, r_kget1, r_iEnumT, r_sorted, r_any, r_count, blkZ_K, r_iItemsT, r_setT, r_dispT1, r_dnewT, r_tupRng]
    refine ⟨⟨_, SqL.of e2⟩, ?_⟩
    refine fw_list (xs := bt.map V.int) (fun j σ H' => Same H H' ∧ H' d = some (.dK (FL.dAt bss i bt j)) ∧ ∃ (la : Int) (o7 : Option V), σ = [some (.ref a), some (.ref b), some (.ref c), some (.ref d), some (.int i), some (.ref p), some (.int la), o7, none, none] ∧ ∀ z ∈ bt.drop j, la < z)
      ⟨sm2, by rw [FL.dAt_zero]; exact hd2, _, _, rfl, fun z hz => ?_⟩ (fun j σ H' _ h => SqL.of (h.1 _ _ hpb)) ?_ ?_
    · have := (L.hP.mem.mp (List.mem_flatten.mpr ⟨bt, hm, by simpa using hz⟩)).1
      omega
    · rintro j x σ H3 hx ⟨s4, hd3, la, o7, rfl, hla⟩
      rw [List.getElem?_map] at hx
      obtain ⟨z, hz, rfl⟩ := Option.map_eq_some_iff.mp hx
      obtain ⟨hj, ej⟩ := List.getElem?_eq_some_iff.mp hz
      have zm : z ∈ bss.flatten := List.mem_flatten.mpr ⟨bt, hm, List.mem_of_getElem? hz⟩
      have zr := L.hP.mem.mp zm
      have edr : bt.drop j = z :: bt.drop (j + 1) := by rw [List.drop_eq_getElem_cons hj, ej]
      have zla := hla z (by rw [edr]; simp)
      simp only [r_v0, r_g0, r_v1, r_g1, r_v2, r_g2, r_v3, r_g3, r_v4, r_g4, r_v5, r_g5, r_v6, r_g6, r_v7, r_g7, r_v8, r_g8, r_v9, r_g9, r_v10, r_g10, r_v11, r_g11, r_v12, r_g12, r_g13, r_g14, r_g15, r_c, r_op, r_un, r_I0, r_I, r_U, r_eqI, r_eqS, r_neI, r_exbl, r_exint, r_test, r_B, r_and, r_or, r_not, r_andV, r_orV, r_notV, r_if, r_next, r_seqL, r_brk, r_cont, r_drop, r_ret, r_retN, r_ifS, r_asg, r_CB, r_nil, r_cons, r_call, r_tup, r_lst, r_p0, r_pS, r_disp, r_dget, r_sl, r_noPart, r_part, r_gNil, r_gCons, r_itF, r_nT, r_nF, r_len0, r_len1, r_len2, r_len3, r_len4, r_len6, r_len7, r_for, r_iEnum, r_iList, r_iTup, r_iRng1, r_iRng2, r_exI1, r_exR1, r_exR, r_bm, r_bm0, r_ixL, r_ixT, r_cat, r_slL, r_append, r_exRl, r_gTup, true_and, and_true, forall_const, Int.reduceLT, r_compG, r_setComp, r_yes, r_isi_int_str, r_isi_str_str, r_slT, r_inR, r_notInR, cxOf_K, wish_K, blk_K, r_blk1, r_blk2, List.map_cons, List.map_nil, List.getElem?_cons_zero, List.getElem?_cons_succ, Option.join_some, r_Vs, r_dnewK, r_dput, r_exRp, r_gSub, List.set_cons_zero, List.set_cons_succ, r_midL, r_sfld, r_gfld, r_meth, r_make, r_listRng, r_kget1, r_iEnumT, r_sorted, r_any, r_count, blkZ_K, r_iItemsT, r_setT, r_dispT1, r_dnewT, r_tupRng, r_whole_i, r_din]
      refine ite_dec (fun z0 => absurd z0 (by omega)) (fun _ => ⟨xs, .inl (s4.seq L.hS), ite_dec (fun z1 => absurd z1 (by omega)) (fun _ => ?_)⟩)
      refine ⟨d, _, rfl, .inl ⟨_, .inl z, .inl hd3, rfl, rfl⟩, ?_⟩
      rw [FL.val_some FL.dAt_keys]
      have fr := FL.fresh_at hb hz L.hP.nodup
      refine ite_dec (fun z2 => absurd z2 fr) (fun _ => ?_)
      refine later ?_
      simp only [r_v0, r_g0, r_v1, r_g1, r_v2, r_g2, r_v3, r_g3, r_v4, r_g4, r_v5, r_g5, r_v6, r_g6, r_v7, r_g7, r_v8, r_g8, r_v9, r_g9, r_v10, r_g10, r_v11, r_g11, r_v12, r_g12, r_g13, r_g14, r_g15, r_c, r_op, r_un, r_I0, r_I, r_U, r_eqI, r_eqS, r_neI, r_exbl, r_exint, r_test, r_B, r_and, r_or, r_not, r_andV, r_orV, r_notV, r_if, r_next, r_seqL, r_brk, r_cont, r_drop, r_ret, r_retN, r_ifS, r_asg, r_CB, r_nil, r_cons, r_call, r_tup, r_lst, r_p0, r_pS, r_disp, r_dget, r_sl, r_noPart, r_part, r_gNil, r_gCons, r_itF, r_nT, r_nF, r_len0, r_len1, r_len2, r_len3, r_len4, r_len6, r_len7, r_for, r_iEnum, r_iList, r_iTup, r_iRng1, r_iRng2, r_exI1, r_exR1, r_exR, r_bm, r_bm0, r_ixL, r_ixT, r_cat, r_slL, r_append, r_exRl, r_gTup, true_and, and_true, forall_const, Int.reduceLT, r_compG, r_setComp, r_yes, r_isi_int_str, r_isi_str_str, r_slT, r_inR, r_notInR, cxOf_K, wish_K, blk_K, r_blk1, r_blk2, List.map_cons, List.map_nil, List.getElem?_cons_zero, List.getElem?_cons_succ, Option.join_some, r_Vs, r_dnewK, r_dput, r_exRp, r_gSub, List.set_cons_zero, List.set_cons_succ, r_midL, r_sfld, r_gfld, r_meth, r_make, r_listRng, r_kget1, r_iEnumT, r_sorted, r_any, r_count, blkZ_K, r_iItemsT, r_setT, r_dispT1, r_dnewT, r_tupRng]
      have hlen2 := FL.dAt_len (j := j) hb
      refine ⟨_, DPut.k (k := .inl z) hd3 (by rw [sizeLine_eq]; omega), ?_⟩
      refine later ?_
      simp_arith [r_listRng, r_kget1, r_iEnumT, r_sorted, r_any, r_count, blkZ_K, r_iItemsT, r_setT, r_dispT1, r_dnewT, r_tupRng]
      refine ⟨s4.updM hd, by rw [upd_same, FL.dAt_put hz fr], z, _, rfl, fun y hy => ?_⟩
      have srt := L.hr bt hm
      rw [← List.take_append_drop j bt, edr] at srt
      exact (List.pairwise_cons.mp (List.pairwise_append.mp srt).2.1).1 y hy
    · rintro σ H3 ⟨s4, hd3, la, o7, rfl, hla⟩
      rw [List.length_map, FL.dAt_all hb] at hd3
      dsimp only
      refine later ?_
      simp_arith [r_listRng, r_kget1, r_iEnumT, r_sorted, r_any, r_count, blkZ_K, r_iItemsT, r_setT, r_dispT1, r_dnewT, r_tupRng]
      refine ⟨a, p, b, rfl, ?_⟩
      rw [r_units]
      refine ⟨xs, ds, us, bt, s4.seq L.hS, L.hds.ts s4.ts, s4.seqT L.hU, L.h3, SqL.of (s4 _ _ hpb), by omega, fun z hz => L.hP.mem.mp (List.mem_flatten.mpr ⟨bt, hm, hz⟩), fun H4 s5 => ⟨_, rfl, ?_⟩⟩
      rw [L.hl bt hm]
      simp only [Bool.not_true, Bool.false_eq_true, if_false]
      exact ⟨s4.trans s5, s5 _ _ hd3, _, _, _, _, rfl⟩
  · rintro σ H1 ⟨sm, hd1, o4, o5, o6, o7, rfl⟩
    rw [List.length_map, lps, List.take_length] at hd1
    dsimp only
    refine later ?_
    simp only [r_v0, r_g0, r_v1, r_g1, r_v2, r_g2, r_v3, r_g3, r_v4, r_g4, r_v5, r_g5, r_v6, r_g6, r_v7, r_g7, r_v8, r_g8, r_v9, r_g9, r_v10, r_g10, r_v11, r_g11, r_v12, r_g12, r_g13, r_g14, r_g15, r_c, r_op, r_un, r_I0, r_I, r_U, r_eqI, r_eqS, r_neI, r_exbl, r_exint, r_test, r_B, r_and, r_or, r_not, r_andV, r_orV, r_notV, r_if, r_next, r_seqL, r_brk, r_cont, r_drop, r_ret, r_retN, r_ifS, r_asg, r_CB, r_nil, r_cons, r_call, r_tup, r_lst, r_p0, r_pS, r_disp, r_dget, r_sl, r_noPart, r_part, r_gNil, r_gCons, r_itF, r_nT, r_nF, r_len0, r_len1, r_len2, r_len3, r_len4, r_len6, r_len7, r_for, r_iEnum, r_iList, r_iTup, r_iRng1, r_iRng2, r_exI1, r_exR1, r_exR, r_bm, r_bm0, r_ixL, r_ixT, r_cat, r_slL, r_append, r_exRl, r_gTup, true_and, and_true, forall_const, Int.reduceLT, r_compG, r_setComp, r_yes, r_isi_int_str, r_isi_str_str, r_slT, r_inR, r_notInR, cxOf_K, wish_K, blk_K, r_blk1, r_blk2, List.map_cons, List.map_nil, List.getElem?_cons_zero, List.getElem?_cons_succ, Option.join_some, r_Vs, r_dnewK, r_dput, r_exRp, r_gSub, List.set_cons_zero, List.set_cons_succ, r_midL, r_sfld, r_gfld, r_meth, r_make, r_listRng, r_kget1, r_iEnumT, r_sorted, r_any, r_count, blkZ_K, r_iItemsT, r_setT, r_dispT1, r_dnewT, r_tupRng]
    refine ⟨d, _, rfl, hd1, xs, .inl (sm.seq L.hS), ?_⟩
    rw [FL.dFrom_take_len, lx]
    refine ite_ndec (fun z => absurd (by rw [L.hP.len]) z) (fun _ => ?_)
    refine later ?_
    simp only [r_v0, r_g0, r_v1, r_g1, r_v2, r_g2, r_v3, r_g3, r_v4, r_g4, r_v5, r_g5, r_v6, r_g6, r_v7, r_g7, r_v8, r_g8, r_v9, r_g9, r_v10, r_g10, r_v11, r_g11, r_v12, r_g12, r_g13, r_g14, r_g15, r_c, r_op, r_un, r_I0, r_I, r_U, r_eqI, r_eqS, r_neI, r_exbl, r_exint, r_test, r_B, r_and, r_or, r_not, r_andV, r_orV, r_notV, r_if, r_next, r_seqL, r_brk, r_cont, r_drop, r_ret, r_retN, r_ifS, r_asg, r_CB, r_nil, r_cons, r_call, r_tup, r_lst, r_p0, r_pS, r_disp, r_dget, r_sl, r_noPart, r_part, r_gNil, r_gCons, r_itF, r_nT, r_nF, r_len0, r_len1, r_len2, r_len3, r_len4, r_len6, r_len7, r_for, r_iEnum, r_iList, r_iTup, r_iRng1, r_iRng2, r_exI1, r_exR1, r_exR, r_bm, r_bm0, r_ixL, r_ixT, r_cat, r_slL, r_append, r_exRl, r_gTup, true_and, and_true, forall_const, Int.reduceLT, r_compG, r_setComp, r_yes, r_isi_int_str, r_isi_str_str, r_slT, r_inR, r_notInR, cxOf_K, wish_K, blk_K, r_blk1, r_blk2, List.map_cons, List.map_nil, List.getElem?_cons_zero, List.getElem?_cons_succ, Option.join_some, r_Vs, r_dnewK, r_dput, r_exRp, r_gSub, List.set_cons_zero, List.set_cons_succ, r_midL, r_sfld, r_gfld, r_meth, r_make, r_listRng, r_kget1, r_iEnumT, r_sorted, r_any, r_count, blkZ_K, r_iItemsT, r_setT, r_dispT1, r_dnewT, r_tupRng]
    refine ⟨xs, .inl (sm.seq L.hS), by omega, by omega, ?_⟩
    rw [Int.toNat_natCast, lx]
    have val : ∀ k : Nat, k < ds.length → ∀ H', H' d = some (.dK (FL.dFrom 0 bss)) → DGet H' d (.int k) (some (.int (FL.atF bss k))) := fun k hk H' e => .inl ⟨_, .inl k, .inl e, rfl, (FL.atF_val (L.hP.mem.mpr (by omega))).symm⟩
    refine fw_range0 (fun k σ H' => Same H H' ∧ H' d = some (.dK (FL.dFrom 0 bss)) ∧ ∃ o7 o8 o9, σ = [some (.ref a), some (.ref b), some (.ref c), some (.ref d), o4, o5, o6, o7, o8, o9]) ⟨sm, hd1, _, _, _, rfl⟩ ?_ ?_
    · rintro k σ H2 hk ⟨s2, hd2, p7, p8, p9, rfl⟩
      simp only [r_v0, r_g0, r_v1, r_g1, r_v2, r_g2, r_v3, r_g3, r_v4, r_g4, r_v5, r_g5, r_v6, r_g6, r_v7, r_g7, r_v8, r_g8, r_v9, r_g9, r_v10, r_g10, r_v11, r_g11, r_v12, r_g12, r_g13, r_g14, r_g15, r_c, r_op, r_un, r_I0, r_I, r_U, r_eqI, r_eqS, r_neI, r_exbl, r_exint, r_test, r_B, r_and, r_or, r_not, r_andV, r_orV, r_notV, r_if, r_next, r_seqL, r_brk, r_cont, r_drop, r_ret, r_retN, r_ifS, r_asg, r_CB, r_nil, r_cons, r_call, r_tup, r_lst, r_p0, r_pS, r_disp, r_dget, r_sl, r_noPart, r_part, r_gNil, r_gCons, r_itF, r_nT, r_nF, r_len0, r_len1, r_len2, r_len3, r_len4, r_len6, r_len7, r_for, r_iEnum, r_iList, r_iTup, r_iRng1, r_iRng2, r_exI1, r_exR1, r_exR, r_bm, r_bm0, r_ixL, r_ixT, r_cat, r_slL, r_append, r_exRl, r_gTup, true_and, and_true, forall_const, Int.reduceLT, r_compG, r_setComp, r_yes, r_isi_int_str, r_isi_str_str, r_slT, r_inR, r_notInR, cxOf_K, wish_K, blk_K, r_blk1, r_blk2, List.map_cons, List.map_nil, List.getElem?_cons_zero, List.getElem?_cons_succ, Option.join_some, r_Vs, r_dnewK, r_dput, r_exRp, r_gSub, List.set_cons_zero, List.set_cons_succ, r_midL, r_sfld, r_gfld, r_meth, r_make, r_listRng, r_kget1, r_iEnumT, r_sorted, r_any, r_count, blkZ_K, r_iItemsT, r_setT, r_dispT1, r_dnewT, r_tupRng]
      refine ⟨by omega, by omega, ?_⟩
      rw [Int.toNat_natCast]
      refine fw_range0 (fun j σ H' => Same H H' ∧ H' d = some (.dK (FL.dFrom 0 bss)) ∧ ∃ o8 o9, σ = [some (.ref a), some (.ref b), some (.ref c), some (.ref d), o4, o5, o6, some (.int k), o8, o9]) ⟨s2, hd2, _, _, rfl⟩ ?_ ?_
      · rintro j σ H3 hj ⟨s3, hd3, p8, p9, rfl⟩
        simp only [r_v0, r_g0, r_v1, r_g1, r_v2, r_g2, r_v3, r_g3, r_v4, r_g4, r_v5, r_g5, r_v6, r_g6, r_v7, r_g7, r_v8, r_g8, r_v9, r_g9, r_v10, r_g10, r_v11, r_g11, r_v12, r_g12, r_g13, r_g14, r_g15, r_c, r_op, r_un, r_I0, r_I, r_U, r_eqI, r_eqS, r_neI, r_exbl, r_exint, r_test, r_B, r_and, r_or, r_not, r_andV, r_orV, r_notV, r_if, r_next, r_seqL, r_brk, r_cont, r_drop, r_ret, r_retN, r_ifS, r_asg, r_CB, r_nil, r_cons, r_call, r_tup, r_lst, r_p0, r_pS, r_disp, r_dget, r_sl, r_noPart, r_part, r_gNil, r_gCons, r_itF, r_nT, r_nF, r_len0, r_len1, r_len2, r_len3, r_len4, r_len6, r_len7, r_for, r_iEnum, r_iList, r_iTup, r_iRng1, r_iRng2, r_exI1, r_exR1, r_exR, r_bm, r_bm0, r_ixL, r_ixT, r_cat, r_slL, r_append, r_exRl, r_gTup, true_and, and_true, forall_const, Int.reduceLT, r_compG, r_setComp, r_yes, r_isi_int_str, r_isi_str_str, r_slT, r_inR, r_notInR, cxOf_K, wish_K, blk_K, r_blk1, r_blk2, List.map_cons, List.map_nil, List.getElem?_cons_zero, List.getElem?_cons_succ, Option.join_some, r_Vs, r_dnewK, r_dput, r_exRp, r_gSub, List.set_cons_zero, List.set_cons_succ, r_midL, r_sfld, r_gfld, r_meth, r_make, r_listRng, r_kget1, r_iEnumT, r_sorted, r_any, r_count, blkZ_K, r_iItemsT, r_setT, r_dispT1, r_dnewT, r_tupRng, r_lgap]
        obtain ⟨x, hx⟩ : ∃ x, xs[j]? = some x := ⟨_, List.getElem?_eq_getElem (by omega)⟩
        obtain ⟨y, hy⟩ : ∃ y, xs[k]? = some y := ⟨_, List.getElem?_eq_getElem (by omega)⟩
        obtain ⟨dj, hdj, fj, qx, rfl, hqx⟩ := Paired.get (L.hds.ts s3.ts) hx
        obtain ⟨dk, hdk, fk, qy, rfl, hqy⟩ := Paired.get (L.hds.ts s3.ts) hy
        have eg : gapN ds j k = FB.gapD dj dk := by unfold gapN; rw [hdj, hdk]
        refine ⟨_, _, s3.seq L.hS, atI_nat hx, _, _, s3.seq L.hS, atI_nat hy, ?_⟩
        simp only [r_v0, r_g0, r_v1, r_g1, r_v2, r_g2, r_v3, r_g3, r_v4, r_g4, r_v5, r_g5, r_v6, r_g6, r_v7, r_g7, r_v8, r_g8, r_v9, r_g9, r_v10, r_g10, r_v11, r_g11, r_v12, r_g12, r_g13, r_g14, r_g15, r_c, r_op, r_un, r_I0, r_I, r_U, r_eqI, r_eqS, r_neI, r_exbl, r_exint, r_test, r_B, r_and, r_or, r_not, r_andV, r_orV, r_notV, r_if, r_next, r_seqL, r_brk, r_cont, r_drop, r_ret, r_retN, r_ifS, r_asg, r_CB, r_nil, r_cons, r_call, r_tup, r_lst, r_p0, r_pS, r_disp, r_dget, r_sl, r_noPart, r_part, r_gNil, r_gCons, r_itF, r_nT, r_nF, r_len0, r_len1, r_len2, r_len3, r_len4, r_len6, r_len7, r_for, r_iEnum, r_iList, r_iTup, r_iRng1, r_iRng2, r_exI1, r_exR1, r_exR, r_bm, r_bm0, r_ixL, r_ixT, r_cat, r_slL, r_append, r_exRl, r_gTup, true_and, and_true, forall_const, Int.reduceLT, r_compG, r_setComp, r_yes, r_isi_int_str, r_isi_str_str, r_slT, r_inR, r_notInR, cxOf_K, wish_K, blk_K, r_blk1, r_blk2, List.map_cons, List.map_nil, List.getElem?_cons_zero, List.getElem?_cons_succ, Option.join_some, r_Vs, r_dnewK, r_dput, r_exRp, r_gSub, List.set_cons_zero, List.set_cons_succ, r_midL, r_sfld, r_gfld, r_meth, r_make, r_listRng, r_kget1, r_iEnumT, r_sorted, r_any, r_count, blkZ_K, r_iItemsT, r_setT, r_dispT1, r_dnewT, r_tupRng, r_lgap]
        refine ⟨dj, dk, hqx, hqy, fj, fk, fun H4 s4 => ?_⟩
        rw [← eg]
        have hd4 := s4 _ _ hd3
        refine later ?_
        cases hg : gapN ds j k with
        | none =>
          simp_arith [r_listRng, r_kget1, r_iEnumT, r_sorted, r_any, r_count, blkZ_K, r_iItemsT, r_setT, r_dispT1, r_dnewT, r_tupRng, FB.optV]
          refine ite_ndec (fun z => absurd trivial z) (fun _ => ⟨s3.trans s4, hd4, _, _, rfl⟩)
        | some g =>
          have hle := L.hg j k g hk hj hg
          simp_arith [r_listRng, r_kget1, r_iEnumT, r_sorted, r_any, r_count, blkZ_K, r_iItemsT, r_setT, r_dispT1, r_dnewT, r_tupRng, FB.optV]
          refine ite_ndec (fun _ => ?_) (fun z => by cases z)
          refine ⟨d, _, rfl, val k hk _ hd4, d, _, rfl, val j (by omega) _ hd4, ?_⟩
          simp_arith [r_listRng, r_kget1, r_iEnumT, r_sorted, r_any, r_count, blkZ_K, r_iItemsT, r_setT, r_dispT1, r_dnewT, r_tupRng]
          exact ite_dec (fun z => absurd z (by omega)) (fun z => ⟨s3.trans s4, hd4, _, _, rfl⟩)
      · rintro σ H3 ⟨s3, hd3, p8, p9, rfl⟩
        exact ⟨s3, hd3, _, _, _, rfl⟩
    · rintro σ H2 ⟨s2, hd2, p7, p8, p9, rfl⟩
      dsimp only
      refine later ?_
      simp_arith [r_listRng, r_kget1, r_iEnumT, r_sorted, r_any, r_count, blkZ_K, r_iItemsT, r_setT, r_dispT1, r_dnewT, r_tupRng]
      exact q _ s2
end
end K32
set_option maxHeartbeats 4000000
namespace K32
open PySem L2 PyProof.Rows FA
noncomputable def LnK (H : Hp) (q : Addr) (ds : List FB.Deed) (k : Nat) : Prop := ∃ ts : List Addr, H q = some (.lst (ts.map V.ref)) ∧ Paired (fun t (j : Nat) => ∃ l, gapN ds j k = some l ∧ H t = some (.tup [.int j, .int l])) ts ((List.range k).filter fun j => (gapN ds j k).isSome)
noncomputable def LnV (H : Hp) (c : Addr) (ds : List FB.Deed) (m : Nat) : Prop := ∃ qs : List Addr, H c = some (.lst (qs.map V.ref)) ∧ qs.length = m ∧ ∀ (k : Nat) q, qs[k]? = some q → q ≠ c ∧ LnK H q ds k
theorem LnK.same {H H' : Hp} {q : Addr} {ds : List FB.Deed} {k : Nat} (s : Same H H') (h : LnK H q ds k) : LnK H' q ds k :=
  let ⟨ts, e, r⟩ := h; ⟨ts, s _ _ e, Paired.mapP r fun _ _ ⟨l, z1, z2⟩ => ⟨l, z1, s _ _ z2⟩⟩
theorem LnK.upd {H : Hp} {q p : Addr} {o u : HO} {ds : List FB.Deed} {k : Nat} (h : LnK H q ds k) (hq : q ≠ p) (e : H p = some u) (hu : ∀ xs, u ≠ .tup xs) : LnK (upd H p o) q ds k :=
  let ⟨ts, e1, r⟩ := h; ⟨ts, by rw [upd_ne hq]; exact e1, Paired.mapP r fun _ _ ⟨l, z1, z2⟩ => ⟨l, z1, by rw [upd_ne (ne_of z2 e (fun z => hu _ z.symm))]; exact z2⟩⟩
theorem LnV.same {H H' : Hp} {c : Addr} {ds : List FB.Deed} {m : Nat} (s : Same H H') (h : LnV H c ds m) : LnV H' c ds m :=
  let ⟨qs, e, l, r⟩ := h; ⟨qs, s _ _ e, l, fun k q hk => ⟨(r k q hk).1, (r k q hk).2.same s⟩⟩
noncomputable def sp_leans (K : PySem.W.Frag) : Sp := fun vs H Q _ => ∃ (a : Addr) (xs : List V) (ds : List FB.Deed), vs = [.ref a] ∧ SqL K H a xs ∧ DeedsV K H xs ds ∧ ds.length ≤ 8 ∧ ∀ c H', Same H H' → LnV H' c ds ds.length → Q (.ref c) H'
section
variable {P : Program} {w : World} {K : PySem.W.Frag} {mg : Str → Option Value} {base : Heap} {t : Ad}
theorem r_leans {a : Addr} {H : Hp} {Q : VK} {E : XK} : sp_leans K [.ref a] H Q E = ∃ (xs : List V) (ds : List FB.Deed), SqL K H a xs ∧ DeedsV K H xs ds ∧ ds.length ≤ 8 ∧ ∀ c H', Same H H' → LnV H' c ds ds.length → Q (.ref c) H' := propext ⟨by rintro ⟨_, xs, ds, e, q⟩; cases e; exact ⟨xs, ds, q⟩, by rintro ⟨xs, ds, q⟩; exact ⟨a, xs, ds, rfl, q⟩⟩
theorem ok_leans (T : Txt K mg t) : FnOk P w K mg base CX0 4 t.f__law_leans t.e__law_leans ["_law_deeds_here"] (sp_leans K) := by
  have G__law_gap := ok_lgap (P := P) (w := w) (base := base) T
  refine T.d__law_leans.F.ok sc__law_leans (fun vs H Q E h => by obtain ⟨_, _, _, rfl, _⟩ := h; rfl) (fun cdv A outer s H vs Q E hr h => ?_)
  obtain ⟨a, xs, ds, rfl, hS, hds, h8, q⟩ := h
  have lx := hds.length
  refine ⟨_,
      (XSs.h
      (xpss_cons
        (xps_set (i := 1) sc__law_leans.nd rfl ll (xpe_lst xpa_nil))
      (xpss_cons
        (xps_for PassesOwn.never rfl (xpi_range1 gl T.z_range (xpa_cons (xqe_callB call_len_seq gl T.z_len PySem.boot_len (xpa_cons (xqv 0 vc) xpa_nil)) xpa_nil)) (xpg_name (i := 2) sc__law_leans.nd rfl lc)
          (xpss_cons
            (xps_setComp (i := 3) sc__law_leans.nd rfl ll rfl (by kernel_rfl) (tns := ["_law_j"]) (cns := ["_law_deeds_here", "_law_k"]) (ci := [0, 2]) rfl (CompSc.of (by kernel_rfl)) (xpi_range1 gl T.z_range (xpa_cons (xqv 2 vc) xpa_nil)) (fun _ => (xpg_name (i := 1) (show List.Nodup [(".0" : Str), ("_law_j" : Str), ("_law_deeds_here" : Str), ("_law_k" : Str)] by decide +kernel) rfl ll (Or.inr (by kernel_rfl)))) (fun _ => xpf_nil) (fun _ => (xpe_tup (xpa_cons (xqv 1 vl) (xpa_cons (xqe_callD T.d__law_gap G__law_gap (hr.mono (by first | decide | omega)) (xpa_cons (xpe_ix ix_list (xqv 2 vc) (xqv 1 vl) (fun _ _ => rfl)) (xpa_cons (xpe_ix ix_list (xqv 2 vc) (xqv 3 vc) (fun _ _ => rfl)) xpa_nil)) gl) xpa_nil)))))
          (xpss_one
            (xps_expr (xpe_bm PySem.F.plainAttrs_list PySem.F.slot_list_append PySem.F.type_list_append mt_append (xqv 1 vl) (xpa_cons (xpe_compG (tns := ["_law_j", "_law_far"]) (cns := []) (ci := []) rfl (CompSc.of (by kernel_rfl)) (xpi_list (xqv 3 vl)) (fun _ => (xpg_tup rfl (xpgs_cons (xpg_name (i := 1) (show List.Nodup [(".0" : Str), ("_law_j" : Str), ("_law_far" : Str)] by decide +kernel) rfl ll (Or.inr (by kernel_rfl))) (xpgs_cons (xpg_name (i := 2) (show List.Nodup [(".0" : Str), ("_law_j" : Str), ("_law_far" : Str)] by decide +kernel) rfl ll (Or.inr (by kernel_rfl))) xpgs_nil)))) (fun _ => (xpf_one (xpt_cmpR op_notN (xqv 2 vl) xpe_non (nomark _)))) (fun _ => (xpe_tup (xpa_cons (xqv 1 vl) (xpa_cons (xqv 2 vl) xpa_nil))))) xpa_nil))))))
      (xpss_one
        (xps_ret (xqv 1 vl)))))), ?_⟩
  rw [show start _ [V.ref a] = [some (.ref a), none, none, none] from rfl]
  simp only [r_v0, r_g0, r_v1, r_g1, r_v2, r_g2, r_v3, r_g3, r_v4, r_g4, r_v5, r_g5, r_v6, r_g6, r_v7, r_g7, r_v8, r_g8, r_v9, r_g9, r_v10, r_g10, r_v11, r_g11, r_v12, r_g12, r_g13, r_g14, r_g15, r_c, r_op, r_un, r_I0, r_I, r_U, r_eqI, r_eqS, r_neI, r_exbl, r_exint, r_test, r_B, r_and, r_or, r_not, r_andV, r_orV, r_notV, r_if, r_next, r_seqL, r_brk, r_cont, r_drop, r_ret, r_retN, r_ifS, r_asg, r_CB, r_nil, r_cons, r_call, r_tup, r_lst, r_p0, r_pS, r_disp, r_dget, r_sl, r_noPart, r_part, r_gNil, r_gCons, r_itF, r_nT, r_nF, r_len0, r_len1, r_len2, r_len3, r_len4, r_len6, r_len7, r_for, r_iEnum, r_iList, r_iTup, r_iRng1, r_iRng2, r_exI1, r_exR1, r_exR, r_bm, r_bm0, r_ixL, r_ixT, r_cat, r_slL, r_append, r_exRl, r_gTup, true_and, and_true, forall_const, Int.reduceLT, r_compG, r_setComp, r_yes, r_isi_int_str, r_isi_str_str, r_slT, r_inR, r_notInR, cxOf_K, wish_K, blk_K, r_blk1, r_blk2, List.map_cons, List.map_nil, List.getElem?_cons_zero, List.getElem?_cons_succ, Option.join_some, r_Vs, r_dnewK, r_dput, r_exRp, r_gSub, List.set_cons_zero, List.set_cons_succ, r_midL, r_sfld, r_gfld, r_meth, r_make, r_listRng, r_kget1, r_iEnumT, r_sorted, r_any, r_count, blkZ_K, r_iItemsT, r_setT, r_dispT1, r_dnewT, r_tupRng]
  intro f hf
  refine later ?_
  simp only [r_v0, r_g0, r_v1, r_g1, r_v2, r_g2, r_v3, r_g3, r_v4, r_g4, r_v5, r_g5, r_v6, r_g6, r_v7, r_g7, r_v8, r_g8, r_v9, r_g9, r_v10, r_g10, r_v11, r_g11, r_v12, r_g12, r_g13, r_g14, r_g15, r_c, r_op, r_un, r_I0, r_I, r_U, r_eqI, r_eqS, r_neI, r_exbl, r_exint, r_test, r_B, r_and, r_or, r_not, r_andV, r_orV, r_notV, r_if, r_next, r_seqL, r_brk, r_cont, r_drop, r_ret, r_retN, r_ifS, r_asg, r_CB, r_nil, r_cons, r_call, r_tup, r_lst, r_p0, r_pS, r_disp, r_dget, r_sl, r_noPart, r_part, r_gNil, r_gCons, r_itF, r_nT, r_nF, r_len0, r_len1, r_len2, r_len3, r_len4, r_len6, r_len7, r_for, r_iEnum, r_iList, r_iTup, r_iRng1, r_iRng2, r_exI1, r_exR1, r_exR, r_bm, r_bm0, r_ixL, r_ixT, r_cat, r_slL, r_append, r_exRl, r_gTup, true_and, and_true, forall_const, Int.reduceLT, r_compG, r_setComp, r_yes, r_isi_int_str, r_isi_str_str, r_slT, r_inR, r_notInR, cxOf_K, wish_K, blk_K, r_blk1, r_blk2, List.map_cons, List.map_nil, List.getElem?_cons_zero, List.getElem?_cons_succ, Option.join_some, r_Vs, r_dnewK, r_dput, r_exRp, r_gSub, List.set_cons_zero, List.set_cons_succ, r_midL, r_sfld, r_gfld, r_meth, r_make, r_listRng, r_kget1, r_iEnumT, r_sorted, r_any, r_count, blkZ_K, r_iItemsT, r_setT, r_dispT1, r_dnewT, r_tupRng]
  refine ⟨xs, .inl ((Same.upd hf).seq hS), by omega, by omega, ?_⟩
  rw [Int.toNat_natCast, lx]
  refine fw_range0 (fun k σ H' => Same H H' ∧ (∃ o2 o3, σ = [some (.ref a), some (.ref f), o2, o3]) ∧ LnV H' f ds k) ⟨Same.upd hf, ⟨_, _, rfl⟩, [], upd_same, rfl, fun k q h => by simp at h⟩ ?_ ?_
  · rintro k σ H1 hk ⟨s1, ⟨o2, o3, rfl⟩, qs, hq1, lq, hqs⟩
    simp only [r_v0, r_g0, r_v1, r_g1, r_v2, r_g2, r_v3, r_g3, r_v4, r_g4, r_v5, r_g5, r_v6, r_g6, r_v7, r_g7, r_v8, r_g8, r_v9, r_g9, r_v10, r_g10, r_v11, r_g11, r_v12, r_g12, r_g13, r_g14, r_g15, r_c, r_op, r_un, r_I0, r_I, r_U, r_eqI, r_eqS, r_neI, r_exbl, r_exint, r_test, r_B, r_and, r_or, r_not, r_andV, r_orV, r_notV, r_if, r_next, r_seqL, r_brk, r_cont, r_drop, r_ret, r_retN, r_ifS, r_asg, r_CB, r_nil, r_cons, r_call, r_tup, r_lst, r_p0, r_pS, r_disp, r_dget, r_sl, r_noPart, r_part, r_gNil, r_gCons, r_itF, r_nT, r_nF, r_len0, r_len1, r_len2, r_len3, r_len4, r_len6, r_len7, r_for, r_iEnum, r_iList, r_iTup, r_iRng1, r_iRng2, r_exI1, r_exR1, r_exR, r_bm, r_bm0, r_ixL, r_ixT, r_cat, r_slL, r_append, r_exRl, r_gTup, true_and, and_true, forall_const, Int.reduceLT, r_compG, r_setComp, r_yes, r_isi_int_str, r_isi_str_str, r_slT, r_inR, r_notInR, cxOf_K, wish_K, blk_K, r_blk1, r_blk2, List.map_cons, List.map_nil, List.getElem?_cons_zero, List.getElem?_cons_succ, Option.join_some, r_Vs, r_dnewK, r_dput, r_exRp, r_gSub, List.set_cons_zero, List.set_cons_succ, r_midL, r_sfld, r_gfld, r_meth, r_make, r_listRng, r_kget1, r_iEnumT, r_sorted, r_any, r_count, blkZ_K, r_iItemsT, r_setT, r_dispT1, r_dnewT, r_tupRng, r_lgap]
    refine ⟨by omega, by omega, fun acc hacc bk => ?_⟩
    rw [Int.toNat_natCast]
    refine cg_range (fun j ys H' => Same H1 H' ∧ ∃ ts : List Addr, ys = ts.map V.ref ∧ H' acc = some (.lst ys) ∧ Paired (fun t (j : Nat) => H' t = some (.tup [.int j, FB.optV (gapN ds j k)])) ts (List.range j)) ⟨Same.upd hacc, [], rfl, upd_same, .nil⟩ ?_ ?_
    · rintro j ys H2 os hj ho ⟨s2, ts, rfl, e2, hts⟩
      rw [show (0 : Int) + (j : Int) = (j : Int) by omega]
      have lts := hts.length
      rw [List.length_range] at lts
      match os, ho with
      | [o], _ =>
        have s3 := s1.trans s2
        obtain ⟨x, hx⟩ : ∃ x, xs[j]? = some x := ⟨_, List.getElem?_eq_getElem (by omega)⟩
        obtain ⟨y, hy⟩ : ∃ y, xs[k]? = some y := ⟨_, List.getElem?_eq_getElem (by omega)⟩
        obtain ⟨dj, hdj, fj, qx, rfl, hqx⟩ := Paired.get (hds.ts s3.ts) hx
        obtain ⟨dk, hdk, fk, qy, rfl, hqy⟩ := Paired.get (hds.ts s3.ts) hy
        have eg : gapN ds j k = FB.gapD dj dk := by unfold gapN; rw [hdj, hdk]
        simp_arith [r_listRng, r_kget1, r_iEnumT, r_sorted, r_any, r_count, blkZ_K, r_iItemsT, r_setT, r_dispT1, r_dnewT, r_tupRng, r_lgap]
        refine ⟨⟨[some (.int j)], rfl, rfl⟩, ?_⟩
        refine ⟨_, _, s3.seq hS, atI_nat hx, _, _, s3.seq hS, atI_nat hy, ?_⟩
        simp_arith [r_listRng, r_kget1, r_iEnumT, r_sorted, r_any, r_count, blkZ_K, r_iItemsT, r_setT, r_dispT1, r_dnewT, r_tupRng, r_lgap]
        refine ⟨dj, dk, hqx, hqy, fj, fk, fun H4 s4 p hp => ?_⟩
        rw [← eg]
        have s5 := s4.trans (Same.upd (o := .tup [.int j, FB.optV (gapN ds j k)]) hp)
        refine ⟨s5 _ _ e2, by rw [List.length_map, sizeLine_eq]; omega, (s2.trans s5).updM hacc, ts ++ [p], by rw [List.map_append]; rfl, upd_same, ?_⟩
        rw [List.range_succ]
        refine Paired.snoc (Paired.mapP hts fun t j' z => ?_) ?_
        · rw [upd_ne (ne_of (s5 _ _ z) (s5 _ _ e2) (by intro y; cases y))]; exact s5 _ _ z
        · rw [upd_ne (ne_of_none (s4 _ _ e2) hp).symm]; exact upd_same
    · rintro ys H2 ⟨s2, ts, rfl, e2, hts⟩
      have lts := hts.length
      rw [List.length_range] at lts
      refine later ?_
      simp only [r_v0, r_g0, r_v1, r_g1, r_v2, r_g2, r_v3, r_g3, r_v4, r_g4, r_v5, r_g5, r_v6, r_g6, r_v7, r_g7, r_v8, r_g8, r_v9, r_g9, r_v10, r_g10, r_v11, r_g11, r_v12, r_g12, r_g13, r_g14, r_g15, r_c, r_op, r_un, r_I0, r_I, r_U, r_eqI, r_eqS, r_neI, r_exbl, r_exint, r_test, r_B, r_and, r_or, r_not, r_andV, r_orV, r_notV, r_if, r_next, r_seqL, r_brk, r_cont, r_drop, r_ret, r_retN, r_ifS, r_asg, r_CB, r_nil, r_cons, r_call, r_tup, r_lst, r_p0, r_pS, r_disp, r_dget, r_sl, r_noPart, r_part, r_gNil, r_gCons, r_itF, r_nT, r_nF, r_len0, r_len1, r_len2, r_len3, r_len4, r_len6, r_len7, r_for, r_iEnum, r_iList, r_iTup, r_iRng1, r_iRng2, r_exI1, r_exR1, r_exR, r_bm, r_bm0, r_ixL, r_ixT, r_cat, r_slL, r_append, r_exRl, r_gTup, true_and, and_true, forall_const, Int.reduceLT, r_compG, r_setComp, r_yes, r_isi_int_str, r_isi_str_str, r_slT, r_inR, r_notInR, cxOf_K, wish_K, blk_K, r_blk1, r_blk2, List.map_cons, List.map_nil, List.getElem?_cons_zero, List.getElem?_cons_succ, Option.join_some, r_Vs, r_dnewK, r_dput, r_exRp, r_gSub, List.set_cons_zero, List.set_cons_succ, r_midL, r_sfld, r_gfld, r_meth, r_make, r_listRng, r_kget1, r_iEnumT, r_sorted, r_any, r_count, blkZ_K, r_iItemsT, r_setT, r_dispT1, r_dnewT, r_tupRng]
      refine ⟨.inl ⟨rfl, _, SqL.of (s2 _ _ hq1)⟩, ⟨_, SqL.of e2⟩, fun ac2 hac2 bk2 => ?_⟩
      refine cg_list (xs := ts.map V.ref) (fun i ys H' => Same H2 H' ∧ ∃ us : List Addr, ys = us.map V.ref ∧ H' ac2 = some (.lst ys) ∧ us.length ≤ i ∧ Paired (fun t (j : Nat) => ∃ l, gapN ds j k = some l ∧ H' t = some (.tup [.int j, .int l])) us ((List.range i).filter fun j => (gapN ds j k).isSome)) ⟨Same.upd hac2, [], rfl, upd_same, Nat.le_refl _, .nil⟩ (fun i ys H' _ h => SqL.of (h.1 _ _ e2)) ?_ ?_
      · rintro i x ys H3 os hx ho ⟨s3, us, rfl, e3, lus, hus⟩
        rw [List.getElem?_map] at hx
        obtain ⟨tt, htt, rfl⟩ := Option.map_eq_some_iff.mp hx
        have hi : i < k := by have := (List.getElem?_eq_some_iff.mp htt).1; omega
        obtain ⟨j, hj, htj⟩ := Paired.get hts htt
        rw [List.getElem?_range hi] at hj
        cases hj
        match os, ho with
        | [o, o'], _ =>
          simp_arith [r_listRng, r_kget1, r_iEnumT, r_sorted, r_any, r_count, blkZ_K, r_iItemsT, r_setT, r_dispT1, r_dnewT, r_tupRng]
          refine ⟨_, SqT.of (s3 _ _ htj), rfl, ?_⟩
          simp_arith [r_listRng, r_kget1, r_iEnumT, r_sorted, r_any, r_count, blkZ_K, r_iItemsT, r_setT, r_dispT1, r_dnewT, r_tupRng]
          refine ⟨⟨[some (.int i), some (FB.optV (gapN ds i k))], rfl, rfl⟩, ?_⟩
          rw [List.range_succ, List.filter_append]
          cases hg : gapN ds i k with
          | none =>
            simp_arith [r_listRng, r_kget1, r_iEnumT, r_sorted, r_any, r_count, blkZ_K, r_iItemsT, r_setT, r_dispT1, r_dnewT, r_tupRng, FB.optV, decide_true, Bool.not_true, Bool.false_eq_true, if_false]
            refine ⟨s3, us, rfl, e3, by omega, ?_⟩
            rw [List.filter_cons_of_neg (by rw [hg]; simp), List.filter_nil, List.append_nil]
            exact hus
          | some l =>
            simp_arith [r_listRng, r_kget1, r_iEnumT, r_sorted, r_any, r_count, blkZ_K, r_iItemsT, r_setT, r_dispT1, r_dnewT, r_tupRng, FB.optV]
            refine ite_ndec (fun _ => ?_) (fun z => by cases z)
            intro p hp
            have s4 := Same.upd (o := .tup [.int i, .int l]) hp
            refine ⟨s4 _ _ e3, by rw [List.length_map, sizeLine_eq]; omega, (s3.trans s4).updM hac2, us ++ [p], by rw [List.map_append]; rfl, upd_same, by rw [List.length_append, List.length_singleton]; omega, ?_⟩
            rw [List.filter_cons_of_pos (by rw [hg]; rfl), List.filter_nil]
            refine Paired.snoc (Paired.mapP hus fun t j' ⟨l', z1, z2⟩ => ⟨l', z1, ?_⟩) ⟨l, hg, ?_⟩
            · rw [upd_ne (ne_of (s4 _ _ z2) (s4 _ _ e3) (by intro y; cases y))]; exact s4 _ _ z2
            · rw [upd_ne (ne_of_none e3 hp).symm]; exact upd_same
      · rintro ys H3 ⟨s3, us, rfl, e3, lus, hus⟩
        rw [List.length_map, lts] at hus
        have sa := s2.trans s3
        have ef := sa _ _ hq1
        have naf : ac2 ≠ f := (ne_of_none (s2 _ _ hq1) hac2).symm
        refine ⟨_, ef, by rw [List.length_map, sizeLine_eq]; omega, (s1.trans sa).updM hf, ⟨_, _, rfl⟩, qs ++ [ac2], by rw [upd_same, List.map_append]; rfl, by rw [List.length_append, List.length_singleton, lq], fun k' q' hk' => ?_⟩
        by_cases hlt : k' < qs.length
        · rw [List.getElem?_append_left hlt] at hk'
          obtain ⟨z1, z2⟩ := hqs k' q' hk'
          exact ⟨z1, (z2.same sa).upd z1 ef (by intro xs y; cases y)⟩
        · have hkl := (List.getElem?_eq_some_iff.mp hk').1
          rw [List.length_append, List.length_singleton] at hkl
          obtain rfl : k' = qs.length := by omega
          rw [List.getElem?_append_right (Nat.le_refl _), Nat.sub_self] at hk'
          cases hk'
          rw [lq]
          exact ⟨naf, LnK.upd ⟨us, e3, hus⟩ naf ef (by intro xs y; cases y)⟩
  · rintro σ H1 ⟨s1, ⟨o2, o3, rfl⟩, hl⟩
    dsimp only
    refine later ?_
    simp_arith [r_listRng, r_kget1, r_iEnumT, r_sorted, r_any, r_count, blkZ_K, r_iItemsT, r_setT, r_dispT1, r_dnewT, r_tupRng]
    exact q f H1 s1 hl
end
end K32
set_option maxHeartbeats 4000000
namespace K32
open PySem L2 PyProof.Rows FA
theorem bit01 (m k : Nat) : Builtin.bitAnd ((m : Int) / 2 ^ ((k : Int)).toNat) 1 = if m.testBit k = true then 1 else 0 := by
  rw [Int.toNat_natCast]
  have e : ((m : Int) / 2 ^ k) = ((m / 2 ^ k : Nat) : Int) := by simp
  have z := FO.bAnd (m / 2 ^ k) 1
  rw [e]
  rw [show ((1 : Nat) : Int) = 1 from rfl] at z
  rw [z, Nat.and_one_is_mod, Nat.testBit_eq_decide_div_mod_eq]
  by_cases h : m / 2 ^ k % 2 = 1
  · rw [h]; simp
  · have : m / 2 ^ k % 2 = 0 := by omega
    rw [this]; simp
theorem or_bit (x k : Nat) : Builtin.bitOr (x : Int) (1 * 2 ^ ((k : Int)).toNat) = ((x ||| 2 ^ k : Nat) : Int) := by
  rw [Int.toNat_natCast, Int.one_mul, ← FO.bOr]
  simp
noncomputable def bitsF (k x : Nat) : List Nat := (List.range k).filter fun i => x.testBit i
theorem bits_keep {k x : Nat} (h : x < 2 ^ k) : bitsF (k + 1) x = bitsF k x := by
  unfold bitsF
  rw [List.range_succ, List.filter_append, List.filter_cons_of_neg (by rw [Nat.testBit_lt_two_pow h]; simp), List.filter_nil, List.append_nil]
theorem bits_add {k x : Nat} (h : x < 2 ^ k) : bitsF (k + 1) (x ||| 2 ^ k) = bitsF k x ++ [k] := by
  unfold bitsF
  rw [List.range_succ, List.filter_append, List.filter_cons_of_pos (by rw [Nat.testBit_or, Nat.testBit_two_pow_self]; simp), List.filter_nil]
  congr 1
  apply List.filter_congr
  intro i hi
  have hlt := List.mem_range.mp hi
  rw [Nat.testBit_or, Nat.testBit_two_pow_of_ne (by omega), Bool.or_false]
theorem mem_bits {k x i : Nat} : i ∈ bitsF k x ↔ i < k ∧ x.testBit i = true := by unfold bitsF; rw [List.mem_filter, List.mem_range]
structure MoreOk (ds : List FB.Deed) (us : List Int) (m k x : Nat) : Prop where
  lt : x < 2 ^ k
  bt : GD.Beat (gapN ds) (soN ds) (uN us) ds.length (fun p => m.testBit p) (bitsF k x)
theorem MoreOk.keep {ds : List FB.Deed} {us : List Int} {m k x : Nat} (h : MoreOk ds us m k x) : MoreOk ds us m (k + 1) x :=
  ⟨Nat.lt_of_lt_of_le h.lt (Nat.pow_le_pow_right (by decide) (Nat.le_succ k)), by rw [bits_keep h.lt]; exact h.bt⟩
theorem MoreOk.add {ds : List FB.Deed} {us : List Int} {m k x : Nat} (h : MoreOk ds us m k x) (hk : k < ds.length) (hl : ∀ j, j < k → ∀ l, gapN ds j k = some l → m.testBit j = true ∨ (l = 0 ∧ j ∈ bitsF k x)) (hc : ∀ s, s < 3 → (GD.cntB (soN ds) (bitsF k x ++ [k]) s : Int) ≤ uN us s) : MoreOk ds us m (k + 1) (x ||| 2 ^ k) := by
  refine ⟨Nat.or_lt_two_pow (Nat.lt_of_lt_of_le h.lt (Nat.pow_le_pow_right (by decide) (Nat.le_succ k))) (Nat.pow_lt_pow_right (by decide) (Nat.lt_succ_self k)), ?_⟩
  rw [bits_add h.lt]
  refine ⟨?_, fun p hp => ?_, fun p hp j hj l hg => ?_, hc⟩
  · rw [List.pairwise_append]
    exact ⟨h.bt.sorted, by simp, fun y hy z hz => by rw [List.mem_singleton.mp hz]; exact (mem_bits.mp hy).1⟩
  · rcases List.mem_append.mp hp with hp | hp
    · exact h.bt.lt p hp
    · rw [List.mem_singleton.mp hp]; exact hk
  · rcases List.mem_append.mp hp with hp | hp
    · rcases h.bt.lean p hp j hj l hg with z | ⟨z1, z2⟩
      · exact .inl z
      · exact .inr ⟨z1, List.mem_append_left _ z2⟩
    · rw [List.mem_singleton.mp hp] at hj hg
      rcases hl j hj l hg with z | ⟨z1, z2⟩
      · exact .inl z
      · exact .inr ⟨z1, List.mem_append_left _ z2⟩
theorem more_zero {ds : List FB.Deed} {us : List Int} {m : Nat} (hU : ∀ s, s < 3 → 0 < uN us s) : MoreOk ds us m 0 0 :=
  ⟨by decide, ⟨by simp [bitsF], fun p hp => by simp [bitsF] at hp, fun p hp => by simp [bitsF] at hp, fun s hs => by have := hU s hs; simp [bitsF, GD.cntB]; omega⟩⟩
end K32
set_option maxHeartbeats 4000000
namespace K32
open PySem L2 PyProof.Rows FA
noncomputable def bd_more (K : PySem.W.Frag) (a b c : Addr) (i : Int) (H : Hp) (Q : VK) : Prop := ∃ (ds : List FB.Deed) (us : List Int) (m : Nat), i = m ∧ DeedsIn K H a b ds us ∧ LnV H c ds ds.length ∧ ∀ p bs H', Same H H' → H' p = some (.lst (nl bs)) → bs.length ≤ 256 → (∀ x ∈ bs, MoreOk ds us m ds.length x) → Q (.ref p) H'
noncomputable def sp_more (K : PySem.W.Frag) : Sp := fun vs H Q _ => ∃ (a b c : Addr) (i : Int), vs = [.ref a, .ref b, .ref c, .int i] ∧ bd_more K a b c i H Q
section
variable {P : Program} {w : World} {K : PySem.W.Frag} {mg : Str → Option Value} {base : Heap} {t : Ad}
theorem r_more {a b c : Addr} {i : Int} {H : Hp} {Q : VK} {E : XK} : sp_more K [.ref a, .ref b, .ref c, .int i] H Q E = bd_more K a b c i H Q := propext ⟨by rintro ⟨_, _, _, _, e, q⟩; cases e; exact q, fun q => ⟨a, b, c, i, rfl, q⟩⟩
theorem ok_more (T : Txt K mg t) : FnOk P w K mg base CX0 4 t.f__law_more t.e__law_more ["_law_deeds_here", "_law_units", "_law_leans_here", "_law_done"] (sp_more K) := by
  have G__law_load := ok_lload (P := P) (w := w) (base := base) T
  refine T.d__law_more.F.ok sc__law_more (fun vs H Q E h => by obtain ⟨_, _, _, _, rfl, _⟩ := h; rfl) (fun cdv A outer s H vs Q E hr h => ?_)
  obtain ⟨a, b, c, i, rfl, ds, us, m, rfl, ⟨xs, hS, hds, h8, hU, h3, hpos⟩, hL, q⟩ := h
  have lx := hds.length
  have hpo : ∀ s, s < 3 → 0 < uN us s := fun s hs => by
    unfold uN
    rw [List.getD_eq_getElem?_getD, List.getElem?_eq_getElem (by omega)]
    exact (hpos _ (List.getElem_mem _)).1
  refine ⟨_,
      (XSs.h
      (xpss_cons
        (xps_set (i := 4) sc__law_more.nd rfl ll (xpe_lst (xpa_cons xpe_int xpa_nil)))
      (xpss_cons
        (xps_for PassesOwn.never rfl (xpi_range1 gl T.z_range (xpa_cons (xqe_callB call_len_seq gl T.z_len PySem.boot_len (xpa_cons (xqv 0 vl) xpa_nil)) xpa_nil)) (xpg_name (i := 5) sc__law_more.nd rfl ll)
          (xpss_one
            (xps_if (xpt_cmpR op_eq (xpe_op op_and (xpe_op op_shr (xqv 3 vl) (xqv 5 vl)) xpe_int) xpe_int (nomark _))
              (xpss_cons
                (xps_set (i := 6) sc__law_more.nd rfl ll (xpe_lst xpa_nil))
              (xpss_cons
                (xps_for PassesOwn.never rfl (xpi_list (xqv 4 vl)) (xpg_name (i := 7) sc__law_more.nd rfl lc)
                  (xpss_cons
                    (xps_setComp (i := 9) sc__law_more.nd rfl ll rfl (by kernel_rfl) (tns := ["_law_j"]) (cns := ["_law_beat"]) (ci := [7]) rfl (CompSc.of (by kernel_rfl)) (xpi_range1 gl T.z_range (xpa_cons (xqv 5 vl) xpa_nil)) (fun _ => (xpg_name (i := 1) (show List.Nodup [(".0" : Str), ("_law_j" : Str), ("_law_beat" : Str)] by decide +kernel) rfl ll (Or.inr (by kernel_rfl)))) (fun _ => (xpf_one (xpt_cmpR op_eq (xpe_op op_and (xpe_op op_shr (xqv 2 vc) (xqv 1 vl)) xpe_int) xpe_int (nomark _)))) (fun _ => (xqv 1 vl)))
                  (xpss_cons
                    (xps_set (i := 10) sc__law_more.nd rfl ll xpe_bl)
                  (xpss_cons
                    (xps_for PassesOwn.never rfl (xpi_list (xpe_ix ix_list (xqv 2 vl) (xqv 5 vl) (fun _ _ => rfl))) (xpg_tup rfl (xpgs_cons (xpg_name (i := 8) sc__law_more.nd rfl ll) (xpgs_cons (xpg_name (i := 11) sc__law_more.nd rfl ll) xpgs_nil)))
                      (xpss_one
                        (xps_if (xPW_pt (xpw_and (xpt_cmpR op_eq (xpe_op op_and (xpe_op op_shr (xqv 3 vl) (xqv 8 vl)) xpe_int) xpe_int (nomark _)) (xpw_and1 (xPW_pt (xpw_or (xpt_cmpR op_eq (xqv 11 vl) xpe_int (nomark _)) (xpw_or1 (xpt_cmpR op_notIn_seq (xqv 8 vl) (xqv 9 vl) rfl)))))))
                          (xpss_one
                            (xps_set (i := 10) sc__law_more.nd rfl ll xpe_bl))
                          xpss_nil)))
                  (xpss_one
                    (xps_if (xPW_pt (xpw_and (xpt_val (xqv 10 vl)) (xpw_and1 (xpt_val (xqe_callD T.d__law_load G__law_load (hr.mono (by first | decide | omega)) (xpa_cons (xqv 0 vl) (xpa_cons (xpe_op op_cat (xqv 9 vl) (xpe_lst (xpa_cons (xqv 5 vl) xpa_nil))) (xpa_cons (xqv 1 vl) xpa_nil))) gl)))))
                      (xpss_one
                        (xps_expr (xpe_bm PySem.F.plainAttrs_list PySem.F.slot_list_append PySem.F.type_list_append mt_append (xqv 6 vl) (xpa_cons (xpe_op op_or (xqv 7 vc) (xpe_op op_shl xpe_int (xqv 5 vl))) xpa_nil))))
                      xpss_nil))))))
              (xpss_one
                (xps_set (i := 4) sc__law_more.nd rfl ll (xpe_op op_cat (xqv 4 vl) (xqv 6 vl))))))
              xpss_nil)))
      (xpss_one
        (xps_ret (xqv 4 vl)))))), ?_⟩
  rw [show start _ [V.ref a, V.ref b, V.ref c, V.int m] = [some (.ref a), some (.ref b), some (.ref c), some (.int m), none, none, none, none, none, none, none, none] from rfl]
  simp only [r_v0, r_g0, r_v1, r_g1, r_v2, r_g2, r_v3, r_g3, r_v4, r_g4, r_v5, r_g5, r_v6, r_g6, r_v7, r_g7, r_v8, r_g8, r_v9, r_g9, r_v10, r_g10, r_v11, r_g11, r_v12, r_g12, r_g13, r_g14, r_g15, r_c, r_op, r_un, r_I0, r_I, r_U, r_eqI, r_eqS, r_neI, r_exbl, r_exint, r_test, r_B, r_and, r_or, r_not, r_andV, r_orV, r_notV, r_if, r_next, r_seqL, r_brk, r_cont, r_drop, r_ret, r_retN, r_ifS, r_asg, r_CB, r_nil, r_cons, r_call, r_tup, r_lst, r_p0, r_pS, r_disp, r_dget, r_sl, r_noPart, r_part, r_gNil, r_gCons, r_itF, r_nT, r_nF, r_len0, r_len1, r_len2, r_len3, r_len4, r_len6, r_len7, r_for, r_iEnum, r_iList, r_iTup, r_iRng1, r_iRng2, r_exI1, r_exR1, r_exR, r_bm, r_bm0, r_ixL, r_ixT, r_cat, r_slL, r_append, r_exRl, r_gTup, true_and, and_true, forall_const, Int.reduceLT, r_compG, r_setComp, r_yes, r_isi_int_str, r_isi_str_str, r_slT, r_inR, r_notInR, cxOf_K, wish_K, blk_K, r_blk1, r_blk2, List.map_cons, List.map_nil, List.getElem?_cons_zero, List.getElem?_cons_succ, Option.join_some, r_Vs, r_dnewK, r_dput, r_exRp, r_gSub, List.set_cons_zero, List.set_cons_succ, r_midL, r_sfld, r_gfld, r_meth, r_make, r_listRng, r_kget1, r_iEnumT, r_sorted, r_any, r_count, blkZ_K, r_iItemsT, r_setT, r_dispT1, r_dnewT, r_tupRng]
  intro fo0 hfo0
  refine later ?_
  simp only [r_v0, r_g0, r_v1, r_g1, r_v2, r_g2, r_v3, r_g3, r_v4, r_g4, r_v5, r_g5, r_v6, r_g6, r_v7, r_g7, r_v8, r_g8, r_v9, r_g9, r_v10, r_g10, r_v11, r_g11, r_v12, r_g12, r_g13, r_g14, r_g15, r_c, r_op, r_un, r_I0, r_I, r_U, r_eqI, r_eqS, r_neI, r_exbl, r_exint, r_test, r_B, r_and, r_or, r_not, r_andV, r_orV, r_notV, r_if, r_next, r_seqL, r_brk, r_cont, r_drop, r_ret, r_retN, r_ifS, r_asg, r_CB, r_nil, r_cons, r_call, r_tup, r_lst, r_p0, r_pS, r_disp, r_dget, r_sl, r_noPart, r_part, r_gNil, r_gCons, r_itF, r_nT, r_nF, r_len0, r_len1, r_len2, r_len3, r_len4, r_len6, r_len7, r_for, r_iEnum, r_iList, r_iTup, r_iRng1, r_iRng2, r_exI1, r_exR1, r_exR, r_bm, r_bm0, r_ixL, r_ixT, r_cat, r_slL, r_append, r_exRl, r_gTup, true_and, and_true, forall_const, Int.reduceLT, r_compG, r_setComp, r_yes, r_isi_int_str, r_isi_str_str, r_slT, r_inR, r_notInR, cxOf_K, wish_K, blk_K, r_blk1, r_blk2, List.map_cons, List.map_nil, List.getElem?_cons_zero, List.getElem?_cons_succ, Option.join_some, r_Vs, r_dnewK, r_dput, r_exRp, r_gSub, List.set_cons_zero, List.set_cons_succ, r_midL, r_sfld, r_gfld, r_meth, r_make, r_listRng, r_kget1, r_iEnumT, r_sorted, r_any, r_count, blkZ_K, r_iItemsT, r_setT, r_dispT1, r_dnewT, r_tupRng]
  refine ⟨xs, .inl ((Same.upd hfo0).seq hS), by omega, by omega, ?_⟩
  rw [Int.toNat_natCast, lx]
  refine fw_range0 (fun k σ H' => Same H H' ∧ ∃ (fo : Addr) (bs : List Nat) (o5 o6 o7 o8 o9 o10 o11 : Option V), σ = [some (.ref a), some (.ref b), some (.ref c), some (.int m), some (.ref fo), o5, o6, o7, o8, o9, o10, o11] ∧ H' fo = some (.lst (nl bs)) ∧ bs.length ≤ 2 ^ k ∧ ∀ x ∈ bs, MoreOk ds us m k x)
    ⟨Same.upd hfo0, fo0, [0], _, _, _, _, _, _, _, rfl, upd_same, by decide, fun x hx => by rw [List.mem_singleton.mp hx]; exact more_zero hpo⟩ ?_ ?_
  · rintro k σ H1 hk ⟨s1, fo, bs, o5, o6, o7, o8, o9, o10, o11, rfl, e1, l1, hbs⟩
    have l2 : bs.length ≤ 256 := Nat.le_trans l1 (Nat.le_trans (Nat.pow_le_pow_right (by decide) (show k ≤ 8 by omega)) (by decide))
    simp only [r_v0, r_g0, r_v1, r_g1, r_v2, r_g2, r_v3, r_g3, r_v4, r_g4, r_v5, r_g5, r_v6, r_g6, r_v7, r_g7, r_v8, r_g8, r_v9, r_g9, r_v10, r_g10, r_v11, r_g11, r_v12, r_g12, r_g13, r_g14, r_g15, r_c, r_op, r_un, r_I0, r_I, r_U, r_eqI, r_eqS, r_neI, r_exbl, r_exint, r_test, r_B, r_and, r_or, r_not, r_andV, r_orV, r_notV, r_if, r_next, r_seqL, r_brk, r_cont, r_drop, r_ret, r_retN, r_ifSL, r_asg, r_CB, r_nil, r_cons, r_call, r_tup, r_lst, r_p0, r_pS, r_disp, r_dget, r_sl, r_noPart, r_part, r_gNil, r_gCons, r_itF, r_nT, r_nF, r_len0, r_len1, r_len2, r_len3, r_len4, r_len6, r_len7, r_for, r_iEnum, r_iList, r_iTup, r_iRng1, r_iRng2, r_exI1, r_exR1, r_exR, r_bm, r_bm0, r_ixL, r_ixT, r_cat, r_slL, r_append, r_exRl, r_gTup, true_and, and_true, forall_const, Int.reduceLT, r_compG, r_setComp, r_yes, r_isi_int_str, r_isi_str_str, r_slT, r_inR, r_notInR, cxOf_K, wish_K, blk_K, r_blk1, r_blk2, List.map_cons, List.map_nil, List.getElem?_cons_zero, List.getElem?_cons_succ, Option.join_some, r_Vs, r_dnewK, r_dput, r_exRp, r_gSub, List.set_cons_zero, List.set_cons_succ, r_midL, r_sfld, r_gfld, r_meth, r_make, r_listRng, r_kget1, r_iEnumT, r_sorted, r_any, r_count, blkZ_K, r_iItemsT, r_setT, r_dispT1, r_dnewT, r_tupRng]
    refine ⟨by omega, ?_⟩
    rw [bit01]
    refine ite_dec (fun z => ?_) (fun z => ?_)
    · refine later ?_
      simp only [r_v0, r_g0, r_v1, r_g1, r_v2, r_g2, r_v3, r_g3, r_v4, r_g4, r_v5, r_g5, r_v6, r_g6, r_v7, r_g7, r_v8, r_g8, r_v9, r_g9, r_v10, r_g10, r_v11, r_g11, r_v12, r_g12, r_g13, r_g14, r_g15, r_c, r_op, r_un, r_I0, r_I, r_U, r_eqI, r_eqS, r_neI, r_exbl, r_exint, r_test, r_B, r_and, r_or, r_not, r_andV, r_orV, r_notV, r_if, r_next, r_seqL, r_brk, r_cont, r_drop, r_ret, r_retN, r_ifS, r_asg, r_CB, r_nil, r_cons, r_call, r_tup, r_lst, r_p0, r_pS, r_disp, r_dget, r_sl, r_noPart, r_part, r_gNil, r_gCons, r_itF, r_nT, r_nF, r_len0, r_len1, r_len2, r_len3, r_len4, r_len6, r_len7, r_for, r_iEnum, r_iList, r_iTup, r_iRng1, r_iRng2, r_exI1, r_exR1, r_exR, r_bm, r_bm0, r_ixL, r_ixT, r_cat, r_slL, r_append, r_exRl, r_gTup, true_and, and_true, forall_const, Int.reduceLT, r_compG, r_setComp, r_yes, r_isi_int_str, r_isi_str_str, r_slT, r_inR, r_notInR, cxOf_K, wish_K, blk_K, r_blk1, r_blk2, List.map_cons, List.map_nil, List.getElem?_cons_zero, List.getElem?_cons_succ, Option.join_some, r_Vs, r_dnewK, r_dput, r_exRp, r_gSub, List.set_cons_zero, List.set_cons_succ, r_midL, r_sfld, r_gfld, r_meth, r_make, r_listRng, r_kget1, r_iEnumT, r_sorted, r_any, r_count, blkZ_K, r_iItemsT, r_setT, r_dispT1, r_dnewT, r_tupRng]
      intro gr hgr
      refine later ?_
      simp only [r_v0, r_g0, r_v1, r_g1, r_v2, r_g2, r_v3, r_g3, r_v4, r_g4, r_v5, r_g5, r_v6, r_g6, r_v7, r_g7, r_v8, r_g8, r_v9, r_g9, r_v10, r_g10, r_v11, r_g11, r_v12, r_g12, r_g13, r_g14, r_g15, r_c, r_op, r_un, r_I0, r_I, r_U, r_eqI, r_eqS, r_neI, r_exbl, r_exint, r_test, r_B, r_and, r_or, r_not, r_andV, r_orV, r_notV, r_if, r_next, r_seqL, r_brk, r_cont, r_drop, r_ret, r_retN, r_ifS, r_asg, r_CB, r_nil, r_cons, r_call, r_tup, r_lst, r_p0, r_pS, r_disp, r_dget, r_sl, r_noPart, r_part, r_gNil, r_gCons, r_itF, r_nT, r_nF, r_len0, r_len1, r_len2, r_len3, r_len4, r_len6, r_len7, r_for, r_iEnum, r_iList, r_iTup, r_iRng1, r_iRng2, r_exI1, r_exR1, r_exR, r_bm, r_bm0, r_ixL, r_ixT, r_cat, r_slL, r_append, r_exRl, r_gTup, true_and, and_true, forall_const, Int.reduceLT, r_compG, r_setComp, r_yes, r_isi_int_str, r_isi_str_str, r_slT, r_inR, r_notInR, cxOf_K, wish_K, blk_K, r_blk1, r_blk2, List.map_cons, List.map_nil, List.getElem?_cons_zero, List.getElem?_cons_succ, Option.join_some, r_Vs, r_dnewK, r_dput, r_exRp, r_gSub, List.set_cons_zero, List.set_cons_succ, r_midL, r_sfld, r_gfld, r_meth, r_make, r_listRng, r_kget1, r_iEnumT, r_sorted, r_any, r_count, blkZ_K, r_iItemsT, r_setT, r_dispT1, r_dnewT, r_tupRng]
      have sg := Same.upd (o := .lst []) hgr
      refine ⟨⟨_, SqL.of (sg _ _ e1)⟩, ?_⟩
      refine fw_list (xs := nl bs) (fun i σ H' => Same H1 H' ∧ ∃ (gs : List Nat) (o7 o8 o9 o10 o11 : Option V), σ = [some (.ref a), some (.ref b), some (.ref c), some (.int m), some (.ref fo), some (.int k), some (.ref gr), o7, o8, o9, o10, o11] ∧ H' gr = some (.lst (nl gs)) ∧ gs.length ≤ i ∧ ∀ x ∈ gs, MoreOk ds us m (k + 1) x)
        ⟨sg, [], _, _, _, _, _, rfl, upd_same, Nat.le_refl _, fun x hx => by cases hx⟩ (fun i σ H' _ h => SqL.of (h.1 _ _ e1)) ?_ ?_
      · rintro i x σ H2 hx ⟨s2, gs, p7, p8, p9, p10, p11, rfl, e2, l3, hgs⟩
        unfold nl at hx
        rw [List.getElem?_map] at hx
        obtain ⟨y, hy, rfl⟩ := Option.map_eq_some_iff.mp hx
        have My := hbs y (List.mem_of_getElem? hy)
        have hib := (List.getElem?_eq_some_iff.mp hy).1
        simp only [r_v0, r_g0, r_v1, r_g1, r_v2, r_g2, r_v3, r_g3, r_v4, r_g4, r_v5, r_g5, r_v6, r_g6, r_v7, r_g7, r_v8, r_g8, r_v9, r_g9, r_v10, r_g10, r_v11, r_g11, r_v12, r_g12, r_g13, r_g14, r_g15, r_c, r_op, r_un, r_I0, r_I, r_U, r_eqI, r_eqS, r_neI, r_exbl, r_exint, r_test, r_B, r_and, r_or, r_not, r_andV, r_orV, r_notV, r_if, r_next, r_seqL, r_brk, r_cont, r_drop, r_ret, r_retN, r_ifS, r_asg, r_CB, r_nil, r_cons, r_call, r_tup, r_lst, r_p0, r_pS, r_disp, r_dget, r_sl, r_noPart, r_part, r_gNil, r_gCons, r_itF, r_nT, r_nF, r_len0, r_len1, r_len2, r_len3, r_len4, r_len6, r_len7, r_for, r_iEnum, r_iList, r_iTup, r_iRng1, r_iRng2, r_exI1, r_exR1, r_exR, r_bm, r_bm0, r_ixL, r_ixT, r_cat, r_slL, r_append, r_exRl, r_gTup, true_and, and_true, forall_const, Int.reduceLT, r_compG, r_setComp, r_yes, r_isi_int_str, r_isi_str_str, r_slT, r_inR, r_notInR, cxOf_K, wish_K, blk_K, r_blk1, r_blk2, List.map_cons, List.map_nil, List.getElem?_cons_zero, List.getElem?_cons_succ, Option.join_some, r_Vs, r_dnewK, r_dput, r_exRp, r_gSub, List.set_cons_zero, List.set_cons_succ, r_midL, r_sfld, r_gfld, r_meth, r_make, r_listRng, r_kget1, r_iEnumT, r_sorted, r_any, r_count, blkZ_K, r_iItemsT, r_setT, r_dispT1, r_dnewT, r_tupRng]
        refine ⟨by omega, by omega, fun acc hacc bk => ?_⟩
        rw [Int.toNat_natCast]
        refine cg_sameR (fun j => y.testBit j) (fun j => V.int j) (by rw [sizeLine_eq]; omega) hacc (fun j hj H3 Q' s3 h => ?_) (fun j hj H3 Q' s3 _ h => ?_) fun H3 s3 e3 => ?_
        · simp_arith [r_listRng, r_kget1, r_iEnumT, r_sorted, r_any, r_count, blkZ_K, r_iItemsT, r_setT, r_dispT1, r_dnewT, r_tupRng]
          refine ⟨by omega, ?_⟩
          rw [bit01]
          have z := h H3 (Same.refl _)
          cases hyj : y.testBit j with
          | true => rw [hyj] at z; exact z
          | false => rw [hyj] at z; exact z
        · simp_arith [r_listRng, r_kget1, r_iEnumT, r_sorted, r_any, r_count, blkZ_K, r_iItemsT, r_setT, r_dispT1, r_dnewT, r_tupRng]
          exact h H3 (Same.refl _)
        replace e3 : H3 acc = some (.lst (nl (bitsF k y))) := e3
        refine later ?_
        simp only [r_v0, r_g0, r_v1, r_g1, r_v2, r_g2, r_v3, r_g3, r_v4, r_g4, r_v5, r_g5, r_v6, r_g6, r_v7, r_g7, r_v8, r_g8, r_v9, r_g9, r_v10, r_g10, r_v11, r_g11, r_v12, r_g12, r_g13, r_g14, r_g15, r_c, r_op, r_un, r_I0, r_I, r_U, r_eqI, r_eqS, r_neI, r_exbl, r_exint, r_test, r_B, r_and, r_or, r_not, r_andV, r_orV, r_notV, r_if, r_next, r_seqL, r_brk, r_cont, r_drop, r_ret, r_retN, r_ifS, r_asg, r_CB, r_nil, r_cons, r_call, r_tup, r_lst, r_p0, r_pS, r_disp, r_dget, r_sl, r_noPart, r_part, r_gNil, r_gCons, r_itF, r_nT, r_nF, r_len0, r_len1, r_len2, r_len3, r_len4, r_len6, r_len7, r_for, r_iEnum, r_iList, r_iTup, r_iRng1, r_iRng2, r_exI1, r_exR1, r_exR, r_bm, r_bm0, r_ixL, r_ixT, r_cat, r_slL, r_append, r_exRl, r_gTup, true_and, and_true, forall_const, Int.reduceLT, r_compG, r_setComp, r_yes, r_isi_int_str, r_isi_str_str, r_slT, r_inR, r_notInR, cxOf_K, wish_K, blk_K, r_blk1, r_blk2, List.map_cons, List.map_nil, List.getElem?_cons_zero, List.getElem?_cons_succ, Option.join_some, r_Vs, r_dnewK, r_dput, r_exRp, r_gSub, List.set_cons_zero, List.set_cons_succ, r_midL, r_sfld, r_gfld, r_meth, r_make, r_listRng, r_kget1, r_iEnumT, r_sorted, r_any, r_count, blkZ_K, r_iItemsT, r_setT, r_dispT1, r_dnewT, r_tupRng]
        refine later ?_
        simp only [r_v0, r_g0, r_v1, r_g1, r_v2, r_g2, r_v3, r_g3, r_v4, r_g4, r_v5, r_g5, r_v6, r_g6, r_v7, r_g7, r_v8, r_g8, r_v9, r_g9, r_v10, r_g10, r_v11, r_g11, r_v12, r_g12, r_g13, r_g14, r_g15, r_c, r_op, r_un, r_I0, r_I, r_U, r_eqI, r_eqS, r_neI, r_exbl, r_exint, r_test, r_B, r_and, r_or, r_not, r_andV, r_orV, r_notV, r_if, r_next, r_seqL, r_brk, r_cont, r_drop, r_ret, r_retN, r_ifS, r_asg, r_CB, r_nil, r_cons, r_call, r_tup, r_lst, r_p0, r_pS, r_disp, r_dget, r_sl, r_noPart, r_part, r_gNil, r_gCons, r_itF, r_nT, r_nF, r_len0, r_len1, r_len2, r_len3, r_len4, r_len6, r_len7, r_for, r_iEnum, r_iList, r_iTup, r_iRng1, r_iRng2, r_exI1, r_exR1, r_exR, r_bm, r_bm0, r_ixL, r_ixT, r_cat, r_slL, r_append, r_exRl, r_gTup, true_and, and_true, forall_const, Int.reduceLT, r_compG, r_setComp, r_yes, r_isi_int_str, r_isi_str_str, r_slT, r_inR, r_notInR, cxOf_K, wish_K, blk_K, r_blk1, r_blk2, List.map_cons, List.map_nil, List.getElem?_cons_zero, List.getElem?_cons_succ, Option.join_some, r_Vs, r_dnewK, r_dput, r_exRp, r_gSub, List.set_cons_zero, List.set_cons_succ, r_midL, r_sfld, r_gfld, r_meth, r_make, r_listRng, r_kget1, r_iEnumT, r_sorted, r_any, r_count, blkZ_K, r_iItemsT, r_setT, r_dispT1, r_dnewT, r_tupRng]
        have s4 := (s1.trans s2).trans s3
        obtain ⟨qs, hqc, lq, hqs⟩ := hL.same s4
        obtain ⟨qk, hqk⟩ : ∃ qk, qs[k]? = some qk := ⟨_, List.getElem?_eq_getElem (by omega)⟩
        obtain ⟨ts, ets, hts⟩ := (hqs k qk hqk).2
        refine ⟨_, _, SqL.of hqc, atI_nat (by rw [List.getElem?_map, hqk]; rfl), qk, rfl, ⟨_, SqL.of ets⟩, ?_⟩
        refine fw_list (xs := ts.map V.ref) (fun e σ H' => Same H3 H' ∧ ∃ (fr : Bool) (o8 o11 : Option V), σ = [some (.ref a), some (.ref b), some (.ref c), some (.int m), some (.ref fo), some (.int k), some (.ref gr), some (.int y), o8, some (.ref acc), some (.bl fr), o11] ∧
          (fr = true → ∀ e', e' < e → ∀ j, ((List.range k).filter fun j => (gapN ds j k).isSome)[e']? = some j → ∀ l, gapN ds j k = some l → m.testBit j = true ∨ (l = 0 ∧ j ∈ bitsF k y))) ⟨Same.refl _, true, _, _, rfl, fun _ e' he' => absurd he' (by omega)⟩ (fun e σ H' _ h => SqL.of (h.1 _ _ ets)) ?_ ?_
        · rintro e x σ H4 hx ⟨s5, fr, p8, p11, rfl, hfr⟩
          rw [List.getElem?_map] at hx
          obtain ⟨tt, htt, rfl⟩ := Option.map_eq_some_iff.mp hx
          obtain ⟨j, hj, l, hgl, etj⟩ := Paired.get hts htt
          simp only [r_v0, r_g0, r_v1, r_g1, r_v2, r_g2, r_v3, r_g3, r_v4, r_g4, r_v5, r_g5, r_v6, r_g6, r_v7, r_g7, r_v8, r_g8, r_v9, r_g9, r_v10, r_g10, r_v11, r_g11, r_v12, r_g12, r_g13, r_g14, r_g15, r_c, r_op, r_un, r_I0, r_I, r_U, r_eqI, r_eqS, r_neI, r_exbl, r_exint, r_test, r_B, r_and, r_or, r_not, r_andV, r_orV, r_notV, r_if, r_next, r_seqL, r_brk, r_cont, r_drop, r_ret, r_retN, r_ifS, r_asg, r_CB, r_nil, r_cons, r_call, r_tup, r_lst, r_p0, r_pS, r_disp, r_dget, r_sl, r_noPart, r_part, r_gNil, r_gCons, r_itF, r_nT, r_nF, r_len0, r_len1, r_len2, r_len3, r_len4, r_len6, r_len7, r_for, r_iEnum, r_iList, r_iTup, r_iRng1, r_iRng2, r_exI1, r_exR1, r_exR, r_bm, r_bm0, r_ixL, r_ixT, r_cat, r_slL, r_append, r_exRl, r_gTup, true_and, and_true, forall_const, Int.reduceLT, r_compG, r_setComp, r_yes, r_isi_int_str, r_isi_str_str, r_slT, r_inR, r_notInR, cxOf_K, wish_K, blk_K, r_blk1, r_blk2, List.map_cons, List.map_nil, List.getElem?_cons_zero, List.getElem?_cons_succ, Option.join_some, r_Vs, r_dnewK, r_dput, r_exRp, r_gSub, List.set_cons_zero, List.set_cons_succ, r_midL, r_sfld, r_gfld, r_meth, r_make, r_listRng, r_kget1, r_iEnumT, r_sorted, r_any, r_count, blkZ_K, r_iItemsT, r_setT, r_dispT1, r_dnewT, r_tupRng]
          refine ⟨_, SqT.of (s5 _ _ etj), rfl, ?_⟩
          simp_arith [r_listRng, r_kget1, r_iEnumT, r_sorted, r_any, r_count, blkZ_K, r_iItemsT, r_setT, r_dispT1, r_dnewT, r_tupRng]
          refine ⟨by omega, ?_⟩
          rw [bit01]
          have yes : ∀ v10 v11 : Option V, (m.testBit j = true ∨ (l = 0 ∧ j ∈ bitsF k y)) → Same H3 H4 ∧ ∃ (fr_1 : Bool) (o8 o11 : Option V), [some (V.ref a), some (V.ref b), some (V.ref c), some (V.int ↑m), some (V.ref fo), some (V.int ↑k), some (V.ref gr), some (V.int ↑y), v10, some (V.ref acc), some (V.bl fr), v11] =
              [some (V.ref a), some (V.ref b), some (V.ref c), some (V.int ↑m), some (V.ref fo), some (V.int ↑k), some (V.ref gr), some (V.int ↑y), o8, some (V.ref acc), some (V.bl fr_1), o11] ∧ (fr_1 = true → ∀ e', e' < e + 1 → ∀ j, ((List.range k).filter fun j => (gapN ds j k).isSome)[e']? = some j → ∀ l, gapN ds j k = some l → m.testBit j = true ∨ (l = 0 ∧ j ∈ bitsF k y)) := fun v10 v11 hor => ⟨s5, fr, _, _, rfl, fun hf e' he' j' hj' l' hl' => by
            by_cases ee : e' = e
            · rw [ee, hj] at hj'
              cases hj'
              rw [hgl] at hl'
              cases hl'
              exact hor
            · exact hfr hf e' (by omega) j' hj' l' hl'⟩
          have hl01 := gap_le hgl
          refine ite_dec (fun z1 => ?_) (fun z1 => yes _ _ (.inl (by cases hmj : m.testBit j with | true => rfl | false => rw [hmj] at z1; exact absurd rfl z1)))
          refine ite_dec (fun z2 => ?_) (fun z2 => ⟨_, .inl (SqL.of (s5 _ _ e3)), rfl, flat_nl, ?_⟩)
          · rw [if_pos trivial]
            exact ⟨s5, false, _, _, rfl, fun y => by cases y⟩
          · rw [inV_nl]
            exact ite_ndec (fun z3 => ⟨s5, false, _, _, rfl, fun y => by cases y⟩) (fun z3 => yes _ _ (.inr ⟨by omega, z3⟩))
        · rintro σ H4 ⟨s5, fr, p8, p11, rfl, hfr⟩
          dsimp only
          refine later ?_
          simp_arith [r_listRng, r_kget1, r_iEnumT, r_sorted, r_any, r_count, blkZ_K, r_iItemsT, r_setT, r_dispT1, r_dnewT, r_tupRng]
          have s6 := s3.trans s5
          cases fr with
          | false =>
            simp only [Bool.false_eq_true, if_false]
            exact ⟨s2.trans s6, gs, _, _, _, _, _, rfl, s6 _ _ e2, by omega, hgs⟩
          | true =>
            simp only [if_true]
            intro p hp
            have hbl : (bitsF k y).length ≤ k := by
              unfold bitsF
              have := List.length_filter_le (fun i => y.testBit i) (List.range k)
              rwa [List.length_range] at this
            refine ⟨nl (bitsF k y), [V.int k], Same.upd hp _ _ (s5 _ _ e3), upd_same, by rw [nl_len, List.length_singleton, sizeLine_eq]; omega, fun p1 hp1 => ⟨a, p1, b, rfl, ?_⟩⟩
            rw [r_units]
            have s7 := (Same.upd (o := .lst [V.int k]) hp).trans (Same.upd (o := .lst (nl (bitsF k y) ++ [V.int k])) hp1)
            have s8 := ((s1.trans s2).trans s6).trans s7
            refine ⟨xs, ds, us, ci (bitsF k y ++ [k]), s8.seq hS, hds.ts s8.ts, s8.seqT hU, h3, SqL.of (by rw [upd_same, ci_nl, nl_snoc]), by unfold ci; rw [List.length_map, List.length_append, List.length_singleton]; omega, fun z hz => ?_, fun H5 s9 => ⟨_, rfl, ?_⟩⟩
            · obtain ⟨z', hz', rfl⟩ := mem_ci.mp hz
              rcases List.mem_append.mp hz' with hz' | hz'
              · have := (mem_bits.mp hz').1; omega
              · rw [List.mem_singleton.mp hz']; omega
            have s10 := (s6.trans s7).trans s9
            cases hld : loadB ds us (ci (bitsF k y ++ [k])) with
            | false =>
              simp only [Bool.false_eq_true, if_false]
              exact ⟨s2.trans s10, gs, _, _, _, _, _, rfl, s10 _ _ e2, by omega, hgs⟩
            | true =>
              simp only [if_true]
              have hadd := My.add hk (fun j hj l hg => by
                have hjm : j ∈ (List.range k).filter fun j => (gapN ds j k).isSome := List.mem_filter.mpr ⟨List.mem_range.mpr hj, by rw [hg]; rfl⟩
                obtain ⟨e', he'⟩ := List.mem_iff_getElem?.mp hjm
                have hel := (List.getElem?_eq_some_iff.mp he').1
                exact hfr rfl e' (by rw [List.length_map, hts.length]; exact hel) j he' l hg) (load_ci.mp hld)
              rw [or_bit]
              refine ⟨.inl ⟨rfl, _, SqL.of (s10 _ _ e2)⟩, ⟨by omega, by omega, by omega⟩, _, s10 _ _ e2, by rw [nl_len, sizeLine_eq]; omega, (s2.trans s10).updM hgr, gs ++ [y ||| 2 ^ k], _, _, _, _, _, rfl, by rw [upd_same, nl_snoc], by rw [List.length_append, List.length_singleton]; omega, fun x hx => ?_⟩
              rcases List.mem_append.mp hx with hx | hx
              · exact hgs x hx
              · rw [List.mem_singleton.mp hx]; exact hadd
      · rintro σ H2 ⟨s2, gs, p7, p8, p9, p10, p11, rfl, e2, l3, hgs⟩
        dsimp only
        refine later ?_
        simp_arith [r_listRng, r_kget1, r_iEnumT, r_sorted, r_any, r_count, blkZ_K, r_iItemsT, r_setT, r_dispT1, r_dnewT, r_tupRng]
        rw [nl_len] at l3
        refine ⟨nl bs, nl gs, s2 _ _ e1, e2, by rw [nl_len, nl_len, sizeLine_eq]; omega, fun p hp => ⟨(s1.trans s2).updN hp, p, bs ++ gs, _, _, _, _, _, _, _, rfl, by rw [upd_same]; unfold nl; rw [List.map_append], by rw [List.length_append, Nat.pow_succ]; omega, fun x hx => ?_⟩⟩
        rcases List.mem_append.mp hx with hx | hx
        · exact (hbs x hx).keep
        · exact hgs x hx
    · refine later ?_
      simp_arith [r_listRng, r_kget1, r_iEnumT, r_sorted, r_any, r_count, blkZ_K, r_iItemsT, r_setT, r_dispT1, r_dnewT, r_tupRng]
      refine ⟨s1, fo, bs, _, _, _, _, _, _, _, rfl, e1, Nat.le_trans l1 (Nat.pow_le_pow_right (by decide) (Nat.le_succ k)), fun x hx => (hbs x hx).keep⟩
  · rintro σ H1 ⟨s1, fo, bs, o5, o6, o7, o8, o9, o10, o11, rfl, e1, l1, hbs⟩
    dsimp only
    refine later ?_
    simp_arith [r_listRng, r_kget1, r_iEnumT, r_sorted, r_any, r_count, blkZ_K, r_iItemsT, r_setT, r_dispT1, r_dnewT, r_tupRng]
    exact q fo bs H1 s1 e1 (Nat.le_trans l1 (Nat.le_trans (Nat.pow_le_pow_right (by decide) h8) (by decide))) hbs
end
end K32
set_option maxHeartbeats 4000000
namespace K32
open PySem L2 PyProof.Rows FA
noncomputable def LvV (ds : List FB.Deed) (us : List Int) (i : Nat) (kvs : List (Key × V)) : Prop := ∃ ms : List Nat, kvs.map (·.1) = ms.map (fun m : Nat => (Sum.inl (m : Int) : Key)) ∧ ms.Nodup ∧ ∀ m ∈ ms, m < 2 ^ ds.length ∧ GD.Reach (gapN ds) (soN ds) (uN us) ds.length i (fun p => m.testBit p)
theorem LvV.put {ds : List FB.Deed} {us : List Int} {i m : Nat} {kvs : List (Key × V)} {v : V} (h : LvV ds us i kvs) (hm : m < 2 ^ ds.length) (hr : GD.Reach (gapN ds) (soN ds) (uN us) ds.length i (fun p => m.testBit p)) : LvV ds us i (putK kvs (.inl (m : Int)) v) := by
  obtain ⟨ms, h1, h2, h3⟩ := h
  unfold putK
  split
  · refine ⟨ms, ?_, h2, h3⟩
    rw [← h1, List.map_map]
    apply List.map_congr_left
    intro kv _
    show (if kv.1 = _ then (kv.1, v) else kv).1 = kv.1
    split <;> rfl
  · rename_i hn
    have hnm : m ∉ ms := fun hmm => hn (by
      have : (Sum.inl (m : Int) : Key) ∈ kvs.map (·.1) := by rw [h1]; exact List.mem_map.mpr ⟨m, hmm, rfl⟩
      obtain ⟨kv, hkv, e⟩ := List.mem_map.mp this
      exact List.any_eq_true.mpr ⟨kv, hkv, decide_eq_true e⟩)
    refine ⟨ms ++ [m], by rw [List.map_append, List.map_append, h1]; rfl, List.nodup_append.mpr ⟨h2, by simp, fun x hx y hy e => ?_⟩, fun x hx => ?_⟩
    · rw [List.mem_singleton.mp hy] at e
      exact hnm (e ▸ hx)
    · rcases List.mem_append.mp hx with hx | hx
      · exact h3 x hx
      · rw [List.mem_singleton.mp hx]; exact ⟨hm, hr⟩
theorem LvV.len {ds : List FB.Deed} {us : List Int} {i : Nat} {kvs : List (Key × V)} (h8 : ds.length ≤ 8) (h : LvV ds us i kvs) : kvs.length ≤ 256 := by
  obtain ⟨ms, h1, h2, h3⟩ := h
  have e := congrArg List.length h1
  rw [List.length_map, List.length_map] at e
  have z := GD.nodup_len (M := List.range 256) h2 fun m hm => List.mem_range.mpr (Nat.lt_of_lt_of_le (h3 m hm).1 (Nat.le_trans (Nat.pow_le_pow_right (by decide) h8) (by decide)))
  rw [List.length_range] at z
  omega
theorem reach_or {ds : List FB.Deed} {us : List Int} {i m x : Nat} (hr : GD.Reach (gapN ds) (soN ds) (uN us) ds.length i (fun p => m.testBit p)) (hx : MoreOk ds us m ds.length x) : GD.Reach (gapN ds) (soN ds) (uN us) ds.length (i + 1) (fun p => (m ||| x).testBit p) := by
  have z := hr.succ hx.bt
  have e : (fun p => (m ||| x).testBit p) = fun p => m.testBit p || decide (p ∈ bitsF ds.length x) := by
    funext p
    rw [Nat.testBit_or]
    congr 1
    rw [Bool.eq_iff_iff, decide_eq_true_iff, mem_bits]
    constructor
    · intro h
      refine ⟨?_, h⟩
      apply Classical.byContradiction
      intro hn
      have : x < 2 ^ p := Nat.lt_of_lt_of_le hx.lt (Nat.pow_le_pow_right (by decide) (by omega))
      rw [Nat.testBit_lt_two_pow this] at h
      cases h
    · exact fun h => h.2
  rw [e]
  exact z
theorem LvV.not {ds : List FB.Deed} {us : List Int} {i : Nat} {kvs : List (Key × V)} (hU : ∀ s, s < 3 → 0 < uN us s) (h : LvV ds us i kvs) (hno : List.range ds.length ∉ (GD.waysF (gapN ds) (soN ds) (uN us) ds.length i).map (·.1)) : valV kvs (.inl (1 * 2 ^ ds.length - 1)) = none := by
  obtain ⟨ms, h1, h2, h3⟩ := h
  cases hv : valV kvs (.inl (1 * 2 ^ ds.length - 1)) with
  | none => rfl
  | some v =>
    have z : (valV kvs (.inl (1 * 2 ^ ds.length - 1))).isSome = true := by rw [hv]; rfl
    rw [FL.val_some (ps := ms.map fun m : Nat => (m : Int)) (by rw [h1, List.map_map]; rfl), decide_eq_true_iff] at z
    obtain ⟨m, hm, e⟩ := List.mem_map.mp z
    have em : m = 2 ^ ds.length - 1 := by
      have : (1 : Nat) ≤ 2 ^ ds.length := Nat.one_le_two_pow
      have e2 : ((2 ^ ds.length : Nat) : Int) = 2 ^ ds.length := by simp
      omega
    obtain ⟨p, hp, hb⟩ := GD.reach_not hU (h3 m hm).2 hno
    rw [em, Nat.testBit_two_pow_sub_one] at hb
    simp [hp] at hb
section
variable {P : Program} {w : World} {K : PySem.W.Frag} {mg : Str → Option Value} {base : Heap} {t : Ad}
theorem r_laidB {a b : Addr} {H : Hp} {Q : VK} {E : XK} : sp_laidB K [.ref a, .ref b] H Q E = ∃ (ds : List FB.Deed) (us : List Int), DeedsIn K H a b ds us ∧ ∀ c r bss H', Same H H' → LLN H' c bss → (List.range ds.length, bss) ∈ GD.waysF (gapN ds) (soN ds) (uN us) ds.length r → (∀ k, k < r → List.range ds.length ∉ (GD.waysF (gapN ds) (soN ds) (uN us) ds.length k).map (·.1)) → Q (.ref c) H' := propext ⟨by rintro ⟨_, _, ds, us, e, q⟩; cases e; exact ⟨ds, us, q⟩, by rintro ⟨ds, us, q⟩; exact ⟨a, b, ds, us, rfl, q⟩⟩
theorem len_flat : ∀ {bss : List (List Nat)}, (∀ b ∈ bss, b ≠ []) → bss.length ≤ bss.flatten.length
  | [], _ => Nat.le_refl _
  | b :: bss, h => by
    have ih := len_flat (bss := bss) fun c hc => h c (List.mem_cons_of_mem _ hc)
    have := List.length_pos_iff.mpr (h b (by simp))
    rw [List.flatten_cons, List.length_append, List.length_cons]
    omega
theorem lln_bs {H : Hp} {c : Addr} {bss : List (List Nat)} (h : LLN H c bss) : FL.BsV H c (bss.map ci) := by
  obtain ⟨ps, e, r⟩ := h
  refine ⟨ps, e, ?_⟩
  clear e
  induction r with
  | nil => exact .nil
  | cons h t ih => exact .cons (by rw [ci_nl]; exact h) ih
theorem Dq.all_true {H : Hp} {n : Nat} {a b : Addr} {xs : List V} (ha : SqL K H a xs) (hb : SqL K H b xs) (h : ∀ x ∈ xs, ∃ q, x = .ref q) : Rq K H n (.ref a) (.ref b) true := by
  have z := Rq.lists (n := n) (fun _ => true) ha hb rfl fun j x y hx hy => by
    rw [hx] at hy; cases hy
    obtain ⟨q, rfl⟩ := h x (List.mem_of_getElem? hx)
    exact Dq.same
  rw [L2.all_true] at z
  exact z
theorem ok_law (T : Txt K mg t) (hw : t.pr = w.params) : FnOk P w K mg base CX0 41 t.f_law t.e_law ["_law_script"] (sp_law K) := by
  have G__law_deeds := (ok_deeds (P := P) (w := w) (base := base) T)
  have G_laid := (ok_laidB (P := P) (base := base) T hw)
  have G__law_kept := (ok_keptG (P := P) (w := w) (base := base) T)
  have G__law_leans := (ok_leans (P := P) (w := w) (base := base) T)
  have G__law_more := (ok_more (P := P) (w := w) (base := base) T)
  refine T.d_law.F.ok sc_law (fun vs H Q E h => by obtain ⟨_, _, rfl, _⟩ := h; rfl) (fun cdv A outer s H vs Q E hr h => ?_)
  obtain ⟨a, ns, rfl, hS, hlen, hbits, q⟩ := h
  have hu := hu_of hr
  refine ⟨_,
      (XSs.h
      (xpss_cons
        (xps_set (i := 1) sc_law.nd rfl ll (xqe_callB (call_sum rfl) gl T.z_sum boot_sum (xpa_cons (xpe_slice sl_list (xqv 0 vl) xpo_none (xpo_some xpe_int)) xpa_nil)))
      (xpss_cons
        (xps_set (i := 2) sc_law.nd rfl ll (xpe_op op_mod (xqv 1 vl) xpe_int))
      (xpss_mid
        (xps_if (xpt_cmpR op_eq (xpe_op op_mod (xpe_op op_fdivB (xqv 1 vl) xpe_int) xpe_int) xpe_int (nomark _))
          (xpss_one
            (xps_set (i := 2) sc_law.nd rfl ll (xpe_op op_add xpe_int (xpe_op op_mod (xqv 1 vl) xpe_int))))
          xpss_nil)
      (xpss_cons
        (xps_set (i := 3) sc_law.nd rfl ll (xqe_callD T.d__law_deeds G__law_deeds (hr.mono (by first | decide | omega)) (xpa_cons (xpe_slice sl_list (xqv 0 vl) xpo_none (xpo_some xpe_int)) (xpa_cons (xqv 2 vl) (xpa_cons (xpe_op op_add xpe_int (xpe_op op_mod (xpe_op op_fdivB (xqv 1 vl) xpe_int) xpe_int)) xpa_nil))) gl))
      (xpss_cons
        (xps_set (i := 4) sc_law.nd rfl ll (xpe_tup (xpa_cons (xpe_op op_add xpe_int (xpe_op op_mod (xpe_op op_fdivB (xqv 1 vl) xpe_int) xpe_int)) (xpa_cons (xpe_op op_add xpe_int (xpe_op op_mod (xpe_op op_fdivB (xqv 1 vl) xpe_int) xpe_int)) (xpa_cons (xpe_op op_add xpe_int (xpe_op op_mod (xpe_op op_fdivB (xqv 1 vl) xpe_int) xpe_int)) xpa_nil)))))
      (xpss_cons
        (xps_set (i := 5) sc_law.nd rfl ll (xqe_callTy call_list_of gl T.z_list boot_list (xpa_cons (xqv 3 vl) xpa_nil)))
      (xpss_cons
        (xps_set (i := 6) sc_law.nd rfl ll (xqe_callD T.d_laid G_laid (hr.mono (by first | decide | omega)) (xpa_cons (xqv 5 vl) (xpa_cons (xqv 4 vl) xpa_nil)) gl))
      (xpss_cons
        (xps_if (xPW_pt (xpw_or (xpt_cmpR (op_neD (n := 3) (hu_n (by decide) hr)) (xqv 5 vl) (xqv 3 vl) (nomark _)) (xpw_or (xpt_not (xpt_val (xqe_callB call_isi gl T.z_isinstance boot_isinstance (xpa_cons (xqv 6 vl) (xpa_cons (xqe_bltn (v := .ty "list") gl T.z_list boot_list rfl) xpa_nil))))) (xpw_or1 (xpt_not (xpt_val (xqe_callD T.d__law_kept G__law_kept (hr.mono (by first | decide | omega)) (xpa_cons (xqv 3 vl) (xpa_cons (xqv 4 vl) (xpa_cons (xqv 6 vl) xpa_nil))) gl)))))))
          (xpss_one
            (xps_ret xpe_bl))
          xpss_nil)
      (xpss_cons
        (xps_set (i := 7) sc_law.nd rfl ll (xqe_callD T.d__law_leans G__law_leans (hr.mono (by first | decide | omega)) (xpa_cons (xqv 3 vl) xpa_nil) gl))
      (xpss_cons
        (xps_set (i := 8) sc_law.nd rfl ll (xpe_disp (pps_cons (xpe_int).h (xpe_bl).h pps_nil) rfl rfl (by intro z; cases z) (by decide)))
      (xpss_cons
        (xps_for PassesOwn.never rfl (xpi_range1 gl T.z_range (xpa_cons (xpe_op op_sub (xqe_callB call_len_seq gl T.z_len PySem.boot_len (xpa_cons (xqv 6 vl) xpa_nil)) xpe_int) xpa_nil)) (xpg_name (i := 9) sc_law.nd rfl ll)
          (xpss_cons
            (xps_set (i := 10) sc_law.nd rfl ll xpe_dnewK)
          (xpss_cons
            (xps_for PassesOwn.never rfl (xpi_list (xqe_callTy (call_listD rfl) gl T.z_list boot_list (xpa_cons (xqv 8 vl) xpa_nil))) (xpg_name (i := 11) sc_law.nd rfl ll)
              (xpss_one
                (xps_for PassesOwn.never rfl (xpi_list (xqe_callD T.d__law_more G__law_more (hr.mono (by first | decide | omega)) (xpa_cons (xqv 3 vl) (xpa_cons (xqv 4 vl) (xpa_cons (xqv 7 vl) (xpa_cons (xqv 11 vl) xpa_nil)))) gl)) (xpg_name (i := 12) sc_law.nd rfl ll)
                  (xpss_one
                    (xps_dput hu (xqv 10 vl) (xpe_op op_or (xqv 11 vl) (xqv 12 vl)) xpe_bl rfl)))))
          (xpss_cons
            (xps_set (i := 8) sc_law.nd rfl ll (xqv 10 vl))
          (xpss_one
            (xps_if (xpt_cmp (xpc_din hu (xpe_op op_sub (xpe_op op_shl xpe_int (xqe_callB call_len_seq gl T.z_len PySem.boot_len (xpa_cons (xqv 3 vl) xpa_nil))) xpe_int) (xqv 8 vl)))
              (xpss_one
                (xps_ret xpe_bl))
              xpss_nil))))))
      (xpss_one
        (xps_ret xpe_bl)))))))))))))), ?_⟩
  rw [show start _ [V.ref a] = [some (.ref a), none, none, none, none, none, none, none, none, none, none, none, none] from rfl]
  simp only [r_v0, r_g0, r_v1, r_g1, r_v2, r_g2, r_v3, r_g3, r_v4, r_g4, r_v5, r_g5, r_v6, r_g6, r_v7, r_g7, r_v8, r_g8, r_v9, r_g9, r_v10, r_g10, r_v11, r_g11, r_v12, r_g12, r_g13, r_g14, r_g15, r_c, r_op, r_un, r_I0, r_I, r_U, r_eqI, r_eqS, r_neI, r_exbl, r_exint, r_test, r_B, r_and, r_or, r_not, r_andV, r_orV, r_notV, r_if, r_next, r_seqL, r_brk, r_cont, r_drop, r_ret, r_retN, r_ifS, r_asg, r_CB, r_nil, r_cons, r_call, r_tup, r_lst, r_p0, r_pS, r_disp, r_dget, r_sl, r_noPart, r_part, r_gNil, r_gCons, r_itF, r_nT, r_nF, r_len0, r_len1, r_len2, r_len3, r_len4, r_len6, r_len7, r_for, r_iEnum, r_iList, r_iTup, r_iRng1, r_iRng2, r_exI1, r_exR1, r_exR, r_bm, r_bm0, r_ixL, r_ixT, r_cat, r_slL, r_append, r_exRl, r_gTup, true_and, and_true, forall_const, Int.reduceLT, r_compG, r_setComp, r_yes, r_isi_int_str, r_isi_str_str, r_slT, r_inR, r_notInR, cxOf_K, wish_K, blk_K, r_blk1, r_blk2, List.map_cons, List.map_nil, List.getElem?_cons_zero, List.getElem?_cons_succ, Option.join_some, r_Vs, r_dnewK, r_dput, r_exRp, r_gSub, List.set_cons_zero, List.set_cons_succ, r_midL, r_sfld, r_gfld, r_meth, r_make, r_listRng, r_kget1, r_iEnumT, r_sorted, r_any, r_count, blkZ_K, r_iItemsT, r_setT, r_dispT1, r_dnewT, r_tupRng]
  have ec : cutV (ns.map V.int) none (some 63) = ns.map V.int := by rw [cutV_to (by decide), List.take_of_length_le (by rw [List.length_map]; exact hlen)]
  refine ⟨_, hS, fun p hp => ⟨p, ns, rfl, SqL.of (by rw [upd_same, ec]), ?_⟩⟩
  have s0 := Same.upd (o := .lst (cutV (ns.map V.int) none (some 63))) hp
  generalize upd H p (.lst (cutV (ns.map V.int) none (some 63))) = H0 at s0 ⊢
  refine later ?_
  simp only [r_v0, r_g0, r_v1, r_g1, r_v2, r_g2, r_v3, r_g3, r_v4, r_g4, r_v5, r_g5, r_v6, r_g6, r_v7, r_g7, r_v8, r_g8, r_v9, r_g9, r_v10, r_g10, r_v11, r_g11, r_v12, r_g12, r_g13, r_g14, r_g15, r_c, r_op, r_un, r_I0, r_I, r_U, r_eqI, r_eqS, r_neI, r_exbl, r_exint, r_test, r_B, r_and, r_or, r_not, r_andV, r_orV, r_notV, r_if, r_next, r_seqL, r_brk, r_cont, r_drop, r_ret, r_retN, r_ifS, r_asg, r_CB, r_nil, r_cons, r_call, r_tup, r_lst, r_p0, r_pS, r_disp, r_dget, r_sl, r_noPart, r_part, r_gNil, r_gCons, r_itF, r_nT, r_nF, r_len0, r_len1, r_len2, r_len3, r_len4, r_len6, r_len7, r_for, r_iEnum, r_iList, r_iTup, r_iRng1, r_iRng2, r_exI1, r_exR1, r_exR, r_bm, r_bm0, r_ixL, r_ixT, r_cat, r_slL, r_append, r_exRl, r_gTup, true_and, and_true, forall_const, Int.reduceLT, r_compG, r_setComp, r_yes, r_isi_int_str, r_isi_str_str, r_slT, r_inR, r_notInR, cxOf_K, wish_K, blk_K, r_blk1, r_blk2, List.map_cons, List.map_nil, List.getElem?_cons_zero, List.getElem?_cons_succ, Option.join_some, r_Vs, r_dnewK, r_dput, r_exRp, r_gSub, List.set_cons_zero, List.set_cons_succ, r_midL, r_sfld, r_gfld, r_meth, r_make, r_listRng, r_kget1, r_iEnumT, r_sorted, r_any, r_count, blkZ_K, r_iItemsT, r_setT, r_dispT1, r_dnewT, r_tupRng]
  refine later ?_
  simp only [r_v0, r_g0, r_v1, r_g1, r_v2, r_g2, r_v3, r_g3, r_v4, r_g4, r_v5, r_g5, r_v6, r_g6, r_v7, r_g7, r_v8, r_g8, r_v9, r_g9, r_v10, r_g10, r_v11, r_g11, r_v12, r_g12, r_g13, r_g14, r_g15, r_c, r_op, r_un, r_I0, r_I, r_U, r_eqI, r_eqS, r_neI, r_exbl, r_exint, r_test, r_B, r_and, r_or, r_not, r_andV, r_orV, r_notV, r_if, r_next, r_seqL, r_brk, r_cont, r_drop, r_ret, r_retN, r_ifS, r_asg, r_CB, r_nil, r_cons, r_call, r_tup, r_lst, r_p0, r_pS, r_disp, r_dget, r_sl, r_noPart, r_part, r_gNil, r_gCons, r_itF, r_nT, r_nF, r_len0, r_len1, r_len2, r_len3, r_len4, r_len6, r_len7, r_for, r_iEnum, r_iList, r_iTup, r_iRng1, r_iRng2, r_exI1, r_exR1, r_exR, r_bm, r_bm0, r_ixL, r_ixT, r_cat, r_slL, r_append, r_exRl, r_gTup, true_and, and_true, forall_const, Int.reduceLT, r_compG, r_setComp, r_yes, r_isi_int_str, r_isi_str_str, r_slT, r_inR, r_notInR, cxOf_K, wish_K, blk_K, r_blk1, r_blk2, List.map_cons, List.map_nil, List.getElem?_cons_zero, List.getElem?_cons_succ, Option.join_some, r_Vs, r_dnewK, r_dput, r_exRp, r_gSub, List.set_cons_zero, List.set_cons_succ, r_midL, r_sfld, r_gfld, r_meth, r_make, r_listRng, r_kget1, r_iEnumT, r_sorted, r_any, r_count, blkZ_K, r_iItemsT, r_setT, r_dispT1, r_dnewT, r_tupRng]
  refine ⟨fun σ H' => H' = H0 ∧ ∃ mo : Int, 0 ≤ mo ∧ mo ≤ 8 ∧ σ = [some (.ref a), some (.int ns.sum), some (.int mo), none, none, none, none, none, none, none, none, none, none], ⟨CDivB.small (by decide) (by decide), ?_⟩, ?_⟩
  · have m7 := Int.emod_nonneg ns.sum (show (7 : Int) ≠ 0 by decide)
    have m7' := Int.emod_lt_of_pos ns.sum (show (0 : Int) < 7 by decide)
    have m2 := Int.emod_nonneg ns.sum (show (2 : Int) ≠ 0 by decide)
    have m2' := Int.emod_lt_of_pos ns.sum (show (0 : Int) < 2 by decide)
    refine ite_dec (fun _ => ?_) (fun _ => ?_)
    · exact ⟨rfl, _, by omega, by omega, rfl⟩
    · exact ⟨rfl, _, by omega, by omega, rfl⟩
  rintro σ H' ⟨rfl, mo, mo0, mo8, rfl⟩
  refine later ?_
  simp only [r_v0, r_g0, r_v1, r_g1, r_v2, r_g2, r_v3, r_g3, r_v4, r_g4, r_v5, r_g5, r_v6, r_g6, r_v7, r_g7, r_v8, r_g8, r_v9, r_g9, r_v10, r_g10, r_v11, r_g11, r_v12, r_g12, r_g13, r_g14, r_g15, r_c, r_op, r_un, r_I0, r_I, r_U, r_eqI, r_eqS, r_neI, r_exbl, r_exint, r_test, r_B, r_and, r_or, r_not, r_andV, r_orV, r_notV, r_if, r_next, r_seqL, r_brk, r_cont, r_drop, r_ret, r_retN, r_ifS, r_asg, r_CB, r_nil, r_cons, r_call, r_tup, r_lst, r_p0, r_pS, r_disp, r_dget, r_sl, r_noPart, r_part, r_gNil, r_gCons, r_itF, r_nT, r_nF, r_len0, r_len1, r_len2, r_len3, r_len4, r_len6, r_len7, r_for, r_iEnum, r_iList, r_iTup, r_iRng1, r_iRng2, r_exI1, r_exR1, r_exR, r_bm, r_bm0, r_ixL, r_ixT, r_cat, r_slL, r_append, r_exRl, r_gTup, true_and, and_true, forall_const, Int.reduceLT, r_compG, r_setComp, r_yes, r_isi_int_str, r_isi_str_str, r_slT, r_inR, r_notInR, cxOf_K, wish_K, blk_K, r_blk1, r_blk2, List.map_cons, List.map_nil, List.getElem?_cons_zero, List.getElem?_cons_succ, Option.join_some, r_Vs, r_dnewK, r_dput, r_exRp, r_gSub, List.set_cons_zero, List.set_cons_succ, r_midL, r_sfld, r_gfld, r_meth, r_make, r_listRng, r_kget1, r_iEnumT, r_sorted, r_any, r_count, blkZ_K, r_iItemsT, r_setT, r_dispT1, r_dnewT, r_tupRng, r_deeds]
  refine ⟨_, s0.seq hS, fun p1 hp1 => ⟨CDivB.small (by decide) (by decide), ns, SqL.of (by rw [upd_same, ec]), hlen, hbits, mo0, ?_, fun p2 xs H2 s2 hp2 hxs hds => ?_⟩⟩
  · have := Int.emod_nonneg (ns.sum / 7) (show (6 : Int) ≠ 0 by decide); omega
  have h8 : (deedsF (List.take mo.toNat ns) (1 + ns.sum / 7 % 6).toNat).length ≤ 8 := by
    unfold deedsF
    rw [List.length_mapIdx, List.length_take]
    omega
  generalize deedsF (List.take mo.toNat ns) (1 + ns.sum / 7 % 6).toNat = ds at hds h8
  have lx := hds.length
  refine later ?_
  simp only [r_v0, r_g0, r_v1, r_g1, r_v2, r_g2, r_v3, r_g3, r_v4, r_g4, r_v5, r_g5, r_v6, r_g6, r_v7, r_g7, r_v8, r_g8, r_v9, r_g9, r_v10, r_g10, r_v11, r_g11, r_v12, r_g12, r_g13, r_g14, r_g15, r_c, r_op, r_un, r_I0, r_I, r_U, r_eqI, r_eqS, r_neI, r_exbl, r_exint, r_test, r_B, r_and, r_or, r_not, r_andV, r_orV, r_notV, r_if, r_next, r_seqL, r_brk, r_cont, r_drop, r_ret, r_retN, r_ifS, r_asg, r_CB, r_nil, r_cons, r_call, r_tup, r_lst, r_p0, r_pS, r_disp, r_dget, r_sl, r_noPart, r_part, r_gNil, r_gCons, r_itF, r_nT, r_nF, r_len0, r_len1, r_len2, r_len3, r_len4, r_len6, r_len7, r_for, r_iEnum, r_iList, r_iTup, r_iRng1, r_iRng2, r_exI1, r_exR1, r_exR, r_bm, r_bm0, r_ixL, r_ixT, r_cat, r_slL, r_append, r_exRl, r_gTup, true_and, and_true, forall_const, Int.reduceLT, r_compG, r_setComp, r_yes, r_isi_int_str, r_isi_str_str, r_slT, r_inR, r_notInR, cxOf_K, wish_K, blk_K, r_blk1, r_blk2, List.map_cons, List.map_nil, List.getElem?_cons_zero, List.getElem?_cons_succ, Option.join_some, r_Vs, r_dnewK, r_dput, r_exRp, r_gSub, List.set_cons_zero, List.set_cons_succ, r_midL, r_sfld, r_gfld, r_meth, r_make, r_listRng, r_kget1, r_iEnumT, r_sorted, r_any, r_count, blkZ_K, r_iItemsT, r_setT, r_dispT1, r_dnewT, r_tupRng]
  refine ⟨CDivB.small (by decide) (by decide), CDivB.small (by decide) (by decide), CDivB.small (by decide) (by decide), fun p3 hp3 => ?_⟩
  obtain ⟨us, hus, h3, hpos⟩ : ∃ us : List Int, [V.int (1 + ns.sum / 54 % 3), V.int (1 + ns.sum / 162 % 3), V.int (1 + ns.sum / 486 % 3)] = us.map V.int ∧ us.length = 3 ∧ ∀ u ∈ us, 0 < u ∧ u ≤ 3 := by
    refine ⟨[1 + ns.sum / 54 % 3, 1 + ns.sum / 162 % 3, 1 + ns.sum / 486 % 3], rfl, rfl, fun u hu => ?_⟩
    simp only [List.mem_cons, List.not_mem_nil, or_false] at hu
    omega
  rw [hus]
  have hpo : ∀ s, s < 3 → 0 < uN us s := fun s hs => by
    unfold uN
    rw [List.getD_eq_getElem?_getD, List.getElem?_eq_getElem (by omega)]
    exact (hpos _ (List.getElem_mem _)).1
  have s3 := Same.upd (o := .tup (us.map V.int)) hp3
  have e3 : (upd H2 p3 (.tup (us.map V.int))) p3 = some (.tup (us.map V.int)) := upd_same
  generalize upd H2 p3 (.tup (us.map V.int)) = H3 at s3 e3 ⊢
  have x3 := s3 _ _ hxs
  have d3 : DeedsV K H3 xs ds := hds.ts s3.ts
  refine later ?_
  simp only [r_v0, r_g0, r_v1, r_g1, r_v2, r_g2, r_v3, r_g3, r_v4, r_g4, r_v5, r_g5, r_v6, r_g6, r_v7, r_g7, r_v8, r_g8, r_v9, r_g9, r_v10, r_g10, r_v11, r_g11, r_v12, r_g12, r_g13, r_g14, r_g15, r_c, r_op, r_un, r_I0, r_I, r_U, r_eqI, r_eqS, r_neI, r_exbl, r_exint, r_test, r_B, r_and, r_or, r_not, r_andV, r_orV, r_notV, r_if, r_next, r_seqL, r_brk, r_cont, r_drop, r_ret, r_retN, r_ifS, r_asg, r_CB, r_nil, r_cons, r_call, r_tup, r_lst, r_p0, r_pS, r_disp, r_dget, r_sl, r_noPart, r_part, r_gNil, r_gCons, r_itF, r_nT, r_nF, r_len0, r_len1, r_len2, r_len3, r_len4, r_len6, r_len7, r_for, r_iEnum, r_iList, r_iTup, r_iRng1, r_iRng2, r_exI1, r_exR1, r_exR, r_bm, r_bm0, r_ixL, r_ixT, r_cat, r_slL, r_append, r_exRl, r_gTup, true_and, and_true, forall_const, Int.reduceLT, r_compG, r_setComp, r_yes, r_isi_int_str, r_isi_str_str, r_slT, r_inR, r_notInR, cxOf_K, wish_K, blk_K, r_blk1, r_blk2, List.map_cons, List.map_nil, List.getElem?_cons_zero, List.getElem?_cons_succ, Option.join_some, r_Vs, r_dnewK, r_dput, r_exRp, r_gSub, List.set_cons_zero, List.set_cons_succ, r_midL, r_sfld, r_gfld, r_meth, r_make, r_listRng, r_kget1, r_iEnumT, r_sorted, r_any, r_count, blkZ_K, r_iItemsT, r_setT, r_dispT1, r_dnewT, r_tupRng]
  refine ⟨xs, .inl (SqL.of x3), fun l hl => ?_⟩
  have s4 := Same.upd (o := .lst xs) hl
  have e4 : upd H3 l (.lst xs) l = some (.lst xs) := upd_same
  have x4 := s4 _ _ x3
  have u4 := s4 _ _ e3
  have d4 : DeedsV K (upd H3 l (.lst xs)) xs ds := d3.ts s4.ts
  generalize upd H3 l (.lst xs) = H4 at s4 e4 x4 u4 d4 ⊢
  refine later ?_
  simp only [r_v0, r_g0, r_v1, r_g1, r_v2, r_g2, r_v3, r_g3, r_v4, r_g4, r_v5, r_g5, r_v6, r_g6, r_v7, r_g7, r_v8, r_g8, r_v9, r_g9, r_v10, r_g10, r_v11, r_g11, r_v12, r_g12, r_g13, r_g14, r_g15, r_c, r_op, r_un, r_I0, r_I, r_U, r_eqI, r_eqS, r_neI, r_exbl, r_exint, r_test, r_B, r_and, r_or, r_not, r_andV, r_orV, r_notV, r_if, r_next, r_seqL, r_brk, r_cont, r_drop, r_ret, r_retN, r_ifS, r_asg, r_CB, r_nil, r_cons, r_call, r_tup, r_lst, r_p0, r_pS, r_disp, r_dget, r_sl, r_noPart, r_part, r_gNil, r_gCons, r_itF, r_nT, r_nF, r_len0, r_len1, r_len2, r_len3, r_len4, r_len6, r_len7, r_for, r_iEnum, r_iList, r_iTup, r_iRng1, r_iRng2, r_exI1, r_exR1, r_exR, r_bm, r_bm0, r_ixL, r_ixT, r_cat, r_slL, r_append, r_exRl, r_gTup, true_and, and_true, forall_const, Int.reduceLT, r_compG, r_setComp, r_yes, r_isi_int_str, r_isi_str_str, r_slT, r_inR, r_notInR, cxOf_K, wish_K, blk_K, r_blk1, r_blk2, List.map_cons, List.map_nil, List.getElem?_cons_zero, List.getElem?_cons_succ, Option.join_some, r_Vs, r_dnewK, r_dput, r_exRp, r_gSub, List.set_cons_zero, List.set_cons_succ, r_midL, r_sfld, r_gfld, r_meth, r_make, r_listRng, r_kget1, r_iEnumT, r_sorted, r_any, r_count, blkZ_K, r_iItemsT, r_setT, r_dispT1, r_dnewT, r_tupRng, r_laidB]
  refine ⟨ds, us, ⟨xs, SqL.of e4, d4, h8, SqT.of u4, h3, hpos⟩, fun c r bss H5 s5 hll hmem hno => ?_⟩
  have gl := ways_good hpo (fun j k l h => (gap_le h).2) r hno _ hmem
  have hrl := ((GD.ways_ok r).lay _ hmem).2
  replace gl : GoodL (gapN ds) (soN ds) (uN us) bss (List.range ds.length) := gl
  replace hrl : bss.length = r := hrl
  have hr8 : bss.length ≤ 8 := by
    have z1 := len_flat gl.ne
    have z2 := gl.perm.length_eq
    rw [List.length_range] at z2
    omega
  have e5 := s5 _ _ e4
  have x5 := s5 _ _ x4
  have u5 := s5 _ _ u4
  have d5 : DeedsV K H5 xs ds := d4.ts s5.ts
  have refs : ∀ y ∈ xs, ∃ q, y = V.ref q := fun y hy => by
    obtain ⟨i, hi, rfl⟩ := List.mem_iff_getElem.mp hy
    obtain ⟨d, _, _, qx, e, _⟩ := Paired.get d5 (List.getElem?_eq_getElem hi)
    exact ⟨qx, e⟩
  obtain ⟨ps, hc, hps⟩ := id hll
  have lps := hps.length
  refine later ?_
  simp only [r_v0, r_g0, r_v1, r_g1, r_v2, r_g2, r_v3, r_g3, r_v4, r_g4, r_v5, r_g5, r_v6, r_g6, r_v7, r_g7, r_v8, r_g8, r_v9, r_g9, r_v10, r_g10, r_v11, r_g11, r_v12, r_g12, r_g13, r_g14, r_g15, r_c, r_op, r_un, r_I0, r_I, r_U, r_eqI, r_eqS, r_neI, r_exbl, r_exint, r_test, r_B, r_and, r_or, r_not, r_andV, r_orV, r_notV, r_if, r_next, r_seqL, r_brk, r_cont, r_drop, r_ret, r_retN, r_ifS, r_asg, r_CB, r_nil, r_cons, r_call, r_tup, r_lst, r_p0, r_pS, r_disp, r_dget, r_sl, r_noPart, r_part, r_gNil, r_gCons, r_itF, r_nT, r_nF, r_len0, r_len1, r_len2, r_len3, r_len4, r_len6, r_len7, r_for, r_iEnum, r_iList, r_iTup, r_iRng1, r_iRng2, r_exI1, r_exR1, r_exR, r_bm, r_bm0, r_ixL, r_ixT, r_cat, r_slL, r_append, r_exRl, r_gTup, true_and, and_true, forall_const, Int.reduceLT, r_compG, r_setComp, r_yes, r_isi_int_str, r_isi_str_str, r_slT, r_inR, r_notInR, cxOf_K, wish_K, blk_K, r_blk1, r_blk2, List.map_cons, List.map_nil, List.getElem?_cons_zero, List.getElem?_cons_succ, Option.join_some, r_Vs, r_dnewK, r_dput, r_exRp, r_gSub, List.set_cons_zero, List.set_cons_succ, r_midL, r_sfld, r_gfld, r_meth, r_make, r_listRng, r_kget1, r_iEnumT, r_sorted, r_any, r_count, blkZ_K, r_iItemsT, r_setT, r_dispT1, r_dnewT, r_tupRng, r_keptG]
  refine ⟨true, Dq.all_true (SqL.of e5) (SqL.of x5) refs, _, rfl, ?_⟩
  rw [Bool.not_true, if_neg Bool.false_ne_true]
  refine ⟨_, _, _, rfl, by decide +kernel, .lst (SqL.of hc), _, rfl, ?_⟩
  rw [show kindIs "list" "list" = true by decide +kernel, Bool.not_true, if_neg Bool.false_ne_true]
  refine ⟨xs, ds, us, bss.map ci, ⟨SqL.of x5, d5, h8, SqT.of u5, h3, lln_bs hll, places_ci gl, fun b hb => ?_, fun b hb => ?_, fun j k l hk hj hg => lean_ci gl hk hj hg⟩, fun H6 s6 => ⟨_, rfl, ?_⟩⟩
  · obtain ⟨b', hb', rfl⟩ := List.mem_map.mp hb
    unfold ci
    rw [List.pairwise_map]
    exact (gl.srt b' hb').imp fun h => by omega
  · obtain ⟨b', hb', rfl⟩ := List.mem_map.mp hb
    exact load_ci.mpr (gl.load b' hb')
  rw [Bool.not_true, if_neg Bool.false_ne_true]
  have x6 := s6 _ _ x5
  have u6 := s6 _ _ u5
  have d6 : DeedsV K H6 xs ds := d5.ts s6.ts
  have c6 := s6 _ _ hc
  refine later ?_
  simp only [r_v0, r_g0, r_v1, r_g1, r_v2, r_g2, r_v3, r_g3, r_v4, r_g4, r_v5, r_g5, r_v6, r_g6, r_v7, r_g7, r_v8, r_g8, r_v9, r_g9, r_v10, r_g10, r_v11, r_g11, r_v12, r_g12, r_g13, r_g14, r_g15, r_c, r_op, r_un, r_I0, r_I, r_U, r_eqI, r_eqS, r_neI, r_exbl, r_exint, r_test, r_B, r_and, r_or, r_not, r_andV, r_orV, r_notV, r_if, r_next, r_seqL, r_brk, r_cont, r_drop, r_ret, r_retN, r_ifS, r_asg, r_CB, r_nil, r_cons, r_call, r_tup, r_lst, r_p0, r_pS, r_disp, r_dget, r_sl, r_noPart, r_part, r_gNil, r_gCons, r_itF, r_nT, r_nF, r_len0, r_len1, r_len2, r_len3, r_len4, r_len6, r_len7, r_for, r_iEnum, r_iList, r_iTup, r_iRng1, r_iRng2, r_exI1, r_exR1, r_exR, r_bm, r_bm0, r_ixL, r_ixT, r_cat, r_slL, r_append, r_exRl, r_gTup, true_and, and_true, forall_const, Int.reduceLT, r_compG, r_setComp, r_yes, r_isi_int_str, r_isi_str_str, r_slT, r_inR, r_notInR, cxOf_K, wish_K, blk_K, r_blk1, r_blk2, List.map_cons, List.map_nil, List.getElem?_cons_zero, List.getElem?_cons_succ, Option.join_some, r_Vs, r_dnewK, r_dput, r_exRp, r_gSub, List.set_cons_zero, List.set_cons_succ, r_midL, r_sfld, r_gfld, r_meth, r_make, r_listRng, r_kget1, r_iEnumT, r_sorted, r_any, r_count, blkZ_K, r_iItemsT, r_setT, r_dispT1, r_dnewT, r_tupRng, r_leans]
  refine ⟨xs, ds, SqL.of x6, d6, h8, fun ln H7 s7 hln => ?_⟩
  have x7 := s7 _ _ x6
  have u7 := s7 _ _ u6
  have d7 : DeedsV K H7 xs ds := d6.ts s7.ts
  have c7 := s7 _ _ c6
  refine later ?_
  simp only [r_v0, r_g0, r_v1, r_g1, r_v2, r_g2, r_v3, r_g3, r_v4, r_g4, r_v5, r_g5, r_v6, r_g6, r_v7, r_g7, r_v8, r_g8, r_v9, r_g9, r_v10, r_g10, r_v11, r_g11, r_v12, r_g12, r_g13, r_g14, r_g15, r_c, r_op, r_un, r_I0, r_I, r_U, r_eqI, r_eqS, r_neI, r_exbl, r_exint, r_test, r_B, r_and, r_or, r_not, r_andV, r_orV, r_notV, r_if, r_next, r_seqL, r_brk, r_cont, r_drop, r_ret, r_retN, r_ifS, r_asg, r_CB, r_nil, r_cons, r_call, r_tup, r_lst, r_p0, r_pS, r_disp, r_dget, r_sl, r_noPart, r_part, r_gNil, r_gCons, r_itF, r_nT, r_nF, r_len0, r_len1, r_len2, r_len3, r_len4, r_len6, r_len7, r_for, r_iEnum, r_iList, r_iTup, r_iRng1, r_iRng2, r_exI1, r_exR1, r_exR, r_bm, r_bm0, r_ixL, r_ixT, r_cat, r_slL, r_append, r_exRl, r_gTup, true_and, and_true, forall_const, Int.reduceLT, r_compG, r_setComp, r_yes, r_isi_int_str, r_isi_str_str, r_slT, r_inR, r_notInR, cxOf_K, wish_K, blk_K, r_blk1, r_blk2, List.map_cons, List.map_nil, List.getElem?_cons_zero, List.getElem?_cons_succ, Option.join_some, r_Vs, r_dnewK, r_dput, r_exRp, r_gSub, List.set_cons_zero, List.set_cons_succ, r_midL, r_sfld, r_gfld, r_meth, r_make, r_listRng, r_kget1, r_iEnumT, r_sorted, r_any, r_count, blkZ_K, r_iItemsT, r_setT, r_dispT1, r_dnewT, r_tupRng]
  intro lv0 hlv0
  refine ⟨upd_same, [(.inl 0, .bl true)], rfl, by decide, ?_⟩
  have s8 : Same H7 (upd (upd H7 lv0 (.dK [])) lv0 (.dK (mergeK [] [(.inl 0, .bl true)]))) := (Same.upd hlv0).updM hlv0
  have e8 : upd (upd H7 lv0 (.dK [])) lv0 (.dK (mergeK [] [(.inl 0, .bl true)])) lv0 = some (.dK [(.inl 0, .bl true)]) := upd_same
  generalize upd (upd H7 lv0 (.dK [])) lv0 (.dK (mergeK [] [(.inl 0, .bl true)])) = H8 at s8 e8 ⊢
  have L0 : LvV ds us 0 [(.inl 0, .bl true)] := ⟨[0], rfl, by simp, fun m hm => by
    rw [List.mem_singleton.mp hm]
    refine ⟨Nat.pow_pos (by decide), ?_⟩
    have e : (fun p => Nat.testBit 0 p) = fun _ => false := by funext p; exact Nat.zero_testBit p
    rw [e]
    exact .zero⟩
  refine later ?_
  simp only [r_v0, r_g0, r_v1, r_g1, r_v2, r_g2, r_v3, r_g3, r_v4, r_g4, r_v5, r_g5, r_v6, r_g6, r_v7, r_g7, r_v8, r_g8, r_v9, r_g9, r_v10, r_g10, r_v11, r_g11, r_v12, r_g12, r_g13, r_g14, r_g15, r_c, r_op, r_un, r_I0, r_I, r_U, r_eqI, r_eqS, r_neI, r_exbl, r_exint, r_test, r_B, r_and, r_or, r_not, r_andV, r_orV, r_notV, r_if, r_next, r_seqL, r_brk, r_cont, r_drop, r_ret, r_retN, r_ifS, r_asg, r_CB, r_nil, r_cons, r_call, r_tup, r_lst, r_p0, r_pS, r_disp, r_dget, r_sl, r_noPart, r_part, r_gNil, r_gCons, r_itF, r_nT, r_nF, r_len0, r_len1, r_len2, r_len3, r_len4, r_len6, r_len7, r_for, r_iEnum, r_iList, r_iTup, r_iRng1, r_iRng2, r_exI1, r_exR1, r_exR, r_bm, r_bm0, r_ixL, r_ixT, r_cat, r_slL, r_append, r_exRl, r_gTup, true_and, and_true, forall_const, Int.reduceLT, r_compG, r_setComp, r_yes, r_isi_int_str, r_isi_str_str, r_slT, r_inR, r_notInR, cxOf_K, wish_K, blk_K, r_blk1, r_blk2, List.map_cons, List.map_nil, List.getElem?_cons_zero, List.getElem?_cons_succ, Option.join_some, r_Vs, r_dnewK, r_dput, r_exRp, r_gSub, List.set_cons_zero, List.set_cons_succ, r_midL, r_sfld, r_gfld, r_meth, r_make, r_listRng, r_kget1, r_iEnumT, r_sorted, r_any, r_count, blkZ_K, r_iItemsT, r_setT, r_dispT1, r_dnewT, r_tupRng]
  refine ⟨_, .inl (SqL.of (s8 _ _ c7)), by rw [List.length_map]; omega, by rw [List.length_map]; omega, ?_⟩
  rw [List.length_map]
  refine fw_range0 (fun i σ H' => Same H7 H' ∧ ∃ (lv : Addr) (kvs : List (Key × V)) (o9 o10 o11 o12 : Option V), σ = [some (.ref a), some (.int ns.sum), some (.int mo), some (.ref p2), some (.ref p3), some (.ref l), some (.ref c), some (.ref ln), some (.ref lv), o9, o10, o11, o12] ∧ H7 lv = none ∧ H' lv = some (.dK kvs) ∧ LvV ds us i kvs)
    ⟨s8, lv0, _, _, _, _, _, rfl, hlv0, e8, L0⟩ ?_ ?_
  · rintro i σ H9 hi ⟨s9, lv, kvs, o9, o10, o11, o12, rfl, hlv, e9, hLv⟩
    have hir : i + 1 < r := by omega
    simp only [r_v0, r_g0, r_v1, r_g1, r_v2, r_g2, r_v3, r_g3, r_v4, r_g4, r_v5, r_g5, r_v6, r_g6, r_v7, r_g7, r_v8, r_g8, r_v9, r_g9, r_v10, r_g10, r_v11, r_g11, r_v12, r_g12, r_g13, r_g14, r_g15, r_c, r_op, r_un, r_I0, r_I, r_U, r_eqI, r_eqS, r_neI, r_exbl, r_exint, r_test, r_B, r_and, r_or, r_not, r_andV, r_orV, r_notV, r_if, r_next, r_seqL, r_brk, r_cont, r_drop, r_ret, r_retN, r_ifS, r_asg, r_CB, r_nil, r_cons, r_call, r_tup, r_lst, r_p0, r_pS, r_disp, r_dget, r_sl, r_noPart, r_part, r_gNil, r_gCons, r_itF, r_nT, r_nF, r_len0, r_len1, r_len2, r_len3, r_len4, r_len6, r_len7, r_for, r_iEnum, r_iList, r_iTup, r_iRng1, r_iRng2, r_exI1, r_exR1, r_exR, r_bm, r_bm0, r_ixL, r_ixT, r_cat, r_slL, r_append, r_exRl, r_gTup, true_and, and_true, forall_const, Int.reduceLT, r_compG, r_setComp, r_yes, r_isi_int_str, r_isi_str_str, r_slT, r_inR, r_notInR, cxOf_K, wish_K, blk_K, r_blk1, r_blk2, List.map_cons, List.map_nil, List.getElem?_cons_zero, List.getElem?_cons_succ, Option.join_some, r_Vs, r_dnewK, r_dput, r_exRp, r_gSub, List.set_cons_zero, List.set_cons_succ, r_midL, r_sfld, r_gfld, r_meth, r_make, r_listRng, r_kget1, r_iEnumT, r_sorted, r_any, r_count, blkZ_K, r_iItemsT, r_setT, r_dispT1, r_dnewT, r_tupRng]
    intro gw hgw
    refine later ?_
    simp only [r_v0, r_g0, r_v1, r_g1, r_v2, r_g2, r_v3, r_g3, r_v4, r_g4, r_v5, r_g5, r_v6, r_g6, r_v7, r_g7, r_v8, r_g8, r_v9, r_g9, r_v10, r_g10, r_v11, r_g11, r_v12, r_g12, r_g13, r_g14, r_g15, r_c, r_op, r_un, r_I0, r_I, r_U, r_eqI, r_eqS, r_neI, r_exbl, r_exint, r_test, r_B, r_and, r_or, r_not, r_andV, r_orV, r_notV, r_if, r_next, r_seqL, r_brk, r_cont, r_drop, r_ret, r_retN, r_ifS, r_asg, r_CB, r_nil, r_cons, r_call, r_tup, r_lst, r_p0, r_pS, r_disp, r_dget, r_sl, r_noPart, r_part, r_gNil, r_gCons, r_itF, r_nT, r_nF, r_len0, r_len1, r_len2, r_len3, r_len4, r_len6, r_len7, r_for, r_iEnum, r_iList, r_iTup, r_iRng1, r_iRng2, r_exI1, r_exR1, r_exR, r_bm, r_bm0, r_ixL, r_ixT, r_cat, r_slL, r_append, r_exRl, r_gTup, true_and, and_true, forall_const, Int.reduceLT, r_compG, r_setComp, r_yes, r_isi_int_str, r_isi_str_str, r_slT, r_inR, r_notInR, cxOf_K, wish_K, blk_K, r_blk1, r_blk2, List.map_cons, List.map_nil, List.getElem?_cons_zero, List.getElem?_cons_succ, Option.join_some, r_Vs, r_dnewK, r_dput, r_exRp, r_gSub, List.set_cons_zero, List.set_cons_succ, r_midL, r_sfld, r_gfld, r_meth, r_make, r_listRng, r_kget1, r_iEnumT, r_sorted, r_any, r_count, blkZ_K, r_iItemsT, r_setT, r_dispT1, r_dnewT, r_tupRng]
    have sg := Same.upd (o := .dK []) hgw
    have fgw := s9.free hgw
    obtain ⟨ms, hk1, hk2, hk3⟩ := id hLv
    have eks : kvs.map (fun kv => kV kv.1) = nl ms := by
      rw [show kvs.map (fun kv => kV kv.1) = (kvs.map (·.1)).map kV by rw [List.map_map]; rfl, hk1, List.map_map]
      rfl
    refine ⟨lv, kvs, rfl, sg _ _ e9, fun l2 hl2 => ?_⟩
    rw [eks]
    have sl := sg.trans (Same.upd (o := .lst (nl ms)) hl2)
    have eg : upd (upd H9 gw (.dK [])) l2 (.lst (nl ms)) gw = some (.dK []) := Same.upd hl2 _ _ upd_same
    have el : upd (upd H9 gw (.dK [])) l2 (.lst (nl ms)) l2 = some (.lst (nl ms)) := upd_same
    have s10 := s9.trans sl
    generalize upd (upd H9 gw (.dK [])) l2 (.lst (nl ms)) = H10 at s10 eg el ⊢
    refine ⟨⟨_, SqL.of el⟩, ?_⟩
    refine fw_list (xs := nl ms) (fun e σ H' => Same H7 H' ∧ H' l2 = some (.lst (nl ms)) ∧ ∃ (kv2 : List (Key × V)) (o11 o12 : Option V), σ = [some (.ref a), some (.int ns.sum), some (.int mo), some (.ref p2), some (.ref p3), some (.ref l), some (.ref c), some (.ref ln), some (.ref lv), some (.int i), some (.ref gw), o11, o12] ∧ H' gw = some (.dK kv2) ∧ LvV ds us (i + 1) kv2)
      ⟨s10, el, [], _, _, rfl, eg, [], rfl, by simp, fun m hm => by cases hm⟩ (fun e σ H' _ h => SqL.of h.2.1) ?_ ?_
    · rintro e x σ H11 hx ⟨s11, el2, kv2, p11, p12, rfl, eg2, hL2⟩
      unfold nl at hx
      rw [List.getElem?_map] at hx
      obtain ⟨m, hm, rfl⟩ := Option.map_eq_some_iff.mp hx
      obtain ⟨hm1, hm2⟩ := hk3 m (List.mem_of_getElem? hm)
      simp only [r_v0, r_g0, r_v1, r_g1, r_v2, r_g2, r_v3, r_g3, r_v4, r_g4, r_v5, r_g5, r_v6, r_g6, r_v7, r_g7, r_v8, r_g8, r_v9, r_g9, r_v10, r_g10, r_v11, r_g11, r_v12, r_g12, r_g13, r_g14, r_g15, r_c, r_op, r_un, r_I0, r_I, r_U, r_eqI, r_eqS, r_neI, r_exbl, r_exint, r_test, r_B, r_and, r_or, r_not, r_andV, r_orV, r_notV, r_if, r_next, r_seqL, r_brk, r_cont, r_drop, r_ret, r_retN, r_ifS, r_asg, r_CB, r_nil, r_cons, r_call, r_tup, r_lst, r_p0, r_pS, r_disp, r_dget, r_sl, r_noPart, r_part, r_gNil, r_gCons, r_itF, r_nT, r_nF, r_len0, r_len1, r_len2, r_len3, r_len4, r_len6, r_len7, r_for, r_iEnum, r_iList, r_iTup, r_iRng1, r_iRng2, r_exI1, r_exR1, r_exR, r_bm, r_bm0, r_ixL, r_ixT, r_cat, r_slL, r_append, r_exRl, r_gTup, true_and, and_true, forall_const, Int.reduceLT, r_compG, r_setComp, r_yes, r_isi_int_str, r_isi_str_str, r_slT, r_inR, r_notInR, cxOf_K, wish_K, blk_K, r_blk1, r_blk2, List.map_cons, List.map_nil, List.getElem?_cons_zero, List.getElem?_cons_succ, Option.join_some, r_Vs, r_dnewK, r_dput, r_exRp, r_gSub, List.set_cons_zero, List.set_cons_succ, r_midL, r_sfld, r_gfld, r_meth, r_make, r_listRng, r_kget1, r_iEnumT, r_sorted, r_any, r_count, blkZ_K, r_iItemsT, r_setT, r_dispT1, r_dnewT, r_tupRng, r_more]
      refine ⟨ds, us, m, rfl, ⟨xs, SqL.of (s11 _ _ x7), d7.ts s11.ts, h8, SqT.of (s11 _ _ u7), h3, hpos⟩, hln.same s11, fun pm bs H12 s12 hpm hbl hok => ?_⟩
      refine ⟨pm, rfl, ⟨_, SqL.of hpm⟩, ?_⟩
      refine fw_list (xs := nl bs) (fun e2 σ H' => Same H7 H' ∧ H' l2 = some (.lst (nl ms)) ∧ H' pm = some (.lst (nl bs)) ∧ ∃ (kv2 : List (Key × V)) (o12 : Option V), σ = [some (.ref a), some (.int ns.sum), some (.int mo), some (.ref p2), some (.ref p3), some (.ref l), some (.ref c), some (.ref ln), some (.ref lv), some (.int i), some (.ref gw), some (.int m), o12] ∧ H' gw = some (.dK kv2) ∧ LvV ds us (i + 1) kv2)
        ⟨s11.trans s12, s12 _ _ el2, hpm, kv2, _, rfl, s12 _ _ eg2, hL2⟩ (fun e σ H' _ h => SqL.of h.2.2.1) ?_ ?_
      · rintro e2 x σ H13 hx ⟨s13, el3, epm, kv3, p12, rfl, eg3, hL3⟩
        unfold nl at hx
        rw [List.getElem?_map] at hx
        obtain ⟨y, hy, rfl⟩ := Option.map_eq_some_iff.mp hx
        have My := hok y (List.mem_of_getElem? hy)
        simp_arith [r_listRng, r_kget1, r_iEnumT, r_sorted, r_any, r_count, blkZ_K, r_iItemsT, r_setT, r_dispT1, r_dnewT, r_tupRng]
        rw [FO.bOr]
        have hl3 := hL3.len h8
        refine ⟨_, DPut.k (k := .inl ((m ||| y : Nat) : Int)) eg3 (by rw [sizeLine_eq]; omega), s13.updM fgw, ?_, ?_, _, _, rfl, upd_same, hL3.put (Nat.or_lt_two_pow hm1 My.lt) (reach_or hm2 My)⟩
        · rw [upd_ne (ne_of el3 eg3 (by intro z; cases z))]; exact el3
        · rw [upd_ne (ne_of epm eg3 (by intro z; cases z))]; exact epm
      · rintro σ H13 ⟨s13, el3, epm, kv3, p12, rfl, eg3, hL3⟩
        exact ⟨s13, el3, kv3, _, _, rfl, eg3, hL3⟩
    · rintro σ H11 ⟨s11, el2, kv2, p11, p12, rfl, eg2, hL2⟩
      dsimp only
      refine later ?_
      simp only [r_v0, r_g0, r_v1, r_g1, r_v2, r_g2, r_v3, r_g3, r_v4, r_g4, r_v5, r_g5, r_v6, r_g6, r_v7, r_g7, r_v8, r_g8, r_v9, r_g9, r_v10, r_g10, r_v11, r_g11, r_v12, r_g12, r_g13, r_g14, r_g15, r_c, r_op, r_un, r_I0, r_I, r_U, r_eqI, r_eqS, r_neI, r_exbl, r_exint, r_test, r_B, r_and, r_or, r_not, r_andV, r_orV, r_notV, r_if, r_next, r_seqL, r_brk, r_cont, r_drop, r_ret, r_retN, r_ifS, r_asg, r_CB, r_nil, r_cons, r_call, r_tup, r_lst, r_p0, r_pS, r_disp, r_dget, r_sl, r_noPart, r_part, r_gNil, r_gCons, r_itF, r_nT, r_nF, r_len0, r_len1, r_len2, r_len3, r_len4, r_len6, r_len7, r_for, r_iEnum, r_iList, r_iTup, r_iRng1, r_iRng2, r_exI1, r_exR1, r_exR, r_bm, r_bm0, r_ixL, r_ixT, r_cat, r_slL, r_append, r_exRl, r_gTup, true_and, and_true, forall_const, Int.reduceLT, r_compG, r_setComp, r_yes, r_isi_int_str, r_isi_str_str, r_slT, r_inR, r_notInR, cxOf_K, wish_K, blk_K, r_blk1, r_blk2, List.map_cons, List.map_nil, List.getElem?_cons_zero, List.getElem?_cons_succ, Option.join_some, r_Vs, r_dnewK, r_dput, r_exRp, r_gSub, List.set_cons_zero, List.set_cons_succ, r_midL, r_sfld, r_gfld, r_meth, r_make, r_listRng, r_kget1, r_iEnumT, r_sorted, r_any, r_count, blkZ_K, r_iItemsT, r_setT, r_dispT1, r_dnewT, r_tupRng]
      refine later ?_
      simp_arith [r_listRng, r_kget1, r_iEnumT, r_sorted, r_any, r_count, blkZ_K, r_iItemsT, r_setT, r_dispT1, r_dnewT, r_tupRng, r_din]
      refine ⟨xs, .inl (SqL.of (s11 _ _ x7)), ⟨by omega, by omega, by omega⟩, gw, _, rfl, .inl ⟨kv2, .inl (1 * 2 ^ ds.length - 1), .inl eg2, by rw [lx]; rfl, rfl⟩, ?_⟩
      rw [hL2.not hpo (hno (i + 1) hir)]
      rw [if_neg (by simp)]
      exact ⟨s11, gw, kv2, _, _, _, _, rfl, fgw, eg2, hL2⟩
  · rintro σ H9 ⟨s9, lv, kvs, o9, o10, o11, o12, rfl, hlv, e9, hLv⟩
    dsimp only
    refine later ?_
    simp_arith [r_listRng, r_kget1, r_iEnumT, r_sorted, r_any, r_count, blkZ_K, r_iItemsT, r_setT, r_dispT1, r_dnewT, r_tupRng]
    exact q H9
end
end K32
set_option maxHeartbeats 4000000
namespace K32
open PySem L2 PyProof.Rows FA
section
variable {P : Program} {w : World} {K : PySem.W.Frag} {mg : Str → Option Value} {base : Heap} {t : Ad}
theorem law_binds (T : Txt K mg t) : ∀ (s : Shared) (u : Value), BindsTo s t.e_law ⟨[u], []⟩ [("_law_script", u)] := by
  obtain ⟨oc, od, kV, doc, pm, an, cdv, ct, osl, e, _, _⟩ := T.d_law.F.ex
  intro s u
  rw [e]
  exact .of_eq rfl
end
theorem walk {l : PySem.W.OpenLaw} {q : Program} {loose : List Str} {XP : (Str → Option Value) → Heap → Prop} {YP : World → Heap → Prop} {d : DefRec} {K : Params → PySem.W.Frag} (hn : l.most = some 63) (hdf : d.params.defaults = []) (hd : d.name = "law")
    (hY : ∀ (w : World) (h : Heap), YP w h → (K w.params).In h)
    (F : ∀ (w : World) (mg : Str → Option Value) (h : Heap), (K w.params).In h → h.Ns mainGlobals mg → ∃ t, Txt (K w.params) mg t ∧ t.pr = w.params) :
    PySem.W.WalkO q loose XP YP l.row.toRowW d [] (fun f vs => PySem.call f vs) := by
  refine L2.walk_ofL (n := 63) (k := 100) (x := "_law_script") (CX := fun _ => CX0) (sp := fun w => sp_law (K w.params)) hn (by decide) hdf ⟨rfl, by decide, by decide⟩ hY (fun w mg fa h KX G hmg => ?_) (fun _ _ a ns hl hb _ hS => ⟨a, ns, rfl, hS, hl, hb, fun _ => rfl⟩) fun _ _ _ _ _ z => z
  obtain ⟨t, T, hw⟩ := F w mg h KX G
  rw [hd] at hmg
  have e0 := hmg.symm.trans T.d_law.M
  cases e0
  exact ⟨t.e_law, law_binds T, fun base _ _ => (ok_law T hw).mono (by decide)⟩
end K32
set_option maxHeartbeats 4000000
open PySem PySem.W PyProof.Rows
set_option maxRecDepth 100000 in
set_option maxHeartbeats 0 in
theorem PySem.Challenge.cw_deedloom_k32_whole_least_layings_holds : PySem.Challenge.rw_deedloom_k32_whole_least_layings.Holds := by
  w_on; o_law; k_head; (case hw => w_witness2)
  k_fill
  refine K32.walk (l := PySem.Challenge.rw_deedloom_k32_whole_least_layings) rfl rfl rfl (fun w h Y => PySem.W.kIn_of Y) ?F
  case F =>
    intro w mg h KX G
    refine' K32.all_mk KX G w.params ?aD_SORTS ?lD_SORTS ?sD_SORTS ?hD_SORTS ?aC_Layer ?pg_Layer ?hd_Layer ?po_Layer ?sa_Layer ?mk_Layer ?kc_Layer ?n_Layer_units ?n_Layer_sorts ?n_Layer_gaps ?a0 ?l0 ?c0 ?k0 ?a1 ?l1 ?c1 ?k1 ?a2 ?l2 ?c2 ?k2 ?a3 ?l3 ?c3 ?k3 ?a4 ?l4 ?c4 ?k4 ?a5 ?l5 ?c5 ?k5 ?a6 ?i6 ?l6 ?c6 ?k6 ?a7 ?i7 ?l7 ?c7 ?k7 ?a8 ?i8 ?l8 ?c8 ?k8 ?a9 ?i9 ?l9 ?c9 ?k9 ?a10 ?i10 ?l10 ?c10 ?k10 ?a11 ?l11 ?c11 ?k11 ?a12 ?l12 ?c12 ?k12 ?a13 ?l13 ?c13 ?k13 ?a14 ?l14 ?c14 ?k14 ?a15 ?l15 ?c15 ?k15 ?a16 ?l16 ?c16 ?k16 ?a17 ?l17 ?c17 ?k17 ?a18 ?l18 ?c18 ?k18 ?a19 ?l19 ?c19 ?k19 ?a20 ?l20 ?c20 ?k20 ?a21 ?l21 ?c21 ?k21 ?a22 ?l22 ?c22 ?k22 ?a23 ?l23 ?c23 ?k23 ?z_range ?z_isinstance ?z_int ?z_bool ?z_str ?z_enumerate ?z_len ?z_list ?z_sum ?z_tuple ?z_sorted ?z_any
    (case aD_SORTS => k_is)
    (case lD_SORTS => k_is)
    (case sD_SORTS => first | rfl | kernel_rfl | decide)
    (case hD_SORTS => first | rfl | kernel_rfl | decide)
    (case aC_Layer => k_is)
    (case pg_Layer => k_is)
    (case hd_Layer => k_is)
    (case po_Layer => k_is)
    (case sa_Layer => k_is)
    (case mk_Layer => k_is)
    (case kc_Layer => k_is)
    (case n_Layer_units => k_is)
    (case n_Layer_sorts => k_is)
    (case n_Layer_gaps => k_is)
    (case a0 => k_is)
    (case l0 => k_is)
    (case c0 => k_is)
    (case k0 => k_is)
    (case a1 => k_is)
    (case l1 => k_is)
    (case c1 => k_is)
    (case k1 => k_is)
    (case a2 => k_is)
    (case l2 => k_is)
    (case c2 => k_is)
    (case k2 => k_is)
    (case a3 => k_is)
    (case l3 => k_is)
    (case c3 => k_is)
    (case k3 => k_is)
    (case a4 => k_is)
    (case l4 => k_is)
    (case c4 => k_is)
    (case k4 => k_is)
    (case a5 => k_is)
    (case l5 => k_is)
    (case c5 => k_is)
    (case k5 => k_is)
    (case a6 => k_is)
    (case i6 => k_is)
    (case l6 => k_is)
    (case c6 => k_is)
    (case k6 => k_is)
    (case a7 => k_is)
    (case i7 => k_is)
    (case l7 => k_is)
    (case c7 => k_is)
    (case k7 => k_is)
    (case a8 => k_is)
    (case i8 => k_is)
    (case l8 => k_is)
    (case c8 => k_is)
    (case k8 => k_is)
    (case a9 => k_is)
    (case i9 => k_is)
    (case l9 => k_is)
    (case c9 => k_is)
    (case k9 => k_is)
    (case a10 => k_is)
    (case i10 => k_is)
    (case l10 => k_is)
    (case c10 => k_is)
    (case k10 => k_is)
    (case a11 => k_is)
    (case l11 => k_is)
    (case c11 => k_is)
    (case k11 => k_is)
    (case a12 => k_is)
    (case l12 => k_is)
    (case c12 => k_is)
    (case k12 => k_is)
    (case a13 => k_is)
    (case l13 => k_is)
    (case c13 => k_is)
    (case k13 => k_is)
    (case a14 => k_is)
    (case l14 => k_is)
    (case c14 => k_is)
    (case k14 => k_is)
    (case a15 => k_is)
    (case l15 => k_is)
    (case c15 => k_is)
    (case k15 => k_is)
    (case a16 => k_is)
    (case l16 => k_is)
    (case c16 => k_is)
    (case k16 => k_is)
    (case a17 => k_is)
    (case l17 => k_is)
    (case c17 => k_is)
    (case k17 => k_is)
    (case a18 => k_is)
    (case l18 => k_is)
    (case c18 => k_is)
    (case k18 => k_is)
    (case a19 => k_is)
    (case l19 => k_is)
    (case c19 => k_is)
    (case k19 => k_is)
    (case a20 => k_is)
    (case l20 => k_is)
    (case c20 => k_is)
    (case k20 => k_is)
    (case a21 => k_is)
    (case l21 => k_is)
    (case c21 => k_is)
    (case k21 => k_is)
    (case a22 => k_is)
    (case l22 => k_is)
    (case c22 => k_is)
    (case k22 => k_is)
    (case a23 => k_is)
    (case l23 => k_is)
    (case c23 => k_is)
    (case k23 => k_is)
    (case z_range => k_is)
    (case z_isinstance => k_is)
    (case z_int => k_is)
    (case z_bool => k_is)
    (case z_str => k_is)
    (case z_enumerate => k_is)
    (case z_len => k_is)
    (case z_list => k_is)
    (case z_sum => k_is)
    (case z_tuple => k_is)
    (case z_sorted => k_is)
    (case z_any => k_is)

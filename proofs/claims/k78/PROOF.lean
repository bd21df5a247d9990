import PyProof.Rows.All
import Wide.All
import OpenK.AllK
import Wide.FinOn
import PyProof.EqAt
import PyProof.EqKinds
import PyProof.TupleCall
import PyProof.NeKinds
import PyProof.CompUse
import PyProof.IsiSeqPairs
import PyProof.IsiNone
import PyProof.Rows.SumAny
import KE.KDictOf
import KE.KEqDict
import PyProof.DictCopy
import PyProof.Rows.StrJoin2
import PyProof.Rows.SortWalk
import PyProof.ConsumeWalk
import PyProof.EnumMake
import KE.KDictList
import PyProof.DictValues
import KE.IntBitsLaws
import PyProof.Rows.SortStr
import PySem.Challenge.RW_deedloom_k78_trimmed_programs
set_option genSizeOf false
set_option compiler.extract_closed false
set_option Elab.async false
set_option linter.all false
set_option maxRecDepth 100000
namespace L2
open PySem PySem.Spec PyProof.Rows
noncomputable abbrev Key := Sum Int Str
noncomputable def keyIs : Key → Value → Bool
  | .inl k, v => Value.isInt k v
  | .inr x, v => Value.isStrOf x v
noncomputable def keyH (w : World) : Key → Int
  | .inl k => hashInt k
  | .inr x => hashStr w x
theorem keyIs_shape : ∀ {k : Key} {v : Value}, keyIs k v = true → (∃ i t, k = Sum.inl i ∧ v = Value.int i t) ∨ (∃ x t, k = Sum.inr x ∧ v = Value.str x t)
  | .inl i, v, h => by
    obtain ⟨t, e⟩ := Value.isInt_shape (k := i) (v := v) h
    exact .inl ⟨i, t, rfl, e⟩
  | .inr x, v, h => by
    obtain ⟨t, e⟩ := Value.isStrOf_shape (x := x) (v := v) h
    exact .inr ⟨x, t, rfl, e⟩
theorem keyIs_int (i : Int) (t : Tok) : keyIs (.inl i) (.int i t) = true := by simp [keyIs, Value.isInt]
theorem keyIs_str (x : Str) (t : Tok) : keyIs (.inr x) (.str x t) = true := by simp [keyIs, Value.isStrOf]
theorem key_ll (a b : Int) : decide ((Sum.inl a : Key) = Sum.inl b) = (a == b) := by
  by_cases e : a = b
  · subst e; simp
  · have h : ¬ (Sum.inl a : Key) = Sum.inl b := fun q => e (Sum.inl.inj q)
    rw [decide_eq_false h]
    exact (beq_eq_false_iff_ne.mpr e).symm
theorem key_rr (a b : Str) : decide ((Sum.inr a : Key) = Sum.inr b) = decide (a = b) := by
  by_cases e : a = b
  · subst e; simp
  · have h : ¬ (Sum.inr a : Key) = Sum.inr b := fun q => e (Sum.inr.inj q)
    rw [decide_eq_false h, decide_eq_false e]
theorem key_lr (a : Int) (b : Str) : decide ((Sum.inl a : Key) = Sum.inr b) = false := decide_eq_false (fun q => nomatch q)
theorem key_rl (a : Str) (b : Int) : decide ((Sum.inr a : Key) = Sum.inl b) = false := decide_eq_false (fun q => nomatch q)
noncomputable def mixKind (prog : Program) (w : World) : PySem.KeyKind prog w Key where
  is := keyIs
  hash := keyH w
  inj := fun v a b ha hb => by
    rcases keyIs_shape ha with ⟨i, t, rfl, rfl⟩ | ⟨x, t, rfl, rfl⟩
    · rcases keyIs_shape hb with ⟨j, u, rfl, e⟩ | ⟨y, u, rfl, e⟩
      · injection e with e1 _; rw [e1]
      · exact nomatch e
    · rcases keyIs_shape hb with ⟨j, u, rfl, e⟩ | ⟨y, u, rfl, e⟩
      · exact nomatch e
      · injection e with e1 _; rw [e1]
  byValue := fun k v h => by
    rcases keyIs_shape h with ⟨i, t, rfl, rfl⟩ | ⟨x, t, rfl, rfl⟩ <;> rfl
  pyHash := fun hv h => by
    rcases keyIs_shape hv with ⟨i, t, rfl, rfl⟩ | ⟨x, t, rfl, rfl⟩
    · exact wpAny_pyHash_int h
    · exact wpAny_pyHash_str h
  eqBool := fun hu hv h => by
    rcases keyIs_shape hu with ⟨i, t, rfl, rfl⟩ | ⟨x, t, rfl, rfl⟩
    · rcases keyIs_shape hv with ⟨j, u, rfl, rfl⟩ | ⟨y, u, rfl, rfl⟩
      · rw [key_ll] at h; exact wpAny_eqBool_int h
      · rw [key_lr] at h; exact SeqAt.EqAt.int_str i t y u _ _ _ _ h
    · rcases keyIs_shape hv with ⟨j, u, rfl, rfl⟩ | ⟨y, u, rfl, rfl⟩
      · rw [key_rl] at h; exact SeqAt.EqAt.str_int x t j u _ _ _ _ h
      · rw [key_rr] at h; exact wpAny_eqBool_str h
  «strs» := fun k x t v h => by
    rcases keyIs_shape h with ⟨i, u, rfl, e⟩ | ⟨y, u, rfl, e⟩
    · exact nomatch e
    · injection e with e1 _
      subst e1
      cases v <;> rfl
theorem mixKind_int (prog : Program) (w : World) (i : Int) (t : Tok) : (mixKind prog w).is (.inl i) (.int i t) = true := keyIs_int i t
theorem mixKind_str (prog : Program) (w : World) (x : Str) (t : Tok) : (mixKind prog w).is (.inr x) (.str x t) = true := keyIs_str x t
end L2
namespace L2
open PySem PySem.Spec PyProof.Rows
inductive V where
  | non | bl (b : Bool) | int (i : Int) | str (x : Str) | byt (b : Array UInt8) | flt (b : UInt64) | ref (a : Addr) | ty (n : String)
  deriving DecidableEq
noncomputable def RelV : V → Value → Prop
  | .non, u => u = Value.none
  | .bl b, u => u = Value.bool b
  | .int i, u => ∃ t, u = Value.int i t
  | .str x, u => ∃ t, u = Value.str x t
  | .byt b, u => ∃ t, u = Value.bytes b t
  | .flt b, u => ∃ t, u = Value.float b t
  | .ref a, u => u = Value.ref a
  | .ty n, u => u = Value.type n
noncomputable abbrev Vals : List V → List Value → Prop := Paired RelV
theorem Vals.length {xs : List V} {us : List Value} (r : Vals xs us) : xs.length = us.length := Paired.length r
theorem Vals.get : ∀ {xs : List V} {us : List Value} {i : Nat} {x : V}, Vals xs us → xs[i]? = some x → ∃ u, us[i]? = some u ∧ RelV x u
  | _, _, _, _, .nil, e => by simp at e
  | _, _, 0, _, .cons r _, e => by simp at e; subst e; exact ⟨_, rfl, r⟩
  | _, _, i + 1, x, .cons _ t, e => by
    obtain ⟨u, h1, h2⟩ := Vals.get (i := i) (x := x) t (by simpa using e)
    exact ⟨u, by simpa using h1, h2⟩
theorem Vals.set {x : V} {u : Value} (r : RelV x u) : ∀ {xs : List V} {us : List Value} (i : Nat), Vals xs us → Vals (xs.set i x) (us.set i u)
  | _, _, _, .nil => .nil
  | _, _, 0, .cons _ t => .cons r t
  | _, _, i + 1, .cons q t => .cons q (Vals.set r i t)
theorem Vals.append : ∀ {xs ys : List V} {us ws : List Value}, Vals xs us → Vals ys ws → Vals (xs ++ ys) (us ++ ws)
  | _, _, _, _, .nil, s => s
  | _, _, _, _, .cons r t, s => .cons r (Vals.append t s)
theorem Vals.take : ∀ {xs : List V} {us : List Value} (n : Nat), Vals xs us → Vals (xs.take n) (us.take n)
  | _, _, 0, _ => .nil
  | _, _, _ + 1, .nil => .nil
  | _, _, n + 1, .cons r t => .cons r (Vals.take n t)
theorem Vals.drop : ∀ {xs : List V} {us : List Value} (n : Nat), Vals xs us → Vals (xs.drop n) (us.drop n)
  | _, _, 0, r => r
  | _, _, _ + 1, .nil => .nil
  | _, _, n + 1, .cons _ t => Vals.drop n t
noncomputable def RelO : Option V → Option Value → Prop
  | some v, some u => RelV v u
  | none, none => True
  | _, _ => False
noncomputable def KV {κ : Type} : List (κ × V) → List (κ × Value) → Prop := Paired fun (p : κ × V) (q : κ × Value) => p.1 = q.1 ∧ RelV p.2 q.2
noncomputable def kV : Key → V
  | .inl i => .int i
  | .inr x => .str x
inductive HO where
  /-- a list -/
  | lst (xs : List V)
  /-- a tuple (never changes) -/
  | tup (xs : List V)
  /-- a dict whose keys are ints and texts; one whose keys are tuples of ints and texts (the empty one is both) -/
  | dK (kvs : List (Key × V)) | dT (kvs : List (List Key × V))
  /-- a set of ints: its members, its size -/
  | set (S : Int → Bool) (n : Nat)
  /-- an instance of the class at C, its dict at dx, its attributes -/
  | ins (C dx : Addr) (fs : List (Str × V))
  /-- the dict of the instance at x -/
  | own (x : Addr)
  /-- the dict of an exception -/
  | xd (fs : List (Str × V))
  /-- a bound method, f of x -/
  | met (f x : Addr)
  /-- a range object lo, lo + 1, .. below hi -/
  | rng (lo hi : Int)
  /-- a thing that is known to the object (the script; a dict while a loop walks it): read, never written while it is so -/
  | frz (o : Obj) (u : HO)
  /-- a code object's table -/
  | tbl (ps : Array Value)
  /-- any other thing, by what is true of its one object (a def of one's own: SetO a S n := HO.ext fun h => ..) -/
  | ext (φ : Heap → Prop)
noncomputable abbrev Hp := Addr → Option HO
noncomputable def upd (H : Hp) (a : Addr) (o : HO) : Hp := fun b => if b = a then some o else H b
theorem upd_same {H : Hp} {a : Addr} {o : HO} : upd H a o a = some o := by unfold upd; rw [if_pos rfl]
theorem upd_ne {H : Hp} {a b : Addr} {o : HO} (h : b ≠ a) : upd H a o b = H b := by unfold upd; rw [if_neg h]
theorem upd_upd {H : Hp} {a : Addr} {o u : HO} : upd (upd H a o) a u = upd H a u := by
  funext b; unfold upd; split <;> rfl
theorem ne_of {H : Hp} {a b : Addr} {o u : HO} (h : H a = some o) (h' : H b = some u) (d : o ≠ u) : a ≠ b := by
  intro e; subst e; rw [h] at h'; exact d (Option.some.inj h')
theorem ne_of_none {H : Hp} {a b : Addr} {o : HO} (h : H a = some o) (h' : H b = none) : a ≠ b := by
  intro e; subst e; rw [h] at h'; cases h'
section
variable (P : Program) (w : World)
noncomputable def ObjOk (H : Hp) (h : Heap) (a : Addr) : HO → Prop
  | .lst xs => xs.length ≤ sizeLine ∧ ∃ (its : List Value) (n : Nat), Vals xs its ∧ h.get? a = some { cls := .type "list", data := .seq its.toArray n }
  | .tup xs => xs.length ≤ sizeLine ∧ ∃ its : List Value, Vals xs its ∧ IsTup h a its.toArray
  | .dK kvs => kvs.length ≤ sizeLine ∧ (a == sysModules) = false ∧ ∃ vs, KV kvs vs ∧ h.DictOf (mixKind P w) a vs
  | .dT kvs => kvs.length ≤ sizeLine ∧ (a == sysModules) = false ∧ ∃ xs : List (List Key × Addr × Value),
      Paired (fun (p : List Key × V) (q : List Key × Addr × Value) => p.1 = q.1 ∧ H q.2.1 = some (.tup (p.1.map kV)) ∧ RelV p.2 q.2.2) kvs xs ∧
      ∃ o es ep, h.get? a = some o ∧ o.ExactDict ∧ o.data = .dict es ep ∧ es.toList = xs.map (entryOfKey (tupleKind (mixKind P w))) ∧ (xs.map (·.1)).Nodup
  | .set S n => h.SetOf (intKind P w) a S n
  | .ins C dx fs => H dx = some (.own a) ∧ fs.length ≤ 1000 ∧ dx ≠ a ∧ h.get? a = some (PySem.W.instObj C dx) ∧
      ∃ mA, h.Ns1 dx mA ∧ (∀ f, RelO (fs.lookup f) (mA f)) ∧ PySem.Within mA (fs.map (·.1))
  | .own _ => ∃ o, h.get? a = some o
  | .xd fs => ∃ mA, h.Ns1 a mA ∧ ∀ f, RelO (fs.lookup f) (mA f)
  | .rng lo hi => ∃ t u v, h.get? a = some { cls := .type "range", data := .fields #[.int lo t, .int hi u, .int 1 v] }
  | .frz o u => h.get? a = some o ∧ ObjOk H h a u
  | .tbl ps => h.get? a = some { cls := .none, data := .fields ps }
  | .met f x => h.get? a = some (PySem.W.methodObj (.ref f) (.ref x))
  | .ext φ => φ h ∧ (∃ o, h.get? a = some o) ∧ ∀ h1 h2 : Heap, φ h1 → (∀ o, h1.get? a = some o → h2.get? a = some o) → φ h2
noncomputable def HOk (H : Hp) (h : Heap) : Prop := ∀ a o, H a = some o → ObjOk P w H h a o
end
section
variable {P : Program} {w : World} {H H' : Hp} {h h' : Heap} {a : Addr} {o : HO}
theorem ObjOk.lt (x : ObjOk P w H h a o) : a < h.objs.size := by
  cases o with
  | lst xs => obtain ⟨_, _, _, _, e⟩ := x; exact Heap.lt_size e
  | tup xs => obtain ⟨_, _, _, p⟩ := x; exact p.lt
  | dK kvs => obtain ⟨_, _, _, _, o, _, _, e, _⟩ := x; exact Heap.lt_size e
  | dT kvs => obtain ⟨_, _, _, _, o, _, _, e, _⟩ := x; exact Heap.lt_size e
  | set S n => obtain ⟨o, _, _, _, e, _⟩ := x; exact Heap.lt_size e
  | ins C dx fs => obtain ⟨_, _, _, e, _⟩ := x; exact Heap.lt_size e
  | own y => obtain ⟨_, e⟩ := x; exact Heap.lt_size e
  | xd fs => obtain ⟨_, ⟨_, _, _, e, _⟩, _⟩ := x; exact Heap.lt_size e
  | rng lo hi => obtain ⟨_, _, _, e⟩ := x; exact Heap.lt_size e
  | frz ob u => obtain ⟨e, _⟩ := x; exact Heap.lt_size e
  | tbl ps => exact Heap.lt_size (show h.get? a = some _ from x)
  | met f y => exact Heap.lt_size (show h.get? a = some _ from x)
  | ext φ => obtain ⟨_, ⟨_, e⟩, _⟩ := x; exact Heap.lt_size e
theorem Paired.mapP {α β : Type} {F G : α → β → Prop} : ∀ {l₁ : List α} {l₂ : List β}, Paired F l₁ l₂ → (∀ a b, F a b → G a b) → Paired G l₁ l₂
  | _, _, .nil, _ => .nil
  | _, _, .cons r t, f => .cons (f _ _ r) (Paired.mapP t f)
theorem ObjOk.stay (x : ObjOk P w H h a o) (k : ∀ b u, (b = a ∨ H b = some (.own a)) → h.get? b = some u → h'.get? b = some u)
    (ho : ∀ b, H b = some (.own a) → H' b = some (.own a)) (ht : ∀ b xs, H b = some (.tup xs) → H' b = some (.tup xs)) : ObjOk P w H' h' a o := by
  induction o with
  | lst xs => obtain ⟨z, its, n, r, e⟩ := x; exact ⟨z, its, n, r, k _ _ (.inl rfl) e⟩
  | tup xs => obtain ⟨z, its, r, ob, e, c⟩ := x; exact ⟨z, its, r, ob, k _ _ (.inl rfl) e, c⟩
  | dK kvs => obtain ⟨z, y, vs, r, ob, es, ep, e, c⟩ := x; exact ⟨z, y, vs, r, ob, es, ep, k _ _ (.inl rfl) e, c⟩
  | dT kvs =>
    obtain ⟨z, y, xs, r, ob, es, ep, e, c⟩ := x
    exact ⟨z, y, xs, Paired.mapP r fun p q z => ⟨z.1, ht _ _ z.2.1, z.2.2⟩, ob, es, ep, k _ _ (.inl rfl) e, c⟩
  | set S n => obtain ⟨ob, es, ep, t, e, c⟩ := x; exact ⟨ob, es, ep, t, k _ _ (.inl rfl) e, c⟩
  | ins C dx fs =>
    obtain ⟨d, z, ne, e, mA, ⟨od, es, ep, e2, c⟩, r⟩ := x
    exact ⟨ho _ d, z, ne, k _ _ (.inl rfl) e, mA, ⟨od, es, ep, k _ _ (.inr d) e2, c⟩, r⟩
  | own y => obtain ⟨ob, e⟩ := x; exact ⟨ob, k _ _ (.inl rfl) e⟩
  | xd fs => obtain ⟨mA, ⟨od, es, ep, e, c⟩, r⟩ := x; exact ⟨mA, ⟨od, es, ep, k _ _ (.inl rfl) e, c⟩, r⟩
  | rng lo hi => obtain ⟨t, u, v, e⟩ := x; exact ⟨t, u, v, k _ _ (.inl rfl) e⟩
  | frz ob u ih => obtain ⟨e, q⟩ := x; exact ⟨k _ _ (.inl rfl) e, ih q⟩
  | tbl ps =>
    have e : h.get? a = some { cls := .none, data := .fields ps } := x
    show h'.get? a = some { cls := .none, data := .fields ps }
    exact k a _ (.inl rfl) e
  | met f y =>
    have e : h.get? a = some (PySem.W.methodObj (.ref f) (.ref y)) := x
    show h'.get? a = some (PySem.W.methodObj (.ref f) (.ref y))
    exact k a _ (.inl rfl) e
  | ext φ => obtain ⟨p, ⟨o, e⟩, st⟩ := x; exact ⟨st _ _ p fun o q => k _ _ (.inl rfl) q, ⟨o, k _ _ (.inl rfl) e⟩, st⟩
theorem HOk.lt (x : HOk P w H h) (e : H a = some o) : a < h.objs.size := (x a o e).lt
theorem HOk.fresh (x : HOk P w H h) (e : h.objs.size ≤ a) : H a = none := by
  cases q : H a with
  | none => rfl
  | some u => exact absurd (Nat.lt_of_lt_of_le (x.lt q) e) (Nat.lt_irrefl _)
theorem HOk.kept (x : HOk P w H h) (k : ∀ b u, h.get? b = some u → h'.get? b = some u) : HOk P w H h' := fun a o e =>
  (x a o e).stay (fun b u _ q => k b u q) (fun _ q => q) fun _ _ q => q
theorem HOk.laid (x : HOk P w H h) (k : ∀ b u, h.get? b = some u → h'.get? b = some u) (hp : h.objs.size ≤ a) (new : ObjOk P w (upd H a o) h' a o) : HOk P w (upd H a o) h' := fun b u e => by
  have hn := x.fresh hp
  by_cases hb : b = a
  · subst hb; rw [upd_same] at e; cases e; exact new
  · rw [upd_ne hb] at e
    exact (x b u e).stay (fun c v _ q => k c v q) (fun c q => by rw [upd_ne (ne_of_none q hn)]; exact q) fun c xs q => by rw [upd_ne (ne_of_none q hn)]; exact q
end
noncomputable def Rd (H : Hp) (a : Addr) (u : HO) : Prop := H a = some u ∨ ∃ o, H a = some (.frz o u)
theorem Rd.ok {P : Program} {w : World} {H : Hp} {h : Heap} {a : Addr} {u : HO} (r : Rd H a u) (x : HOk P w H h) : ObjOk P w H h a u := by
  rcases r with r | ⟨o, r⟩
  · exact x a u r
  · obtain ⟨_, q⟩ := x a _ r
    exact q
noncomputable def Mut : Option HO → Prop
  | some (.lst _) => True
  | some (.dK _) => True
  | some (.dT _) => True
  | some (.set _ _) => True
  | some (.ins _ _ _) => True
  | some (.ext _) => True
  | _ => False
section
variable {P : Program} {w : World} {H : Hp} {h h' : Heap} {x e : Addr} {o' : HO}
theorem HOk.write (ok : HOk P w H h) (mu : Mut (H x)) (he : e = x ∨ H e = some (.own x)) (k : ∀ b u, b ≠ e → h.get? b = some u → h'.get? b = some u) (heo : ∃ u, h'.get? e = some u)
    (new : ObjOk P w (upd H x o') h' x o') : HOk P w (upd H x o') h' := fun b u q => by
  have nown : ∀ c y, H c = some (.own y) → c ≠ x := fun c y r z => by subst z; rw [r] at mu; exact mu
  have ntup : ∀ c xs, H c = some (.tup xs) → c ≠ x := fun c xs r z => by subst z; rw [r] at mu; exact mu
  by_cases hb : b = x
  · subst hb; rw [upd_same] at q; cases q; exact new
  · rw [upd_ne hb] at q
    by_cases hbe : b = e
    · have q' : H b = some (.own x) := by
        rcases he with z | z
        · exact absurd (hbe.trans z) hb
        · rw [hbe]; exact z
      rw [q] at q'; cases q'
      obtain ⟨v, hv⟩ := heo
      exact ⟨v, by rw [hbe]; exact hv⟩
    · refine (ok b u q).stay (fun c v hc r => k c v ?_ r) (fun c r => by rw [upd_ne (nown c b r)]; exact r) fun c xs r => by rw [upd_ne (ntup c xs r)]; exact r
      rcases hc with rfl | hc
      · exact hbe
      · rintro rfl
        rcases he with z | z
        · exact nown c b hc z
        · rw [hc] at z; cases z; exact hb rfl
end
structure Un (fs ex : List Addr) (H H' : Hp) (h h' : Heap) : Prop where
  keep : ∀ b o, h.get? b = some o → H b = none → b ∉ fs → b ∉ ex → h'.get? b = some o
  slot : ∀ b o, h.get? b = some o → H b = none → b ∈ fs → b ∉ ex → ∃ sl, h'.get? b = some { o with slots := sl }
  free : ∀ b o, h.get? b = some o → H b = none → b ∉ ex → H' b = none
  there : ∀ b o, h.get? b = some o → b ∉ ex → ∃ o', h'.get? b = some o'
  tups : ∀ b xs, H b = some (.tup xs) → H' b = some (.tup xs)
  frzs : ∀ b o u, H b = some (.frz o u) → H' b = some (.frz o u)
  tbls : ∀ b ps, H b = some (.tbl ps) → ∃ more, H' b = some (.tbl (ps ++ more))
section
variable {fs fs' ex ex' : List Addr} {H H1 H2 : Hp} {h h1 h2 h' : Heap} {a x e : Addr} {o : HO}
theorem Un.any (u : Un fs ex H H1 h h1) {b : Addr} {ob : Obj} (q : h.get? b = some ob) (n : H b = none) (hx : b ∉ ex) : ∃ sl, h1.get? b = some { ob with slots := sl } := by
  by_cases hb : b ∈ fs
  · exact u.slot b ob q n hb hx
  · exact ⟨ob.slots, u.keep b ob q n hb hx⟩
theorem Un.kept (k : ∀ b u, h.get? b = some u → h'.get? b = some u) : Un fs ex H H h h' :=
  ⟨fun b ob q _ _ _ => k b ob q, fun b ob q _ _ _ => ⟨ob.slots, k b ob q⟩, fun _ _ _ n _ => n, fun b ob q _ => ⟨ob, k b ob q⟩, fun _ _ q => q, fun _ _ _ q => q, fun _ ps q => ⟨#[], by rw [q]; simp⟩⟩
theorem Un.refl : Un fs ex H H h h := Un.kept fun _ _ q => q
theorem Un.laid (k : ∀ b u, h.get? b = some u → h'.get? b = some u) (hp : h.objs.size ≤ a) (hn : H a = none) : Un fs ex H (upd H a o) h h' where
  keep := fun b u q _ _ _ => k b u q
  slot := fun b u q _ _ _ => ⟨u.slots, k b u q⟩
  free := fun b u q n _ => by rw [upd_ne (Nat.ne_of_lt (Nat.lt_of_lt_of_le (Heap.lt_size q) hp))]; exact n
  there := fun b u q _ => ⟨u, k b u q⟩
  tups := fun b xs q => by rw [upd_ne (ne_of_none q hn)]; exact q
  frzs := fun b u xs q => by rw [upd_ne (ne_of_none q hn)]; exact q
  tbls := fun b ps q => ⟨#[], by rw [upd_ne (ne_of_none q hn), q]; simp⟩
theorem Un.write (mu : Mut (H x)) (he : e = x ∨ H e = some (.own x)) (k : ∀ b u, b ≠ e → h.get? b = some u → h'.get? b = some u) (heo : ∃ u, h'.get? e = some u) : Un fs ex H (upd H x o) h h' := by
  have hx : ∀ b, H b = none → b ≠ x := fun b n z => by subst z; rw [n] at mu; exact mu
  have hb : ∀ b, H b = none → b ≠ e := fun b n z => by
    subst z
    rcases he with r | r
    · exact hx b n r
    · rw [n] at r; cases r
  have hm : ∀ b u, H b = some u → ¬ Mut (some u) → b ≠ x := fun b u q nm z => by subst z; rw [q] at mu; exact nm mu
  refine ⟨fun b u q n _ _ => k b u (hb b n) q, fun b u q n _ _ => ⟨u.slots, k b u (hb b n) q⟩, fun b u q n _ => by rw [upd_ne (hx b n)]; exact n, fun b u q _ => ?_,
    fun b xs q => by rw [upd_ne (hm b _ q fun z => z)]; exact q, fun b u xs q => by rw [upd_ne (hm b _ q fun z => z)]; exact q, fun b ps q => ⟨#[], by rw [upd_ne (hm b _ q fun z => z), q]; simp⟩⟩
  by_cases hbe : b = e
  · subst hbe; exact heo
  · exact ⟨u, k b u hbe q⟩
end
noncomputable def trk (h : Heap) (H : Hp) : List Addr := (List.range h.objs.size).filter fun a => (H a).isSome
noncomputable def hidT (h : Heap) (H : Hp) : Heap := PySem.W.hideAll h (trk h H)
theorem hidT_size (h : Heap) (H : Hp) : (hidT h H).objs.size = h.objs.size := PySem.W.hideAll_size _ _
theorem hidT_get {h : Heap} {H : Hp} {b : Addr} {o : Obj} (e : h.get? b = some o) (n : H b = none) : (hidT h H).get? b = some o :=
  PySem.W.hideAll_get _ e fun hm => by
    have q : (H b).isSome = true := (List.mem_filter.mp hm).2
    rw [n] at q; simp at q
theorem of_hidT {h : Heap} {H : Hp} {b : Addr} {o : Obj} (e : (hidT h H).get? b = some o) : h.get? b = some o ∧ H b = none := by
  have e' : h.get? b = some o := PySem.W.of_hideAll (trk h H) e
  refine ⟨e', ?_⟩
  cases q : H b with
  | none => rfl
  | some x =>
    have hm : b ∈ trk h H := List.mem_filter.mpr ⟨List.mem_range.mpr (Heap.lt_size e'), by simp [q]⟩
    have z : (hidT h H).get? b = none := PySem.W.hideAll_none (trk h H) hm
    rw [z] at e; cases e
noncomputable def allNews (g h : Heap) (L : Addr) : List (Addr × Obj) := (List.range h.objs.size).filterMap fun a => if a = L ∨ (g.get? a).isSome = true then none else (h.get? a).map fun o => (a, o)
noncomputable def rest (g h : Heap) (L d : Addr) : List (Addr × Obj) := (allNews g h L).filter fun p => decide (p.1 ≠ d)
end L2
namespace L2
open PySem PySem.Spec PyProof.Rows
structure Mod (K : PySem.W.Frag) (mg : Str → Option Value) (base : Heap) : Prop where
  kin : K.In base
  glob : base.Ns mainGlobals mg
  blt : ∃ mb, base.Ns builtinsNs mb ∧ ∀ x : Str, x ≠ "__name__" → mb x = bootBuiltins x
  nolimit : base.NoLimit
structure Cx where
  prog : Program
  w : World
  K : PySem.W.Frag
  mg : Str → Option Value
  base : Heap
  A : Around
  N : List Str
  s₀ : Shared
  H₀ : Hp
  env : Env
  outer : List Env
  stack : List Env
  ex : List Addr
  fn : Str → Bool
  calm : Bool
  pn : List (Addr × Obj)
  xe : Value → Shared → Prop
noncomputable def frs (l : List Env) : List Addr := l.filterMap (·.frame)
noncomputable abbrev Cx.fs (X : Cx) : List Addr := frs X.outer
noncomputable def Vis (sc : Scope) (x : Str) : Prop := sc.names.lookup x = some .local ∨ sc.names.lookup x = some .cell ∨ sc.names.lookup x = some .free
noncomputable def Loc (sc : Scope) (x : Str) : Prop := sc.names.lookup x = some .local ∨ sc.names.lookup x = some .cell
noncomputable def Look (env : Env) (h : Heap) (m : Str → Option Value) (x : Str) (u : Value) : Prop :=
  (env.kindOf x = some .local ∧ m x = some u) ∨ ((env.kindOf x = some .cell ∨ env.kindOf x = some .free) ∧ ∃ c, env.cells.lookup x = some c ∧ h.IsCell c (some u))
structure Cx.Ok (X : Cx) : Prop where
  mod : Mod X.K X.mg X.base
  kind : X.env.scope.kind = .function
  glob : X.env.globals = mainGlobals
  blt : X.env.builtins = builtinsNs
  above : X.s₀.heap.objs.size ≤ X.env.locals
  inj : ∀ x y c, X.env.cells.lookup x = some c → X.env.cells.lookup y = some c → x = y
  has : ∀ x, (X.env.kindOf x = some .cell ∨ X.env.kindOf x = some .free) → ∃ c, X.env.cells.lookup x = some c
  cab : ∀ x c, X.fn x = true → X.env.cells.lookup x = some c → X.s₀.heap.objs.size ≤ c
  hd : X.calm = true → X.A.handled = none
  frames : X.A.frames = some X.stack
  stk : X.stack = X.outer ∨ (X.stack = X.env :: X.outer ∧ X.env.frame = some X.env.locals)
  exf : ∀ b ∈ X.ex, b ≠ X.env.locals ∧ ∀ x c, X.env.cells.lookup x = some c → c ≠ b
  bs : ∀ b o, X.base.get? b = some o → X.s₀.heap.get? b = some o ∧ X.H₀ b = none
  bsz : X.base.objs.size ≤ X.s₀.heap.objs.size
  noex : ∀ b o, X.base.get? b = some o → b ∉ X.ex
  exfs : ∀ b ∈ X.ex, b ∉ X.fs
  funs : X.s₀.heap.FunFrames X.base X.outer
  frf : ∀ b ∈ X.fs, X.H₀ b = none
structure Inv (X : Cx) (pins : List (Addr × Obj)) (σ : List (Option V)) (H : Hp) (s : Shared) : Prop where
  ok : X.Ok
  os : s.os = X.s₀.os
  bare : AllBare s.gens
  base : Un X.fs X.ex X.H₀ H X.s₀.heap s.heap
  loc : ∃ m, s.heap.Ns X.env.locals m ∧ ∀ (i : Nat) (x : Str) (v : V), X.N[i]? = some x → σ[i]? = some (some v) → Vis X.env.scope x → ∃ u, RelV v u ∧ Look X.env s.heap m x u
  cell : ∀ x c, X.env.cells.lookup x = some c → ∃ v, s.heap.IsCell c v
  free : H X.env.locals = none
  freeC : ∀ x c, X.env.cells.lookup x = some c → H c = none
  pin : ∀ p ∈ X.pn ++ pins, s.heap.get? p.1 = some p.2 ∧ H p.1 = none ∧ p.1 ≠ X.env.locals ∧ p.1 ∉ X.fs ∧ ∀ v, p.2.data ≠ .cell v
  hok : HOk X.prog X.w H s.heap
  len : σ.length = X.N.length
section
variable {X : Cx} {pins : List (Addr × Obj)} {σ : List (Option V)} {H H' : Hp} {s : Shared} {h' : Heap}
theorem Cx.Ok.nofr (ok : X.Ok) {b : Addr} {o : Obj} (e : X.base.get? b = some o) : b ∉ X.fs := fun hb => by
  have := (ok.funs.mem hb).1
  rw [e] at this; cases this
theorem Inv.bs (I : Inv X pins σ H s) : ∀ b o, X.base.get? b = some o → s.heap.get? b = some o ∧ H b = none := fun b o e =>
  ⟨I.base.keep b o (I.ok.bs b o e).1 (I.ok.bs b o e).2 (I.ok.nofr e) (I.ok.noex b o e), I.base.free b o (I.ok.bs b o e).1 (I.ok.bs b o e).2 (I.ok.noex b o e)⟩
theorem Inv.bk (I : Inv X pins σ H s) : ∀ b o, X.base.get? b = some o → s.heap.get? b = some o := fun b o e => (I.bs b o e).1
theorem Inv.mod (I : Inv X pins σ H s) : Mod X.K X.mg X.base := I.ok.mod
theorem Inv.kIn (I : Inv X pins σ H s) : X.K.In s.heap := I.ok.mod.kin.keeps I.bk
theorem Inv.lt (I : Inv X pins σ H s) : X.env.locals < s.heap.objs.size := let ⟨_, hn, _⟩ := I.loc; hn.lt
theorem Inv.sz (I : Inv X pins σ H s) : X.s₀.heap.objs.size ≤ s.heap.objs.size := Nat.le_trans I.ok.above (Nat.le_of_lt I.lt)
theorem Inv.nofs (I : Inv X pins σ H s) {a : Addr} (h : s.heap.objs.size ≤ a) : a ∉ X.fs := fun hb => by
  obtain ⟨_, o, ho, _⟩ := I.ok.funs.mem hb
  exact absurd (Nat.lt_of_lt_of_le (Heap.lt_size ho) (Nat.le_trans I.sz h)) (Nat.lt_irrefl _)
theorem Inv.cne (I : Inv X pins σ H s) : ∀ x c, X.env.cells.lookup x = some c → c ≠ X.env.locals := fun x c e z => by
  obtain ⟨v, o, ho, hd⟩ := I.cell x c e
  obtain ⟨m, ⟨o', es, ep, ho', hd', _⟩, _⟩ := I.loc
  rw [z, ho'] at ho; cases ho; rw [hd'] at hd; cases hd
theorem Inv.funs (I : Inv X pins σ H s) : s.heap.FunFrames X.base X.outer := by
  have all : ∀ (l : List Env), (∀ b ∈ frs l, b ∈ X.fs) → X.s₀.heap.FunFrames X.base l → s.heap.FunFrames X.base l := by
    intro l
    induction l with
    | nil => intro _ _; trivial
    | cons env r ih =>
      intro hs hl
      obtain ⟨hk, ⟨L, o, hf, hn, ho, hd⟩, hr⟩ := hl
      have hL : L ∈ X.fs := hs L (by unfold frs; rw [List.filterMap_cons, hf]; exact List.mem_cons_self)
      obtain ⟨sl, e⟩ := I.base.slot L o ho (I.ok.frf L hL) hL fun z => I.ok.exfs L z hL
      exact ⟨hk, ⟨L, _, hf, hn, e, hd⟩, ih (fun b hb => hs b (by unfold frs; rw [List.filterMap_cons, hf]; exact List.mem_cons_of_mem _ hb)) hr⟩
  exact all X.outer (fun _ hb => hb) I.ok.funs
theorem Inv.stack (I : Inv X pins σ H s) : s.heap.FunFrames X.base X.stack := by
  rcases I.ok.stk with e | ⟨e, hf⟩
  · rw [e]; exact I.funs
  · rw [e]
    obtain ⟨m, hn, _⟩ := I.loc
    refine .cons (by rw [I.ok.kind]; decide) hf hn ?_ I.funs
    exact Heap.get?_none_of_le (Nat.le_trans I.ok.bsz I.ok.above)
theorem Inv.stkSub (I : Inv X pins σ H s) : ∀ b ∈ frs X.stack, b ∈ X.env.locals :: X.fs := fun b hb => by
  rcases I.ok.stk with e | ⟨e, hf⟩
  · rw [e] at hb; exact List.mem_cons_of_mem _ hb
  · rw [e] at hb
    unfold frs at hb
    rw [List.filterMap_cons, hf] at hb
    exact hb
theorem Inv.stkFree (I : Inv X pins σ H s) : ∀ b ∈ frs X.stack, H b = none := fun b hb => by
  rcases List.mem_cons.mp (I.stkSub b hb) with e | hb
  · rw [e]; exact I.free
  · obtain ⟨_, o, ho, _⟩ := I.ok.funs.mem hb
    exact I.base.free b o ho (I.ok.frf b hb) fun z => I.ok.exfs b z hb
theorem Inv.step {g' : Array GenState} {t' : Nat} {d' : Drawn} {ch : List Addr} (I : Inv X pins σ H s)
    (hch : ∀ b ∈ ch, (b ∈ X.ex ∨ X.s₀.heap.objs.size ≤ b) ∧ b ≠ X.env.locals ∧ (∀ x c, X.env.cells.lookup x = some c → c ≠ b) ∧ ∀ p ∈ X.pn ++ pins, p.1 ≠ b)
    (keep : ∀ b o, b ≠ X.env.locals → b ∉ X.fs → b ∉ ch → s.heap.get? b = some o → H b = none → h'.get? b = some o)
    (slot : ∀ b o, b ≠ X.env.locals → b ∈ X.fs → b ∉ ch → s.heap.get? b = some o → H b = none → ∃ sl, h'.get? b = some { o with slots := sl }) (free : ∀ b o, b ∉ ch → s.heap.get? b = some o → H b = none → H' b = none)
    (there : ∀ b o, b ∉ ch → s.heap.get? b = some o → ∃ o', h'.get? b = some o')
    (tups : ∀ b xs, H b = some (.tup xs) → H' b = some (.tup xs)) (frzs : ∀ b o u, H b = some (.frz o u) → H' b = some (.frz o u)) (tbls : ∀ b ps, H b = some (.tbl ps) → ∃ more, H' b = some (.tbl (ps ++ more)))
    (ns : ∀ m, s.heap.Ns X.env.locals m → h'.Ns X.env.locals m) (hok : HOk X.prog X.w H' h') (hg : AllBare g') :
    Inv X pins σ H' { s with heap := h', gens := g', drawn := d', toks := t' } := by
  have neL : ∀ b o, X.s₀.heap.get? b = some o → b ≠ X.env.locals := fun b o e => Nat.ne_of_lt (Nat.lt_of_lt_of_le (Heap.lt_size e) I.ok.above)
  have neC : ∀ b o, X.s₀.heap.get? b = some o → b ∉ X.ex → b ∉ ch := fun b o e hx hb => by
    rcases (hch b hb).1 with z | z
    · exact hx z
    · exact absurd (Nat.lt_of_lt_of_le (Heap.lt_size e) z) (Nat.lt_irrefl _)
  have cellK : ∀ x c, X.env.cells.lookup x = some c → ∀ v, s.heap.IsCell c v → h'.IsCell c v := fun x c e v ⟨o, ho, hd⟩ => by
    have nch : c ∉ ch := fun z => (hch c z).2.2.1 x c e rfl
    by_cases hc : c ∈ X.fs
    · obtain ⟨sl, q⟩ := slot c o (I.cne x c e) hc nch ho (I.freeC x c e)
      exact ⟨_, q, hd⟩
    · exact ⟨o, keep c o (I.cne x c e) hc nch ho (I.freeC x c e), hd⟩
  refine ⟨I.ok, I.os, hg, ⟨fun b o e n hb hx => ?_, fun b o e n hb hx => ?_, fun b o e n hx => ?_, fun b o e hx => ?_, fun b xs e => tups b xs (I.base.tups b xs e), fun b o xs e => frzs b o xs (I.base.frzs b o xs e), fun b ps e => ?_⟩, ?_, fun x c e => ?_, ?_, fun x c e => ?_, fun p hp => ?_, hok, I.len⟩
  · exact keep b o (neL b o e) hb (neC b o e hx) (I.base.keep b o e n hb hx) (I.base.free b o e n hx)
  · obtain ⟨sl, e1⟩ := I.base.slot b o e n hb hx
    obtain ⟨sl', e2⟩ := slot b _ (neL b o e) hb (neC b o e hx) e1 (I.base.free b o e n hx)
    exact ⟨sl', e2⟩
  · obtain ⟨o', e1⟩ := I.base.there b o e hx
    exact free b o' (neC b o e hx) e1 (I.base.free b o e n hx)
  · obtain ⟨o', e1⟩ := I.base.there b o e hx
    exact there b o' (neC b o e hx) e1
  · obtain ⟨m1, e1⟩ := I.base.tbls b ps e
    obtain ⟨m2, e2⟩ := tbls b _ e1
    exact ⟨m1 ++ m2, by rw [e2, Array.append_assoc]⟩
  · obtain ⟨m, hn, hl⟩ := I.loc
    refine ⟨m, ns m hn, fun i x v e1 e2 e3 => ?_⟩
    obtain ⟨u, r, l⟩ := hl i x v e1 e2 e3
    refine ⟨u, r, ?_⟩
    rcases l with l | ⟨k, c, e, z⟩
    · exact .inl l
    · exact .inr ⟨k, c, e, cellK x c e _ z⟩
  · obtain ⟨v, z⟩ := I.cell x c e
    exact ⟨v, cellK x c e v z⟩
  · obtain ⟨m, ⟨o, _, _, ho, _⟩, _⟩ := I.loc
    exact free _ o (fun z => (hch _ z).2.1 rfl) ho I.free
  · obtain ⟨v, o, ho, hd⟩ := I.cell x c e
    exact free c o (fun z => (hch c z).2.2.1 x c e rfl) ho (I.freeC x c e)
  · obtain ⟨e, n, ne, nf, d⟩ := I.pin p hp
    have nch : p.1 ∉ ch := fun z => (hch p.1 z).2.2.2 p hp rfl
    exact ⟨keep p.1 p.2 ne nf nch e n, free p.1 p.2 nch e n, ne, nf, d⟩
theorem Inv.un {t' : Nat} (I : Inv X pins σ H s) (u : Un X.fs [] H H' s.heap h') (hok : HOk X.prog X.w H' h') : Inv X pins σ H' { s with heap := h', toks := t' } := by
  obtain ⟨m, ⟨o, es, ep, ho, r⟩, _⟩ := id I.loc
  obtain ⟨sl, hL⟩ := u.any ho I.free (by simp)
  exact I.step (g' := s.gens) (d' := s.drawn) (ch := []) (fun _ z => nomatch z) (fun b o _ hb _ e n => u.keep b o e n hb (by simp)) (fun b o _ hb _ e n => u.slot b o e n hb (by simp)) (fun b o _ e n => u.free b o e n (by simp)) (fun b o _ e => u.there b o e (by simp)) u.tups u.frzs u.tbls (fun m' hm => by
    obtain ⟨o', es', ep', ho', r'⟩ := hm
    rw [ho] at ho'; cases ho'
    exact ⟨_, es', ep', hL, r'⟩) hok I.bare
theorem Inv.call {g' : Array GenState} {t' : Nat} {d' : Drawn} {ch : List Addr} (I : Inv X pins σ H s) (u : Un (frs X.stack) ch H H' s.heap h') (hok : HOk X.prog X.w H' h') (hg : AllBare g')
    (hch : ∀ b ∈ ch, (b ∈ X.ex ∨ X.s₀.heap.objs.size ≤ b) ∧ b ≠ X.env.locals ∧ (∀ x c, X.env.cells.lookup x = some c → c ≠ b) ∧ ∀ p ∈ X.pn ++ pins, p.1 ≠ b) :
    Inv X pins σ H' { s with heap := h', gens := g', drawn := d', toks := t' } := by
  obtain ⟨m, ⟨o, es, ep, ho, r⟩, _⟩ := id I.loc
  obtain ⟨sl, hL⟩ := u.any ho I.free fun z => (hch _ z).2.1 rfl
  exact I.step (ch := ch) hch (fun b o hL hb hc e n => u.keep b o e n (fun z => (List.mem_cons.mp (I.stkSub b z)).elim hL hb) hc) (fun b o _ _ hc e n => u.any e n hc) (fun b o hc e n => u.free b o e n hc) (fun b o hc e => u.there b o e hc) u.tups u.frzs u.tbls (fun m' hm => by
    obtain ⟨o', es', ep', ho', r'⟩ := hm
    rw [ho] at ho'; cases ho'
    exact ⟨_, es', ep', hL, r'⟩) hok hg
theorem Inv.turned {t' : Nat} {it : Addr} (I : Inv X pins σ H s) (k : ∀ b o, b ≠ it → s.heap.get? b = some o → h'.get? b = some o) (hn : H it = none) (hL : it ≠ X.env.locals)
    (h1 : it ∈ X.ex ∨ X.s₀.heap.objs.size ≤ it) (h2 : ∀ x c, X.env.cells.lookup x = some c → c ≠ it) (h3 : ∀ p ∈ X.pn ++ pins, p.1 ≠ it) : Inv X pins σ H { s with heap := h', toks := t' } := by
  have nit : ∀ b u, H b = some u → b ≠ it := fun b u e z => by rw [z, hn] at e; cases e
  refine I.step (g' := s.gens) (d' := s.drawn) (ch := [it]) (fun b hb => ?_) (fun b o _ _ hc e _ => k b o (fun z => hc (by simp [z])) e) (fun b o _ _ hc e _ => ⟨o.slots, k b o (fun z => hc (by simp [z])) e⟩) (fun _ _ _ _ n => n)
    (fun b o hc e => ⟨o, k b o (fun z => hc (by simp [z])) e⟩) (fun _ _ e => e) (fun _ _ _ e => e) (fun b ps e => ⟨#[], by rw [e]; simp⟩) (fun m hm => ?_) (fun b u e => ?_) I.bare
  · have e : b = it := by simpa using hb
    subst e
    exact ⟨h1, hL, h2, h3⟩
  · obtain ⟨o, es, ep, ho, r⟩ := hm
    exact ⟨o, es, ep, k _ o (Ne.symm hL) ho, r⟩
  · refine (I.hok b u e).stay (fun c v hc q => k c v ?_ q) (fun _ q => q) fun _ _ q => q
    rcases hc with z | z
    · rw [z]; exact nit b u e
    · exact nit c _ z
theorem Inv.tok (I : Inv X pins σ H s) (t : Nat) : Inv X pins σ H { s with toks := t } := I.un (h' := s.heap) (t' := t) Un.refl I.hok
theorem Inv.kept {t' : Nat} (I : Inv X pins σ H s) (k : ∀ b u, s.heap.get? b = some u → h'.get? b = some u) : Inv X pins σ H { s with heap := h', toks := t' } := I.un (Un.kept k) (I.hok.kept k)
theorem Inv.laid {a : Addr} {o : HO} {t' : Nat} (I : Inv X pins σ H s) (k : ∀ b u, s.heap.get? b = some u → h'.get? b = some u) (hp : s.heap.objs.size ≤ a) (new : ObjOk X.prog X.w (upd H a o) h' a o) :
    Inv X pins σ (upd H a o) { s with heap := h', toks := t' } := I.un (Un.laid k hp (I.hok.fresh hp)) (I.hok.laid k hp new)
theorem Inv.write {x e : Addr} {o : HO} {t' : Nat} (I : Inv X pins σ H s) (mu : Mut (H x)) (he : e = x ∨ H e = some (.own x)) (k : ∀ b u, b ≠ e → s.heap.get? b = some u → h'.get? b = some u) (heo : ∃ u, h'.get? e = some u)
    (new : ObjOk X.prog X.w (upd H x o) h' x o) : Inv X pins σ (upd H x o) { s with heap := h', toks := t' } := I.un (Un.write mu he k heo) (I.hok.write mu he k heo new)
theorem Inv.pins_of {pins' : List (Addr × Obj)} (I : Inv X pins σ H s) (h : ∀ p ∈ pins', s.heap.get? p.1 = some p.2 ∧ H p.1 = none ∧ p.1 ≠ X.env.locals ∧ p.1 ∉ X.fs ∧ ∀ v, p.2.data ≠ .cell v) : Inv X pins' σ H s :=
  ⟨I.ok, I.os, I.bare, I.base, I.loc, I.cell, I.free, I.freeC, fun p hp => (List.mem_append.mp hp).elim (fun z => I.pin p (List.mem_append_left _ z)) (h p), I.hok, I.len⟩
theorem nodup_ix {N : List Str} (hN : N.Nodup) {i j : Nat} {x : Str} (a : N[i]? = some x) (b : N[j]? = some x) : i = j := by
  obtain ⟨h1, e1⟩ := List.getElem?_eq_some_iff.mp a
  obtain ⟨h2, e2⟩ := List.getElem?_eq_some_iff.mp b
  exact (List.getElem_inj hN).mp (e1.trans e2.symm)
theorem store_ok2 {M : Model} {A : Around} {E : Value → Shared → Prop} {i : Nat} {x : Str} {v : V} {u : Value} {Q : Unit → Shared → Prop} (I : Inv X pins σ H s) (hN : X.N.Nodup) (hi : X.N[i]? = some x) (hx : Loc X.env.scope x) (r : RelV v u)
    (h : ∀ s', Inv X pins (σ.set i (some v)) H s' → (∃ a, Heap.SameBut a s.heap s'.heap ∧ (a = X.env.locals ∨ X.env.cells.lookup x = some a)) → Q () s') (hf : X.fn x = true ∨ X.env.scope.names.lookup x = some .local := by first | exact .inl rfl | exact .inr rfl | assumption) : wpAny M A (storeName X.env x u) Q E s := by
  obtain ⟨m, hn, hl⟩ := id I.loc
  have hcls : (X.env.scope.kind == .class || (X.env.scope.kind == .module && X.env.locals != X.env.globals)) = false := by rw [I.ok.kind]; rfl
  have hiσ : i < σ.length := by rw [I.len]; exact (List.getElem?_eq_some_iff.mp hi).1
  have cne := I.cne
  have tracked : ∀ {a : Addr} {h' : Heap}, (∃ o, s.heap.get? a = some o ∧ H a = none) → Heap.SameBut a s.heap h' → HOk X.prog X.w H h' := fun {a h'} ha hs b ob e => by
    obtain ⟨_, _, hfree⟩ := ha
    refine (I.hok b ob e).stay (fun c w' hc q => (hs.2 c ?_).trans q) (fun _ q => q) fun _ _ q => q
    rintro rfl
    rcases hc with rfl | hc
    · rw [hfree] at e; cases e
    · rw [hfree] at hc; cases hc
  rcases hx with hk | hk
  · refine wpAny_storeName_local hk hn (fun h' hn' hs => ?_) hcls
    obtain ⟨oL, _, _, hoL, _⟩ := id hn
    refine h _ ⟨I.ok, I.os, I.bare, ⟨fun b o e n hb hx => ?_, fun b o e n hb hx => ?_, I.base.free, fun b o e hx => ?_, I.base.tups, I.base.frzs, I.base.tbls⟩, ⟨_, hn', fun j y v' e1 e2 e3 => ?_⟩, fun y c e => ?_, I.free, I.freeC, fun p hp => ?_, tracked ⟨oL, hoL, I.free⟩ hs, by simpa using I.len⟩ ⟨_, hs, .inl rfl⟩
    · exact (hs.2 b (Nat.ne_of_lt (Nat.lt_of_lt_of_le (Heap.lt_size e) I.ok.above))).trans (I.base.keep b o e n hb hx)
    · obtain ⟨sl, e1⟩ := I.base.slot b o e n hb hx
      exact ⟨sl, (hs.2 b (Nat.ne_of_lt (Nat.lt_of_lt_of_le (Heap.lt_size e) I.ok.above))).trans e1⟩
    · obtain ⟨o', e1⟩ := I.base.there b o e hx
      exact ⟨o', (hs.2 b (Nat.ne_of_lt (Nat.lt_of_lt_of_le (Heap.lt_size e) I.ok.above))).trans e1⟩
    · by_cases hj : j = i
      · subst hj
        rw [hi] at e1; cases e1
        rw [List.getElem?_set_self hiσ] at e2
        cases e2
        exact ⟨u, r, .inl ⟨hk, by simp⟩⟩
      · rw [List.getElem?_set_ne (Ne.symm hj)] at e2
        obtain ⟨u', r', q⟩ := hl j y v' e1 e2 e3
        refine ⟨u', r', ?_⟩
        rcases q with ⟨k, e⟩ | ⟨k, c, e, z⟩
        · refine .inl ⟨k, ?_⟩
          have : y ≠ x := fun e => hj (nodup_ix hN e1 (e ▸ hi))
          simp [this, e]
        · exact .inr ⟨k, c, e, z.sameBut hs (cne y c e)⟩
    · obtain ⟨w', z⟩ := I.cell y c e
      exact ⟨w', z.sameBut hs (cne y c e)⟩
    · obtain ⟨e, n, ne, nf, d⟩ := I.pin p hp
      exact ⟨(hs.2 p.1 ne).trans e, n, ne, nf, d⟩
  · have hfn : X.fn x = true := by
      rcases hf with z | z
      · exact z
      · rw [z] at hk; cases hk
    obtain ⟨c, hc⟩ := I.ok.has x (.inl hk)
    obtain ⟨w', z⟩ := I.cell x c hc
    refine wpAny_storeName_cell I.ok.kind hk hc z (fun h' hc' hs => ?_)
    obtain ⟨oc, hoc, hocd⟩ := id z
    refine h { s with heap := h' } ⟨I.ok, I.os, I.bare, ⟨fun b o e n hb hx => ?_, fun b o e n hb hx => ?_, I.base.free, fun b o e hx => ?_, I.base.tups, I.base.frzs, I.base.tbls⟩, ⟨m, hn.sameBut hs (Ne.symm (cne x c hc)), fun j y v' e1 e2 e3 => ?_⟩, fun y c' e => ?_, I.free, I.freeC, fun p hp => ?_, tracked ⟨oc, hoc, I.freeC x c hc⟩ hs, by simpa using I.len⟩ ⟨c, hs, .inr hc⟩
    · exact (hs.2 b (Nat.ne_of_lt (Nat.lt_of_lt_of_le (Heap.lt_size e) (I.ok.cab x c hfn hc)))).trans (I.base.keep b o e n hb hx)
    · obtain ⟨sl, e1⟩ := I.base.slot b o e n hb hx
      exact ⟨sl, (hs.2 b (Nat.ne_of_lt (Nat.lt_of_lt_of_le (Heap.lt_size e) (I.ok.cab x c hfn hc)))).trans e1⟩
    · obtain ⟨o', e1⟩ := I.base.there b o e hx
      exact ⟨o', (hs.2 b (Nat.ne_of_lt (Nat.lt_of_lt_of_le (Heap.lt_size e) (I.ok.cab x c hfn hc)))).trans e1⟩
    · by_cases hj : j = i
      · subst hj
        rw [hi] at e1; cases e1
        rw [List.getElem?_set_self hiσ] at e2
        cases e2
        exact ⟨u, r, .inr ⟨.inl hk, c, hc, hc'⟩⟩
      · rw [List.getElem?_set_ne (Ne.symm hj)] at e2
        obtain ⟨u', r', q⟩ := hl j y v' e1 e2 e3
        refine ⟨u', r', ?_⟩
        rcases q with q | ⟨k, c', e, z'⟩
        · exact .inl q
        · refine .inr ⟨k, c', e, z'.sameBut hs ?_⟩
          rintro rfl
          exact hj (nodup_ix hN e1 (I.ok.inj _ _ _ e hc ▸ hi))
    · by_cases hcc : c' = c
      · subst hcc; exact ⟨_, hc'⟩
      · obtain ⟨w2, z2⟩ := I.cell y c' e
        exact ⟨w2, z2.sameBut hs hcc⟩
    · obtain ⟨e, n, ne, nf, d⟩ := I.pin p hp
      refine ⟨(hs.2 p.1 ?_).trans e, n, ne, nf, d⟩
      intro q
      rw [q, hoc] at e
      have q' : oc = p.2 := Option.some.inj e
      exact d w' (by rw [← q']; exact hocd)
theorem store_ok {M : Model} {A : Around} {E : Value → Shared → Prop} {i : Nat} {x : Str} {v : V} {u : Value} {Q : Unit → Shared → Prop} (I : Inv X pins σ H s) (hN : X.N.Nodup) (hi : X.N[i]? = some x) (hx : Loc X.env.scope x) (r : RelV v u)
    (h : ∀ s', Inv X pins (σ.set i (some v)) H s' → Q () s') (hf : X.fn x = true ∨ X.env.scope.names.lookup x = some .local := by first | exact .inl rfl | exact .inr rfl | assumption) : wpAny M A (storeName X.env x u) Q E s :=
  store_ok2 I hN hi hx r (fun s' I' _ => h s' I') hf
theorem Inv.call' {s' : Shared} {ch : List Addr} (I : Inv X pins σ H s) (ho : s'.os = s.os) (u : Un (frs X.stack) ch H H' s.heap s'.heap) (hok : HOk X.prog X.w H' s'.heap) (hg : AllBare s'.gens)
    (hch : ∀ b ∈ ch, (b ∈ X.ex ∨ X.s₀.heap.objs.size ≤ b) ∧ b ≠ X.env.locals ∧ (∀ x c, X.env.cells.lookup x = some c → c ≠ b) ∧ ∀ p ∈ X.pn ++ pins, p.1 ≠ b) : Inv X pins σ H' s' := by
  obtain ⟨h', g', d', t', o'⟩ := s'
  have e : o' = s.os := ho
  subst e
  exact I.call (g' := g') (t' := t') (d' := d') u hok hg hch
end
noncomputable abbrev XK := Value → Option Addr → Hp → Prop
noncomputable abbrev St := List (Option V)
noncomputable abbrev VK := V → Hp → Prop
noncomputable abbrev TE := St → Hp → VK → Prop
noncomputable abbrev TT := St → Hp → (Bool → Hp → Prop) → Prop
noncomputable abbrev TA := St → Hp → (List V → Hp → Prop) → Prop
structure Ends where
  nx : St → Hp → Prop
  rt : VK
  bk : St → Hp → Prop := fun _ _ => False
  ct : St → Hp → Prop := fun _ _ => False
noncomputable abbrev TS := Ends → St → Hp → Prop
noncomputable def EP (X : Cx) (pins : List (Addr × Obj)) (σ : St) (Q : VK) (u : Value) (s' : Shared) : Prop := ∃ v H', Inv X pins σ H' s' ∧ RelV v u ∧ Q v H'
noncomputable def TP (X : Cx) (pins : List (Addr × Obj)) (σ : St) (Q : Bool → Hp → Prop) (b : Bool) (s' : Shared) : Prop := ∃ H', Inv X pins σ H' s' ∧ Q b H'
noncomputable def AP (X : Cx) (pins : List (Addr × Obj)) (σ : St) (Q : List V → Hp → Prop) (us : List Value) (s' : Shared) : Prop := ∃ vs H', Inv X pins σ H' s' ∧ Vals vs us ∧ Q vs H'
noncomputable def SP (X : Cx) (pins : List (Addr × Obj)) (D : Ends) (f : Flow) (s' : Shared) : Prop :=
  match f with
  | .next => ∃ σ' H', Inv X pins σ' H' s' ∧ D.nx σ' H'
  | .brk => ∃ σ' H', Inv X pins σ' H' s' ∧ D.bk σ' H'
  | .cont => ∃ σ' H', Inv X pins σ' H' s' ∧ D.ct σ' H'
  | .ret u => ∃ v σ' H', Inv X pins σ' H' s' ∧ RelV v u ∧ D.rt v H'
noncomputable def PE (X : Cx) (e : Expr) (t : TE) : Prop :=
  ∀ (pins : List (Addr × Obj)) (s : Shared) (σ : St) (H : Hp) (Q : VK), Inv X pins σ H s → t σ H Q → wpAny (model X.prog X.w) X.A (eval e X.env) (EP X pins σ Q) X.xe s
noncomputable def PT (X : Cx) (e : Expr) (t : TT) : Prop :=
  ∀ (pins : List (Addr × Obj)) (s : Shared) (σ : St) (H : Hp) (Q : Bool → Hp → Prop), Inv X pins σ H s → t σ H Q → wpAny (model X.prog X.w) X.A (isTrue e X.env (eval e X.env)) (TP X pins σ Q) X.xe s
noncomputable def PW (X : Cx) (e : Expr) (t : TT) : Prop :=
  ∀ (whole : Sem Value) (pins : List (Addr × Obj)) (s : Shared) (σ : St) (H : Hp) (Q : Bool → Hp → Prop), Inv X pins σ H s → t σ H Q → wpAny (model X.prog X.w) X.A (isTrue e X.env whole) (TP X pins σ Q) X.xe s
theorem PW.pt {X : Cx} {e : Expr} {t : TT} (h : PW X e t) : PT X e t := h _
noncomputable def PA (X : Cx) (es : List Expr) (t : TA) : Prop :=
  ∀ (pos : Pos) (pins : List (Addr × Obj)) (s : Shared) (σ : St) (H : Hp) (Q : List V → Hp → Prop), Inv X pins σ H s → t σ H Q → wpAny (model X.prog X.w) X.A (spliced (backTo pos (starEach es X.env))) (AP X pins σ Q) X.xe s
noncomputable def PS (X : Cx) (st : Stmt) (t : TS) : Prop :=
  ∀ (pins : List (Addr × Obj)) (s : Shared) (σ : St) (H : Hp) (D : Ends), Inv X pins σ H s → t D σ H → wpAny (model X.prog X.w) X.A (exec st X.env) (SP X pins D) X.xe s
noncomputable def PSs (X : Cx) (st : List Stmt) (t : TS) : Prop :=
  ∀ (pins : List (Addr × Obj)) (s : Shared) (σ : St) (H : Hp) (D : Ends), Inv X pins σ H s → t D σ H → wpAny (model X.prog X.w) X.A (execs st X.env) (SP X pins D) X.xe s
theorem thn {α : Type} {t : Sem α} {Q Q' : α → Shared → Prop} {M : Model} {A : Around} {E : Value → Shared → Prop} {s : Shared} (h : wpAny M A t Q E s) (hQ : ∀ a s, Q a s → Q' a s) : wpAny M A t Q' E s := wpAny_mono h hQ fun _ _ x => x
end L2
namespace L2
open PySem PySem.Spec PyProof.Rows
section
variable {X : Cx}
theorem bin {a b : Expr} {ta tb : TE} (ha : PE X a ta) (hb : PE X b tb) {pins : List (Addr × Obj)} {s : Shared} {σ : St} {H : Hp} {R : V → V → Hp → Prop} (I : Inv X pins σ H s) (h : ta σ H fun x H1 => tb σ H1 fun y H2 => R x y H2)
    {α : Type} {Q : α → Shared → Prop} {f : Value → Value → Sem α}
    (hf : ∀ v u s2 x y H2, Inv X pins σ H2 s2 → RelV x v → RelV y u → R x y H2 → wpAny (model X.prog X.w) X.A (f v u) Q X.xe s2) :
    wpAny (model X.prog X.w) X.A (eval a X.env) (fun v s₁ => wpAny (model X.prog X.w) X.A (eval b X.env) (fun u s₂ => wpAny (model X.prog X.w) X.A (f v u) Q X.xe s₂) X.xe s₁) X.xe s := by
  refine thn (ha pins s σ H _ I h) fun v s1 hhx => ?_
  obtain ⟨x, H1, I1, r1, q1⟩ := hhx
  refine thn (hb pins s1 σ H1 _ I1 q1) fun u s2 hhx => ?_
  obtain ⟨y, H2, I2, r2, q2⟩ := hhx
  exact hf v u s2 x y H2 I2 r1 r2 q2
noncomputable def tVar (i : Nat) : TE := fun σ H Q => ∃ v, σ[i]? = some (some v) ∧ Q v H
noncomputable def tC (v : V) : TE := fun _ H Q => Q v H
theorem pe_var {i : Nat} {x : Str} {pos : Pos} (hN : X.N[i]? = some x) (hv : Vis X.env.scope x) (hd : (x == ("__debug__" : Str)) = false := by decide) (hcd : (x == ("__classdict__" : Str)) = false := by decide) : PE X (.Name x pos) (tVar i) := by
  intro pins s σ H Q I h
  obtain ⟨v, e, h⟩ := h
  obtain ⟨m, hn, hl⟩ := I.loc
  obtain ⟨u, r, l⟩ := hl i x v hN e hv
  have fin : EP X pins σ Q u s := ⟨v, H, I, r, h⟩
  rcases l with ⟨hk, hm⟩ | ⟨hk, c, hc, hcell⟩
  · exact wpAny_Name (wpAny_loadName_local I.ok.kind hk hn hm fin) hd
  · rcases hk with hk | hk
    · exact wpAny_Name (wpAny_loadName_cell I.ok.kind hk hc hcell fin) hd
    · exact wpAny_Name (wpAny_loadName_free I.ok.kind hk hc hcell fin hcd) hd
theorem pe_int {i j pos} : PE X (.Constant (.int i) j pos) (tC (.int i)) := fun _ _ _ H _ I h => wpAny_Constant_int ⟨.int i, H, I.tok _, ⟨_, rfl⟩, h⟩
theorem pe_bl {b j pos} : PE X (.Constant (.bool b) j pos) (tC (.bl b)) := fun _ _ _ H _ I h => Constant_bool ⟨.bl b, H, I, rfl, h⟩
theorem pe_non {j pos} : PE X (.Constant .none j pos) (tC .non) := fun _ _ _ H _ I h => Constant_none ⟨.non, H, I, rfl, h⟩
theorem pe_str {x j pos} : PE X (.Constant (.str x) j pos) (tC (.str x)) := fun _ _ _ H _ I h => Calls.Constant_str ⟨.str x, H, I.tok _, ⟨_, rfl⟩, h⟩
noncomputable def Gl (X : Cx) (x : Str) : Prop := X.env.kindOf x = some .globalImplicit
theorem ld_glob {E : Value → Shared → Prop} {pins : List (Addr × Obj)} {s : Shared} {σ : St} {H : Hp} {x : Str} {u : Value} {pos : Pos} {Q : Value → Shared → Prop} (I : Inv X pins σ H s) (hg : Gl X x) (hm : X.mg x = some u) (h : Q u s)
    (hd : (x == ("__debug__" : Str)) = false := by decide) : wpAny (model X.prog X.w) X.A (eval (.Name x pos) X.env) Q E s :=
  Calls.Name_function_global I.ok.kind hg (Calls.loadGlobal_global (by rw [I.ok.glob]; exact I.mod.glob.keeps I.bk) hm h) hd
theorem ld_blt {E : Value → Shared → Prop} {pins : List (Addr × Obj)} {s : Shared} {σ : St} {H : Hp} {x : Str} {u : Value} {pos : Pos} {Q : Value → Shared → Prop} (I : Inv X pins σ H s) (hg : Gl X x) (hm : X.mg x = none) (hv : bootBuiltins x = some u) (h : Q u s)
    (hn : x ≠ "__name__" := by decide) (hd : (x == ("__debug__" : Str)) = false := by decide) : wpAny (model X.prog X.w) X.A (eval (.Name x pos) X.env) Q E s := by
  obtain ⟨mb, h1, h2⟩ := I.mod.blt
  exact Calls.Name_function_global I.ok.kind hg (Calls.loadGlobal_builtin (by rw [I.ok.glob]; exact I.mod.glob.keeps I.bk) hm (by rw [I.ok.blt]; exact h1.keeps I.bk) ((h2 x hn).trans hv) h) hd
theorem pe_glob {x : Str} {v : V} {u : Value} {pos : Pos} (hg : Gl X x) (hm : X.mg x = some u) (r : RelV v u) (hd : (x == ("__debug__" : Str)) = false := by decide) : PE X (.Name x pos) (tC v) :=
  fun _ _ _ H _ I h => ld_glob I hg hm ⟨v, H, I, r, h⟩ hd
theorem pe_bltn {x : Str} {v : V} {u : Value} {pos : Pos} (hg : Gl X x) (hm : X.mg x = none) (hv : bootBuiltins x = some u) (r : RelV v u) (hn : x ≠ "__name__" := by decide) (hd : (x == ("__debug__" : Str)) = false := by decide) : PE X (.Name x pos) (tC v) :=
  fun _ _ _ H _ I h => ld_blt I hg hm hv ⟨v, H, I, r, h⟩ hn hd
variable {a b : Expr} {ta tb : TE} {pos : Pos}
noncomputable def PC (X : Cx) (op : CmpOp) (a b : Expr) (t : TE) : Prop :=
  ∀ (pins : List (Addr × Obj)) (s : Shared) (σ : St) (H : Hp) (Q : VK), Inv X pins σ H s → t σ H Q →
    wpAny (model X.prog X.w) X.A (eval a X.env) (fun v s₁ => wpAny (model X.prog X.w) X.A (eval b X.env) (fun u s₂ => wpAny (model X.prog X.w) X.A (compareOp op v u) (EP X pins σ Q) X.xe s₂) X.xe s₁) X.xe s
theorem nobehind (b : Expr) {op : CmpOp} (h : op ≠ .In) (h2 : op ≠ .NotIn) : behindInMarks op b = false := by
  have e1 : (op == CmpOp.In) = false := by cases op <;> first | rfl | exact absurd rfl h
  have e2 : (op == CmpOp.NotIn) = false := by cases op <;> first | rfl | exact absurd rfl h2
  cases b <;> simp [behindInMarks, e1, e2]
noncomputable def tB (t : TE) : TT := fun σ H Q => t σ H fun x H1 => ∃ c, x = .bl c ∧ Q c H1
theorem pt_cmp {op : CmpOp} {t : TE} (h : PC X op a b t) (h1 : behindInMarks op b = false := by first | exact nobehind _ (by decide) (by decide) | rfl) : PT X (.Compare a [op] [b] pos) (tB t) := by
  intro pins s σ H Q I hw
  refine wpAny_isTrue_Compare1 (thn (h pins s σ H _ I hw) fun v s1 h1 => thn h1 fun u s2 h2 => thn h2 fun c s3 hhx => ?_) h1
  obtain ⟨x, H1, I1, r1, q1⟩ := hhx
  obtain ⟨d, rfl, q⟩ := q1
  cases r1
  exact wpAny_truthy_bool ⟨H1, I1, q⟩
theorem pt_val {e : Expr} {t : TE} (h : PE X e t) (he : ∀ whole, isTrue e X.env whole = (do let v ← whole; standAt e.pos; holding [v] (truthy v)) := by intro _; rfl) : PT X e (tB t) := by
  intro pins s σ H Q I hw
  refine isTrue_plain (thn (h pins s σ H _ I hw) fun v s1 hhx => ?_) (he _)
  obtain ⟨x, H1, I1, r1, q1⟩ := hhx
  obtain ⟨d, rfl, q⟩ := q1
  cases r1
  exact wpAny_truthy_bool ⟨H1, I1, q⟩
variable {tA tB' : TT} {rest : List Expr}
noncomputable def tAnd (t u : TT) : TT := fun σ H Q => t σ H fun c H1 => if c = true then u σ H1 Q else Q false H1
noncomputable def tOr (t u : TT) : TT := fun σ H Q => t σ H fun c H1 => if c = true then Q true H1 else u σ H1 Q
noncomputable def tNot (t : TT) : TT := fun σ H Q => t σ H fun c H1 => Q (!c) H1
theorem pw_and1 (ha : PT X a tA) : PW X (.BoolOp .And [a] pos) tA := by
  intro wh pins s σ H Q I h
  refine isTrue_and (thn (ha pins s σ H Q I h) fun c s1 e => ?_)
  cases c with
  | true => exact isTrue_and_nil e
  | false => exact e
theorem pw_or1 (ha : PT X a tA) : PW X (.BoolOp .Or [a] pos) tA := by
  intro wh pins s σ H Q I h
  refine isTrue_or (thn (ha pins s σ H Q I h) fun c s1 e => ?_)
  cases c with
  | false => exact isTrue_or_nil e
  | true => exact e
theorem pw_and (ha : PT X a tA) (hb : PW X (.BoolOp .And (b :: rest) pos) tB') : PW X (.BoolOp .And (a :: b :: rest) pos) (tAnd tA tB') := by
  intro wh pins s σ H Q I h
  refine isTrue_and (thn (ha pins s σ H _ I h) fun c s1 hhx => ?_)
  obtain ⟨H1, I1, q1⟩ := hhx
  cases c with
  | true => exact hb wh pins s1 σ H1 Q I1 q1
  | false => exact ⟨H1, I1, q1⟩
theorem pw_or (ha : PT X a tA) (hb : PW X (.BoolOp .Or (b :: rest) pos) tB') : PW X (.BoolOp .Or (a :: b :: rest) pos) (tOr tA tB') := by
  intro wh pins s σ H Q I h
  refine isTrue_or (thn (ha pins s σ H _ I h) fun c s1 hhx => ?_)
  obtain ⟨H1, I1, q1⟩ := hhx
  cases c with
  | true => exact ⟨H1, I1, q1⟩
  | false => exact hb wh pins s1 σ H1 Q I1 q1
theorem pt_not (ha : PT X a tA) : PT X (.UnaryOp .Not a pos) (tNot tA) := by
  intro pins s σ H Q I h
  exact isTrue_not (ha pins s σ H (fun c H1 => Q (!c) H1) I h)
noncomputable def tAndV (ta tb : TE) : TE := fun σ H Q => ta σ H fun x H1 => ∃ c, x = .bl c ∧ if c = true then tb σ H1 Q else Q (.bl false) H1
noncomputable def tOrV (ta tb : TE) : TE := fun σ H Q => ta σ H fun x H1 => ∃ c, x = .bl c ∧ if c = true then Q (.bl true) H1 else tb σ H1 Q
noncomputable def tNotV (ta : TE) : TE := fun σ H Q => ta σ H fun x H1 => ∃ c, x = .bl c ∧ Q (.bl (!c)) H1
theorem pe_one {op} {t : TE} (h : PE X a t) : PE X (.BoolOp op [a] pos) t := fun pins s σ H Q I hw => BoolOp_one (h pins s σ H Q I hw)
theorem pe_and (ha : PE X a ta) (hb : PE X (.BoolOp .And (b :: rest) pos) tb) : PE X (.BoolOp .And (a :: b :: rest) pos) (tAndV ta tb) := by
  intro pins s σ H Q I h
  refine BoolOp_and (thn (ha pins s σ H _ I h) fun v s1 hhx => ?_)
  obtain ⟨x, H1, I1, r1, q1⟩ := hhx
  obtain ⟨c, rfl, q1⟩ := q1
  cases r1
  refine wpAny_truthy_bool ?_
  cases c with
  | true => exact hb pins s1 σ H1 Q I1 q1
  | false => exact ⟨.bl false, H1, I1, rfl, q1⟩
noncomputable def tIf (t : TT) (ta tb : TE) : TE := fun σ H Q => t σ H fun c H1 => if c = true then ta σ H1 Q else tb σ H1 Q
theorem pe_ifExp {c : Expr} (hc : PT X c tA) (ha : PE X a ta) (hb : PE X b tb) : PE X (.IfExp c a b pos) (tIf tA ta tb) := by
  intro pins s σ H Q I h
  refine wpAny_IfExp (thn (hc pins s σ H _ I h) fun d s1 hhx => ?_)
  obtain ⟨H1, I1, q1⟩ := hhx
  cases d with
  | true => exact ha pins s1 σ H1 Q I1 q1
  | false => exact hb pins s1 σ H1 Q I1 q1
end
end L2
namespace L2
open PySem PySem.Spec PyProof.Rows
noncomputable def SqL (K : PySem.W.Frag) (H : Hp) (a : Addr) (xs : List V) : Prop :=
  Rd H a (.lst xs) ∨
    ∃ (o : Obj) (its : Array Value) (n : Nat), K.lookup a = some o ∧ o.cls = .type "list" ∧ o.dict = none ∧ o.data = .seq its n ∧ its.size ≤ sizeLine ∧ Vals xs its.toList
noncomputable def SqT (K : PySem.W.Frag) (H : Hp) (a : Addr) (xs : List V) : Prop :=
  Rd H a (.tup xs) ∨
    ∃ (o : Obj) (its : Array Value) (n : Nat), K.lookup a = some o ∧ o.cls = .type "tuple" ∧ o.data = .seq its n ∧ its.size ≤ sizeLine ∧ Vals xs its.toList
noncomputable def absV : Value → Option V
  | .none => some .non
  | .bool b => some (.bl b)
  | .int i _ => some (.int i)
  | .str x _ => some (.str x)
  | .bytes b _ => some (.byt b)
  | .float b _ => some (.flt b)
  | .ref a => some (.ref a)
  | .type n => some (.ty n)
  | _ => none
theorem RelV.abs {x : V} {u : Value} (r : RelV x u) : absV u = some x := by
  cases x with
  | non => cases r; rfl
  | bl _ => cases r; rfl
  | int _ => obtain ⟨t, rfl⟩ := r; rfl
  | str _ => obtain ⟨t, rfl⟩ := r; rfl
  | byt _ => obtain ⟨t, rfl⟩ := r; rfl
  | flt _ => obtain ⟨t, rfl⟩ := r; rfl
  | ref _ => cases r; rfl
  | ty _ => cases r; rfl
theorem RelV.inj {x y : V} {u : Value} (r : RelV x u) (q : RelV y u) : x = y := Option.some.inj (r.abs.symm.trans q.abs)
theorem Vals.inj : ∀ {xs ys : List V} {us : List Value}, Vals xs us → Vals ys us → xs = ys
  | _, _, _, .nil, .nil => rfl
  | _, _, _, .cons r t, .cons r' t' => by rw [r.inj r', Vals.inj t t']
section
variable {X : Cx} {pins : List (Addr × Obj)} {σ : St} {H : Hp} {s : Shared} {a : Addr} {xs ys : List V}
theorem SqL.of {K : PySem.W.Frag} (h : H a = some (.lst xs)) : SqL K H a xs := .inl (.inl h)
theorem SqT.of {K : PySem.W.Frag} (h : H a = some (.tup xs)) : SqT K H a xs := .inl (.inl h)
theorem Inv.list (I : Inv X pins σ H s) (h : SqL X.K H a xs) : ∃ its : List Value, Vals xs its ∧ PlainL s.heap a its.toArray ∧ xs.length ≤ sizeLine := by
  rcases h with h | ⟨o, its, n, hk, hc, hd, hs, hz, r⟩
  · obtain ⟨z, its, n, r, e⟩ := h.ok I.hok
    exact ⟨its, r, ⟨_, n, e, rfl, rfl, rfl⟩, z⟩
  · refine ⟨its.toList, r, ⟨o, n, I.kIn a o hk, hc, hd, by simpa using hs⟩, ?_⟩
    have e := r.length
    simp only [Array.length_toList] at e
    omega
theorem Inv.tuple (I : Inv X pins σ H s) (h : SqT X.K H a xs) : ∃ its : List Value, Vals xs its ∧ IsTup s.heap a its.toArray ∧ xs.length ≤ sizeLine := by
  rcases h with h | ⟨o, its, n, hk, hc, hs, hz, r⟩
  · obtain ⟨z, its, r, p⟩ := h.ok I.hok
    exact ⟨its, r, p, z⟩
  · refine ⟨its.toList, r, ⟨o, I.kIn a o hk, hc, n, by simpa using hs⟩, ?_⟩
    have e := r.length
    simp only [Array.length_toList] at e
    omega
theorem Inv.list_inj (I : Inv X pins σ H s) (h : SqL X.K H a xs) (h' : SqL X.K H a ys) : xs = ys := by
  obtain ⟨its, r, ⟨o, n, e, _, _, d⟩, _⟩ := I.list h
  obtain ⟨its', r', ⟨o', n', e', _, _, d'⟩, _⟩ := I.list h'
  rw [e] at e'; cases e'
  rw [d] at d'
  injection d' with d1 _
  have : its = its' := by simpa using congrArg Array.toList d1
  subst this
  exact r.inj r'
theorem Inv.tuple_inj (I : Inv X pins σ H s) (h : SqT X.K H a xs) (h' : SqT X.K H a ys) : xs = ys := by
  obtain ⟨its, r, ⟨o, e, _, n, d⟩, _⟩ := I.tuple h
  obtain ⟨its', r', ⟨o', e', _, n', d'⟩, _⟩ := I.tuple h'
  rw [e] at e'; cases e'
  rw [d] at d'
  injection d' with d1 _
  have : its = its' := by simpa using congrArg Array.toList d1
  subst this
  exact r.inj r'
end
noncomputable abbrev Cx.wish (X : Cx) (E : Value → Shared → Prop) : Cx := { X with xe := E }
noncomputable abbrev Cx.nox (X : Cx) : Cx := X.wish fun _ _ => False
theorem Cx.Ok.wish {X : Cx} (ok : X.Ok) (E : Value → Shared → Prop) : (X.wish E).Ok :=
  ⟨ok.mod, ok.kind, ok.glob, ok.blt, ok.above, ok.inj, ok.has, ok.cab, ok.hd, ok.frames, ok.stk, ok.exf, ok.bs, ok.bsz, ok.noex, ok.exfs, ok.funs, ok.frf⟩
theorem Cx.Ok.unwish {X : Cx} {E : Value → Shared → Prop} (ok : (X.wish E).Ok) : X.Ok :=
  ⟨ok.mod, ok.kind, ok.glob, ok.blt, ok.above, ok.inj, ok.has, ok.cab, ok.hd, ok.frames, ok.stk, ok.exf, ok.bs, ok.bsz, ok.noex, ok.exfs, ok.funs, ok.frf⟩
section
variable {X : Cx} {pins : List (Addr × Obj)} {σ : St} {H : Hp} {s : Shared} {E : Value → Shared → Prop}
theorem Inv.wish (I : Inv X pins σ H s) (E : Value → Shared → Prop) : Inv (X.wish E) pins σ H s := ⟨I.ok.wish E, I.os, I.bare, I.base, I.loc, I.cell, I.free, I.freeC, I.pin, I.hok, I.len⟩
theorem Inv.unwish (I : Inv (X.wish E) pins σ H s) : Inv X pins σ H s := ⟨I.ok.unwish, I.os, I.bare, I.base, I.loc, I.cell, I.free, I.freeC, I.pin, I.hok, I.len⟩
theorem SP.unwish {D : Ends} {f : Flow} {s' : Shared} (h : SP (X.wish E) pins D f s') : SP X pins D f s' := by
  cases f with
  | next => obtain ⟨σ', H', I, q⟩ := h; exact ⟨σ', H', I.unwish, q⟩
  | brk => obtain ⟨σ', H', I, q⟩ := h; exact ⟨σ', H', I.unwish, q⟩
  | cont => obtain ⟨σ', H', I, q⟩ := h; exact ⟨σ', H', I.unwish, q⟩
  | ret u => obtain ⟨v, σ', H', I, r, q⟩ := h; exact ⟨v, σ', H', I.unwish, r, q⟩
theorem PSs.nox {st : List Stmt} {t : TS} (h : PSs X.nox st t) : PSs X st t := fun pins s σ H D I hw =>
  wpAny_mono (h pins s σ H D (I.wish _) hw) (fun _ _ q => q.unwish) fun _ _ z => False.elim z
end
section
variable {X : Cx} {st : Stmt} {rest : List Stmt} {t u : TS} {e : Expr} {te : TE} {pos : Pos}
noncomputable def tNext : TS := fun D σ H => D.nx σ H
noncomputable def tSeq (t u : TS) : TS := fun D σ H => t { D with nx := u D } σ H
theorem pss_nil : PSs X [] tNext := fun _ _ σ H _ I h => wpAny_execs_nil ⟨σ, H, I, h⟩
theorem pss_cons (h1 : PS X st t) (h2 : PSs X rest u) : PSs X (st :: rest) (tSeq t u) := by
  intro pins s σ H D I h
  refine wpAny_execs_cons (thn (h1 pins s σ H { D with nx := u D } I h) fun f s1 q => ?_)
  cases f with
  | next =>
    obtain ⟨σ', H', I', q⟩ := q
    exact h2 pins s1 σ' H' D I' q
  | ret v => exact q
  | brk => exact q
  | cont => exact q
theorem pss_one (h1 : PS X st t) : PSs X [st] t := by
  intro pins s σ H D I h
  refine wpAny_execs_cons (thn (h1 pins s σ H D I h) fun f s1 q => ?_)
  cases f with
  | next => exact wpAny_execs_nil q
  | ret v => exact q
  | brk => exact q
  | cont => exact q
noncomputable def tBreak : TS := fun D σ H => D.bk σ H
noncomputable def tCont : TS := fun D σ H => D.ct σ H
theorem Inv.quiet {pins : List (Addr × Obj)} {σ : St} {H : Hp} {s : Shared} (I : Inv X pins σ H s) : interactive X.env = false := by simp [interactive, I.ok.kind]
noncomputable def tDrop (te : TE) : TS := fun D σ H => te σ H fun _ H1 => D.nx σ H1
theorem ps_expr (he : PE X e te) (hs : swapsWith e none pos.line X.env = pure false := by rfl) : PS X (.Expr e pos) (tDrop te) := by
  intro pins s σ H D I h
  exact wpAny_Expr_any (thn (he pins s σ H _ I h) fun v s1 ⟨x, H1, I1, r1, q1⟩ => ⟨σ, H1, I1, q1⟩) I.quiet hs
noncomputable def tRet (te : TE) : TS := fun D σ H => te σ H D.rt
theorem ps_ret (he : PE X e te) : PS X (.Return (some e) pos) (tRet te) := by
  intro pins s σ H D I h
  exact wpAny_Return_some (thn (he pins s σ H _ I h) fun v s1 ⟨x, H1, I1, r1, q1⟩ => ⟨x, σ, H1, I1, r1, q1⟩)
noncomputable def tRetN : TS := fun D _ H => D.rt .non H
noncomputable def tIfS (c : TT) (t u : TS) : TS := fun D σ H => c σ H fun b H1 => if b = true then t D σ H1 else u D σ H1
theorem ps_if {c : Expr} {a b : List Stmt} {tc : TT} (hc : PT X c tc) (ha : PSs X a t) (hb : PSs X b u) : PS X (.If c a b pos) (tIfS tc t u) := by
  intro pins s σ H D I h
  refine wpAny_If (thn (hc pins s σ H _ I h) fun d s1 hhx => ?_)
  obtain ⟨H1, I1, q1⟩ := hhx
  cases d with
  | true => exact ha pins s1 σ H1 D I1 q1
  | false => exact hb pins s1 σ H1 D I1 q1
end
noncomputable abbrev TG := V → St → Hp → (St → Hp → Prop) → Prop
noncomputable abbrev TGs := List V → St → Hp → (St → Hp → Prop) → Prop
noncomputable def PG (X : Cx) (target : Expr) (t : TG) : Prop :=
  ∀ (pins : List (Addr × Obj)) (s : Shared) (σ : St) (H : Hp) (v : V) (u : Value) (Q : St → Hp → Prop), Inv X pins σ H s → RelV v u → t v σ H Q →
    wpAny (model X.prog X.w) X.A (assign target X.env u) (fun _ s' => ∃ σ' H', Inv X pins σ' H' s' ∧ Q σ' H') X.xe s
noncomputable def PGs (X : Cx) (ts : List Expr) (t : TGs) : Prop :=
  ∀ (pins : List (Addr × Obj)) (s : Shared) (σ : St) (H : Hp) (vs : List V) (us : List Value) (Q : St → Hp → Prop), Inv X pins σ H s → Vals vs us → t vs σ H Q →
    wpAny (model X.prog X.w) X.A (assignInOrder ((assignEach ts X.env).map (·.2)) us) (fun _ s' => ∃ σ' H', Inv X pins σ' H' s' ∧ Q σ' H') X.xe s
noncomputable abbrev TSet := V → V → V → Hp → (Hp → Prop) → Prop
noncomputable def PSet (X : Cx) (t : TSet) : Prop :=
  ∀ (pins : List (Addr × Obj)) (s : Shared) (σ : St) (H : Hp) (o i v : V) (ov iv u : Value) (Q : Hp → Prop), Inv X pins σ H s → RelV o ov → RelV i iv → RelV v u → t o i v H Q →
    wpAny (model X.prog X.w) X.A (setItem ov iv u) (fun _ s' => ∃ H', Inv X pins σ H' s' ∧ Q H') X.xe s
section
variable {X : Cx} {pos : Pos}
noncomputable def gName (i : Nat) : TG := fun v σ H Q => Q (σ.set i (some v)) H
theorem pg_name {i : Nat} {x : Str} (hN : X.N.Nodup) (hi : X.N[i]? = some x) (hx : Loc X.env.scope x) (hf : X.fn x = true ∨ X.env.scope.names.lookup x = some .local := by first | exact .inl rfl | exact .inr rfl | assumption) : PG X (.Name x pos) (gName i) := by
  intro pins s σ H v u Q I r h
  exact wpAny_assign_Name (store_ok I hN hi hx r (fun s' I' => ⟨_, H, I', h⟩) hf)
noncomputable def gNil : TGs := fun vs σ H Q => vs = [] ∧ Q σ H
noncomputable def gCons (t : TG) (u : TGs) : TGs := fun vs σ H Q => ∃ v r, vs = v :: r ∧ t v σ H fun σ' H' => u r σ' H' Q
theorem pgs_nil : PGs X [] gNil := by
  intro pins s σ H vs us Q I r h
  obtain ⟨e, h⟩ := h
  subst e
  cases r
  exact assignInOrder_nil ⟨σ, H, I, h⟩
theorem pgs_cons {e : Expr} {es : List Expr} {t : TG} {u : TGs} (h1 : PG X e t) (h2 : PGs X es u)
    (hs : (assignEach (e :: es) X.env).map (·.2) = assign e X.env :: (assignEach es X.env).map (·.2) := by rfl) : PGs X (e :: es) (gCons t u) := by
  intro pins s σ H vs us Q I r h
  obtain ⟨v, vr, e1, h⟩ := h
  subst e1
  cases r with
  | cons r rr =>
    rw [hs]
    refine assignInOrder_cons (thn (h1 pins s σ H _ _ _ I r h) fun _ s1 hhx => ?_)
    obtain ⟨σ1, H1, I1, q1⟩ := hhx
    exact h2 pins s1 σ1 H1 _ _ Q I1 rr q1
noncomputable def gTup (K : PySem.W.Frag) (n : Nat) (t : TGs) : TG := fun v σ H Q => ∃ a xs, v = .ref a ∧ SqT K H a xs ∧ xs.length = n ∧ t xs σ H Q
theorem pg_tup {es : List Expr} {k : Nat} {t : TGs} {n : Nat} (hc : X.calm = true) (h : PGs X es t)
    (hn : (assignEach es X.env).length = n := by rfl) (hst : (assignEach es X.env).findIdx? (·.1) = none := by rfl) : PG X (.Tuple es k pos) (gTup X.K n t) := by
  intro pins s σ H v u Q I r hw
  obtain ⟨a, xs, e1, hq, hl, hw⟩ := hw
  subst e1
  cases r
  obtain ⟨its, rv, ht, hz⟩ := I.tuple hq
  refine assign_Tuple_tuple (I.ok.hd hc) ht (by simp [hn, ← hl, rv.length]) hst fun h' hx => ?_
  have I1 : Inv X pins σ H { s with heap := h' } := I.kept (t' := s.toks) fun b o e => hx b o (Nat.ne_of_lt (Heap.lt_size e)) e
  exact h pins _ σ H xs _ Q I1 (by simpa using rv) hw
noncomputable def gSub (to ti : TE) (t : TSet) : TG := fun v σ H Q => to σ H fun o H1 => ti σ H1 fun i H2 => t o i v H2 fun H3 => Q σ H3
theorem pg_sub {o i : Expr} {to ti : TE} {t : TSet} (ho : PE X o to) (hi : PE X i ti) (hs : PSet X t)
    (ha : ∀ v, assign (.Subscript o i pos) X.env v = (do
      let ov ← holding [v] (eval o X.env)
      let iv ← holding [v, ov] (eval i X.env)
      standAt pos
      holding [v, ov, iv] (setItem ov iv v)
      release [v, ov, iv] []) := by intro _; rfl) : PG X (.Subscript o i pos) (gSub to ti t) := by
  intro pins s σ H v u Q I r h
  rw [ha]
  refine wpAny_bind (wpAny_holding (thn (ho pins s σ H _ I h) fun ov s1 hhx => ?_))
  obtain ⟨x, H1, I1, r1, q1⟩ := hhx
  refine wpAny_bind (wpAny_holding (thn (hi pins s1 σ H1 _ I1 q1) fun iv s2 hhx => ?_))
  obtain ⟨y, H2, I2, r2, q2⟩ := hhx
  refine wpAny_bind (wpAny_standAt (wpAny_bind (wpAny_holding (thn (hs pins s2 σ H2 x y v ov iv u _ I2 r1 r2 r q2) fun _ s3 hhx => ?_))))
  obtain ⟨H3, I3, q3⟩ := hhx
  exact wpAny_release ⟨σ, H3, I3, q3⟩
noncomputable def tAsg (te : TE) (g : TG) : TS := fun D σ H => te σ H fun x H1 => g x σ H1 D.nx
theorem ps_asg {tg e : Expr} {te : TE} {g : TG} (he : PE X e te) (hg : PG X tg g) (hs : swapsWithSole [tg] e pos.line X.env = pure false := by rfl) (hw : swappedStores [tg] e X.env = pure none := by rfl)
    (h1 : (assignEach [tg] X.env).map (·.2) = [assign tg X.env] := by rfl) : PS X (.Assign [tg] e pos) (tAsg te g) := by
  intro pins s σ H D I h
  refine wpAny_Assign_stores (thn (he pins s σ H _ I h) fun v s1 hhx => ?_) hs hw
  obtain ⟨x, H1, I1, r1, q1⟩ := hhx
  rw [h1]
  exact thn (hg pins s1 σ H1 x v _ I1 r1 q1) fun _ s2 q => q
theorem ps_set {i : Nat} {x : Str} {e : Expr} {te : TE} {pos' : Pos} (hN : X.N.Nodup) (hi : X.N[i]? = some x) (hx : Loc X.env.scope x) (he : PE X e te) (hs : swapsWith e (some (.Name x pos')) pos.line X.env = pure false := by rfl) (hf : X.fn x = true ∨ X.env.scope.names.lookup x = some .local := by first | exact .inl rfl | exact .inr rfl | assumption) :
    PS X (.Assign [.Name x pos'] e pos) (tAsg te (gName i)) := by
  intro pins s σ H D I h
  refine wpAny_Assign_Name (thn (he pins s σ H _ I h) fun v s1 hhx => ?_) hs
  obtain ⟨y, H1, I1, r1, q1⟩ := hhx
  exact store_ok I1 hN hi hx r1 (fun s2 I2 => ⟨_, H1, I2, q1⟩) hf
end
section
variable {X : Cx} {pos : Pos}
noncomputable def tWhile (c : TT) (tb : TS) : TS := fun D σ H => ∃ W : Nat → St → Hp → Prop, (∃ m, W m σ H) ∧ ∀ m σ H, W m σ H →
  c σ H fun b H1 => if b = true then ∃ N : St → Hp → Prop, (∀ σ' H', N σ' H' → ∃ m', m' < m ∧ W m' σ' H') ∧ tb { D with nx := N, ct := N, bk := D.nx } σ H1 else D.nx σ H1
theorem ps_while {c : Expr} {body : List Stmt} {tc : TT} {tb : TS} (hp : PassesOwn (model X.prog X.w) X.A X.env X.xe) (hc : PT X c tc) (hb : PSs X body tb) : PS X (.While c body [] pos) (tWhile tc tb) := by
  intro pins s σ H D I h
  obtain ⟨W, ⟨m0, w0⟩, turn⟩ := h
  refine wpAny_While (codeAny_whileLoop (fun n s' => ∃ σ' H', Inv X pins σ' H' s' ∧ W n σ' H') ?_ m0 ⟨σ, H, I, w0⟩)
  rintro n s1 ⟨σ1, H1, I1, w1⟩
  refine wpAny_passesOwn hp (thn (hc pins s1 σ1 H1 _ I1 (turn n σ1 H1 w1)) fun b s2 hhx => ?_)
  obtain ⟨H2, I2, q2⟩ := hhx
  cases b with
  | true =>
    obtain ⟨N, hN, q2⟩ := q2
    rw [if_pos rfl]
    refine wpAny_passesOwn hp (thn (hb pins s2 σ1 H2 _ I2 q2) fun f s3 q3 => ?_)
    cases f with
    | next =>
      obtain ⟨σ3, H3, I3, n3⟩ := q3
      obtain ⟨m', hm, w3⟩ := hN σ3 H3 n3
      exact ⟨m', hm, σ3, H3, I3, w3⟩
    | cont =>
      obtain ⟨σ3, H3, I3, n3⟩ := q3
      obtain ⟨m', hm, w3⟩ := hN σ3 H3 n3
      exact ⟨m', hm, σ3, H3, I3, w3⟩
    | brk => exact q3
    | ret v => exact q3
  | false =>
    rw [if_neg Bool.false_ne_true]
    exact wpAny_execs_nil ⟨σ1, H2, I2, q2⟩
end
structure It where
  go : Nat → Hp → Prop
  yld : Nat → Hp → V → Hp → Prop
  stop : Nat → Hp → Prop
noncomputable def FpOk (X : Cx) (pins : List (Addr × Obj)) (H : Hp) (b : Addr) : Prop :=
  H b = none ∧ b ≠ X.env.locals ∧ b ∉ X.fs ∧ (b ∈ X.ex ∨ X.s₀.heap.objs.size ≤ b) ∧ (∀ x c, X.env.cells.lookup x = some c → c ≠ b) ∧ ∀ p ∈ X.pn ++ pins, p.1 ≠ b
theorem Inv.fpOk {X : Cx} {pins : List (Addr × Obj)} {σ : St} {H H' : Hp} {s : Shared} {b : Addr} (I : Inv X pins σ H s) (hb : s.heap.objs.size ≤ b) (hn : H' b = none) : FpOk X pins H' b := by
  refine ⟨hn, Nat.ne_of_gt (Nat.lt_of_lt_of_le I.lt hb), I.nofs hb, .inr (Nat.le_trans I.sz hb), fun x c e z => ?_, fun p hp z => ?_⟩
  · obtain ⟨v, q⟩ := I.cell x c e
    exact absurd (Nat.lt_of_lt_of_le q.lt (by rw [z]; exact hb)) (Nat.lt_irrefl _)
  · exact absurd (Nat.lt_of_lt_of_le (Heap.lt_size (I.pin p hp).1) (by rw [z]; exact hb)) (Nat.lt_irrefl _)
structure Turn (P : Program) (w : World) (K : PySem.W.Frag) (tg : Expr) (J : It) (fp : List Addr) (it : Addr) (tn : Nat → Heap → Prop) : Prop where
  mem : it ∈ fp
  obj : ∀ i h, tn i h → ∀ b ∈ fp, ∃ o, h.get? b = some o ∧ ∀ v, o.data ≠ .cell v
  keep : ∀ i h h', tn i h → (∀ b ∈ fp, ∀ o, h.get? b = some o → h'.get? b = some o) → tn i h'
  item : ∀ (X : Cx), X.prog = P → X.w = w → X.K = K → X.calm = true → ∀ (i : Nat) (pins : List (Addr × Obj)) (s : Shared) (σ : St) (H : Hp) (E : Value → Shared → Prop), Inv X pins σ H s → (∀ b ∈ fp, FpOk X pins H b) → tn i s.heap → J.go i H →
    wpAny (model P w) X.A (pyNext (.ref it)) (fun r s1 => ∃ u, r = some u ∧
      wpAny (model P w) X.A (letOwnedTupleGo tg (.ref it) u) (fun _ s2 => ∃ x H', Inv X pins σ H' s2 ∧ RelV x u ∧ J.yld i H x H' ∧ tn (i + 1) s2.heap ∧ ∀ b ∈ fp, H' b = none) E s1) E s
  done : ∀ (X : Cx), X.prog = P → X.w = w → X.K = K → X.calm = true → ∀ (i : Nat) (pins : List (Addr × Obj)) (s : Shared) (σ : St) (H : Hp) (E : Value → Shared → Prop), Inv X pins σ H s → (∀ b ∈ fp, FpOk X pins H b) → tn i s.heap → J.stop i H →
    wpAny (model P w) X.A (pyNext (.ref it)) (fun r s1 => r = none ∧ Inv X pins σ H s1) E s
  self : ∀ (A : Around) (i : Nat) (s : Shared) (Q : Value → Shared → Prop) (E : Value → Shared → Prop), tn i s.heap → Q (.ref it) s → wpAny (model P w) A (pyIter (.ref it)) Q E s
noncomputable abbrev TI := St → Hp → (It → Hp → Prop) → Prop
noncomputable def PIE (X : Cx) (pins : List (Addr × Obj)) (σ : St) (tg : Expr) (R : It → Hp → Prop) (itv : Value) (s2 : Shared) : Prop :=
  ∃ (it : Addr) (fp : List Addr) (tn : Nat → Heap → Prop) (J : It) (H' : Hp), itv = .ref it ∧ Inv X pins σ H' s2 ∧ Turn X.prog X.w X.K tg J fp it tn ∧ tn 0 s2.heap ∧ (∀ b ∈ fp, FpOk X pins H' b) ∧ R J H'
noncomputable def PI (X : Cx) (tg iter : Expr) (wi : TI) : Prop :=
  ∀ (pins : List (Addr × Obj)) (s : Shared) (σ : St) (H : Hp) (R : It → Hp → Prop), Inv X pins σ H s → wi σ H R →
    wpAny (model X.prog X.w) X.A (eval iter X.env) (fun v s1 => wpAny (model X.prog X.w) X.A (pyIter v) (PIE X pins σ tg R) X.xe s1) X.xe s
theorem go_of {M : Model} {A : Around} {E : Value → Shared → Prop} {s : Shared} {tg : Expr} {it : Addr} {u : Value} {o : Obj} {n : String} {vs : Array Value} {Q : Unit → Shared → Prop} (ho : s.heap.get? it = some o) (hc : o.cls = .type n) (hd : o.data = .fields vs)
    (hn : ["enumerate", "zip", "dict_itemiterator", "dict_reverseitemiterator", "odict_iterator", "itertools.zip_longest", "itertools.pairwise"].contains n = false) (hQ : Q () s) : wpAny M A (letOwnedTupleGo tg (.ref it) u) Q E s := by
  unfold letOwnedTupleGo
  cases tg <;> first
    | exact wpAny_pure hQ
    | (cases u <;> first
        | exact wpAny_pure hQ
        | (refine wpAny_bind (wpAny_load ho ?_)
           rw [hc, hd]
           show wpAny M A (if (["enumerate", "zip", "dict_itemiterator", "dict_reverseitemiterator", "odict_iterator", "itertools.zip_longest", "itertools.pairwise"].contains n && vs[0]? == some (rawInt _)) = true then _ else _) Q E s
           rw [if_neg (by intro h; rw [hn, Bool.false_and] at h; cases h)]
           exact wpAny_pure hQ))
noncomputable def Itl (K : PySem.W.Frag) (a : Addr) : It :=
  ⟨fun i H => ∃ xs x, SqL K H a xs ∧ xs[i]? = some x, fun i H x H' => H' = H ∧ ∀ xs, SqL K H a xs → xs[i]? = some x, fun i H => ∃ xs, SqL K H a xs ∧ xs.length ≤ i⟩
noncomputable def Itt (K : PySem.W.Frag) (a : Addr) : It :=
  ⟨fun i H => ∃ xs x, SqT K H a xs ∧ xs[i]? = some x, fun i H x H' => H' = H ∧ ∀ xs, SqT K H a xs → xs[i]? = some x, fun i H => ∃ xs, SqT K H a xs ∧ xs.length ≤ i⟩
noncomputable def Itr (lo : Int) (n : Nat) : It := ⟨fun i _ => i < n, fun i H x H' => H' = H ∧ x = .int (lo + i), fun i _ => n ≤ i⟩
theorem turn_list {P : Program} {w : World} {K : PySem.W.Frag} {tg : Expr} (a it : Addr) : Turn P w K tg (Itl K a) [it] it (fun i h => h.IsListIter it a i) where
  mem := by simp
  obj := fun i h st b hb => by
    have e : b = it := by simpa using hb
    subst e
    obtain ⟨o, e, c, d⟩ := st
    exact ⟨o, e, fun v z => by rw [d] at z; cases z⟩
  keep := fun i h h' st k => st.at fun o e => k it (by simp) o e
  item := by
    intro X hP hw hK hc i pins s σ H E I hf st hg
    subst hP hw hK
    obtain ⟨xs, x, hq, hx⟩ := hg
    obtain ⟨its, rv, p, hz⟩ := I.list hq
    obtain ⟨u, hu, ru⟩ := rv.get hx
    obtain ⟨f0, f1, f2, f3, f4, f5⟩ := hf it (by simp)
    refine wpAny_pyNext_list_item st p.isList (x := u) (by simpa using hu) fun h' st' sb => ?_
    have I1 : Inv X pins σ H { s with heap := h' } := I.turned (t' := s.toks) (fun b o hb e => (sb.2 b hb).trans e) f0 f1 f3 f4 f5
    obtain ⟨o, e, c, d⟩ := id st'
    exact ⟨u, rfl, go_of (s := { s with heap := h' }) e c d (by decide) ⟨x, H, I1, ru, ⟨rfl, fun ys hy => by rw [I.list_inj hy hq]; exact hx⟩, st', fun b hb => (hf b hb).1⟩⟩
  done := by
    intro X hP hw hK hc i pins s σ H E I hf st hg
    subst hP hw hK
    obtain ⟨xs, hq, hx⟩ := hg
    obtain ⟨its, rv, p, hz⟩ := I.list hq
    obtain ⟨f0, f1, f2, f3, f4, f5⟩ := hf it (by simp)
    have hl := rv.length
    exact wpAny_pyNext_list_end (I.ok.hd hc) st p.isList (by simp; omega) fun h' eb => ⟨rfl, I.turned (t' := s.toks) (fun b o hb e => eb b o hb e) f0 f1 f3 f4 f5⟩
  self := fun _ _ _ _ _ st h => wpAny_pyIter_listiter st h
theorem turn_tuple {P : Program} {w : World} {K : PySem.W.Frag} {tg : Expr} (a it : Addr) : Turn P w K tg (Itt K a) [it] it (fun i h => h.IsTupleIter it a i) where
  mem := by simp
  obj := fun i h st b hb => by
    have e : b = it := by simpa using hb
    subst e
    obtain ⟨o, e, c, d⟩ := st
    exact ⟨o, e, fun v z => by rw [d] at z; cases z⟩
  keep := fun i h h' st k => st.at fun o e => k it (by simp) o e
  item := by
    intro X hP hw hK hc i pins s σ H E I hf st hg
    subst hP hw hK
    obtain ⟨xs, x, hq, hx⟩ := hg
    obtain ⟨its, rv, p, hz⟩ := I.tuple hq
    obtain ⟨u, hu, ru⟩ := rv.get hx
    obtain ⟨f0, f1, f2, f3, f4, f5⟩ := hf it (by simp)
    refine wpAny_pyNext_tuple_item st (show s.heap.IsTuple a its.toArray from p) (x := u) (by simpa using hu) fun h' st' sb => ?_
    have I1 : Inv X pins σ H { s with heap := h' } := I.turned (t' := s.toks) (fun b o hb e => (sb.2 b hb).trans e) f0 f1 f3 f4 f5
    obtain ⟨o, e, c, d⟩ := id st'
    exact ⟨u, rfl, go_of (s := { s with heap := h' }) e c d (by decide) ⟨x, H, I1, ru, ⟨rfl, fun ys hy => by rw [I.tuple_inj hy hq]; exact hx⟩, st', fun b hb => (hf b hb).1⟩⟩
  done := by
    intro X hP hw hK hc i pins s σ H E I hf st hg
    subst hP hw hK
    obtain ⟨xs, hq, hx⟩ := hg
    obtain ⟨its, rv, p, hz⟩ := I.tuple hq
    obtain ⟨f0, f1, f2, f3, f4, f5⟩ := hf it (by simp)
    have hl := rv.length
    exact wpAny_pyNext_tuple_end (I.ok.hd hc) st (show s.heap.IsTuple a its.toArray from p) (by simp; omega) fun h' eb => ⟨rfl, I.turned (t' := s.toks) (fun b o hb e => eb b o hb e) f0 f1 f3 f4 f5⟩
  self := fun _ _ _ _ _ st h => wpAny_pyIter_tupleiter st h
theorem turn_range {P : Program} {w : World} {K : PySem.W.Frag} {tg : Expr} (it : Addr) (lo : Int) (n : Nat) : Turn P w K tg (Itr lo n) [it] it (fun i h => IsRangeIter h it (lo + (i : Nat) * 1) ((n : Int) - (i : Nat)) 1) where
  mem := by simp
  obj := fun i h st b hb => by
    have e : b = it := by simpa using hb
    subst e
    exact ⟨_, st, fun v z => by
      have z' : Data.fields _ = Data.cell v := z
      cases z'⟩
  keep := fun i h h' st k => k it (by simp) _ st
  item := by
    intro X hP hw hK hc i pins s σ H E I hf st hg
    subst hP hw hK
    obtain ⟨f0, f1, f2, f3, f4, f5⟩ := hf it (by simp)
    have W := Walks.range (prog := X.prog) (w := X.w) (I.ok.hd hc) it lo 1 n
    refine W.item i s _ _ hg st fun v h' tk hv st' kk => ?_
    obtain ⟨t, rfl⟩ := hv
    have I1 : Inv X pins σ H { s with heap := h', toks := tk } := I.turned (fun b o hb e => kk b o (by simpa using hb) e) f0 f1 f3 f4 f5
    refine ⟨_, rfl, go_of (s := { s with heap := h', toks := tk }) (n := "range_iterator") st' rfl rfl (by decide) ⟨.int (lo + i), H, I1, ⟨t, ?_⟩, ⟨rfl, rfl⟩, st', fun b hb => (hf b hb).1⟩⟩
    rw [Int.mul_one]
  done := by
    intro X hP hw hK hc i pins s σ H E I hf st hg
    subst hP hw hK
    obtain ⟨f0, f1, f2, f3, f4, f5⟩ := hf it (by simp)
    exact wpAny_pyNext_range_end (I.ok.hd hc) st (by have : n ≤ i := hg; omega) fun h' eb => ⟨rfl, I.turned (t' := s.toks) (fun b o hb e => eb b o hb e) f0 f1 f3 f4 f5⟩
  self := fun _ _ _ _ _ st h => wpAny_pyIter_rangeiter st h
end L2
namespace L2
open PySem PySem.Spec PyProof.Rows
section
variable {X : Cx} {tg : Expr}
noncomputable def iList (K : PySem.W.Frag) (tl : TE) : TI := fun σ H R => tl σ H fun x H1 => ∃ a, x = .ref a ∧ (∃ xs, SqL K H1 a xs) ∧ R (Itl K a) H1
noncomputable def iTup (K : PySem.W.Frag) (tl : TE) : TI := fun σ H R => tl σ H fun x H1 => ∃ a, x = .ref a ∧ (∃ xs, SqT K H1 a xs) ∧ R (Itt K a) H1
theorem pi_list {l : Expr} {tl : TE} (hl : PE X l tl) : PI X tg l (iList X.K tl) := by
  intro pins s σ H R I h
  refine thn (hl pins s σ H _ I h) fun v s1 hhx => ?_
  obtain ⟨x, H1, I1, r1, q1⟩ := hhx
  obtain ⟨a, e, ⟨xs, hq⟩, q⟩ := q1
  subst e
  cases r1
  obtain ⟨its, rv, p, hz⟩ := I1.list hq
  refine wpAny_pyIter_list p.isList ?_
  refine ⟨s1.heap.objs.size, [s1.heap.objs.size], _, _, H1, rfl, I1.kept (t' := s1.toks) fun b o e => Heap.get?_push_of_some _ e, turn_list a _, ⟨_, Heap.get?_push_size _ rfl, rfl, rfl⟩, fun b hb => ?_, q⟩
  have e : b = s1.heap.objs.size := by simpa using hb
  subst e
  exact I1.fpOk (Nat.le_refl _) (I1.hok.fresh (Nat.le_refl _))
theorem pi_tup {l : Expr} {tl : TE} (hl : PE X l tl) : PI X tg l (iTup X.K tl) := by
  intro pins s σ H R I h
  refine thn (hl pins s σ H _ I h) fun v s1 hhx => ?_
  obtain ⟨x, H1, I1, r1, q1⟩ := hhx
  obtain ⟨a, e, ⟨xs, hq⟩, q⟩ := q1
  subst e
  cases r1
  obtain ⟨its, rv, p, hz⟩ := I1.tuple hq
  refine wpAny_pyIter_tuple (show s1.heap.IsTuple a its.toArray from p) ?_
  refine ⟨s1.heap.objs.size, [s1.heap.objs.size], _, _, H1, rfl, I1.kept (t' := s1.toks) fun b o e => Heap.get?_push_of_some _ e, turn_tuple a _, ⟨_, Heap.get?_push_size _ rfl, rfl, rfl⟩, fun b hb => ?_, q⟩
  have e : b = s1.heap.objs.size := by simpa using hb
  subst e
  exact I1.fpOk (Nat.le_refl _) (I1.hok.fresh (Nat.le_refl _))
theorem range_it {pins : List (Addr × Obj)} {σ : St} {H : Hp} {s : Shared} {R : It → Hp → Prop} {E : Value → Shared → Prop} {lo hi : Int} {t u v : Tok} {tk : Nat} (I : Inv X pins σ H s) (h1 : -(2 ^ 62) ≤ lo) (h2 : lo < 2 ^ 62) (h3 : -(2 ^ 62) ≤ hi) (h4 : hi < 2 ^ 62)
    (q : R (Itr lo (hi - lo).toNat) H) : wpAny (model X.prog X.w) X.A (pyIter (.ref s.heap.objs.size)) (PIE X pins σ tg R) E { s with heap := s.heap.push { cls := .type "range", data := .fields #[.int lo t, .int hi u, .int 1 v] }, toks := tk } := by
  refine wpAny_pyIter_range (IsRange.new ..) (small_one h1 h2 h3 h4) ?_
  have I1 : Inv X pins σ H { s with heap := s.heap.push { cls := .type "range", data := .fields #[.int lo t, .int hi u, .int 1 v] }, toks := tk } := I.kept fun b o e => Heap.get?_push_of_some _ e
  refine ⟨(s.heap.push { cls := .type "range", data := .fields #[.int lo t, .int hi u, .int 1 v] }).objs.size, [(s.heap.push { cls := .type "range", data := .fields #[.int lo t, .int hi u, .int 1 v] }).objs.size], _, _, H, rfl,
    I1.kept (t' := tk) fun b o e => Heap.get?_push_of_some _ e, turn_range _ lo (hi - lo).toNat, ?_, fun b hb => ?_, q⟩
  · have e1 : lo + ((0 : Nat) : Int) * 1 = lo := by simp
    have e2 : (((hi - lo).toNat : Nat) : Int) - ((0 : Nat) : Int) = Builtin.Range.rangeSize lo hi 1 := by rw [rangeSize_one]; split <;> omega
    show IsRangeIter _ _ (lo + ((0 : Nat) : Int) * 1) ((((hi - lo).toNat : Nat) : Int) - ((0 : Nat) : Int)) 1
    rw [e1, e2]
    exact Heap.get?_push_size _ rfl
  · have e : b = (s.heap.push { cls := .type "range", data := .fields #[.int lo t, .int hi u, .int 1 v] }).objs.size := by simpa using hb
    subst e
    exact I1.fpOk (Nat.le_refl _) (I1.hok.fresh (Nat.le_refl _))
noncomputable def iRng1 (ta : TA) : TI := fun σ H R => ta σ H fun vs H1 => ∃ j : Int, vs = [.int j] ∧ -(2 ^ 62) ≤ j ∧ j < 2 ^ 62 ∧ R (Itr 0 j.toNat) H1
noncomputable def iRng2 (ta : TA) : TI := fun σ H R => ta σ H fun vs H1 => ∃ i j : Int, vs = [.int i, .int j] ∧ (-(2 ^ 62) ≤ i ∧ i < 2 ^ 62 ∧ -(2 ^ 62) ≤ j ∧ j < 2 ^ 62) ∧ R (Itr i (j - i).toNat) H1
theorem pi_range1 {a : Expr} {ta : TA} {p pos : Pos} (hg : Gl X "range") (hm : X.mg "range" = none) (ha : PA X [a] ta) (hs : starEach [a] X.env = [(false, eval a X.env)] := by rfl) : PI X tg (.Call (.Name "range" p) [a] [] pos) (iRng1 ta) := by
  intro pins s σ H R I h
  refine Call_ (ld_blt I hg hm boot_range (PyProof.Rows.callWith_type1 (thn (ha pos pins s σ H _ I h) fun us s1 hhx => ?_) hs rfl))
  obtain ⟨vs, H1, I1, r1, q1⟩ := hhx
  obtain ⟨j, e, q1, q2, q⟩ := q1
  subst e
  cases r1 with
  | cons r rr =>
    cases rr
    obtain ⟨t, rfl⟩ := r
    exact call_range_1 (range_it I1 (by omega) (by omega) q1 q2 (by simpa using q))
theorem pi_range2 {a b : Expr} {ta : TA} {p pos : Pos} (hg : Gl X "range") (hm : X.mg "range" = none) (ha : PA X [a, b] ta) (hs : starEach [a, b] X.env = [(false, eval a X.env), (false, eval b X.env)] := by rfl) (hs2 : starEach [b] X.env = [(false, eval b X.env)] := by rfl) :
    PI X tg (.Call (.Name "range" p) [a, b] [] pos) (iRng2 ta) := by
  intro pins s σ H R I h
  refine Call_ (ld_blt I hg hm boot_range (PyProof.Rows.callWith_type1 (thn (ha pos pins s σ H _ I h) fun us s1 hhx => ?_) (by rw [hs, hs2]) (by rw [hs2]; rfl)))
  obtain ⟨vs, H1, I1, r1, q1⟩ := hhx
  obtain ⟨i, j, e, ⟨q1, q2, q3, q4⟩, q⟩ := q1
  subst e
  cases r1 with
  | cons r rr =>
    cases rr with
    | cons r' rr =>
      cases rr
      obtain ⟨t, rfl⟩ := r
      obtain ⟨t', rfl⟩ := r'
      exact call_range_2 (range_it I1 q1 q2 q3 q4 q)
noncomputable def tFor (wi : TI) (g : TG) (tb : TS) : TS := fun D σ H => wi σ H fun J H1 => ∃ W : Nat → Nat → St → Hp → Prop, (∃ m, W 0 m σ H1) ∧ ∀ i m σ H, W i m σ H →
  (J.stop i H ∧ D.nx σ H) ∨ (J.go i H ∧ ∃ N : St → Hp → Prop, (∀ σ' H', N σ' H' → ∃ m', m' < m ∧ W (i + 1) m' σ' H') ∧ ∀ x H', J.yld i H x H' → g x σ H' fun σ2 H2 => tb { D with nx := N, ct := N, bk := D.nx } σ2 H2)
noncomputable def pinsAt (fp : List Addr) (h : Heap) : List (Addr × Obj) := fp.filterMap fun b => (h.get? b).map fun o => (b, o)
theorem mem_pinsAt {fp : List Addr} {h : Heap} {b : Addr} {o : Obj} (hb : b ∈ fp) (e : h.get? b = some o) : (b, o) ∈ pinsAt fp h := List.mem_filterMap.mpr ⟨b, hb, by rw [e]; rfl⟩
theorem of_pinsAt {fp : List Addr} {h : Heap} {p : Addr × Obj} (hp : p ∈ pinsAt fp h) : p.1 ∈ fp ∧ h.get? p.1 = some p.2 := by
  obtain ⟨b, hb, e⟩ := List.mem_filterMap.mp hp
  cases q : h.get? b with
  | none => rw [q] at e; cases e
  | some o =>
    rw [q] at e
    have e' : (b, o) = p := Option.some.inj e
    subst e'
    exact ⟨hb, q⟩
theorem Inv.pinned {pins : List (Addr × Obj)} {σ : St} {H : Hp} {s : Shared} {fp : List Addr} (I : Inv X pins σ H s) (hf : ∀ b ∈ fp, FpOk X pins H b) (ho : ∀ b ∈ fp, ∃ o, s.heap.get? b = some o ∧ ∀ v, o.data ≠ .cell v) : Inv X (pins ++ pinsAt fp s.heap) σ H s :=
  I.pins_of fun p hp => (List.mem_append.mp hp).elim (fun z => I.pin p (List.mem_append_right _ z)) fun z => by
    obtain ⟨hb, e⟩ := of_pinsAt z
    obtain ⟨f0, f1, f2, _⟩ := hf p.1 hb
    obtain ⟨o, e', d⟩ := ho p.1 hb
    rw [e] at e'; cases e'
    exact ⟨e, f0, f1, f2, d⟩
theorem Inv.unpinned {pins pl : List (Addr × Obj)} {σ : St} {H : Hp} {s : Shared} (I : Inv X (pins ++ pl) σ H s) : Inv X pins σ H s := I.pins_of fun p hp => I.pin p (List.mem_append_right _ (List.mem_append_left _ hp))
theorem ps_for {iter : Expr} {body : List Stmt} {wi : TI} {g : TG} {tb : TS} {pos : Pos} (hp : PassesOwn (model X.prog X.w) X.A X.env X.xe) (hc : X.calm = true) (hi : PI X tg iter wi) (hg : PG X tg g) (hb : PSs X body tb)
    (hs : ∀ x, foldedSetIterable iter X.env x = pure x := by intro _; rfl) : PS X (.For tg iter body [] pos) (tFor wi g tb) := by
  intro pins s σ H D I h
  refine wpAny_For (thn (hi pins s σ H _ I h) fun v s1 h1 => thn h1 fun itv s2 h2 => ?_) hs
  obtain ⟨it, fp, tn, J, H2, e, I2, T, st2, f2, W, ⟨m0, w0⟩, turn⟩ := h2
  subst e
  -- what stays true of the iterator's objects through the loop
  have stat : ∀ {H' : Hp}, (∀ b ∈ fp, H' b = none) → ∀ b ∈ fp, FpOk X pins H' b := fun hn b hb => ⟨hn b hb, (f2 b hb).2⟩
  refine codeAny_forLoop_any (fun n s' => ∃ i σ' H', Inv X pins σ' H' s' ∧ tn i s'.heap ∧ (∀ b ∈ fp, H' b = none) ∧ W i n σ' H') ?_ m0 ⟨0, σ, H2, I2, st2, fun b hb => (f2 b hb).1, w0⟩
  rintro n s3 ⟨i, σ3, H3, I3, st3, fr3, w3⟩
  rcases turn i n σ3 H3 w3 with ⟨stop, qn⟩ | ⟨go, N, hN, step⟩
  · refine wpAny_passesOwn hp (thn (T.done X rfl rfl rfl hc i pins s3 σ3 H3 X.xe I3 (stat fr3) st3 stop) fun r s4 ⟨hr, I4⟩ => ?_)
    subst hr
    exact wpAny_execs_nil ⟨σ3, H3, I4, qn⟩
  · refine wpAny_passesOwn hp (thn (T.item X rfl rfl rfl hc i pins s3 σ3 H3 X.xe I3 (stat fr3) st3 go) fun r s4 ⟨u, hr, h4⟩ => ?_)
    subst hr
    refine wpAny_passesOwn hp (thn h4 fun _ s5 hhx => ?_)
    obtain ⟨x, H5, I5, r5, y5, st5, fr5⟩ := hhx
    have I5' := I5.pinned (stat fr5) (T.obj _ _ st5)
    refine wpAny_passesOwn hp (thn (hg _ s5 σ3 H5 x u _ I5' r5 (step x H5 y5)) fun _ s6 hhx => ?_)
    obtain ⟨σ6, H6, I6, q6⟩ := hhx
    refine wpAny_passesOwn hp (thn (hb _ s6 σ6 H6 _ I6 q6) fun f s7 q7 => ?_)
    have again : ∀ {σ7 : St} {H7 : Hp}, Inv X (pins ++ pinsAt fp s5.heap) σ7 H7 s7 → N σ7 H7 → ∃ m, m < n ∧ ∃ i σ' H', Inv X pins σ' H' s7 ∧ tn i s7.heap ∧ (∀ b ∈ fp, H' b = none) ∧ W i m σ' H' := fun {σ7 H7} I7 n7 => by
      obtain ⟨m', hm, w7⟩ := hN σ7 H7 n7
      refine ⟨m', hm, i + 1, σ7, H7, I7.unpinned, T.keep _ _ _ st5 fun b hb o e => (I7.pin (b, o) (List.mem_append_right _ (List.mem_append_right _ (mem_pinsAt hb e)))).1, fun b hb => ?_, w7⟩
      obtain ⟨o, e, d⟩ := T.obj _ _ st5 b hb
      exact (I7.pin (b, o) (List.mem_append_right _ (List.mem_append_right _ (mem_pinsAt hb e)))).2.1
    cases f with
    | next => obtain ⟨σ7, H7, I7, n7⟩ := q7; exact again I7 n7
    | cont => obtain ⟨σ7, H7, I7, n7⟩ := q7; exact again I7 n7
    | brk => obtain ⟨σ7, H7, I7, q7⟩ := q7; exact ⟨σ7, H7, I7.unpinned, q7⟩
    | ret v => obtain ⟨x7, σ7, H7, I7, r7, q7⟩ := q7; exact ⟨x7, σ7, H7, I7.unpinned, r7, q7⟩
end
theorem for_list {K : PySem.W.Frag} {a : Addr} {xs : List V} {g : TG} {tb : TS} {D : Ends} {σ : St} {H : Hp} (Pv : Nat → St → Hp → Prop) (h0 : Pv 0 σ H) (hl : ∀ i σ H, i ≤ xs.length → Pv i σ H → SqL K H a xs)
    (hs : ∀ i x σ H, xs[i]? = some x → Pv i σ H → g x σ H fun σ2 H2 => tb { D with nx := Pv (i + 1), ct := Pv (i + 1), bk := D.nx } σ2 H2) (hd : ∀ σ H, Pv xs.length σ H → D.nx σ H) :
    ∃ W : Nat → Nat → St → Hp → Prop, (∃ m, W 0 m σ H) ∧ ∀ i m σ H, W i m σ H →
      ((Itl K a).stop i H ∧ D.nx σ H) ∨ ((Itl K a).go i H ∧ ∃ N : St → Hp → Prop, (∀ σ' H', N σ' H' → ∃ m', m' < m ∧ W (i + 1) m' σ' H') ∧ ∀ x H', (Itl K a).yld i H x H' → g x σ H' fun σ2 H2 => tb { D with nx := N, ct := N, bk := D.nx } σ2 H2) := by
  refine ⟨fun i m σ H => m = xs.length - i ∧ i ≤ xs.length ∧ Pv i σ H, ⟨xs.length, by simp, Nat.zero_le _, h0⟩, ?_⟩
  rintro i m σ H ⟨rfl, hi, p⟩
  have q := hl i σ H hi p
  by_cases hlt : i < xs.length
  · refine .inr ⟨⟨xs, xs[i], q, by simp [hlt]⟩, Pv (i + 1), fun σ' H' p' => ⟨xs.length - (i + 1), by omega, rfl, hlt, p'⟩, fun x H' y => ?_⟩
    obtain ⟨e, y⟩ := y
    subst e
    exact hs i x σ _ (y xs q) p
  · have e : i = xs.length := by omega
    subst e
    exact .inl ⟨⟨xs, q, Nat.le_refl _⟩, hd σ H p⟩
theorem for_range {lo : Int} {n : Nat} {g : TG} {tb : TS} {D : Ends} {σ : St} {H : Hp} (Pv : Nat → St → Hp → Prop) (h0 : Pv 0 σ H)
    (hs : ∀ i σ H, i < n → Pv i σ H → g (.int (lo + i)) σ H fun σ2 H2 => tb { D with nx := Pv (i + 1), ct := Pv (i + 1), bk := D.nx } σ2 H2) (hd : ∀ σ H, Pv n σ H → D.nx σ H) :
    ∃ W : Nat → Nat → St → Hp → Prop, (∃ m, W 0 m σ H) ∧ ∀ i m σ H, W i m σ H →
      ((Itr lo n).stop i H ∧ D.nx σ H) ∨ ((Itr lo n).go i H ∧ ∃ N : St → Hp → Prop, (∀ σ' H', N σ' H' → ∃ m', m' < m ∧ W (i + 1) m' σ' H') ∧ ∀ x H', (Itr lo n).yld i H x H' → g x σ H' fun σ2 H2 => tb { D with nx := N, ct := N, bk := D.nx } σ2 H2) := by
  refine ⟨fun i m σ H => m = n - i ∧ i ≤ n ∧ Pv i σ H, ⟨n, by simp, Nat.zero_le _, h0⟩, ?_⟩
  rintro i m σ H ⟨rfl, hi, p⟩
  by_cases hlt : i < n
  · refine .inr ⟨hlt, Pv (i + 1), fun σ' H' p' => ⟨n - (i + 1), by omega, rfl, hlt, p'⟩, fun x H' y => ?_⟩
    obtain ⟨e, y⟩ := y
    subst e y
    exact hs i σ _ hlt p
  · have e : i = n := by omega
    subst e
    exact .inl ⟨Nat.le_refl _, hd σ H p⟩
end L2
namespace L2
open PySem PySem.Spec PyProof.Rows
noncomputable abbrev R2 := V → V → Hp → VK → Prop
noncomputable def OpR (X : Cx) (f : Value → Value → Sem Value) (r : R2) : Prop :=
  ∀ (pins : List (Addr × Obj)) (s : Shared) (σ : St) (H : Hp) (x y : V) (v u : Value) (Q : VK), Inv X pins σ H s → RelV x v → RelV y u → r x y H Q →
    wpAny (model X.prog X.w) X.A (f v u) (EP X pins σ Q) X.xe s
noncomputable def UnR (X : Cx) (f : Value → Sem Value) (r : V → Hp → VK → Prop) : Prop :=
  ∀ (pins : List (Addr × Obj)) (s : Shared) (σ : St) (H : Hp) (x : V) (v : Value) (Q : VK), Inv X pins σ H s → RelV x v → r x H Q →
    wpAny (model X.prog X.w) X.A (f v) (EP X pins σ Q) X.xe s
noncomputable def CallR (X : Cx) (f : Value) (r : List V → Hp → VK → Prop) : Prop :=
  ∀ (pins : List (Addr × Obj)) (s : Shared) (σ : St) (H : Hp) (xs : List V) (us : List Value) (Q : VK), Inv X pins σ H s → Vals xs us → r xs H Q →
    wpAny (model X.prog X.w) X.A (call f us) (EP X pins σ Q) X.xe s
noncomputable def TruR (X : Cx) (r : V → Hp → (Bool → Hp → Prop) → Prop) : Prop :=
  ∀ (pins : List (Addr × Obj)) (s : Shared) (σ : St) (H : Hp) (x : V) (v : Value) (Q : Bool → Hp → Prop), Inv X pins σ H s → RelV x v → r x H Q →
    wpAny (model X.prog X.w) X.A (truthy v) (TP X pins σ Q) X.xe s
noncomputable def tOp (r : R2) (ta tb : TE) : TE := fun σ H Q => ta σ H fun x H1 => tb σ H1 fun y H2 => r x y H2 Q
noncomputable def tUn (r : V → Hp → VK → Prop) (ta : TE) : TE := fun σ H Q => ta σ H fun x H1 => r x H1 Q
noncomputable def rI (C : Int → Int → Prop) (g : Int → Int → V) : R2 := fun x y H Q => ∃ i j, x = .int i ∧ y = .int j ∧ C i j ∧ Q (g i j) H
noncomputable def rI0 (g : Int → Int → V) : R2 := fun x y H Q => ∃ i j, x = .int i ∧ y = .int j ∧ Q (g i j) H
noncomputable def rU (g : Int → V) : V → Hp → VK → Prop := fun x H Q => ∃ i, x = .int i ∧ Q (g i) H
section
variable {X : Cx} {a b c : Expr} {ta tb tc : TE} {pos : Pos}
theorem binT (ha : PE X a ta) (hb : PE X b tb) {pins : List (Addr × Obj)} {s : Shared} {σ : St} {H : Hp} {R : V → V → Hp → Prop} (I : Inv X pins σ H s)
    (h : ta σ H fun x H1 => tb σ H1 fun y H2 => R x y H2) {Q : Value → Shared → Prop} {f : Value → Value → Sem Value}
    (hf : ∀ v u s2 x y H2, Inv X pins σ H2 s2 → RelV x v → RelV y u → R x y H2 → wpAny (model X.prog X.w) X.A (f v u) Q X.xe s2) :
    wpAny (model X.prog X.w) X.A (eval a X.env) (fun v s₁ => wpAny (model X.prog X.w) X.A (eval b X.env) (fun u s₂ => wpAny (model X.prog X.w) X.A (f v u) Q X.xe s₂) X.xe s₁) X.xe s := by
  refine thn (ha pins s σ H _ I h) fun v s1 hhx => ?_
  obtain ⟨x, H1, I1, r1, q1⟩ := hhx
  refine thn (hb pins s1 σ H1 _ I1 q1) fun u s2 hhx => ?_
  obtain ⟨y, H2, I2, r2, q2⟩ := hhx
  exact hf v u s2 x y H2 I2 r1 r2 q2
theorem pe_op {op : Operator} {r : R2} (ho : OpR X (binaryOp op) r) (ha : PE X a ta) (hb : PE X b tb) : PE X (.BinOp a op b pos) (tOp r ta tb) := by
  intro pins s σ H Q I h
  exact wpAny_BinOp (binT ha hb I h fun v u s2 x y H2 I2 rx ry q => ho pins s2 σ H2 x y v u Q I2 rx ry q)
theorem pe_un {op : UnaryOp} {r : V → Hp → VK → Prop} (ho : UnR X (unaryOp op) r) (ha : PE X a ta) : PE X (.UnaryOp op a pos) (tUn r ta) := by
  intro pins s σ H Q I h
  exact UnaryOp_ (thn (ha pins s σ H _ I h) fun v s1 ⟨x, H1, I1, r1, q1⟩ => ho pins s1 σ H1 x v Q I1 r1 q1)
theorem opI {f : Value → Value → Sem Value} {C : Int → Int → Prop} {g : Int → Int → Int}
    (rule : ∀ (i j : Int) (t u : Tok) (s : Shared) (Q : Value → Shared → Prop) (E : Value → Shared → Prop), C i j → Q (.int (g i j) s.toks) { s with toks := s.toks + 1 } → wpAny (model X.prog X.w) X.A (f (.int i t) (.int j u)) Q E s) :
    OpR X f (rI C fun i j => .int (g i j)) := by
  intro pins s σ H x y v u Q I rx ry h
  obtain ⟨i, j, rfl, rfl, hc, q⟩ := h
  obtain ⟨t, rfl⟩ := rx
  obtain ⟨t', rfl⟩ := ry
  exact rule i j t t' s _ _ hc ⟨.int (g i j), H, I.tok _, ⟨_, rfl⟩, q⟩
theorem opI0 {f : Value → Value → Sem Value} {g : Int → Int → Int}
    (rule : ∀ (i j : Int) (t u : Tok) (s : Shared) (Q : Value → Shared → Prop) (E : Value → Shared → Prop), Q (.int (g i j) s.toks) { s with toks := s.toks + 1 } → wpAny (model X.prog X.w) X.A (f (.int i t) (.int j u)) Q E s) :
    OpR X f (rI0 fun i j => .int (g i j)) := by
  intro pins s σ H x y v u Q I rx ry h
  obtain ⟨i, j, rfl, rfl, q⟩ := h
  obtain ⟨t, rfl⟩ := rx
  obtain ⟨t', rfl⟩ := ry
  exact rule i j t t' s _ _ ⟨.int (g i j), H, I.tok _, ⟨_, rfl⟩, q⟩
theorem opB0 {f : Value → Value → Sem Value} {g : Int → Int → Bool}
    (rule : ∀ (i j : Int) (t u : Tok) (s : Shared) (Q : Value → Shared → Prop) (E : Value → Shared → Prop), Q (.bool (g i j)) s → wpAny (model X.prog X.w) X.A (f (.int i t) (.int j u)) Q E s) :
    OpR X f (rI0 fun i j => .bl (g i j)) := by
  intro pins s σ H x y v u Q I rx ry h
  obtain ⟨i, j, rfl, rfl, q⟩ := h
  obtain ⟨t, rfl⟩ := rx
  obtain ⟨t', rfl⟩ := ry
  exact rule i j t t' s _ _ ⟨.bl (g i j), H, I, rfl, q⟩
noncomputable def CPow (i j : Int) : Prop := 0 ≤ j ∧ j ≤ 1000000 ∧ i.natAbs < 2 ^ 64
noncomputable def CMul (i j : Int) : Prop := (-(2 ^ 64) < i ∧ i < 2 ^ 64) ∨ (-(2 ^ 64) < j ∧ j < 2 ^ 64)
theorem CMul.ok {i j : Int} (h : CMul i j) : IntMulOk i j := by
  rcases h with ⟨h1, h2⟩ | ⟨h1, h2⟩
  · exact .of_left (intBits_le_64 h1 h2)
  · exact .of_right (intBits_le_64 h1 h2)
theorem op_add : OpR X (binaryOp .Add) (rI0 fun i j => .int (i + j)) := opI0 fun _ _ _ _ _ _ _ q => add_int q
theorem op_sub : OpR X (binaryOp .Sub) (rI0 fun i j => .int (i - j)) := opI0 fun _ _ _ _ _ _ _ q => sub_int q
theorem op_mul : OpR X (binaryOp .Mult) (rI CMul fun i j => .int (i * j)) := opI fun _ _ _ _ _ _ _ hc q => mul_int q hc.ok
theorem op_mod : OpR X (binaryOp .Mod) (rI (fun _ j => 0 < j) fun i j => .int (i % j)) := opI fun i j _ _ _ _ _ hc q => by
  have h1 : (0 : Int) < j := hc
  exact mod_int' (by omega) (by rw [Int.fmod_eq_emod_of_nonneg i (by omega)]; exact q)
theorem op_pow : OpR X (binaryOp .Pow) (rI CPow fun i j => .int (i ^ j.toNat)) := opI fun _ _ _ _ _ _ _ hc q => pow_int_small hc.1 hc.2.1 hc.2.2 q
theorem op_shl : OpR X (binaryOp .LShift) (rI CPow fun i j => .int (i * 2 ^ j.toNat)) := opI fun _ _ _ _ _ _ _ hc q => lshift_int_small hc.1 hc.2.1 hc.2.2 q
theorem unI {f : Value → Sem Value} {g : Int → Int}
    (rule : ∀ (i : Int) (t : Tok) (s : Shared) (Q : Value → Shared → Prop) (E : Value → Shared → Prop), Q (.int (g i) s.toks) { s with toks := s.toks + 1 } → wpAny (model X.prog X.w) X.A (f (.int i t)) Q E s) :
    UnR X f (rU fun i => .int (g i)) := by
  intro pins s σ H x v Q I rx h
  obtain ⟨i, rfl, q⟩ := h
  obtain ⟨t, rfl⟩ := rx
  exact rule i t s _ _ ⟨.int (g i), H, I.tok _, ⟨_, rfl⟩, q⟩
theorem un_neg : UnR X (unaryOp .USub) (rU fun i => .int (-i)) := unI fun _ _ _ _ _ q => neg_int q
end
noncomputable def scal : V → V → Bool
  | .non, .non => true | .non, .int _ => true | .int _, .non => true | .non, .bl _ => true | .bl _, .non => true | .non, .str _ => true | .str _, .non => true
  | .int _, .int _ => true | .bl _, .bl _ => true | .str _, .str _ => true | .byt _, .byt _ => true
  | .int _, .str _ => true | .str _, .int _ => true | .bl _, .str _ => true | .str _, .bl _ => true
  | _, _ => false
noncomputable def rEq : R2 := fun x y H Q => scal x y = true ∧ Q (.bl (decide (x = y))) H
noncomputable def rNe : R2 := fun x y H Q => scal x y = true ∧ Q (.bl (!decide (x = y))) H
theorem dec_int {i j : Int} : decide (V.int i = V.int j) = (i == j) := by
  rw [Bool.eq_iff_iff]
  simp
theorem dec_bl {i j : Bool} : decide (V.bl i = V.bl j) = (i == j) := by
  rw [Bool.eq_iff_iff]
  simp
theorem dec_str {i j : Str} : decide (V.str i = V.str j) = (i == j) := by
  rw [Bool.eq_iff_iff]
  simp
theorem dec_byt {i j : Array UInt8} : decide (V.byt i = V.byt j) = (i.toList == j.toList) := by
  rw [Bool.eq_iff_iff]
  cases i
  cases j
  simp
section
variable {X : Cx} {a b c : Expr} {ta tb tc : TE} {pos : Pos}
theorem fin_bl {pins : List (Addr × Obj)} {σ : St} {H : Hp} {s : Shared} {Q : VK} {k k' : Bool} (I : Inv X pins σ H s) (q : Q (.bl k) H) (e : k = k') : EP X pins σ Q (.bool k') s := by
  subst e
  exact ⟨.bl k, H, I, rfl, q⟩
theorem op_eq : OpR X (compareOp .Eq) rEq := by
  intro pins s σ H x y v u Q I rx ry h
  obtain ⟨hs, q⟩ := h
  cases x with
  | non =>
    cases rx
    cases y with
    | non => cases ry; exact PySem.EqNone.eq_none_none (fin_bl I q (by simp))
    | bl j => cases ry; exact PySem.EqNone.eq_none_bool (fin_bl I q (by simp))
    | int j => obtain ⟨t', rfl⟩ := ry; exact PySem.EqNone.eq_none_int (fin_bl I q (by simp))
    | str j => obtain ⟨t', rfl⟩ := ry; exact PySem.EqNone.eq_none_str (fin_bl I q (by simp))
    | _ => exact absurd (show false = true from hs) Bool.false_ne_true
  | bl i =>
    cases rx
    cases y with
    | non => cases ry; exact PySem.EqNone.eq_bool_none (fin_bl I q (by simp))
    | bl j => cases ry; exact eq_bool (fin_bl I q dec_bl)
    | str j => obtain ⟨t', rfl⟩ := ry; exact PySem.EqMixed.eq_bool_str (fin_bl I q (by simp))
    | _ => exact absurd (show false = true from hs) Bool.false_ne_true
  | int i =>
    obtain ⟨t, rfl⟩ := rx
    cases y with
    | non => cases ry; exact PySem.EqNone.eq_int_none (fin_bl I q (by simp))
    | int j => obtain ⟨t', rfl⟩ := ry; exact eq_int (fin_bl I q dec_int)
    | str j => obtain ⟨t', rfl⟩ := ry; exact PySem.EqMixed.eq_int_str (fin_bl I q (by simp))
    | _ => exact absurd (show false = true from hs) Bool.false_ne_true
  | str i =>
    obtain ⟨t, rfl⟩ := rx
    cases y with
    | non => cases ry; exact PySem.EqNone.eq_str_none (fin_bl I q (by simp))
    | bl j => cases ry; exact PySem.EqMixed.eq_str_bool (fin_bl I q (by simp))
    | int j => obtain ⟨t', rfl⟩ := ry; exact PySem.EqMixed.eq_str_int (fin_bl I q (by simp))
    | str j => obtain ⟨t', rfl⟩ := ry; exact eq_str (fin_bl I q dec_str)
    | _ => exact absurd (show false = true from hs) Bool.false_ne_true
  | byt i =>
    obtain ⟨t, rfl⟩ := rx
    cases y with
    | byt j => obtain ⟨t', rfl⟩ := ry; exact PySem.W.eq_bytes (fin_bl I q dec_byt)
    | _ => exact absurd (show false = true from hs) Bool.false_ne_true
  | _ => cases y <;> exact absurd (show false = true from hs) Bool.false_ne_true
theorem op_ne : OpR X (compareOp .NotEq) rNe := by
  intro pins s σ H x y v u Q I rx ry h
  obtain ⟨hs, q⟩ := h
  cases x with
  | non =>
    cases rx
    cases y with
    | non => cases ry; exact PySem.EqNone.ne_none_none (fin_bl I q (by simp))
    | bl j => cases ry; exact PySem.EqNone.ne_none_bool (fin_bl I q (by simp))
    | int j => obtain ⟨t', rfl⟩ := ry; exact PySem.EqNone.ne_none_int (fin_bl I q (by simp))
    | str j => obtain ⟨t', rfl⟩ := ry; exact PySem.EqNone.ne_none_str (fin_bl I q (by simp))
    | _ => exact absurd (show false = true from hs) Bool.false_ne_true
  | bl i =>
    cases rx
    cases y with
    | non => cases ry; exact PySem.EqNone.ne_bool_none (fin_bl I q (by simp))
    | bl j => cases ry; exact ne_bool (fin_bl I q (congrArg not dec_bl))
    | str j => obtain ⟨t', rfl⟩ := ry; exact PySem.EqMixed.ne_bool_str (fin_bl I q (by simp))
    | _ => exact absurd (show false = true from hs) Bool.false_ne_true
  | int i =>
    obtain ⟨t, rfl⟩ := rx
    cases y with
    | non => cases ry; exact PySem.EqNone.ne_int_none (fin_bl I q (by simp))
    | int j => obtain ⟨t', rfl⟩ := ry; exact ne_int (fin_bl I q (congrArg not dec_int))
    | str j => obtain ⟨t', rfl⟩ := ry; exact PySem.EqMixed.ne_int_str (fin_bl I q (by simp))
    | _ => exact absurd (show false = true from hs) Bool.false_ne_true
  | str i =>
    obtain ⟨t, rfl⟩ := rx
    cases y with
    | non => cases ry; exact PySem.EqNone.ne_str_none (fin_bl I q (by simp))
    | bl j => cases ry; exact PySem.EqMixed.ne_str_bool (fin_bl I q (by simp))
    | int j => obtain ⟨t', rfl⟩ := ry; exact PySem.EqMixed.ne_str_int (fin_bl I q (by simp))
    | str j => obtain ⟨t', rfl⟩ := ry; exact ne_str (fin_bl I q (congrArg not dec_str))
    | _ => exact absurd (show false = true from hs) Bool.false_ne_true
  | byt i =>
    obtain ⟨t, rfl⟩ := rx
    cases y with
    | byt j => obtain ⟨t', rfl⟩ := ry; exact PySem.W.ne_bytes (fin_bl I q (congrArg not dec_byt))
    | _ => exact absurd (show false = true from hs) Bool.false_ne_true
  | _ => cases y <;> exact absurd (show false = true from hs) Bool.false_ne_true
theorem op_lt : OpR X (compareOp .Lt) (rI0 fun i j => .bl (decide (i < j))) := opB0 fun _ _ _ _ _ _ _ q => lt_int q
theorem op_gt : OpR X (compareOp .Gt) (rI0 fun i j => .bl (decide (j < i))) := opB0 fun _ _ _ _ _ _ _ q => gt_int q
theorem op_ge : OpR X (compareOp .GtE) (rI0 fun i j => .bl (decide (j ≤ i))) := opB0 fun _ _ _ _ _ _ _ q => ge_int q
theorem op_isN : OpR X (compareOp .Is) (fun x y H Q => y = .non ∧ Q (.bl (decide (x = .non))) H) := by
  intro pins s σ H x y v u Q I rx ry h
  obtain ⟨rfl, q⟩ := h
  cases ry
  refine is_none_gen (fin_bl I q ?_)
  cases x <;> first
    | (cases rx; rfl)
    | (obtain ⟨t, rfl⟩ := rx; rfl)
theorem op_notN : OpR X (compareOp .IsNot) (fun x y H Q => y = .non ∧ Q (.bl (!decide (x = .non))) H) := by
  intro pins s σ H x y v u Q I rx ry h
  obtain ⟨rfl, q⟩ := h
  cases ry
  refine isnot_none_gen (fin_bl I q ?_)
  cases x <;> first
    | (cases rx; rfl)
    | (obtain ⟨t, rfl⟩ := rx; rfl)
theorem nomark (b : Expr) {op : CmpOp} (h : op ≠ .In := by decide) (h2 : op ≠ .NotIn := by decide) : behindInMarks op b = false := by
  have e1 : (op == CmpOp.In) = false := by cases op <;> first | rfl | exact absurd rfl h
  have e2 : (op == CmpOp.NotIn) = false := by cases op <;> first | rfl | exact absurd rfl h2
  cases b <;> simp [behindInMarks, e1, e2]
theorem pe_cmpR {op : CmpOp} {r : R2} (ho : OpR X (compareOp op) r) (ha : PE X a ta) (hb : PE X b tb) (hm : behindInMarks op b = false) : PE X (.Compare a [op] [b] pos) (tOp r ta tb) := by
  intro pins s σ H Q I h
  exact wpAny_Compare1 (binT ha hb I h fun v u s2 x y H2 I2 rx ry q => ho pins s2 σ H2 x y v u Q I2 rx ry q) hm
noncomputable def tTest (t : TE) : TT := fun σ H Q => t σ H fun x H' => ∃ k, x = .bl k ∧ Q k H'
theorem pt_cmpR {op : CmpOp} {r : R2} (ho : OpR X (compareOp op) r) (ha : PE X a ta) (hb : PE X b tb) (hm : behindInMarks op b = false) : PT X (.Compare a [op] [b] pos) (tTest (tOp r ta tb)) := by
  intro pins s σ H Q I h
  refine wpAny_isTrue_Compare1 (thn (ha pins s σ H _ I h) fun v s1 ⟨x, H1, I1, r1, q1⟩ => thn (hb pins s1 σ H1 _ I1 q1) fun u s2 ⟨y, H2, I2, r2, q2⟩ =>
    thn (ho pins s2 σ H2 x y v u _ I2 r1 r2 q2) fun c s3 ⟨z, H3, I3, r3, k, e, q3⟩ => ?_) hm
  subst e
  cases r3
  exact wpAny_truthy_bool ⟨H3, I3, q3⟩
noncomputable def TruV (K : PySem.W.Frag) (x : V) (H : Hp) (k : Bool) : Prop :=
  match x with
  | .non => k = false
  | .bl b => k = b
  | .int i => k = (i != 0)
  | .str y => y.length ≤ sizeLine ∧ k = ((y.length : Int) != 0)
  | .byt y => y.size ≤ sizeLine ∧ k = ((y.size : Int) != 0)
  | .ref p => (∃ xs, SqL K H p xs ∧ k = !xs.isEmpty) ∨ (∃ xs, SqT K H p xs ∧ k = !xs.isEmpty) ∨ ∃ kvs, H p = some (.dK kvs) ∧ k = !kvs.isEmpty
  | _ => False
theorem isEmpty_kv {κ : Type} {kvs : List (κ × V)} {vs : List (κ × Value)} (r : KV kvs vs) : (!vs.isEmpty) = !kvs.isEmpty := by
  cases r <;> rfl
theorem isEmpty_of {xs : List V} {its : List Value} (r : Vals xs its) : (!its.toArray.isEmpty) = !xs.isEmpty := by
  cases r <;> simp
theorem line63 : (sizeLine : Nat) < 2 ^ 63 := by rw [sizeLine_eq]; decide
theorem tru_ok : TruR X (fun x H Q => ∃ k, TruV X.K x H k ∧ Q k H) := by
  intro pins s σ H x v Q I rx h
  obtain ⟨k, e, q⟩ := h
  have hl := line63
  have hs : sizeLine = 16777216 := sizeLine_eq
  cases x with
  | non =>
    cases rx
    have e' : k = false := e
    subst e'
    exact truthy_none ⟨H, I, q⟩
  | bl b =>
    cases rx
    have e' : k = b := e
    subst e'
    exact wpAny_truthy_bool ⟨H, I, q⟩
  | int i =>
    obtain ⟨t, rfl⟩ := rx
    have e' : k = (i != 0) := e
    subst e'
    exact PySem.P.truthy_int ⟨H, I, q⟩
  | str y =>
    obtain ⟨t, rfl⟩ := rx
    obtain ⟨hy, e'⟩ : y.length ≤ sizeLine ∧ k = ((y.length : Int) != 0) := e
    subst e'
    exact PySem.P.truthy_str (by omega) ⟨H, I.tok _, q⟩
  | byt y =>
    obtain ⟨t, rfl⟩ := rx
    obtain ⟨hy, e'⟩ : y.size ≤ sizeLine ∧ k = ((y.size : Int) != 0) := e
    subst e'
    exact PySem.W.truthy_bytes (by omega) ⟨H, I.tok _, q⟩
  | ref p =>
    cases rx
    have e' : (∃ xs, SqL X.K H p xs ∧ k = !xs.isEmpty) ∨ (∃ xs, SqT X.K H p xs ∧ k = !xs.isEmpty) ∨ ∃ kvs, H p = some (.dK kvs) ∧ k = !kvs.isEmpty := e
    rcases e' with ⟨xs, hx, e'⟩ | ⟨xs, hx, e'⟩ | ⟨kvs, hx, e'⟩
    · subst e'
      obtain ⟨its, r, pl, hz⟩ := I.list hx
      have hlen := r.length
      exact wpAny_truthy_list pl.isList (by simp only [List.size_toArray]; omega) ⟨H, I.tok _, by rw [isEmpty_of r]; exact q⟩
    · subst e'
      obtain ⟨its, r, pl, hz⟩ := I.tuple hx
      have hlen := r.length
      exact truthy_tuple pl (by simp only [List.size_toArray]; omega) ⟨H, I.tok _, by rw [isEmpty_of r]; exact q⟩
    · subst e'
      obtain ⟨hz, hS, vs, r, m⟩ : kvs.length ≤ sizeLine ∧ (p == sysModules) = false ∧ ∃ vs, KV kvs vs ∧ s.heap.DictOf (mixKind X.prog X.w) p vs := I.hok p _ hx
      have hlen : kvs.length = vs.length := Paired.length r
      exact wpAny_truthy_dict hS m (by omega) ⟨H, I.tok _, by rw [isEmpty_kv r]; exact q⟩
  | _ => exact (show False from e).elim
theorem pt_truth (ha : PE X a ta) (he : ∀ whole, isTrue a X.env whole = (do let v ← whole; standAt a.pos; holding [v] (truthy v))) :
    PT X a (fun σ H Q => ta σ H fun x H' => ∃ k, TruV X.K x H' k ∧ Q k H') := by
  intro pins s σ H Q I h
  exact isTrue_plain (thn (ha pins s σ H _ I h) fun v s1 ⟨x, H1, I1, r1, q1⟩ => tru_ok pins s1 σ H1 x v Q I1 r1 q1) (he _)
theorem op_add_str : OpR X (binaryOp .Add) (fun x y H Q => ∃ i j, x = .str i ∧ y = .str j ∧ i.length + j.length ≤ sizeLine ∧ Q (.str (i ++ j)) H) := by
  intro pins s σ H x y v u Q I rx ry h
  obtain ⟨i, j, rfl, rfl, hz, q⟩ := h
  obtain ⟨t, rfl⟩ := rx
  obtain ⟨t', rfl⟩ := ry
  exact add_str (fun t' tk => ⟨.str (i ++ j), H, I.tok _, ⟨_, rfl⟩, q⟩) hz
theorem vals1 {x : V} {us : List Value} (r : Vals [x] us) : ∃ u, us = [u] ∧ RelV x u := by
  cases r with
  | cons r1 r2 => cases r2; exact ⟨_, rfl, r1⟩
theorem vals2 {x y : V} {us : List Value} (r : Vals [x, y] us) : ∃ u w', us = [u, w'] ∧ RelV x u ∧ RelV y w' := by
  cases r with
  | cons r1 r2 =>
    cases r2 with
    | cons r3 r4 => cases r4; exact ⟨_, _, rfl, r1, r3⟩
theorem call_int1 : CallR X (.type "int") (fun xs H Q => (∃ i, xs = [.int i] ∧ Q (.int i) H) ∨ ∃ k, xs = [.bl k] ∧ Q (.int (if k then 1 else 0)) H) := by
  intro pins s σ H xs us Q I r h
  rcases h with ⟨i, rfl, q⟩ | ⟨k, rfl, q⟩
  · obtain ⟨u, rfl, t, rfl⟩ := vals1 r
    exact call_int_int ⟨.int i, H, I, ⟨_, rfl⟩, q⟩
  · obtain ⟨u, rfl, r1⟩ := vals1 r
    cases r1
    exact call_int_bool ⟨.int (if k then 1 else 0), H, I.tok _, ⟨_, rfl⟩, q⟩
end
end L2
namespace L2
open PySem PySem.Spec PyProof.Rows
structure ObjM (h : Heap) (x dx C : Addr) (mA : Str → Option Value) : Prop where
  obj : h.get? x = some (PySem.W.instObj C dx)
  ns : h.Ns1 dx mA
  ne : dx ≠ x
theorem lookIn_ns {h : Heap} {dx : Addr} {mA : Str → Option Value} (n : h.Ns1 dx mA) : ∃ od, h.get? dx = some od ∧ ∀ name, PySem.W.lookIn name od = some (mA name) := by
  obtain ⟨o, es, ep, ho, hd, hk, _, hm⟩ := n
  refine ⟨o, ho, fun name => ?_⟩
  have e := hm name
  unfold nsFind findBy at e
  rw [← Array.find?_toList] at e
  unfold PySem.W.lookIn
  rw [hd]
  dsimp only
  split
  · rename_i y q
    rw [q] at e
    exact congrArg some e
  · rename_i q
    rw [q] at e
    have a : es.toList.any (·.refKey) = false := by
      rw [List.any_eq_false]
      intro y hy
      obtain ⟨z, t, hkey⟩ := hk y (Array.mem_toList_iff.mp hy)
      simp [DictEntry.refKey, hkey]
    have a' : ¬ es.toList.any (·.refKey) = true := by rw [a]; exact Bool.false_ne_true
    rw [if_neg a']
    exact congrArg some e
theorem ObjM.look {h : Heap} {x dx C : Addr} {mA : Str → Option Value} (I : ObjM h x dx C mA) : ∃ od, PySem.W.InstAt h x (PySem.W.instObj C dx) C (some od) ∧ ∀ name, PySem.W.lookIn name od = some (mA name) :=
  let ⟨od, ho, hl⟩ := lookIn_ns I.ns
  ⟨od, ⟨I.obj, rfl, rfl, ho⟩, hl⟩
section
variable {prog : Program} {w : World} {A : Around} {E : Value → Shared → Prop} {s : Shared} {K : PySem.W.Frag} {x dx C f : Addr} {mA : Str → Option Value} {name : Str} {v : Value}
theorem get_map {expr : Bool} {Q : Value → Shared → Prop} (X : K.In s.heap) (I : ObjM s.heap x dx C mA) (hg : PySem.W.plainGet K C name = true) (hh : PySem.W.hasDictIn K C = true)
    (ha : PySem.W.findIn K (.ref C) name = some none) (hv : mA name = some v) (hv' : PySem.W.handedIn v = true) (h : Q v { s with toks := s.toks + 1 }) :
    wpAny (model prog w) A (getAttr (.ref x) name expr) Q E s := by
  obtain ⟨od, J, hl⟩ := I.look
  exact PySem.W.get_value X J (PySem.W.plainGet_of hg).1 (PySem.W.findObj_own hh ha rfl (by rw [hl, hv])) hv' h
theorem set_map {ns : List Str} {Q : Unit → Shared → Prop} (X : K.In s.heap) (I : ObjM s.heap x dx C mA)
    (hs : PySem.W.findIn K (.ref C) "__setattr__" = some (some (.builtin "object.__setattr__"))) (hp : PySem.W.plainOver K C = true) (ht : PySem.W.takerIn K C name = some none) (hh : PySem.W.hasDictIn K C = true)
    (hw : PySem.Within mA ns) (hsz : ns.length ≤ sizeLine)
    (h : ∀ h', ObjM h' x dx C (fun y => if y = name then some v else mA y) → Heap.SameBut dx s.heap h' → Q () { s with heap := h', toks := s.toks + 2 }) :
    wpAny (model prog w) A (setAttr (.ref x) name v) Q E s := by
  obtain ⟨od, J, hl⟩ := I.look
  refine PySem.W.set_plain X J hs (PySem.W.osa_open (s := { s with toks := s.toks + 1 }) (r := none) X J hp ht fun b => ?_)
  obtain ⟨cd, hc, hd'⟩ := PySem.W.any_some hh
  have hx : s.heap.get? x = some ⟨.ref C, some dx, .plain, #[]⟩ := I.obj
  refine wpAny_bind (wpAny_pure (wpAny_bind (wpAny_bind (wpAny_loadPart hx (wpAny_bind (PySem.W.Looks.here (s := { s with toks := s.toks + 1 }) (PySem.W.looks_clsIn X hc) ?_))))))
  rw [hd']
  refine wpAny_pure (a := some dx) (wpAny_bind (wpAny_pure (wpAny_bind ?_)))
  refine wpAny_nsSet1 (s := { s with toks := s.toks + 1 }) I.ns fun h' hn2 hs2 => ?_
  obtain ⟨oD, esD, epD, hoD, hdD, hcD⟩ := hn2.count (PySem.Within.cons name v hw)
  refine wpAny_bind (wpAny_lookBehind hoD (by rw [hdD]; exact pastItsLine_dict (Nat.le_trans hcD (by rw [List.length_cons]; omega))) ?_)
  exact wpAny_pure (h _ ⟨(hs2.2 _ (Ne.symm I.ne)).trans I.obj, hn2, I.ne⟩ hs2)
theorem make_map {R : Result → Shared → Prop} {vs : List Value} {kw : List (Str × Value)} (X : K.In s.heap) (hm : PySem.W.makesIn K C = true)
    (hi : PySem.W.findIn K (.ref C) "__init__" = some (some (.ref f))) (hf : PySem.W.typeIn K (.ref f) = some (.type "function"))
    (h : codeAny (model prog w) (A.under (.builtin "type.__call__" ⟨.ref C :: vs, kw⟩)) (.call (.ref f) ⟨.ref (s.heap.objs.size + 1) :: vs, kw⟩) (PySem.W.InitBack (s.heap.objs.size + 1) R)
      { s with heap := (s.heap.push PySem.W.emptyDict).push (PySem.W.instObj C s.heap.objs.size) }) :
    codeAny (model prog w) A (.call (.ref C) ⟨vs, kw⟩) R s := by
  obtain ⟨hh, g, d, t, os⟩ := s
  exact PySem.W.make_core (PySem.W.makes_of X hm) (PySem.W.looks_findIn X hi) (fun self => PySem.W.bind_fn X self hf) (.inl rfl) h
end
noncomputable def putF (f : Str) (v : V) : List (Str × V) → List (Str × V)
  | [] => [(f, v)]
  | (g, x) :: r => if g = f then (g, v) :: r else (g, x) :: putF f v r
theorem lookup_putF (f g : Str) (v : V) : ∀ fs : List (Str × V), (putF f v fs).lookup g = if g = f then some v else fs.lookup g
  | [] => by
    show List.lookup g [(f, v)] = _
    by_cases h : g = f
    · have hb : (g == f) = true := beq_iff_eq.mpr h
      simp only [List.lookup, hb, if_pos h]
    · have hb : (g == f) = false := beq_eq_false_iff_ne.mpr h
      simp only [List.lookup, hb, if_neg h]
  | (k, x) :: r => by
    have ih := lookup_putF f g v r
    rw [show putF f v ((k, x) :: r) = (if k = f then (k, v) :: r else (k, x) :: putF f v r) from rfl]
    by_cases hk : k = f
    · rw [if_pos hk]
      by_cases h : g = k
      · have hb : (g == k) = true := beq_iff_eq.mpr h
        simp only [List.lookup, hb, if_pos (h.trans hk)]
      · have hb : (g == k) = false := beq_eq_false_iff_ne.mpr h
        simp only [List.lookup, hb, if_neg (fun e : g = f => h (e.trans hk.symm))]
    · rw [if_neg hk]
      by_cases h : g = k
      · have hb : (g == k) = true := beq_iff_eq.mpr h
        simp only [List.lookup, hb, if_neg (fun e : g = f => hk (h.symm.trans e))]
      · have hb : (g == k) = false := beq_eq_false_iff_ne.mpr h
        simp only [List.lookup, hb]
        exact ih
theorem keys_putF (f : Str) (v : V) : ∀ fs : List (Str × V), f ∈ (putF f v fs).map (·.1) ∧ ∀ g, g ∈ fs.map (·.1) → g ∈ (putF f v fs).map (·.1)
  | [] => ⟨by simp [putF], fun g h => by simp at h⟩
  | (k, x) :: r => by
    obtain ⟨i1, i2⟩ := keys_putF f v r
    rw [show putF f v ((k, x) :: r) = (if k = f then (k, v) :: r else (k, x) :: putF f v r) from rfl]
    by_cases hk : k = f
    · rw [if_pos hk]
      subst hk
      exact ⟨by simp, fun g h => by simpa using h⟩
    · rw [if_neg hk]
      refine ⟨?_, fun g h => ?_⟩
      · rw [List.map_cons]
        exact List.mem_cons_of_mem _ i1
      · rw [List.map_cons] at h ⊢
        rcases List.mem_cons.mp h with e | e
        · exact List.mem_cons.mpr (.inl e)
        · exact List.mem_cons_of_mem _ (i2 g e)
theorem length_putF (f : Str) (v : V) : ∀ fs : List (Str × V), (putF f v fs).length ≤ fs.length + 1
  | [] => by simp [putF]
  | (k, x) :: r => by
    have ih := length_putF f v r
    rw [show putF f v ((k, x) :: r) = (if k = f then (k, v) :: r else (k, x) :: putF f v r) from rfl]
    by_cases hk : k = f
    · rw [if_pos hk, List.length_cons, List.length_cons]; omega
    · rw [if_neg hk, List.length_cons, List.length_cons]; omega
theorem RelO.some_of {v : V} {o : Option Value} (r : RelO (some v) o) : ∃ u, o = some u ∧ RelV v u := by
  cases o with
  | none => exact (show False from r).elim
  | some u => exact ⟨u, rfl, r⟩
theorem handed_of {v : V} {u : Value} (r : RelV v u) : PySem.W.handedIn u = true := by
  cases v with
  | non => cases (show u = Value.none from r); rfl
  | bl b => cases (show u = Value.bool b from r); rfl
  | int i => obtain ⟨t, e⟩ := (show ∃ t, u = Value.int i t from r); cases e; rfl
  | str x => obtain ⟨t, e⟩ := (show ∃ t, u = Value.str x t from r); cases e; rfl
  | byt b => obtain ⟨t, e⟩ := (show ∃ t, u = Value.bytes b t from r); cases e; rfl
  | flt b => obtain ⟨t, e⟩ := (show ∃ t, u = Value.float b t from r); cases e; rfl
  | ref a => cases (show u = Value.ref a from r); rfl
  | ty n => cases (show u = Value.type n from r); rfl
section
variable {P : Program} {w : World} {H H' : Hp} {h h' : Heap} {a C dx : Addr} {fs fs' : List (Str × V)}
theorem ins_get (hok : HOk P w H h) (e : H a = some (.ins C dx fs)) : ∃ mA, ObjM h a dx C mA ∧ (∀ f, RelO (fs.lookup f) (mA f)) ∧ PySem.Within mA (fs.map (·.1)) ∧ fs.length ≤ 1000 ∧ H dx = some (.own a) := by
  obtain ⟨d, z, ne, ob, mA, n, r, q⟩ := (show ObjOk P w H h a (.ins C dx fs) from hok a _ e)
  exact ⟨mA, ⟨ob, n, ne⟩, r, q, z, d⟩
end
structure Cls (K : PySem.W.Frag) (C : Addr) : Prop where
  pg : PySem.W.plainGet K C Str.empty = true
  hd : PySem.W.hasDictIn K C = true
  po : PySem.W.plainOver K C = true
  sa : PySem.W.findIn K (.ref C) "__setattr__" = some (some (.builtin "object.__setattr__"))
theorem Cls.get {K : PySem.W.Frag} {C : Addr} (c : Cls K C) (f : Str) : PySem.W.plainGet K C f = true := c.pg
noncomputable def NoAttr (K : PySem.W.Frag) (C : Addr) (f : Str) : Prop := PySem.W.findIn K (.ref C) f = some none
theorem NoAttr.taker {K : PySem.W.Frag} {C : Addr} {f : Str} (n : NoAttr K C f) : PySem.W.takerIn K C f = some none := by
  unfold PySem.W.takerIn
  rw [show PySem.W.findIn K (.ref C) f = some none from n]
  rfl
structure Meth (K : PySem.W.Frag) (C : Addr) (m : Str) (f : Addr) : Prop where
  at_ : PySem.W.findIn K (.ref C) m = some (some (.ref f))
  fn : PySem.W.isFn K (.ref f) = true
  kp : PySem.W.keepIn K (.ref f) = true
section
variable {X : Cx} {pins : List (Addr × Obj)} {σ : St} {H : Hp} {s : Shared} {a C dx : Addr} {fs : List (Str × V)} {f : Str} {v : V} {A : Around} {E : Value → Shared → Prop}
theorem getattr_ok {b : Bool} {Q : Value → Shared → Prop} (I : Inv X pins σ H s) (e : H a = some (.ins C dx fs)) (c : Cls X.K C) (n : NoAttr X.K C f) (l : fs.lookup f = some v)
    (h : ∀ u s', Inv X pins σ H s' → RelV v u → Q u s') : wpAny (model X.prog X.w) A (getAttr (.ref a) f b) Q E s := by
  obtain ⟨mA, O, r, _, _, _⟩ := ins_get I.hok e
  obtain ⟨u, hu, ru⟩ := RelO.some_of (v := v) (o := mA f) (by rw [← l]; exact r f)
  exact get_map I.kIn O (c.get f) c.hd n hu (handed_of ru) (h u _ (I.tok _) ru)
theorem setattr_ok {y : V} {u : Value} {Q : Unit → Shared → Prop} (I : Inv X pins σ H s) (e : H a = some (.ins C dx fs)) (c : Cls X.K C) (n : NoAttr X.K C f) (hl : fs.length < 1000) (ry : RelV y u)
    (h : ∀ s', Inv X pins σ (upd H a (.ins C dx (putF f y fs))) s' → Q () s') : wpAny (model X.prog X.w) A (setAttr (.ref a) f u) Q E s := by
  obtain ⟨mA, O, r, wi, _, ho⟩ := ins_get I.hok e
  have hz : (fs.map (·.1)).length ≤ sizeLine := by rw [List.length_map, sizeLine_eq]; omega
  refine set_map I.kIn O c.sa c.po n.taker c.hd wi hz fun h' O' sb => h _ ?_
  have hd : ∃ o, h'.get? dx = some o := let ⟨o, _, _, e', _⟩ := O'.ns; ⟨o, e'⟩
  refine I.write (x := a) (e := dx) (by rw [e]; exact True.intro) (.inr ho) (fun b q hb z => (sb.2 b hb).trans z) hd ?_
  refine ⟨by rw [upd_ne O.ne]; exact ho, ?_, O.ne, O'.obj, _, O'.ns, fun g => ?_, fun g hg => ?_⟩
  · have := length_putF f y fs; omega
  · show RelO ((putF f y fs).lookup g) (if g = f then some u else mA g)
    rw [lookup_putF]
    by_cases q : g = f
    · rw [if_pos q, if_pos q]; exact ry
    · rw [if_neg q, if_neg q]; exact r g
  · by_cases q : g = f
    · rw [q]; exact (keys_putF f y fs).1
    · refine (keys_putF f y fs).2 g (wi g fun z => hg ?_)
      show (if g = f then some u else mA g) = none
      rw [if_neg q]; exact z
theorem Inv.made (I : Inv X pins σ H s) : Inv X pins σ (upd (upd H s.heap.objs.size (.own (s.heap.objs.size + 1))) (s.heap.objs.size + 1) (.ins C s.heap.objs.size []))
    { s with heap := (s.heap.push PySem.W.emptyDict).push (PySem.W.instObj C s.heap.objs.size) } := by
  have e1 : (s.heap.push PySem.W.emptyDict).get? s.heap.objs.size = some PySem.W.emptyDict := Heap.get?_push_size s.heap rfl
  have e2 : ((s.heap.push PySem.W.emptyDict).push (PySem.W.instObj C s.heap.objs.size)).get? (s.heap.objs.size + 1) = some (PySem.W.instObj C s.heap.objs.size) := by
    have := Heap.get?_push_size (s.heap.push PySem.W.emptyDict) (o := PySem.W.instObj C s.heap.objs.size) rfl
    rwa [Heap.size_push] at this
  have e3 : (s.heap.push PySem.W.emptyDict).Ns s.heap.objs.size (fun _ => none) := ⟨PySem.W.emptyDict, #[], _, e1, rfl, (fun e he => absurd he (by simp)), fun _ => rfl⟩
  have I1 := I.laid (a := s.heap.objs.size) (o := .own (s.heap.objs.size + 1)) (h' := s.heap.push PySem.W.emptyDict) (t' := s.toks) (fun b u q => Heap.get?_push_of_some _ q) (Nat.le_refl _) ⟨_, e1⟩
  refine I1.laid (a := s.heap.objs.size + 1) (o := .ins C s.heap.objs.size []) (t' := s.toks) (fun b u q => Heap.get?_push_of_some _ q) (Nat.le_of_eq (Heap.size_push _ _)) ?_
  have ne : s.heap.objs.size ≠ s.heap.objs.size + 1 := Nat.ne_of_lt (Nat.lt_succ_self _)
  refine ⟨by rw [upd_ne ne, upd_same], Nat.zero_le _, ne, e2, fun _ => none, (Heap.Ns1.of_empty e3).at fun o q => Heap.get?_push_of_some _ q, fun _ => True.intro, fun y hy => absurd rfl hy⟩
theorem attr_of {prog : Program} {w : World} {env : Env} {e : Expr} {f : Str} {pos : Pos} {s : Shared} {Q : Value → Shared → Prop} (hb : attributeBase e f env (eval e env) = eval e env)
    (h : wpAny (model prog w) A (eval e env) (fun o s₁ => wpAny (model prog w) A (getAttr o f true) Q E s₁) E s) : wpAny (model prog w) A (eval (.Attribute e f pos) env) Q E s :=
  Attribute_any_ h (by rw [arm_eval_Attribute, hb])
end
noncomputable def tFld (K : PySem.W.Frag) (ta : TE) (f : Str) : TE := fun σ H Q => ta σ H fun x H1 => ∃ a C dx fs v, x = .ref a ∧ H1 a = some (.ins C dx fs) ∧ Cls K C ∧ NoAttr K C f ∧ fs.lookup f = some v ∧ Q v H1
noncomputable def sFld (K : PySem.W.Frag) (ta tv : TE) (f : Str) : TS := fun D σ H => tv σ H fun y H1 => ta σ H1 fun x H2 => ∃ a C dx fs, x = .ref a ∧ H2 a = some (.ins C dx fs) ∧ Cls K C ∧ NoAttr K C f ∧ fs.length < 1000 ∧
  D.nx σ (upd H2 a (.ins C dx (putF f y fs)))
section
variable {X : Cx} {o e value : Expr} {f : Str} {pos pos' tpos : Pos} {ta tv : TE}
theorem pe_fld (he : PE X e ta) (hb : attributeBase e f X.env (eval e X.env) = eval e X.env) : PE X (.Attribute e f pos) (tFld X.K ta f) := by
  intro pins s σ H Q I h
  refine attr_of hb (thn (he pins s σ H _ I h) fun u s1 hhx => ?_)
  obtain ⟨x, H1, I1, rx, a, C, dx, fs, v, ex, ea, c, n, l, q⟩ := hhx
  subst ex
  obtain rfl : u = Value.ref a := rx
  exact getattr_ok I1 ea c n l fun u' s2 I2 ru => ⟨v, H1, I2, ru, q⟩
theorem ps_fld (ha : PE X o ta) (hv : PE X value tv) (hs : swapsWith value (some (.Attribute o f pos')) pos.line X.env = pure false) : PS X (.Assign [.Attribute o f pos'] value pos) (sFld X.K ta tv f) := by
  intro pins s σ H D I h
  refine plainObj_wpAny_Assign_Attribute (thn (hv pins s σ H _ I h) fun u s1 ⟨y, H1, I1, ry, q⟩ => thn (ha pins s1 σ H1 _ I1 q) fun ov s2 hhx => ?_) hs
  obtain ⟨x, H2, I2, rx, a, C, dx, fs, ex, ea, c, n, l, q2⟩ := hhx
  subst ex
  obtain rfl : ov = Value.ref a := rx
  exact setattr_ok I2 ea c n l ry fun s3 I3 => ⟨σ, _, I3, q2⟩
end
section
variable {X : Cx} {pins : List (Addr × Obj)} {σ : St} {H : Hp} {s : Shared} {A : Around} {E : Value → Shared → Prop} {Q : Value → Shared → Prop} {c : Value} {b : Bool}
end
end L2
namespace L2
open PySem PySem.Spec PyProof.Rows
structure Room (k : Nat) (A : Around) : Prop where
  hd : A.handled = none
  dp : A.depth + 3 * k + 5 < recursionLimit
  un : A.units + 16 * k + 200 < cLine
theorem Room.mono {j k : Nat} {A : Around} (r : Room k A) (h : j ≤ k) : Room j A := ⟨r.hd, by have := r.dp; omega, by have := r.un; omega⟩
theorem Room.deeper {k : Nat} {A : Around} (r : Room (k + 1) A) (env : Env) : Room k (A.deeper env) :=
  ⟨r.hd, by have := r.dp; show A.depth + 1 + 3 * k + 5 < _; omega, by have := r.un; show A.units + 3 + 16 * k + 200 < _; omega⟩
theorem make_depth {A : Around} {C : Addr} {us : List Value} {kw : List (Str × Value)} : (A.under (.builtin "type.__call__" ⟨.ref C :: us, kw⟩)).depth = A.depth + 1 := by
  first | rfl | simp [Around.under, Code.weight, Code.isCreation, Code.isGuard, Code.isCaller, Code.frames, Code.isFrame, guardIds]
theorem make_units {A : Around} {C : Addr} {us : List Value} {kw : List (Str × Value)} : (A.under (.builtin "type.__call__" ⟨.ref C :: us, kw⟩)).units = A.units + 1 := by
  first | rfl | simp [Around.under, Code.cUnits, Code.frames, Code.isFrame]
theorem Room.make {k : Nat} {A : Around} (r : Room (k + 1) A) (C : Addr) (us : List Value) (kw : List (Str × Value)) : Room k (A.under (.builtin "type.__call__" ⟨.ref C :: us, kw⟩)) :=
  ⟨r.hd, by have := r.dp; rw [make_depth]; omega, by have := r.un; rw [make_units]; omega⟩
theorem Room.depth {k : Nat} {A : Around} (r : Room k A) : A.depth < recursionLimit := by have := r.dp; omega
theorem Room.units {k : Nat} {A : Around} (r : Room k A) : A.units + 64 < cLine := by have := r.un; omega
noncomputable def tNil : TA := fun _ H Q => Q [] H
noncomputable def tCons (ta : TE) (tr : TA) : TA := fun σ H Q => ta σ H fun x H1 => tr σ H1 fun xs H2 => Q (x :: xs) H2
section
variable {X : Cx} {e : Expr} {es : List Expr} {te : TE} {t : TA} {pos : Pos}
theorem pa_nil : PA X [] tNil := fun _ _ _ _ H Q I h => Calls.spliced_nil ⟨[], H, I, .nil, h⟩
theorem pa_cons (ha : PE X e te) (hr : PA X es t) (hs : starEach (e :: es) X.env = (false, eval e X.env) :: starEach es X.env := by rfl) : PA X (e :: es) (tCons te t) := by
  intro pos pins s σ H Q I h
  rw [hs]
  show wpAny _ _ (spliced ((false, eval e X.env) :: backTo pos (starEach es X.env))) _ _ s
  refine Calls.spliced_cons (thn (ha pins s σ H _ I h) fun u s1 hhx => ?_)
  obtain ⟨x, H1, I1, r1, q1⟩ := hhx
  exact thn (hr pos pins s1 σ H1 _ I1 q1) fun us s2 ⟨xs, H2, I2, r2, q2⟩ => ⟨x :: xs, H2, I2, .cons r1 r2, q2⟩
noncomputable def tTup (t : TA) : TE := fun σ H Q => t σ H fun xs H1 => xs.length ≤ sizeLine ∧ ∀ p, H1 p = none → Q (.ref p) (upd H1 p (.tup xs))
noncomputable def tLst (t : TA) : TE := fun σ H Q => t σ H fun xs H1 => xs.length ≤ sizeLine ∧ ∀ p, H1 p = none → Q (.ref p) (upd H1 p (.lst xs))
theorem pe_tup {x1} (h : PA X es t) : PE X (.Tuple es x1 pos) (tTup t) := by
  intro pins s σ H Q I hq
  refine wpAny_Tuple_spliced (thn (h pos pins s σ H _ I hq) fun us s1 ⟨xs, H1, I1, r, z, q⟩ => ⟨by rw [← r.length]; exact z, ?_⟩)
  have hf : H1 s1.heap.objs.size = none := I1.hok.fresh (Nat.le_refl _)
  refine ⟨.ref s1.heap.objs.size, upd H1 s1.heap.objs.size (.tup xs), I1.laid (t' := s1.toks) (fun b u e => Heap.get?_push_of_some _ e) (Nat.le_refl _) ?_, rfl, q _ hf⟩
  exact ⟨z, us, r, ⟨_, Heap.get?_push_size _ rfl, rfl, _, rfl⟩⟩
theorem pe_lst (h : PA X es t) : PE X (.List es pos) (tLst t) := by
  intro pins s σ H Q I hq
  refine wpAny_List_spliced (thn (h pos pins s σ H _ I hq) fun us s1 ⟨xs, H1, I1, r, z, q⟩ => ⟨by rw [← r.length]; exact z, ?_⟩)
  have hf : H1 s1.heap.objs.size = none := I1.hok.fresh (Nat.le_refl _)
  refine ⟨.ref s1.heap.objs.size, upd H1 s1.heap.objs.size (.lst xs), I1.laid (t' := s1.toks) (fun b u e => Heap.get?_push_of_some _ e) (Nat.le_refl _) ?_, rfl, q _ hf⟩
  exact ⟨z, us, 0, r, Heap.get?_push_size _ rfl⟩
end
noncomputable abbrev Sp := List V → Hp → VK → XK → Prop
noncomputable abbrev CXT := List Env → Hp → Shared → XK → Value → Shared → Prop
structure Env0 (P : Program) (w : World) (K : PySem.W.Frag) (mg : Str → Option Value) (base : Heap) (A : Around) (outer : List Env) (s : Shared) (H : Hp) : Prop where
  frames : A.frames = some outer
  mod : Mod K mg base
  bs : ∀ b o, base.get? b = some o → s.heap.get? b = some o ∧ H b = none
  bsz : base.objs.size ≤ s.heap.objs.size
  funs : s.heap.FunFrames base outer
  frf : ∀ b ∈ frs outer, H b = none
  hok : HOk P w H s.heap
  bare : AllBare s.gens
noncomputable def CE (outer : List Env) (P : Program) (w : World) (H : Hp) (s : Shared) (Q : VK) (u : Value) (s' : Shared) : Prop :=
  ∃ v H', s'.os = s.os ∧ AllBare s'.gens ∧ Un (frs outer) [] H H' s.heap s'.heap ∧ HOk P w H' s'.heap ∧ RelV v u ∧ Q v H'
noncomputable def CR (CX : CXT) (outer : List Env) (P : Program) (w : World) (H : Hp) (s : Shared) (Q : VK) (E : XK) (r : Result) (s' : Shared) : Prop :=
  match r with
  | .ok (.ret u) => CE outer P w H s Q u s'
  | .ok _ => False
  | .error e => CX outer H s E e s'
structure FnOk (P : Program) (w : World) (K : PySem.W.Frag) (mg : Str → Option Value) (base : Heap) (CX : CXT) (k : Nat) (f : Addr) (fd : FuncData) (ps : List Str) (sp : Sp) : Prop where
  len : ∀ vs H Q E, sp vs H Q E → vs.length = ps.length
  run : ∀ (A : Around) (outer : List Env) (s : Shared) (H : Hp) (args : Args) (us : List Value) (vs : List V) (Q : VK) (E : XK), Room k A → Env0 P w K mg base A outer s H → BindsTo s fd args (ps.zip us) → Vals vs us → sp vs H Q E →
    codeAny (model P w) A (.call (.ref f) args) (CR CX outer P w H s Q E) s
theorem FnOk.mono {P : Program} {w : World} {K : PySem.W.Frag} {mg : Str → Option Value} {base : Heap} {CX : CXT} {j k : Nat} {f : Addr} {fd : FuncData} {ps : List Str} {sp : Sp} (F : FnOk P w K mg base CX j f fd ps sp) (h : j ≤ k) :
    FnOk P w K mg base CX k f fd ps sp := ⟨F.len, fun A outer s H args us vs Q E hr => F.run A outer s H args us vs Q E (hr.mono h)⟩
theorem Env0.make {P : Program} {w : World} {K : PySem.W.Frag} {mg : Str → Option Value} {base : Heap} {A : Around} {outer : List Env} {s : Shared} {H : Hp} (e : Env0 P w K mg base A outer s H) (C : Addr) (us : List Value) (kw : List (Str × Value)) :
    Env0 P w K mg base (A.under (.builtin "type.__call__" ⟨.ref C :: us, kw⟩)) outer s H := ⟨by first | exact e.frames | (simpa [Around.under, Code.envs, Code.isFrame, pushEnvs] using e.frames), e.mod, e.bs, e.bsz, e.funs, e.frf, e.hok, e.bare⟩
section
variable {X : Cx} {pins : List (Addr × Obj)} {σ : St} {H : Hp} {s s' : Shared}
theorem Inv.env0 (I : Inv X pins σ H s) : Env0 X.prog X.w X.K X.mg X.base X.A X.stack s H :=
  ⟨I.ok.frames, I.ok.mod, I.bs, Nat.le_trans I.ok.bsz I.sz, I.stack, I.stkFree, I.hok, I.bare⟩
theorem Inv.after {Q : VK} {u : Value} (I : Inv X pins σ H s) (h : CE X.stack X.prog X.w H s Q u s') : EP X pins σ Q u s' := by
  obtain ⟨v, H', os, bare, un, hok, r, q⟩ := h
  obtain ⟨hh, g, d, t, os'⟩ := s'
  obtain rfl : os' = s.os := os
  exact ⟨v, H', I.call (h' := hh) (g' := g) (d' := d) (t' := t) (ch := []) un hok bare (fun b z => absurd z (by simp)), r, q⟩
end
noncomputable def tCall (sp : Sp) (dvs : List V) (E : XK) (t : TA) : TE := fun σ H Q => t σ H fun vs H1 => sp (vs ++ dvs) H1 Q E
noncomputable def tMake (C : Addr) (sp : Sp) (dvs : List V) (E : XK) (t : TA) : TE := fun σ H Q => t σ H fun vs H1 => ∀ x dx, H1 x = none → H1 dx = none → dx ≠ x →
  sp (.ref x :: (vs ++ dvs)) (upd (upd H1 dx (.own x)) x (.ins C dx [])) (fun v H2 => v = .non ∧ Q (.ref x) H2) E
noncomputable def Binds (K : PySem.W.Frag) (fd : FuncData) (ps : List Str) (ds : List Value) : Prop :=
  ∀ (s : Shared) (us : List Value), K.In s.heap → (us ++ ds).length = ps.length → BindsTo s fd ⟨us, []⟩ (ps.zip (us ++ ds))
theorem Binds.all {K : PySem.W.Frag} {fd : FuncData} {ps : List Str} (h : ∀ us : List Value, us.length = ps.length → bindArgs fd ⟨us, []⟩ = pure (ps.zip us)) : Binds K fd ps [] := fun s us _ hl => by
  rw [List.append_nil] at hl ⊢
  exact .of_eq (h us hl)
noncomputable def Passes (CX : CXT) (X : Cx) (E : XK) : Prop := ∀ (pins : List (Addr × Obj)) (σ : St) (H : Hp) (s : Shared) (e : Value) (s' : Shared), Inv X pins σ H s → CX X.stack H s E e s' → X.xe e s'
section
variable {X : Cx} {CX : CXT} {k : Nat} {f C : Addr} {fd : FuncData} {ps : List Str} {sp : Sp} {dvs : List V} {ds : List Value} {E : XK} {x m : Str} {p pos apos : Pos} {e o : Expr} {es : List Expr} {ta : TE} {t : TA}
theorem run_fn {pins : List (Addr × Obj)} {σ : St} {H : Hp} {s : Shared} {Q : VK} {us : List Value} {vs : List V} (F : FnOk X.prog X.w X.K X.mg X.base CX k f fd ps sp) (hr : Room k X.A) (hb : Binds X.K fd ps ds) (hd : Vals dvs ds) (hx : Passes CX X E)
    (I : Inv X pins σ H s) (r : Vals vs us) (h : sp (vs ++ dvs) H Q E) : wpAny (model X.prog X.w) X.A (call (.ref f) us) (EP X pins σ Q) X.xe s := by
  have r2 : Vals (vs ++ dvs) (us ++ ds) := r.append hd
  have hl : (us ++ ds).length = ps.length := by rw [← r2.length]; exact F.len _ _ _ _ h
  refine wpAny_call (codeAny_mono (F.run X.A X.stack s H ⟨us, []⟩ (us ++ ds) (vs ++ dvs) Q E hr I.env0 (hb s us I.kIn hl) r2 h) fun r s' hq => ?_)
  cases r with
  | error e => exact hx pins σ H s e s' I hq
  | ok fl =>
    cases fl with
    | ret u => exact I.after hq
    | next => exact False.elim hq
    | brk => exact False.elim hq
    | cont => exact False.elim hq
theorem pe_call (F : FnOk X.prog X.w X.K X.mg X.base CX k f fd ps sp) (hr : Room k X.A) (hg : Gl X x) (hm : X.mg x = some (.ref f)) (hk : PySem.W.keepIn X.K (.ref f) = true) (hb : Binds X.K fd ps ds) (hd : Vals dvs ds) (hx : Passes CX X E)
    (ha : PA X (e :: es) t) (hdb : (x == ("__debug__" : Str)) = false := by decide) (he : starEach (e :: es) X.env = (false, eval e X.env) :: starEach es X.env := by rfl) (hpl : (backTo pos (starEach es X.env)).any (·.1) = false := by rfl) :
    PE X (.Call (.Name x p) (e :: es) [] pos) (tCall sp dvs E t) := by
  intro pins s σ H Q I h
  refine wpAny_Call_Name_kw (ld_glob I hg hm ?_ hdb)
  refine PySem.W.callWith_K (h₀ := X.base) I.ok.mod.kin hk (thn (ha pos pins s σ H _ I h) fun us s1 ⟨vs, H1, I1, r, q⟩ => ⟨I1.kIn, ?_⟩) he hpl
  exact run_fn F hr hb hd hx I1 r q
structure Mk (K : PySem.W.Frag) (C f : Addr) : Prop where
  makes : PySem.W.makesIn K C = true
  init : PySem.W.findIn K (.ref C) "__init__" = some (some (.ref f))
  fn : PySem.W.isFn K (.ref f) = true
  kp : PySem.W.keepIn K (.ref C) = true
theorem run_make {pins : List (Addr × Obj)} {σ : St} {H : Hp} {s : Shared} {Q : VK} {us : List Value} {vs : List V} (M : Mk X.K C f) (F : FnOk X.prog X.w X.K X.mg X.base CX k f fd ps sp) (hr : Room (k + 1) X.A) (hb : Binds X.K fd ps ds) (hd : Vals dvs ds)
    (hx : Passes CX X E) (I : Inv X pins σ H s) (r : Vals vs us)
    (h : ∀ x dx, H x = none → H dx = none → dx ≠ x → sp (.ref x :: (vs ++ dvs)) (upd (upd H dx (.own x)) x (.ins C dx [])) (fun v H2 => v = .non ∧ Q (.ref x) H2) E) :
    wpAny (model X.prog X.w) X.A (call (.ref C) us) (EP X pins σ Q) X.xe s := by
  have hq := h (s.heap.objs.size + 1) s.heap.objs.size (I.hok.fresh (Nat.le_succ _)) (I.hok.fresh (Nat.le_refl _)) (Nat.ne_of_lt (Nat.lt_succ_self _))
  have I2 := Inv.made (C := C) I
  have r2 : Vals (V.ref (s.heap.objs.size + 1) :: (vs ++ dvs)) (Value.ref (s.heap.objs.size + 1) :: (us ++ ds)) := .cons rfl (r.append hd)
  have hl : (Value.ref (s.heap.objs.size + 1) :: us ++ ds).length = ps.length := by
    have e := r2.length
    rw [F.len _ _ _ _ hq] at e
    exact e.symm
  refine wpAny_call (make_map (f := f) I.kIn M.makes M.init (beq_iff_eq.mp M.fn) (codeAny_mono (F.run _ X.stack _ _ ⟨Value.ref (s.heap.objs.size + 1) :: us, []⟩ (Value.ref (s.heap.objs.size + 1) :: (us ++ ds)) _ _ E (hr.make C us [])
    (I2.env0.make C us []) (hb _ (Value.ref (s.heap.objs.size + 1) :: us) I2.kIn hl) r2 hq) fun r s' hq' => ?_))
  cases r with
  | error e => exact hx pins σ _ _ e s' I2 hq'
  | ok fl =>
    cases fl with
    | ret u =>
      obtain ⟨v, H', I3, rv, ev, q3⟩ := I2.after hq'
      subst ev
      exact ⟨rv, ⟨V.ref (s.heap.objs.size + 1), H', I3, rfl, q3⟩⟩
    | next => exact False.elim hq'
    | brk => exact False.elim hq'
    | cont => exact False.elim hq'
theorem pe_make (M : Mk X.K C f) (F : FnOk X.prog X.w X.K X.mg X.base CX k f fd ps sp) (hr : Room (k + 1) X.A) (hg : Gl X x) (hm : X.mg x = some (.ref C)) (hb : Binds X.K fd ps ds) (hd : Vals dvs ds) (hx : Passes CX X E)
    (ha : PA X (e :: es) t) (hdb : (x == ("__debug__" : Str)) = false := by decide) (he : starEach (e :: es) X.env = (false, eval e X.env) :: starEach es X.env := by rfl) (hpl : (backTo pos (starEach es X.env)).any (·.1) = false := by rfl) :
    PE X (.Call (.Name x p) (e :: es) [] pos) (tMake C sp dvs E t) := by
  intro pins s σ H Q I h
  refine wpAny_Call_Name_kw (ld_glob I hg hm ?_ hdb)
  refine PySem.W.callWith_K (h₀ := X.base) I.ok.mod.kin M.kp (thn (ha pos pins s σ H _ I h) fun us s1 ⟨vs, H1, I1, r, q⟩ => ⟨I1.kIn, ?_⟩) he hpl
  exact run_make M F hr hb hd hx I1 r q
end
section
variable {X : Cx} {CX : CXT} {k : Nat} {f C : Addr} {fd : FuncData} {ps ks : List Str} {sp : Sp} {E : XK} {x m : Str} {p pos apos kpos : Pos} {e o : Expr} {es : List Expr} {kws : List Keyword} {te ta : TE} {t tk : TA} {nm : Option Str}
variable {g : List Value → List Value → List Value} {gV : List V → List V → List V}
end
structure FnScope (N P : List Str) (sc : Scope) : Prop where
  kind : sc.kind = .function
  co : sc.isCoroutine = false
  gen : sc.isGenerator = false
  nd : N.Nodup
  pre : N.take P.length = P
  par : ∀ x ∈ P, sc.names.lookup x = some .local ∨ sc.names.lookup x = some .cell
  nofree : ∀ y ∈ sc.names, y.2 ≠ .free
theorem bindL_out {kindOf : Str → Option NameKind} {x : Str} : ∀ {binds : List (Str × Value)} {m : Str → Option Value}, (∀ v, (x, v) ∉ binds) → bindL kindOf binds m x = m x
  | [], _, _ => rfl
  | (n, v) :: r, m, h => by
    unfold bindL
    rw [bindL_out fun w hw => h w (List.mem_cons_of_mem _ hw)]
    split
    · have : x ≠ n := by rintro rfl; exact h v List.mem_cons_self
      simp [this]
    · rfl
theorem bindC_out {kindOf : Str → Option NameKind} {x : Str} : ∀ {binds : List (Str × Value)} {m : Str → Option Value}, (∀ v, (x, v) ∉ binds) → bindC kindOf binds m x = m x
  | [], _, _ => rfl
  | (n, v) :: r, m, h => by
    unfold bindC
    rw [bindC_out fun w hw => h w (List.mem_cons_of_mem _ hw)]
    split
    · rfl
    · have : x ≠ n := by rintro rfl; exact h v List.mem_cons_self
      simp [this]
theorem bindL_get {kindOf : Str → Option NameKind} {x : Str} {v : Value} : ∀ {P : List Str} {vs : List Value} {i : Nat} {m : Str → Option Value}, P.Nodup → P[i]? = some x → vs[i]? = some v → kindOf x = some .local →
    bindL kindOf (P.zip vs) m x = some v
  | [], _, _, _, _, h, _, _ => by simp at h
  | _ :: _, [], _, _, _, _, h, _ => by simp at h
  | p :: P, w :: vs, 0, m, nd, h1, h2, hk => by
    simp at h1 h2; subst h1; subst h2
    show bindL kindOf ((p, w) :: P.zip vs) m p = _
    unfold bindL
    rw [bindL_out fun v hv => (List.nodup_cons.mp nd).1 (List.of_mem_zip hv).1, if_pos hk]
    simp
  | p :: P, w :: vs, i + 1, m, nd, h1, h2, hk => by
    show bindL kindOf ((p, w) :: P.zip vs) m x = _
    unfold bindL
    exact bindL_get (i := i) (List.nodup_cons.mp nd).2 (by simpa using h1) (by simpa using h2) hk
theorem bindC_get {kindOf : Str → Option NameKind} {x : Str} {v : Value} : ∀ {P : List Str} {vs : List Value} {i : Nat} {m : Str → Option Value}, P.Nodup → P[i]? = some x → vs[i]? = some v → kindOf x ≠ some .local →
    bindC kindOf (P.zip vs) m x = some v
  | [], _, _, _, _, h, _, _ => by simp at h
  | _ :: _, [], _, _, _, _, h, _ => by simp at h
  | p :: P, w :: vs, 0, m, nd, h1, h2, hk => by
    simp at h1 h2; subst h1; subst h2
    show bindC kindOf ((p, w) :: P.zip vs) m p = _
    unfold bindC
    rw [bindC_out fun v hv => (List.nodup_cons.mp nd).1 (List.of_mem_zip hv).1, if_neg hk]
    simp
  | p :: P, w :: vs, i + 1, m, nd, h1, h2, hk => by
    show bindC kindOf ((p, w) :: P.zip vs) m x = _
    unfold bindC
    exact bindC_get (i := i) (List.nodup_cons.mp nd).2 (by simpa using h1) (by simpa using h2) hk
noncomputable def start (N : List Str) (vs : List V) : St := vs.map some ++ List.replicate (N.length - vs.length) none
noncomputable def cxOf (CX : CXT) (P : Program) (w : World) (K : PySem.W.Frag) (mg : Str → Option Value) (base : Heap) (N : List Str) (qual : Str) (scope : Scope) (f : Addr) (cd : Value) (A : Around) (outer : List Env) (s : Shared) (H : Hp) (E : XK) : Cx where
  prog := P
  w := w
  K := K
  mg := mg
  base := base
  A := A.deeper (envOfC qual scope s.heap.objs.size f cd)
  N := N
  s₀ := s
  H₀ := H
  env := envOfC qual scope s.heap.objs.size f cd
  outer := outer
  stack := envOfC qual scope s.heap.objs.size f cd :: outer
  ex := []
  calm := true
  fn := fun _ => true
  pn := []
  xe := fun e s' => wpAny (model P w) (A.deeper (envOfC qual scope s.heap.objs.size f cd)) (leaving (envOfC qual scope s.heap.objs.size f cd) e) (fun _ s'' => CX outer H s E e s'') (fun e' s'' => CX outer H s E e' s'') s'
theorem cell_has {sc : Scope} {n : Nat} {x : Str} (h : sc.names.lookup x = some .cell) : ∃ c, (cellsFrom n sc.names []).lookup x = some c := by
  have q := PySem.W.cellsFrom_some sc.names n [] (.inl h)
  exact Option.isSome_iff_exists.mp q
theorem inv_start {CX : CXT} {P : Program} {w : World} {K : PySem.W.Frag} {mg : Str → Option Value} {base : Heap} {N ps : List Str} {qual : Str} {scope : Scope} {f : Addr} {cd : Value} {A : Around} {outer : List Env} {s s1 : Shared} {H : Hp} {E : XK} {us : List Value} {vs : List V}
    (S : FnScope N ps scope) (hd : A.handled = none) (e0 : Env0 P w K mg base A outer s H) (hl : vs.length = ps.length) (r : Vals vs us)
    (x : InCallC s s.heap.objs.size (bindL (envOfC qual scope s.heap.objs.size f cd).kindOf (ps.zip us) fun _ => none) (cellsFrom (s.heap.objs.size + 1) scope.names []) (bindC (envOfC qual scope s.heap.objs.size f cd).kindOf (ps.zip us) fun _ => none) s1) :
    Inv (cxOf CX P w K mg base N qual scope f cd A outer s H E) [] (start N vs) H s1 := by
  have hpl : ps.length ≤ N.length := by have := congrArg List.length S.pre; rw [List.length_take] at this; omega
  obtain ⟨h1, tk, rfl, hk⟩ := x.done
  have noA : ∀ b : Addr, b ∉ (cxOf CX P w K mg base N qual scope f cd A outer s H E).ex := fun b z => absurd (show b ∈ ([] : List Addr) from z) (by simp)
  refine ⟨⟨e0.mod, S.kind, rfl, rfl, Nat.le_refl _, fun y z c h1 h2 => ?_, fun y hy => ?_, fun y c _ h => ?_, fun _ => hd, Around.frames_deeper e0.frames, .inr ⟨rfl, rfl⟩, fun b z => absurd z (noA b), e0.bs, e0.bsz, fun b _ _ => noA b, fun b z => absurd z (noA b), e0.funs, e0.frf⟩,
    rfl, e0.bare, Un.kept hk, ⟨_, x.toInCall.ns, fun i y v h1 h2 h3 => ?_⟩, fun y c h => ⟨_, x.cell y c h⟩, e0.hok.fresh (Nat.le_refl _), fun y c h => ?_, fun p hp => absurd (show p ∈ ([] : List (Addr × Obj)) from hp) (by simp), e0.hok.kept hk, ?_⟩
  · exact name_of_addr x.apart (PySem.mem_of_lookup h1) (PySem.mem_of_lookup h2)
  · have hy : scope.names.lookup y = some .cell ∨ scope.names.lookup y = some .free := hy
    rcases hy with hy | hy
    · exact cell_has hy
    · exact absurd rfl (S.nofree _ (PySem.mem_of_lookup hy))
  · exact Nat.le_of_lt (x.above y c (PySem.mem_of_lookup h))
  · have hi : i < vs.length := by
      unfold start at h2
      by_cases hi : i < vs.length
      · exact hi
      · rw [List.getElem?_append_right (by simpa using hi)] at h2
        rw [List.getElem?_replicate] at h2
        split at h2 <;> cases h2
    have ha : vs[i]? = some v := by
      unfold start at h2
      rw [List.getElem?_append_left (by simpa using hi), List.getElem?_map] at h2
      cases e : vs[i]? with
      | none => rw [e] at h2; cases h2
      | some a => rw [e] at h2; cases h2; rfl
    obtain ⟨u, hu, rv⟩ := r.get ha
    have hp : ps[i]? = some y := by
      rw [← S.pre, List.getElem?_take_of_lt (by omega)]; exact h1
    have ndP : ps.Nodup := by rw [← S.pre]; exact S.nd.sublist (List.take_sublist _ _)
    refine ⟨u, rv, ?_⟩
    rcases S.par y (List.mem_of_getElem? hp) with k | k
    · exact .inl ⟨k, bindL_get ndP hp hu k⟩
    · obtain ⟨c, e⟩ := cell_has (n := s.heap.objs.size + 1) k
      refine .inr ⟨.inl k, c, e, ?_⟩
      have q := x.cell y c e
      rw [bindC_get ndP hp hu (by show scope.names.lookup y ≠ _; rw [k]; decide)] at q
      exact q
  · exact e0.hok.fresh (Nat.le_of_lt (x.above y c (PySem.mem_of_lookup h)))
  · unfold start
    show _ = N.length
    rw [List.length_append, List.length_map, List.length_replicate]
    omega
theorem fn_of {CX : CXT} {P : Program} {w : World} {K : PySem.W.Frag} {mg : Str → Option Value} {base : Heap} {k : Nat} {f : Addr} {name qual : Str} {params : Arguments} {body : List Stmt} {scope : Scope} {dV kV doc pm cdv ct oc : Value} {an od : Option Addr}
    {osl : Array (Option Value)} {N ps : List Str} {sp : Sp} (lk : K.lookup f = some ⟨oc, od, .func (PySem.W.fnOf name qual params body scope dV kV doc pm an cdv ct), osl⟩) (hcd : PySem.W.codeIn K cdv qual = true) (S : FnScope N ps scope)
    (len : ∀ vs H Q E, sp vs H Q E → vs.length = ps.length)
    (hbody : ∀ (A : Around) (outer : List Env) (s : Shared) (H : Hp) (vs : List V) (Q : VK) (E : XK), Room k (A.deeper (envOfC qual scope s.heap.objs.size f cdv)) → sp vs H Q E →
      ∃ t, PSs (cxOf CX P w K mg base N qual scope f cdv A outer s H E) body t ∧ t { nx := fun _ H' => Q .non H', rt := Q } (start N vs) H) :
    FnOk P w K mg base CX (k + 1) f (PySem.W.fnOf name qual params body scope dV kV doc pm an cdv ct) ps sp := by
  refine ⟨len, fun A outer s H args us vs Q E hr e0 hb r hsp => ?_⟩
  have hl := len _ _ _ _ hsp
  have KX : K.In s.heap := e0.mod.kin.keeps fun b o e => (e0.bs b o e).1
  have lim : s.heap.NoLimit := e0.mod.nolimit.keeps fun b o e => (e0.bs b o e).1
  have hkind : ∀ y ∈ ps.zip us, scope.names.lookup y.1 = some .local ∨ (scope.names.lookup y.1 = some .cell ∧ ((cellsFrom (s.heap.objs.size + 1) scope.names []).lookup y.1).isSome = true) := fun ⟨n, v⟩ hy => by
    rcases S.par n (List.of_mem_zip hy).1 with q | q
    · exact .inl q
    · exact .inr ⟨q, PySem.W.cellsFrom_some _ _ _ (.inl q)⟩
  refine codeAny_call_function hr.depth (KX _ _ lk) rfl S.co S.gen rfl (PySem.W.codeRec_of KX hcd) (hb _ _ _ _ ?_)
  refine wpAny_newFunctionEnv_cells S.kind hkind fun env he s1 x => ?_
  subst he
  refine ⟨lim.keeps x.toInCall.keep, codeAny_func ?_⟩
  obtain ⟨t, ht, hq⟩ := hbody A outer s H vs Q E (hr.deeper _) hsp
  have I : Inv (cxOf CX P w K mg base N qual scope f cdv A outer s H E) [] (start N vs) H s1 := inv_start S hr.hd e0 hl r x
  refine wpAny_mono (ht [] s1 (start N vs) H _ I hq) (fun fl s' hs => ?_) fun e s' hs => hs
  have fin : ∀ {σ' : St} {H' : Hp} {v : V} {u : Value}, Inv (cxOf CX P w K mg base N qual scope f cdv A outer s H E) [] σ' H' s' → RelV v u → Q v H' → CE outer P w H s Q u s' :=
    fun {σ' H' v u} J rv q => ⟨v, H', J.os, J.bare, J.base, J.hok, rv, q⟩
  cases fl with
  | ret u =>
    obtain ⟨v, σ', H', J, rv, q⟩ := hs
    exact fin J rv q
  | next =>
    obtain ⟨σ', H', J, q⟩ := hs
    exact fin (v := V.non) (u := Value.none) J rfl q
  | brk =>
    obtain ⟨_, _, _, q⟩ := hs
    exact False.elim q
  | cont =>
    obtain ⟨_, _, _, q⟩ := hs
    exact False.elim q
end L2
namespace L2
open PySem PySem.Spec PyProof.Rows
section
variable {X : Cx} {x : Str} {p pos : Pos} {e : Expr} {es : List Expr} {t : TA} {id T : String} {r : List V → Hp → VK → Prop}
noncomputable def tCB (r : List V → Hp → VK → Prop) (t : TA) : TE := fun σ H Q => t σ H fun vs H1 => r vs H1 Q
theorem pe_callB (hc : CallR X (.builtin id) r) (hg : Gl X x) (hm : X.mg x = none) (hv : bootBuiltins x = some (.builtin id)) (ha : PA X (e :: es) t) (hn : x ≠ "__name__" := by decide) (hdb : (x == ("__debug__" : Str)) = false := by decide)
    (he : starEach (e :: es) X.env = (false, eval e X.env) :: starEach es X.env := by rfl) (hpl : (backTo pos (starEach es X.env)).any (·.1) = false := by rfl) : PE X (.Call (.Name x p) (e :: es) [] pos) (tCB r t) := by
  intro pins s σ H Q I h
  refine wpAny_Call_Name_kw (ld_blt I hg hm hv ?_ hn hdb)
  exact PyProof.Rows.callWith_builtin1 (thn (ha pos pins s σ H _ I h) fun us s1 ⟨vs, H1, I1, r1, q1⟩ => hc pins s1 σ H1 vs us Q I1 r1 q1) he hpl
theorem pe_callTy (hc : CallR X (.type T) r) (hg : Gl X x) (hm : X.mg x = none) (hv : bootBuiltins x = some (.type T)) (ha : PA X (e :: es) t) (hn : x ≠ "__name__" := by decide) (hdb : (x == ("__debug__" : Str)) = false := by decide)
    (he : starEach (e :: es) X.env = (false, eval e X.env) :: starEach es X.env := by rfl) (hpl : (backTo pos (starEach es X.env)).any (·.1) = false := by rfl) : PE X (.Call (.Name x p) (e :: es) [] pos) (tCB r t) := by
  intro pins s σ H Q I h
  refine wpAny_Call_Name_kw (ld_blt I hg hm hv ?_ hn hdb)
  exact PyProof.Rows.callWith_type1 (thn (ha pos pins s σ H _ I h) fun us s1 ⟨vs, H1, I1, r1, q1⟩ => hc pins s1 σ H1 vs us Q I1 r1 q1) he hpl
end
end L2
namespace HT
open PySem PyProof.Rows
section
open PySem.SeqAt
open PySem.AutoSeq1 (wpAny_loadPart')
open PySem.MeetsSeq PySem.MeetsSeq2 PySem.MeetsSeq3
end
section
variable {prog : Program} {w : World} {A : Around} {E : Value → Shared → Prop} {s : Shared}
noncomputable def sIx (n d : Nat) : Option Int → Nat
  | none => d
  | some v => if v < 0 then (v + (n : Int)).toNat else min v.toNat n
theorem sIx_none (n d : Nat) : sIx n d none = d := rfl
theorem sIx_nat (n d k : Nat) : sIx n d (some (k : Int)) = min k n := by
  show (if (k : Int) < 0 then ((k : Int) + (n : Int)).toNat else min (k : Int).toNat n) = min k n
  rw [if_neg (by omega), Int.toNat_natCast]
theorem sIx_le (n d : Nat) (hd : d ≤ n) (o : Option Int) : sIx n d o ≤ n := by
  cases o with
  | none => exact hd
  | some v =>
    show (if v < 0 then (v + (n : Int)).toNat else min v.toNat n) ≤ n
    by_cases hv : v < 0
    · rw [if_pos hv]; omega
    · rw [if_neg hv]; exact Nat.min_le_right _ _
theorem clip_eq (v : Int) (n d : Nat) : (if v < 0 then max (v + (n : Int)) 0 else min v (n : Int)) = ((sIx n d (some v) : Nat) : Int) := by
  show (if v < 0 then max (v + (n : Int)) 0 else min v (n : Int)) = (((if v < 0 then (v + (n : Int)).toNat else min v.toNat n) : Nat) : Int)
  by_cases hv : v < 0
  · simp only [if_pos hv]; omega
  · simp only [if_neg hv]; omega
theorem adjust_gen (lo hi : Option Int) (n : Nat) : Builtin.Slice.sliceAdjust lo hi 1 (n : Int) = (((sIx n 0 lo : Nat) : Int), ((sIx n n hi : Nat) : Int)) := by
  have h1 : ¬ ((1 : Int) < 0) := by omega
  unfold Builtin.Slice.sliceAdjust
  simp only [h1, if_false]
  refine Prod.ext ?_ ?_
  · cases lo with
    | none => rfl
    | some v => exact clip_eq v n 0
  · cases hi with
    | none => rfl
    | some v => exact clip_eq v n n
theorem places_gen (i j : Nat) : Builtin.Slice.slicePlaces (i : Int) (j : Int) 1 = j - i := by
  unfold Builtin.Slice.slicePlaces
  have h1 : (1 : Int) > 0 := by omega
  simp only [h1, if_true, Int.ediv_one]
  split <;> omega
theorem slicePart_ {v : Value} {o : Option Int} {Q : Option Int → Shared → Prop} (p : IsPart v o) (h : Q o s) : wpAny (model prog w) A (Builtin.Slice.slicePartIndex v) Q E s := by
  cases p with
  | none => exact slicePart_none h
  | int i t => exact slicePart_int h
theorem sliceApplied_gen {sl : Addr} {vl vu : Value} {lo hi : Option Int} {n : Nat} {Q : Int × Int × Nat → Shared → Prop} (hs : s.heap.IsSliceOf sl vl vu .none) (pl : IsPart vl lo) (pu : IsPart vu hi)
    (h : Q (((sIx n 0 lo : Nat) : Int), 1, sIx n n hi - sIx n 0 lo) s) : wpAny (model prog w) A (Builtin.Slice.sliceApplied (.ref sl) (pure (n : Int))) Q E s := by
  obtain ⟨os, hos, hcs, hds⟩ := id hs
  unfold Builtin.Slice.sliceApplied Builtin.Slice.sliceFields
  refine wpAny_bind (wpAny_bind (wpAny_field hos hds (x := vl) rfl (wpAny_bind (wpAny_field hos hds (x := vu) rfl (wpAny_bind (wpAny_field hos hds (x := .none) rfl (wpAny_pure ?_)))))))
  refine wpAny_bind (slicePart_none ?_)
  show wpAny _ _ (if ((1 : Int) == 0) = true then _ else _) _ _ s
  rw [if_neg (by decide)]
  refine wpAny_bind (slicePart_ pl (wpAny_bind (slicePart_ pu (wpAny_bind (wpAny_pure ?_)))))
  show wpAny _ _ (match Builtin.Slice.sliceAdjust lo hi 1 (n : Int) with | (lo, hi) => pure (lo, (1 : Int), Builtin.Slice.slicePlaces lo hi 1)) _ _ s
  rw [adjust_gen lo hi n]
  show wpAny _ _ (pure (((sIx n 0 lo : Nat) : Int), (1 : Int), Builtin.Slice.slicePlaces ((sIx n 0 lo : Nat) : Int) ((sIx n n hi : Nat) : Int) 1)) _ _ s
  rw [places_gen]
  exact wpAny_pure h
theorem pick_gen (xs : Array Value) (i k : Nat) : ((List.range k).filterMap fun (m : Nat) => xs[((i : Int) + (m : Int) * 1).toNat]?).toArray = ((xs.toList.drop i).take k).toArray := by
  have e : (fun (m : Nat) => xs[((i : Int) + (m : Int) * 1).toNat]?) = fun m => xs[i + m]? := by
    funext m
    have : ((i : Int) + (m : Int) * 1).toNat = i + m := by omega
    rw [this]
  rw [e]
  have := pick_run xs i k
  rw [List.filterMap_map] at this
  have e2 : ((fun x => xs[x]?) ∘ fun x => i + x) = fun m => xs[i + m]? := rfl
  rw [e2] at this
  rw [this]
theorem getItem_tuple_cut {t sl : Addr} {items : Array Value} {vl vu : Value} {lo hi : Option Int} {Q : Value → Shared → Prop} (ht : IsTup s.heap t items) (hs : s.heap.IsSliceOf sl vl vu .none) (pl : IsPart vl lo) (pu : IsPart vu hi)
    (hw : ¬ (sIx items.size 0 lo = 0 ∧ sIx items.size items.size hi = items.size))
    (h : Q (.ref s.heap.objs.size) { s with heap := s.heap.push { cls := .type "tuple", data := .seq ((items.toList.drop (sIx items.size 0 lo)).take (sIx items.size items.size hi - sIx items.size 0 lo)).toArray } })
    (hsz : items.size ≤ sizeLine) : wpAny (model prog w) A (getItem (.ref t) (.ref sl)) Q E s := by
  have htake : sizeOk (.seq ((items.toList.drop (sIx items.size 0 lo)).take (sIx items.size items.size hi - sIx items.size 0 lo)).toArray) := by
    show ((items.toList.drop (sIx items.size 0 lo)).take (sIx items.size items.size hi - sIx items.size 0 lo)).toArray.size ≤ sizeLine
    rw [List.size_toArray, List.length_take, List.length_drop, Array.length_toList]
    omega
  have hj : sIx items.size items.size hi ≤ items.size := sIx_le _ _ (Nat.le_refl _) hi
  obtain ⟨os, hos, hcs, hds⟩ := id hs
  have hTs : s.TypeIs (.ref sl) "slice" := ⟨os, hos, hcs⟩
  unfold getItem
  try with_reducible refine wpAny_holding ?_
  first | refine wpAny_bind (wpAny_pure ?_) | skip
  refine wpAny_bind (wpAny_sequenceKey ht.typeIs (by decide) ?_)
  refine wpAny_bind (wpAny_callSpecial?_slot (name := Str.ofString "__getitem__") ht.typeIs PyProof.Rows.slot_tuple_getitem
    (wpAny_call_entry PyProof.Rows.slot_tuple_getitem ht.typeIs entry_tuple_getitem ?_ (args_tuple_getitem _ _)))
  show wpAny _ _ (Builtin.Tuple.tupleItemsOf (.ref t) >>= _) _ _ s
  refine wpAny_bind (tupleItemsOf_ ht ?_)
  refine wpAny_bind (wpAny_typeOf hTs ?_)
  rw [if_pos (by decide)]
  refine wpAny_bind (sliceApplied_gen hs pl pu ?_)
  have hno : ¬ ((((sIx items.size 0 lo : Nat) : Int) == 0 && (1 : Int) == 1 && (sIx items.size items.size hi - sIx items.size 0 lo) == items.size) = true) := by
    intro q
    rw [Bool.and_eq_true, Bool.and_eq_true] at q
    have q1 : ((sIx items.size 0 lo : Nat) : Int) = 0 := eq_of_beq q.1.1
    have q2 : sIx items.size items.size hi - sIx items.size 0 lo = items.size := eq_of_beq q.2
    exact hw ⟨by omega, by omega⟩
  show wpAny _ _ (if (((sIx items.size 0 lo : Nat) : Int) == 0 && (1 : Int) == 1 && (sIx items.size items.size hi - sIx items.size 0 lo) == items.size) = true then _ else _) _ _ s
  rw [if_neg hno, pick_gen]
  first
    | exact wpAny_bind (m := Builtin.Tuple.tupleExact _) (wpAny_newObj_type (wpAny_pure ⟨_, rfl, wpAny_pure h⟩) htake)
    | exact wpAny_bind (m := Builtin.Tuple.tupleExact _) (wpAny_newObj_type (wpAny_bind (wpAny_pure (wpAny_pure ⟨_, rfl, wpAny_pure h⟩))) htake)
    | exact wpAny_bind (wpAny_bind (m := Builtin.Tuple.tupleExact _) (wpAny_newObj_type (wpAny_pure (wpAny_pure ⟨_, rfl, wpAny_pure h⟩)) htake))
    | exact wpAny_bind (wpAny_bind (m := Builtin.Tuple.tupleExact _) (wpAny_newObj_type (wpAny_pure ⟨_, rfl, wpAny_pure h⟩) htake))
end
end HT
namespace L2
open PySem PySem.Spec PyProof.Rows
noncomputable abbrev TO := St → Hp → (Option Int → Hp → Prop) → Prop
noncomputable def PO (X : Cx) (e : Option Expr) (t : TO) : Prop :=
  ∀ (pins : List (Addr × Obj)) (s : Shared) (σ : St) (H : Hp) (Q : Option Int → Hp → Prop), Inv X pins σ H s → t σ H Q →
    wpAny (model X.prog X.w) X.A (evalPart e X.env) (fun u s' => ∃ o H', Inv X pins σ H' s' ∧ IsPart u o ∧ Q o H') X.xe s
noncomputable def tNoPart : TO := fun _ H Q => Q none H
noncomputable def tPart (t : TE) : TO := fun σ H Q => t σ H fun x H1 => ∃ i, x = .int i ∧ Q (some i) H1
section
variable {X : Cx} {e : Expr} {te : TE} {lo hi : Option Expr} {tl th : TO} {pos p2 : Pos}
theorem po_none : PO X none tNoPart := by
  intro pins s σ H Q I h
  rw [evalPart_none]
  exact wpAny_pure ⟨none, H, I, .none, h⟩
theorem po_some (h : PE X e te) : PO X (some e) (tPart te) := by
  intro pins s σ H Q I hw
  rw [evalPart_some]
  refine thn (h pins s σ H _ I hw) fun u s1 hhx => ?_
  obtain ⟨x, H1, I1, r1, q1⟩ := hhx
  obtain ⟨i, rfl, q⟩ := q1
  obtain ⟨t, rfl⟩ := r1
  exact ⟨some i, H1, I1, .int i t, q⟩
noncomputable def SlR (X : Cx) (r : V → Option Int → Option Int → Hp → VK → Prop) : Prop :=
  ∀ (pins : List (Addr × Obj)) (s : Shared) (σ : St) (H : Hp) (x : V) (v vl vu : Value) (lo hi : Option Int) (sl : Addr) (Q : VK), Inv X pins σ H s → RelV x v → s.heap.IsSliceOf sl vl vu .none → IsPart vl lo → IsPart vu hi → r x lo hi H Q →
    ∃ T id, typeLookup (.type T) "__getitem__" = pure (some (.builtin id)) ∧ s.TypeIs v T ∧ wpAny (model X.prog X.w) X.A (getItem v (.ref sl)) (EP X pins σ Q) X.xe s
noncomputable def tSl (r : V → Option Int → Option Int → Hp → VK → Prop) (te : TE) (tl th : TO) : TE := fun σ H Q => te σ H fun x H1 => tl σ H1 fun l H2 => th σ H2 fun u H3 => r x l u H3 Q
theorem pe_slice {r : V → Option Int → Option Int → Hp → VK → Prop} (hr : SlR X r) (he : PE X e te) (hl : PO X lo tl) (hu : PO X hi th) : PE X (.Subscript e (.Slice lo hi none p2) pos) (tSl r te tl th) := by
  intro pins s σ H Q I h
  refine Subscript_ (thn (he pins s σ H _ I h) fun v s1 hhx => ?_)
  obtain ⟨x, H1, I1, r1, q1⟩ := hhx
  refine wpAny_Slice (thn (hl pins s1 σ H1 _ I1 q1) fun vl s2 ⟨l, H2, I2, pl, q2⟩ => thn (hu pins s2 σ H2 _ I2 q2) fun vu s3 hhx => ?_)
  obtain ⟨u, H3, I3, pu, q3⟩ := hhx
  rw [evalPart_none]
  refine wpAny_pure ?_
  have I4 : Inv X pins σ H3 { s3 with heap := s3.heap.push { cls := .type "slice", data := .fields #[vl, vu, .none] } } := I3.kept (t' := s3.toks) fun b ob q => Heap.get?_push_of_some _ q
  obtain ⟨T, id, hT, ht, hg⟩ := hr pins { s3 with heap := s3.heap.push { cls := .type "slice", data := .fields #[vl, vu, .none] } } σ H3 x v vl vu l u s3.heap.objs.size Q I4 r1 (Heap.IsSliceOf.new ..) pl pu q3
  show wpAny (model X.prog X.w) X.A (subscriptTail e (.Slice lo hi none p2) v (.ref s3.heap.objs.size)) (EP X pins σ Q) X.xe { s3 with heap := s3.heap.push { cls := .type "slice", data := .fields #[vl, vu, .none] } }
  exact tail_any (ops := [.ref s3.heap.objs.size, v]) ht hT hg (by with_unfolding_all rfl)
noncomputable def cutV (xs : List V) (lo hi : Option Int) : List V := (xs.drop (HT.sIx xs.length 0 lo)).take (HT.sIx xs.length xs.length hi - HT.sIx xs.length 0 lo)
theorem cutV_length (xs : List V) (lo hi : Option Int) : (cutV xs lo hi).length ≤ xs.length := by
  unfold cutV
  rw [List.length_take, List.length_drop]
  omega
noncomputable def rSlT (K : PySem.W.Frag) : V → Option Int → Option Int → Hp → VK → Prop := fun x lo hi H Q => ∃ a xs, x = .ref a ∧ SqT K H a xs ∧
  ¬ (HT.sIx xs.length 0 lo = 0 ∧ HT.sIx xs.length xs.length hi = xs.length) ∧ ∀ p, H p = none → Q (.ref p) (upd H p (.tup (cutV xs lo hi)))
theorem sl_tup : SlR X (rSlT X.K) := by
  intro pins s σ H x v vl vu lo hi sl Q I rx hs pl pu h
  obtain ⟨a, xs, rfl, hx, hw, q⟩ := h
  cases rx
  obtain ⟨its, r, ht, hz⟩ := I.tuple hx
  have hlen : its.toArray.size = xs.length := by rw [List.size_toArray]; exact r.length.symm
  refine ⟨"tuple", _, PyProof.Rows.slot_tuple_getitem.lookup, ht.typeIs, ?_⟩
  refine HT.getItem_tuple_cut ht hs pl pu (by rw [hlen]; exact hw) ?_ (by rw [hlen]; exact hz)
  rw [hlen]
  refine ⟨.ref s.heap.objs.size, _, I.laid (t' := s.toks) (o := .tup (cutV xs lo hi)) (fun b ob q => Heap.get?_push_of_some _ q) (Nat.le_refl _) ?_, rfl, q _ (I.hok.fresh (Nat.le_refl _))⟩
  exact ⟨Nat.le_trans (cutV_length xs lo hi) hz, _, (r.drop (HT.sIx xs.length 0 lo)).take (HT.sIx xs.length xs.length hi - HT.sIx xs.length 0 lo), IsTup.new _ _⟩
end
end L2
namespace L2
open PySem PySem.Spec PyProof.Rows
noncomputable def ixN (n : Nat) (i : Int) : Option Nat := if 0 ≤ i then (if i < n then some i.toNat else none) else if -(n : Int) ≤ i then some (i + n).toNat else none
noncomputable def atI {α : Type} (xs : List α) (i : Int) : Option α := (ixN xs.length i).bind fun j => xs[j]?
theorem ixN_seq {n : Nat} {i : Int} {j : Nat} (h : ixN n i = some j) : seqIndex? i n = some j ∧ j < n ∧ -(n : Int) ≤ i ∧ i < n := by
  unfold ixN at h
  by_cases h0 : 0 ≤ i
  · rw [if_pos h0] at h
    by_cases h1 : i < n
    · rw [if_pos h1] at h
      have e : i.toNat = j := Option.some.inj h
      exact ⟨by rw [seqIndex_of h0 h1, e], by omega, by omega, h1⟩
    · rw [if_neg h1] at h; cases h
  · rw [if_neg h0] at h
    by_cases h1 : -(n : Int) ≤ i
    · rw [if_pos h1] at h
      have e : (i + n).toNat = j := Option.some.inj h
      exact ⟨by rw [seqIndex_neg (by omega) h1, e], by omega, h1, by omega⟩
    · rw [if_neg h1] at h; cases h
theorem atI_get {α : Type} {xs : List α} {i : Int} {v : α} (h : atI xs i = some v) : ∃ j, seqIndex? i xs.length = some j ∧ xs[j]? = some v ∧ j < xs.length ∧ -(xs.length : Int) ≤ i ∧ i < xs.length := by
  unfold atI at h
  cases e : ixN xs.length i with
  | none => rw [e] at h; cases h
  | some j =>
    rw [e] at h
    obtain ⟨h1, h2, h3, h4⟩ := ixN_seq e
    exact ⟨j, h1, h, h2, h3, h4⟩
theorem atI_nat {α : Type} {xs : List α} {j : Nat} {v : α} (h : xs[j]? = some v) : atI xs (j : Int) = some v := by
  have hj : j < xs.length := (List.getElem?_eq_some_iff.mp h).1
  have e : ixN xs.length (j : Int) = some j := by
    unfold ixN
    rw [if_pos (by omega), if_pos (by omega)]; simp
  unfold atI; rw [e]; exact h
theorem atI_last {α : Type} (xs : List α) (v : α) : atI (xs ++ [v]) (-1) = some v := by
  have hl : (xs ++ [v]).length = xs.length + 1 := by simp
  have e : ixN (xs ++ [v]).length (-1) = some xs.length := by
    unfold ixN
    rw [hl, if_neg (by decide), if_pos (by omega)]
    congr 1
    omega
  unfold atI
  rw [e]
  show (xs ++ [v])[xs.length]? = some v
  simp
noncomputable def PlainIx (b : Expr) : Prop := ∀ o i, subscripted b false o i = operate [o, i] (getItem o i)
noncomputable def IxR (X : Cx) (r : R2) : Prop :=
  ∀ (value slice : Expr) (pins : List (Addr × Obj)) (s : Shared) (σ : St) (H : Hp) (x y : V) (v u : Value) (Q : VK), Inv X pins σ H s → RelV x v → RelV y u → r x y H Q →
    subscripted slice false v u = operate [v, u] (getItem v u) → wpAny (model X.prog X.w) X.A (subscriptTail value slice v u) (EP X pins σ Q) X.xe s
noncomputable def MtR (X : Cx) (id : String) (r : V → List V → Hp → VK → Prop) : Prop :=
  ∀ (pins : List (Addr × Obj)) (s : Shared) (σ : St) (H : Hp) (x : V) (xs : List V) (v : Value) (us : List Value) (Q : VK), Inv X pins σ H s → RelV x v → Vals xs us → r x xs H Q →
    wpAny (model X.prog X.w) X.A (call (.builtin id) (v :: us)) (EP X pins σ Q) X.xe s
section
variable {X : Cx} {a b : Expr} {ta tb : TE} {pos : Pos}
theorem pe_ix {r : R2} (hr : IxR X r) (ha : PE X a ta) (hb : PE X b tb) (hs : PlainIx b) : PE X (.Subscript a b pos) (tOp r ta tb) := by
  intro pins s σ H Q I h
  exact Subscript_ (binT ha hb I h fun v u s2 x y H2 I2 rx ry q => hr a b pins s2 σ H2 x y v u Q I2 rx ry q (hs _ _))
noncomputable def rIxL (K : PySem.W.Frag) : R2 := fun x y H Q => ∃ p xs i v, x = .ref p ∧ y = .int i ∧ SqL K H p xs ∧ atI xs i = some v ∧ Q v H
noncomputable def rIxT (K : PySem.W.Frag) : R2 := fun x y H Q => ∃ p xs i v, x = .ref p ∧ y = .int i ∧ SqT K H p xs ∧ atI xs i = some v ∧ Q v H
noncomputable def rIxS : R2 := fun x y H Q => ∃ z i c, x = .str z ∧ y = .int i ∧ z.length ≤ sizeLine ∧ atI z.cps.toList i = some c ∧ Q (.str ⟨#[c]⟩) H
theorem ix_list : IxR X (rIxL X.K) := by
  intro value slice pins s σ H x y v u Q I rx ry h hs
  obtain ⟨p, xs, i, z, rfl, rfl, hq, he, q⟩ := h
  cases rx
  obtain ⟨t, rfl⟩ := ry
  obtain ⟨its, r, pl, hz⟩ := I.list hq
  obtain ⟨j, h1, h2, h3, h4, h5⟩ := atI_get he
  obtain ⟨w, ew, rw'⟩ := r.get h2
  have hl := r.length
  have hn := line63
  have fin : EP X pins σ Q w s := ⟨z, H, I, rw', q⟩
  by_cases h0 : 0 ≤ i
  · have hj : i.toNat = j := by
      rw [seqIndex_of h0 h5] at h1
      exact Option.some.inj h1
    exact item_listR pl.isList h0 (by omega) (by rw [hj]; simpa using ew) fin hs
  · have hj : (i + (its.toArray.size : Int)).toNat = j := by
      rw [seqIndex_neg (by omega) h4] at h1
      rw [List.size_toArray, ← hl]
      exact Option.some.inj h1
    exact subscriptTail_builtinR (x := w) pl.isList.typeIs slot_list_getitem.lookup
      (wpAny_getItem_list_neg (Q := fun r s' => r = w ∧ EP X pins σ Q r s') pl.isList (by omega) (by rw [List.size_toArray] <;> omega) (by omega) (by rw [hj]; simpa using ew) ⟨rfl, fin⟩) hs
theorem ix_tup : IxR X (rIxT X.K) := by
  intro value slice pins s σ H x y v u Q I rx ry h hs
  obtain ⟨p, xs, i, z, rfl, rfl, hq, he, q⟩ := h
  cases rx
  obtain ⟨t, rfl⟩ := ry
  obtain ⟨its, r, pl, hz⟩ := I.tuple hq
  obtain ⟨j, h1, h2, h3, h4, h5⟩ := atI_get he
  obtain ⟨w, ew, rw'⟩ := r.get h2
  have hl := r.length
  have hn := line63
  have fin : EP X pins σ Q w s := ⟨z, H, I, rw', q⟩
  exact subscriptTail_builtinR (x := w) pl.typeIs slot_tuple_getitem.lookup
    (getItem_tuple (j := j) (Q := fun r s' => r = w ∧ EP X pins σ Q r s') pl (by omega) (by omega) (by rw [List.size_toArray, ← hl]; exact h1) (by simpa using ew) ⟨rfl, fin⟩) hs
theorem ix_str : IxR X rIxS := by
  intro value slice pins s σ H x y v u Q I rx ry h hs
  obtain ⟨z, i, c, rfl, rfl, hz, he, q⟩ := h
  obtain ⟨t, rfl⟩ := rx
  obtain ⟨t', rfl⟩ := ry
  obtain ⟨j, h1, h2, h3, h4, h5⟩ := atI_get he
  have hl : z.cps.toList.length = z.length := by simp [Str.length]
  rw [hl] at h1 h4 h5
  have hn := line63
  exact tail_any (typeIs_str s z t) slot_str_getitem.lookup (getItem_str (c := c) (by
    have e1 : decide (i < -(2 ^ 63 : Int)) = false := decide_eq_false (by omega)
    have e2 : decide (i ≥ 2 ^ 63) = false := decide_eq_false (by omega)
    rw [e1, e2, Bool.or_false]) (by rw [h1]; simpa using h2) ⟨.str ⟨#[c]⟩, H, I.tok _, ⟨_, rfl⟩, q⟩) hs
theorem mapSeq_set (its : List Value) (n j : Nat) (u : Value) : Obj.mapSeq (·.setIfInBounds j u) { cls := .type "list", data := .seq its.toArray n } = { cls := .type "list", data := .seq (its.set j u).toArray n } := by
  simp [Obj.mapSeq]
theorem Inv.lst {pins : List (Addr × Obj)} {σ : St} {H : Hp} {s : Shared} {p : Addr} {xs : List V} (I : Inv X pins σ H s) (h : H p = some (.lst xs)) :
    ∃ (its : List Value) (n : Nat), Vals xs its ∧ s.heap.get? p = some { cls := .type "list", data := .seq its.toArray n } ∧ xs.length ≤ sizeLine := by
  obtain ⟨z, its, n, r, e⟩ := I.hok p _ h
  exact ⟨its, n, r, e, z⟩
theorem Inv.lstUpd {pins : List (Addr × Obj)} {σ : St} {H : Hp} {s : Shared} {p : Addr} {xs ys : List V} {its its' : List Value} {n n' : Nat} {f : Obj → Obj} (I : Inv X pins σ H s) (h : H p = some (.lst xs))
    (ho : s.heap.get? p = some { cls := .type "list", data := .seq its.toArray n }) (hf : f { cls := .type "list", data := .seq its.toArray n } = { cls := .type "list", data := .seq its'.toArray n' }) (r : Vals ys its') (hz : ys.length ≤ sizeLine) (t : Nat) :
    Inv X pins σ (upd H p (.lst ys)) { s with heap := s.heap.update p f, toks := t } := by
  have e : (s.heap.update p f).get? p = some { cls := .type "list", data := .seq its'.toArray n' } := by
    rw [Heap.get?_update_self f ho (by rw [hf] <;> rfl), hf]
  refine I.write (x := p) (e := p) (by rw [h]; trivial) (.inl rfl) (fun b u hb q => (Heap.get?_update_other _ _ (Ne.symm hb)).trans q) ⟨_, e⟩ ?_
  exact ⟨hz, its', n', r, e⟩
noncomputable def rSetL : V → V → V → Hp → (Hp → Prop) → Prop := fun o i v H Q => ∃ p xs k j, o = .ref p ∧ i = .int k ∧ H p = some (.lst xs) ∧ ixN xs.length k = some j ∧ Q (upd H p (.lst (xs.set j v)))
theorem set_list : PSet X rSetL := by
  intro pins s σ H o i v ov iv u Q I ro ri rv h
  obtain ⟨p, xs, k, j, rfl, rfl, hp, hj, q⟩ := h
  cases ro
  obtain ⟨t, rfl⟩ := ri
  obtain ⟨its, n, r, ho, hz⟩ := I.lst hp
  obtain ⟨h1, h2, h3, h4⟩ := ixN_seq hj
  have hl := r.length
  have hn := line63
  have I' : Inv X pins σ (upd H p (.lst (xs.set j v))) { s with heap := s.heap.update p (Obj.mapSeq (·.setIfInBounds j u)) } :=
    I.lstUpd hp ho (mapSeq_set its n j u) (r.set rv j) (by rw [List.length_set]; exact hz) s.toks
  by_cases h0 : 0 ≤ k
  · have hk : k.toNat = j := by
      rw [seqIndex_of h0 h4] at h1
      exact Option.some.inj h1
    exact PySem.W.ki_setAt ho h0 (by omega) (by rw [List.size_toArray, ← hl]; exact h4) (by rw [hk]; exact ⟨_, I', q⟩)
  · have hk : (k + (its.toArray.size : Int)).toNat = j := by
      rw [seqIndex_neg (by omega) h3] at h1
      rw [List.size_toArray, ← hl]
      exact Option.some.inj h1
    exact PySem.W.ki_setBack ho (by omega) (by rw [List.size_toArray, ← hl]; exact h3) (by omega) (by rw [hk]; exact ⟨_, I', q⟩)
theorem slice_bounds (lo hi : Option Int) (n : Nat) : (sliceBounds lo hi none n).1 = ((HT.sIx n 0 lo : Nat) : Int) ∧ (sliceBounds lo hi none n).2.1 = ((HT.sIx n n hi : Nat) : Int) ∧ (sliceBounds lo hi none n).2.2 = 1 := by
  refine ⟨?_, ?_, rfl⟩
  · cases lo with
    | none => simp [sliceBounds, HT.sIx]
    | some i =>
      simp only [sliceBounds, HT.sIx, Option.getD_none, show (1 : Int) > 0 by decide, if_true]
      by_cases h : i < 0
      · simp only [h, if_true] <;> omega
      · simp only [h, if_false] <;> omega
  · cases hi with
    | none => simp [sliceBounds, HT.sIx]
    | some i =>
      simp only [sliceBounds, HT.sIx, Option.getD_none, show (1 : Int) > 0 by decide, if_true]
      by_cases h : i < 0
      · simp only [h, if_true] <;> omega
      · simp only [h, if_false] <;> omega
theorem slicePick_cut (its : List Value) (lo hi : Option Int) : slicePick its.toArray lo hi none = ((its.drop (HT.sIx its.length 0 lo)).take (HT.sIx its.length its.length hi - HT.sIx its.length 0 lo)).toArray := by
  obtain ⟨h1, h2, h3⟩ := slice_bounds lo hi its.toArray.size
  unfold slicePick
  rw [h1, h2, h3]
  simp only [sliceRange_one, pick_run, List.size_toArray] <;> rfl
noncomputable def rSlL (K : PySem.W.Frag) : V → Option Int → Option Int → Hp → VK → Prop := fun x lo hi H Q => ∃ a xs, x = .ref a ∧ SqL K H a xs ∧ ∀ p, H p = none → Q (.ref p) (upd H p (.lst (cutV xs lo hi)))
theorem sl_list : SlR X (rSlL X.K) := by
  intro pins s σ H x v vl vu lo hi sl Q I rx hs pl pu h
  obtain ⟨a, xs, rfl, hx, q⟩ := h
  cases rx
  obtain ⟨its, r, ht, hz⟩ := I.list hx
  have hlen := r.length
  refine ⟨"list", _, slot_list_getitem.lookup, ht.isList.typeIs, ?_⟩
  refine wpAny_getItem_list_slice ht.isList hs pl pu .none (by simp) ?_ (by rw [List.size_toArray] <;> omega)
  rw [slicePick_cut, ← hlen]
  refine ⟨.ref s.heap.objs.size, _, I.laid (t' := s.toks) (o := .lst (cutV xs lo hi)) (fun b ob q => Heap.get?_push_of_some _ q) (Nat.le_refl _) ?_, rfl, q _ (I.hok.fresh (Nat.le_refl _))⟩
  exact ⟨Nat.le_trans (cutV_length xs lo hi) hz, _, 0, (r.drop (HT.sIx xs.length 0 lo)).take (HT.sIx xs.length xs.length hi - HT.sIx xs.length 0 lo), Heap.get?_push_size _ rfl⟩
noncomputable def flatV : V → Bool
  | .non => true
  | .bl _ => true
  | .int _ => true
  | .str _ => true
  | _ => false
noncomputable def eqV : V → V → Bool
  | .non, .non => true
  | .bl a, .bl b => a == b
  | .bl a, .int b => (if a then 1 else 0) == b
  | .int a, .bl b => a == (if b then 1 else 0)
  | .int a, .int b => a == b
  | .str a, .str b => a == b
  | _, _ => false
theorem eqAt_V {A : Around} {s : Shared} {y x : V} {u v : Value} (ry : RelV y u) (rx : RelV x v) (fy : flatV y = true) (fx : flatV x = true) : SeqAt.EqAt A s u v (eqV y x) := by
  cases y with
  | non =>
    cases ry
    cases x with
    | non => cases rx; exact SeqAt.EqAt.same _
    | bl b => cases rx; exact SeqAt.EqAt.none_bool b
    | int b => obtain ⟨t, rfl⟩ := rx; exact SeqAt.EqAt.none_int b t
    | str b => obtain ⟨t, rfl⟩ := rx; exact SeqAt.EqAt.none_str b t
    | _ => exact absurd (show false = true from fx) Bool.false_ne_true
  | bl a =>
    cases ry
    cases x with
    | non => cases rx; exact SeqAt.EqAt.bool_none a
    | bl b => cases rx; exact SeqAt.EqAt.bool_bool a b
    | int b => obtain ⟨t, rfl⟩ := rx; exact SeqAt.EqAt.bool_int a b t
    | str b => obtain ⟨t, rfl⟩ := rx; exact SeqAt.EqAt.bool_str a b t
    | _ => exact absurd (show false = true from fx) Bool.false_ne_true
  | int a =>
    obtain ⟨t', rfl⟩ := ry
    cases x with
    | non => cases rx; exact SeqAt.EqAt.int_none a t'
    | bl b => cases rx; exact SeqAt.EqAt.int_bool a t' b
    | int b => obtain ⟨t, rfl⟩ := rx; exact SeqAt.EqAt.int_int a t' b t
    | str b => obtain ⟨t, rfl⟩ := rx; exact SeqAt.EqAt.int_str a t' b t
    | _ => exact absurd (show false = true from fx) Bool.false_ne_true
  | str a =>
    obtain ⟨t', rfl⟩ := ry
    cases x with
    | non => cases rx; exact SeqAt.EqAt.str_none a t'
    | bl b => cases rx; exact SeqAt.EqAt.str_bool a t' b
    | int b => obtain ⟨t, rfl⟩ := rx; exact SeqAt.EqAt.str_int a t' b t
    | str b => obtain ⟨t, rfl⟩ := rx; exact SeqAt.EqAt.str_str a t' b t
    | _ => exact absurd (show false = true from fx) Bool.false_ne_true
  | _ => exact absurd (show false = true from fy) Bool.false_ne_true
noncomputable def eqU (x : V) (u : Value) : Bool := match u with
  | .none => eqV .non x
  | .bool b => eqV (.bl b) x
  | .int i _ => eqV (.int i) x
  | .str z _ => eqV (.str z) x
  | _ => false
theorem eqU_of {x y : V} {u : Value} (r : RelV y u) (f : flatV y = true) : eqU x u = eqV y x := by
  cases y with
  | non => cases r; rfl
  | bl b => cases r; rfl
  | int i => obtain ⟨t, rfl⟩ := r; rfl
  | str z => obtain ⟨t, rfl⟩ := r; rfl
  | _ => exact absurd (show false = true from f) Bool.false_ne_true
theorem any_eqU {x : V} : ∀ {xs : List V} {us : List Value}, Vals xs us → xs.all flatV = true → us.any (eqU x) = xs.any fun y => eqV y x
  | _, _, .nil, _ => rfl
  | y :: xs, u :: us, .cons r t, f => by
    rw [List.all_cons, Bool.and_eq_true] at f
    rw [List.any_cons, List.any_cons, eqU_of r f.1, any_eqU t f.2]
theorem mem_eqAt {A : Around} {s : Shared} {x : V} {v : Value} (rx : RelV x v) (fx : flatV x = true) : ∀ {xs : List V} {us : List Value}, Vals xs us → xs.all flatV = true → ∀ u ∈ us, SeqAt.EqAt A s u v (eqU x u)
  | _, _, .nil, _ => fun u hu => by cases hu
  | y :: xs, u :: us, .cons r t, f => fun u' hu => by
    rw [List.all_cons, Bool.and_eq_true] at f
    rcases List.mem_cons.mp hu with rfl | hu
    · rw [eqU_of r f.1]; exact eqAt_V r rx f.1 fx
    · exact mem_eqAt rx fx t f.2 u' hu
noncomputable def inV (x : V) (xs : List V) : Bool := xs.any fun y => eqV y x
noncomputable def rIn (K : PySem.W.Frag) (neg : Bool) : R2 := fun x y H Q => ∃ p xs, y = .ref p ∧ (SqL K H p xs ∨ SqT K H p xs) ∧ flatV x = true ∧ xs.all flatV = true ∧ Q (.bl (if neg then !inV x xs else inV x xs)) H
theorem op_in_seq : OpR X (compareOp .In) (rIn X.K false) := by
  intro pins s σ H x y v u Q I rx ry h
  obtain ⟨p, xs, rfl, hq, fx, fs, q⟩ := h
  cases ry
  rcases hq with hq | hq
  · obtain ⟨its, r, pl, hz⟩ := I.list hq
    refine SeqAt.in_listAt (eqU x) pl.isList (fun w hw => mem_eqAt rx fx r fs w (by simpa using hw)) ⟨.bl _, H, I, rfl, ?_⟩
    rw [show its.toArray.any (eqU x) = its.any (eqU x) by simp, any_eqU r fs]
    exact q
  · obtain ⟨its, r, pl, hz⟩ := I.tuple hq
    refine SeqAt.in_tupleAt (eqU x) pl (fun w hw => mem_eqAt rx fx r fs w (by simpa using hw)) ⟨.bl _, H, I, rfl, ?_⟩
    rw [show its.toArray.any (eqU x) = its.any (eqU x) by simp, any_eqU r fs]
    exact q
theorem op_notIn_seq : OpR X (compareOp .NotIn) (rIn X.K true) := by
  intro pins s σ H x y v u Q I rx ry h
  obtain ⟨p, xs, rfl, hq, fx, fs, q⟩ := h
  cases ry
  rcases hq with hq | hq
  · obtain ⟨its, r, pl, hz⟩ := I.list hq
    refine SeqAt.notIn_listAt (eqU x) pl.isList (fun w hw => mem_eqAt rx fx r fs w (by simpa using hw)) ⟨.bl _, H, I, rfl, ?_⟩
    rw [show its.toArray.any (eqU x) = its.any (eqU x) by simp, any_eqU r fs]
    exact q
  · obtain ⟨its, r, pl, hz⟩ := I.tuple hq
    refine SeqAt.notIn_tupleAt (eqU x) pl (fun w hw => mem_eqAt rx fx r fs w (by simpa using hw)) ⟨.bl _, H, I, rfl, ?_⟩
    rw [show its.toArray.any (eqU x) = its.any (eqU x) by simp, any_eqU r fs]
    exact q
theorem call_len_seq : CallR X (.builtin "len") (fun xs H Q => ∃ p ys, xs = [.ref p] ∧ (SqL X.K H p ys ∨ SqT X.K H p ys) ∧ Q (.int ys.length) H) := by
  intro pins s σ H xs us Q I r h
  obtain ⟨p, ys, rfl, hq, q⟩ := h
  obtain ⟨u, rfl, rx⟩ := vals1 r
  cases rx
  have hn := line63
  rcases hq with hq | hq
  · obtain ⟨its, r', pl, hz⟩ := I.list hq
    have hlen := r'.length
    exact Calls.call_len_list pl.isList (by simp only [List.size_toArray] <;> omega) ⟨.int ys.length, H, I.tok _, ⟨s.toks + 1, by rw [List.size_toArray, hlen]⟩, q⟩
  · obtain ⟨its, r', pl, hz⟩ := I.tuple hq
    have hlen := r'.length
    exact len_tuple pl (by simp only [List.size_toArray] <;> omega) ⟨.int ys.length, H, I.tok _, ⟨s.toks + 1, by rw [List.size_toArray, hlen]⟩, q⟩
theorem call_list_of : CallR X (.type "list") (fun xs H Q => ∃ p ys, xs = [.ref p] ∧ (SqL X.K H p ys ∨ SqT X.K H p ys) ∧ ∀ l, H l = none → Q (.ref l) (upd H l (.lst ys))) := by
  intro pins s σ H xs us Q I r h
  obtain ⟨p, ys, rfl, hq, q⟩ := h
  obtain ⟨u, rfl, rx⟩ := vals1 r
  cases rx
  have fin : ∀ (its : List Value), Vals ys its → ys.length ≤ sizeLine → ∀ (h' : Heap) (c' : Nat), (∀ b o', s.heap.get? b = some o' → h'.get? b = some o') →
      h'.get? s.heap.objs.size = some { cls := .type "list", dict := none, data := .seq its.toArray c', slots := #[] } → EP X pins σ Q (.ref s.heap.objs.size) { s with heap := h' } := fun its r' hz h' c' kp e =>
    ⟨.ref s.heap.objs.size, _, I.laid (t' := s.toks) kp (Nat.le_refl _) (show ObjOk X.prog X.w _ h' _ (.lst ys) from ⟨hz, its, c', r', e⟩), rfl, q _ (I.hok.fresh (Nat.le_refl _))⟩
  rcases hq with hq | hq
  · obtain ⟨its, r', pl, hz⟩ := I.list hq
    have hlen := r'.length
    obtain ⟨o, ho, hc, n, hd⟩ := pl.isList
    exact call_list_seq p (.inl rfl) ho hc hd (fun h' c' kp e => fin its r' hz h' c' kp e) (by simp only [List.size_toArray] <;> omega)
  · obtain ⟨its, r', pl, hz⟩ := I.tuple hq
    have hlen := r'.length
    obtain ⟨o, ho, hc, n, hd⟩ := pl
    exact call_list_seq p (.inr rfl) ho hc hd (fun h' c' kp e => fin its r' hz h' c' kp e) (by simp only [List.size_toArray] <;> omega)
noncomputable def tyV (K : PySem.W.Frag) (T : String) (x : V) (H : Hp) : Prop := match x with
  | .str _ => T = "str"
  | .int _ => T = "int"
  | .ref p => (T = "list" ∧ ∃ xs, SqL K H p xs) ∨ (T = "tuple" ∧ ∃ o, K.lookup p = some o ∧ o.cls = .type "tuple" ∧ o.dict = none) ∨
      (T = "dict" ∧ ((∃ kvs, H p = some (.dK kvs)) ∨ ∃ kvs, H p = some (.dT kvs))) ∨ (T = "set" ∧ ∃ S n, H p = some (.set S n))
  | _ => False
theorem tyV_is {pins : List (Addr × Obj)} {σ : St} {H : Hp} {s : Shared} {T : String} {x : V} {v : Value} (I : Inv X pins σ H s) (r : RelV x v) (ty : tyV X.K T x H) :
    s.TypeIs v T ∧ ∀ a, v = .ref a → ∃ ob, s.heap.get? a = some ob ∧ ob.dict = none := by
  cases x with
  | str z =>
    obtain ⟨t, rfl⟩ := r
    cases (show T = "str" from ty)
    exact ⟨typeIs_str s z t, fun _ e => nomatch e⟩
  | int i =>
    obtain ⟨t, rfl⟩ := r
    cases (show T = "int" from ty)
    exact ⟨typeIs_int s i t, fun _ e => nomatch e⟩
  | ref p =>
    cases r
    rcases ty with ⟨rfl, xs, hq⟩ | ⟨rfl, o, hk, hc, hd⟩ | ⟨rfl, hk⟩ | ⟨rfl, S, n, hk⟩
    · obtain ⟨its, _, pl, _⟩ := I.list hq
      refine ⟨pl.isList.typeIs, fun a e => ?_⟩
      cases e
      obtain ⟨o, n, e, c, hd, _⟩ := pl
      exact ⟨o, e, hd⟩
    · refine ⟨⟨o, I.kIn p o hk, hc⟩, fun a e => ?_⟩
      cases e
      exact ⟨o, I.kIn _ o hk, hd⟩
    · have z : ∃ o, s.heap.get? p = some o ∧ o.ExactDict := by
        rcases hk with ⟨kvs, hk⟩ | ⟨kvs, hk⟩
        · obtain ⟨_, _, _, _, o, _, _, e, ex, _⟩ := I.hok p _ hk
          exact ⟨o, e, ex⟩
        · obtain ⟨_, _, _, _, o, _, _, e, ex, _⟩ := I.hok p _ hk
          exact ⟨o, e, ex⟩
      obtain ⟨o, e, ex⟩ := z
      refine ⟨⟨o, e, ex.1⟩, fun a e2 => ?_⟩
      cases e2
      exact ⟨o, e, ex.2.1⟩
    · obtain ⟨o, _, _, _, e, ex, _⟩ := I.hok p _ hk
      refine ⟨⟨o, e, ex.1⟩, fun a e2 => ?_⟩
      cases e2
      exact ⟨o, e, ex.2.1⟩
  | _ => exact False.elim ty
noncomputable def tBM0 (K : PySem.W.Frag) (T : String) (r : V → List V → Hp → VK → Prop) (to : TE) : TE := fun σ H Q => to σ H fun x H1 => tyV K T x H1 ∧ r x [] H1 Q
noncomputable def tBM (K : PySem.W.Frag) (T : String) (r : V → List V → Hp → VK → Prop) (to : TE) (t : TA) : TE := fun σ H Q => to σ H fun x H1 => tyV K T x H1 ∧ t σ H1 fun xs H2 => r x xs H2 Q
variable {o e : Expr} {es : List Expr} {to : TE} {t : TA} {name : Str} {apos cpos : Pos} {T id : String} {r : V → List V → Hp → VK → Prop}
theorem pe_bm0 (pa : PlainAttrs T) (slot : Slot T name id) (hty : typeOf (.builtin id) = pure (.type "method_descriptor")) (hm : MtR X id r) (ho : PE X o to)
    (hbase : attributeBase o name X.env (eval o X.env) = eval o X.env := by rfl) (hline : (apos.endLine == cpos.line) = true := by rfl) : PE X (.Call (.Attribute o name apos) [] [] cpos) (tBM0 X.K T r to) := by
  intro pins s σ H Q I h
  refine wpAny_Call_method0_late hbase hline (thn (ho pins s σ H _ I h) fun v s1 hhx => ?_)
  obtain ⟨x, H1, I1, r1, ty, q1⟩ := hhx
  obtain ⟨h1, h2⟩ := tyV_is I1 r1 ty
  exact ⟨T, id, pa, slot, hty, h1, h2, Calls.callWith_builtin rfl (PySem.evalArgs_none (hm pins s1 σ H1 x [] v [] Q I1 r1 .nil q1))⟩
theorem pe_bm (pa : PlainAttrs T) (slot : Slot T name id) (hty : typeOf (.builtin id) = pure (.type "method_descriptor")) (hm : MtR X id r) (ho : PE X o to) (ha : PA X (e :: es) t)
    (hbase : attributeBase o name X.env (eval o X.env) = eval o X.env := by rfl)
    (hfew : ((backTo cpos (starEach (e :: es) X.env)).all (fun x => !x.1) && (backToKw cpos (keywordEach [] X.env)).all (fun x => x.1.isSome)
      && decide ((e :: es).length + ([] : List Keyword).length + (if ([] : List Keyword).isEmpty then 0 else 1) < 30)) = true := by rfl)
    (hline : (apos.endLine == cpos.line) = true := by rfl) (hs : starEach (e :: es) X.env = (false, eval e X.env) :: starEach es X.env := by rfl) (hplain : (backTo cpos (starEach es X.env)).any (·.1) = false := by rfl) :
    PE X (.Call (.Attribute o name apos) (e :: es) [] cpos) (tBM X.K T r to t) := by
  intro pins s σ H Q I h
  refine wpAny_Call_method_late hbase hfew hline rfl (thn (ho pins s σ H _ I h) fun v s1 hhx => ?_)
  obtain ⟨x, H1, I1, r1, ty, q1⟩ := hhx
  obtain ⟨h1, h2⟩ := tyV_is I1 r1 ty
  refine ⟨T, id, pa, slot, hty, h1, h2, ?_⟩
  have hA := ha cpos pins s1 σ H1 _ I1 q1
  rw [hs] at hA ⊢
  refine Calls.callWith_builtin (by show (false || (backTo cpos (starEach es X.env)).any (·.1)) = false; rw [hplain] <;> rfl) (Calls.evalArgs_plain ?_)
  exact thn hA fun us s2 ⟨vs, H2, I2, r2, q2⟩ => hm pins s2 σ H2 x vs v us Q I2 r1 r2 q2
/- xs.append(e), list.index on a module's tuple .. are MtR facts of 06m -/
end
end L2
namespace L2
open PySem PySem.Spec PyProof.Rows
noncomputable def MtM (X : Cx) (id : String) (r : V → List V → Hp → VK → Prop) : Prop :=
  ∀ (pins : List (Addr × Obj)) (s : Shared) (σ : St) (H : Hp) (x : V) (xs : List V) (v : Value) (us : List Value) (Q : VK), Inv X pins σ H s → RelV x v → Vals xs us → r x xs H Q →
    wpAny (model X.prog X.w) X.A (call (.builtin id) (v :: us)) (EP X pins σ Q) X.xe s
theorem Vals.one : ∀ {x : V} {us : List Value}, Vals [x] us → ∃ u, us = [u] ∧ RelV x u
  | _, _, .cons r .nil => ⟨_, rfl, r⟩
theorem Vals.zero : ∀ {us : List Value}, Vals [] us → us = []
  | _, .nil => rfl
theorem Vals.dropLast {xs : List V} {us : List Value} (h : Vals xs us) : Vals xs.dropLast us.dropLast := by
  induction h with
  | nil => exact .nil
  | cons r t ih =>
    cases t with
    | nil => exact .nil
    | cons q t' => exact .cons r ih
theorem erase_last {α : Type} (l : List α) : l.eraseIdx (l.length - 1) = l.dropLast := by
  induction l with
  | nil => rfl
  | cons a r ih =>
    cases r with
    | nil => rfl
    | cons b r =>
      have e : (a :: b :: r).length - 1 = ((b :: r).length - 1) + 1 := by
        have h1 : (a :: b :: r).length = r.length + 2 := rfl
        have h2 : (b :: r).length = r.length + 1 := rfl
        omega
      rw [e, List.eraseIdx_cons_succ, ih]
      all_goals rfl
section
variable {X : Cx} {pins : List (Addr × Obj)} {σ : St} {H : Hp} {s : Shared} {l b : Addr} {xs ys zs : List V}
theorem Inv.lset {its its' : List Value} {n : Nat} {f : Array Value → Array Value} {t' : Nat} (I : Inv X pins σ H s) (hH : H l = some (.lst xs))
    (e : s.heap.get? l = some { cls := .type "list", data := .seq its.toArray n }) (hf : f its.toArray = its'.toArray) (hv : Vals ys its') (hz : ys.length ≤ sizeLine) :
    Inv X pins σ (upd H l (.lst ys)) { s with heap := s.heap.update l (Obj.mapSeq f), toks := t' } := by
  have q := PySem.IsL.update e f
  rw [hf] at q
  refine I.write (x := l) (e := l) (by rw [hH]; exact trivial) (.inl rfl) (fun b' u hb hu => (Heap.get?_update_other s.heap (Obj.mapSeq f) (Ne.symm hb)).trans hu) ⟨_, q⟩ ?_
  exact ⟨hz, its', _, hv, q⟩
theorem Inv.lnew {its : List Value} {t' : Nat} (I : Inv X pins σ H s) (hv : Vals ys its) (hz : ys.length ≤ sizeLine) :
    Inv X pins σ (upd H s.heap.objs.size (.lst ys)) { s with heap := s.heap.push { cls := .type "list", data := .seq its.toArray }, toks := t' } :=
  I.laid (fun _ _ q => Heap.get?_push_of_some _ q) (Nat.le_refl _) ⟨hz, its, 0, hv, Heap.get?_push_size _ rfl⟩
theorem Inv.fresh (I : Inv X pins σ H s) : H s.heap.objs.size = none := I.hok.fresh (Nat.le_refl _)
theorem Inv.lstM (I : Inv X pins σ H s) (hH : H l = some (.lst xs)) : xs.length ≤ sizeLine ∧ ∃ (its : List Value) (n : Nat), Vals xs its ∧ xs.length = its.length ∧ s.heap.get? l = some { cls := .type "list", data := .seq its.toArray n } := by
  obtain ⟨z, its, n, r, e⟩ := I.hok l _ hH
  exact ⟨z, its, n, r, r.length, e⟩
theorem notLongL {n : Nat} (h : n ≤ sizeLine) : Builtin.List.listTooLong n = false := by
  unfold Builtin.List.listTooLong
  exact decide_eq_false (by omega)
end
section
variable {X : Cx}
noncomputable def rAppend : V → List V → Hp → VK → Prop := fun x vs H Q => ∃ l xs y, x = .ref l ∧ vs = [y] ∧ H l = some (.lst xs) ∧ xs.length < sizeLine ∧ Q .non (upd H l (.lst (xs ++ [y])))
theorem mt_append : MtM X "list.append" rAppend := by
  intro pins s σ H x vs v us Q I rx rv h
  obtain ⟨l, xs, y, rfl, rfl, hH, hz, q⟩ := h
  cases rx
  obtain ⟨u, rfl, ru⟩ := rv.one
  obtain ⟨z, its, n, r, hl, e⟩ := I.lstM hH
  refine call_meets F.slot_list_append ⟨_, e, rfl⟩ F.entry_list_append (F.args_list_append_2 _ _) (PySem.list_append l its.toArray n u (by rw [List.size_toArray]; omega)) ⟨e, ?_⟩
  refine ⟨.non, _, I.lset (its' := its ++ [u]) hH e (by simp) (r.append (.cons ru .nil)) ?_, rfl, q⟩
  rw [List.length_append, List.length_singleton]
  omega
noncomputable def rExtend : V → List V → Hp → VK → Prop := fun x vs H Q => ∃ l b xs zs, x = .ref l ∧ vs = [.ref b] ∧ H l = some (.lst xs) ∧ H b = some (.lst zs) ∧ xs.length + zs.length ≤ sizeLine ∧ Q .non (upd H l (.lst (xs ++ zs)))
theorem mt_extend : MtM X "list.extend" rExtend := by
  intro pins s σ H x vs v us Q I rx rv h
  obtain ⟨l, b, xs, zs, rfl, rfl, hH, hB, hz, q⟩ := h
  cases rx
  obtain ⟨u, rfl, ru⟩ := rv.one
  cases ru
  obtain ⟨z, its, n, r, hl, e⟩ := I.lstM hH
  obtain ⟨z2, its2, n2, r2, hl2, e2⟩ := I.lstM hB
  have hsz : its.toArray.size + its2.toArray.size ≤ sizeLine := by rw [List.size_toArray, List.size_toArray]; omega
  have hlong : ¬ (!its.toArray.isEmpty && Builtin.List.listTooLong (its.toArray.size + its2.toArray.size)) = true := by
    rw [notLongL hsz, Bool.and_false]
    exact Bool.false_ne_true
  refine call_meets F.slot_list_extend ⟨_, e, rfl⟩ F.entry_list_extend (F.args_list_extend_2 _ _)
    (AutoSeq1.list_extend_list_list_0 l its.toArray n b its2.toArray n2 hlong (by rw [List.size_toArray]; omega) (by omega)) ⟨e, e2, ?_⟩
  refine ⟨.non, _, I.lset (its' := its ++ its2) hH e (by simp) (r.append r2) ?_, rfl, q⟩
  rw [List.length_append]
  omega
noncomputable def rPop : V → List V → Hp → VK → Prop := fun x vs H Q => ∃ l xs y, x = .ref l ∧ vs = [] ∧ H l = some (.lst xs) ∧ xs[xs.length - 1]? = some y ∧ Q y (upd H l (.lst xs.dropLast))
theorem mt_pop : MtM X "list.pop" rPop := by
  intro pins s σ H x vs v us Q I rx rv h
  obtain ⟨l, xs, y, rfl, rfl, hH, hy, q⟩ := h
  cases rx
  have hus := rv.zero
  subst hus
  obtain ⟨z, its, n, r, hl, e⟩ := I.lstM hH
  obtain ⟨u, hu, ru⟩ := r.get hy
  have hy' : its.toArray[its.toArray.size - 1]? = some u := by
    show its.toArray[its.length - 1]? = some u
    rw [← Array.getElem?_toList, ← hl]
    exact hu
  refine call_meets F.slot_list_pop ⟨_, e, rfl⟩ F.entry_list_pop (F.args_list_pop_1 _) (MeetsSeq.list_pop_last l its.toArray n u hy' (by rw [List.size_toArray]; omega)) ⟨e, ?_⟩
  refine ⟨y, _, I.lset (its' := its.dropLast) hH e ?_ r.dropLast ?_, ru, q⟩
  · show its.toArray.eraseIdxIfInBounds (its.toArray.size - 1) = its.dropLast.toArray
    rw [List.size_toArray, List.eraseIdxIfInBounds_toArray, erase_last]
  · rw [List.length_dropLast]
    omega
noncomputable def rCat : R2 := fun x y H Q => ∃ l b xs zs, x = .ref l ∧ y = .ref b ∧ H l = some (.lst xs) ∧ H b = some (.lst zs) ∧ xs.length + zs.length ≤ sizeLine ∧ ∀ p, H p = none → Q (.ref p) (upd H p (.lst (xs ++ zs)))
theorem op_cat : OpR X (binaryOp .Add) rCat := by
  intro pins s σ H x y v u Q I rx ry h
  obtain ⟨l, b, xs, zs, rfl, rfl, hH, hB, hz, q⟩ := h
  cases rx
  cases ry
  obtain ⟨z, its, n, r, hl, e⟩ := I.lstM hH
  obtain ⟨z2, its2, n2, r2, hl2, e2⟩ := I.lstM hB
  refine PySem.P.add_list e e2 ?_ (by rw [List.size_toArray, List.size_toArray]; omega)
  have ea : its.toArray ++ its2.toArray = (its ++ its2).toArray := by simp
  rw [ea]
  exact ⟨.ref _, _, I.lnew (t' := s.toks) (r.append r2) (by rw [List.length_append]; omega), rfl, q _ I.fresh⟩
end
section
variable {prog : Program} {w : World} {A : Around} {E : Value → Shared → Prop} {s : Shared}
end
section
variable {X : Cx}
end
end L2
namespace L2
open PySem PySem.Spec PyProof.Rows
section
variable {κ : Type} [DecidableEq κ]
noncomputable def valV (kvs : List (κ × V)) (k : κ) : Option V := (kvs.find? fun kv => decide (kv.1 = k)).map (·.2)
noncomputable def putK (kvs : List (κ × V)) (k : κ) (v : V) : List (κ × V) :=
  if (kvs.any fun kv => decide (kv.1 = k)) = true then kvs.map (fun kv => if kv.1 = k then (kv.1, v) else kv) else kvs ++ [(k, v)]
end
theorem kV_is {P : Program} {w : World} {k : Key} {u : Value} (r : RelV (kV k) u) : (mixKind P w).is k u = true := by
  cases k with
  | inl i => obtain ⟨t, e⟩ := (show ∃ t, u = Value.int i t from r); subst e; exact mixKind_int P w i t
  | inr x => obtain ⟨t, e⟩ := (show ∃ t, u = Value.str x t from r); subst e; exact mixKind_str P w x t
theorem items_are {P : Program} {w : World} : ∀ {ks : List Key} {us : List Value}, Vals (ks.map kV) us → ItemsAre (mixKind P w) ks us
  | [], _, r => by rw [List.map_nil] at r; cases r; exact .nil
  | k :: ks, _, r => by
    rw [List.map_cons] at r
    cases r with
    | cons h t => exact .cons (kV_is h) (items_are t)
noncomputable abbrev KT (H : Hp) : List (List Key × V) → List (List Key × Addr × Value) → Prop := Paired fun p q => p.1 = q.1 ∧ H q.2.1 = some (.tup (p.1.map kV)) ∧ RelV p.2 q.2.2
section
variable {P : Program} {w : World} {H : Hp} {h : Heap} {a : Addr}
theorem rd_of {u : HO} (ok : HOk P w H h) (e : Rd H a u) : ObjOk P w H h a u := e.ok ok
theorem dk_rd {kvs : List (Key × V)} (ok : HOk P w H h) (e : Rd H a (.dK kvs)) : kvs.length ≤ sizeLine ∧ (a == sysModules) = false ∧ ∃ vs, KV kvs vs ∧ h.DictOf (mixKind P w) a vs :=
  show ObjOk P w H h a (.dK kvs) from rd_of ok e
theorem key_of {ks : List Key} (ok : HOk P w H h) (e : H a = some (.tup (ks.map kV))) : (tupleKind (mixKind P w)).is h ks a := by
  obtain ⟨_, its, r, o, h1, h2, n, h3⟩ := (show ObjOk P w H h a (.tup (ks.map kV)) from ok a _ e)
  exact ⟨o, its.toArray, n, h1, h2, h3, by simpa using items_are r⟩
theorem dt_rd {kvs : List (List Key × V)} (ok : HOk P w H h) (e : Rd H a (.dT kvs)) : kvs.length ≤ sizeLine ∧ (a == sysModules) = false ∧
    ∃ xs, KT H kvs xs ∧ h.DictOfH (tupleKind (mixKind P w)) a xs := by
  obtain ⟨z, y, xs, r, o, es, ep, h1, h2, h3, h4, h5⟩ := (show ObjOk P w H h a (.dT kvs) from rd_of ok e)
  refine ⟨z, y, xs, r, o, es, ep, h1, h2, h3, h4, fun x hx => ?_, h5⟩
  have all : ∀ {l : List (List Key × V)} {m : List (List Key × Addr × Value)}, KT H l m → ∀ x ∈ m, (tupleKind (mixKind P w)).is h x.1 x.2.1 := by
    intro l m q
    induction q with
    | nil => intro x hx; exact nomatch hx
    | @cons p q ps qs hq t ih =>
      intro x hx
      rcases List.mem_cons.mp hx with e | hx
      · subst e
        exact key_of ok (by rw [← hq.1]; exact hq.2.1)
      · exact ih x hx
  exact all r x hx
end
noncomputable def DGet (H : Hp) (a : Addr) (y : V) (r : Option V) : Prop :=
  (∃ kvs k, Rd H a (.dK kvs) ∧ y = kV k ∧ r = valV kvs k) ∨ ∃ kvs k b, Rd H a (.dT kvs) ∧ y = .ref b ∧ H b = some (.tup (k.map kV)) ∧ r = valV kvs k
noncomputable def DPut (H : Hp) (a : Addr) (y v : V) (H' : Hp) : Prop :=
  (∃ kvs k, H a = some (.dK kvs) ∧ y = kV k ∧ kvs.length < sizeLine ∧ H' = upd H a (.dK (putK kvs k v))) ∨
  ∃ kvs k b, H a = some (.dT kvs) ∧ y = .ref b ∧ H b = some (.tup (k.map kV)) ∧ kvs.length < sizeLine ∧ H' = upd H a (.dT (putK kvs k v))
section
variable {X : Cx} {pins : List (Addr × Obj)} {σ : St} {H : Hp} {s : Shared} {a : Addr} {y v : V} {u r : Value} {o : Option V} {A : Around} {E : Value → Shared → Prop}
end
section
variable {X : Cx} {pins : List (Addr × Obj)} {σ : St} {H : Hp} {s : Shared} {a : Addr} {kvs : List (Key × V)} {k : Key} {u : Value} {A : Around} {E : Value → Shared → Prop}
end
noncomputable def tDGet (td ty : TE) : TE := fun σ H Q => td σ H fun x H1 => ty σ H1 fun y H2 => ∃ a v, x = .ref a ∧ DGet H2 a y (some v) ∧ Q v H2
noncomputable def sDPut (td ty tv : TE) : TS := fun D σ H => tv σ H fun v H1 => td σ H1 fun x H2 => ty σ H2 fun y H3 => ∃ a H4, x = .ref a ∧ DPut H3 a y v H4 ∧ D.nx σ H4
section
variable {X : Cx} {o i e value : Expr} {pos pos' tpos : Pos} {td ty tv : TE}
end
noncomputable def tDNewK : TE := fun _ H Q => ∀ p, H p = none → Q (.ref p) (upd H p (.dK []))
section
variable {X : Cx} {pos : Pos}
end
noncomputable def tPairs : List (TE × TE) → St → Hp → (List (V × V) → Hp → Prop) → Prop
  | [], _, H, Q => Q [] H
  | (tk, tv) :: r, σ, H, Q => tk σ H fun x H1 => tv σ H1 fun y H2 => tPairs r σ H2 fun ps H3 => Q ((x, y) :: ps) H3
noncomputable def mergeK (kvs more : List (Key × V)) : List (Key × V) := more.foldl (fun acc kv => putK acc kv.1 kv.2) kvs
noncomputable def tDisp (trs : List (TE × TE)) : TE := fun σ H Q => ∀ p, H p = none → tPairs trs σ (upd H p (.dK [])) fun ps H2 => H2 p = some (.dK []) ∧ ∃ kvs : List (Key × V), ps = kvs.map (fun kv => (kV kv.1, kv.2)) ∧ kvs.length ≤ 15 ∧ Q (.ref p) (upd H2 p (.dK (mergeK [] kvs)))
noncomputable def IsD (H : Hp) (a : Addr) : Prop := (∃ kvs, Rd H a (.dK kvs)) ∨ ∃ kvs, Rd H a (.dT kvs)
theorem isD_at {X : Cx} {pins : List (Addr × Obj)} {σ : St} {H : Hp} {s : Shared} {a : Addr} (I : Inv X pins σ H s) (d : IsD H a) :
    s.TypeIs (.ref a) "dict" ∧ (∀ b, Value.ref a = .ref b → ∃ ob, s.heap.get? b = some ob ∧ ob.dict = none) ∧ (a == sysModules) = false := by
  rcases d with ⟨kvs, e⟩ | ⟨kvs, e⟩
  · obtain ⟨_, hd, vs, _, dd⟩ := dk_rd I.hok e
    refine ⟨dd.typeIs, fun b q => ?_, hd⟩
    cases q
    obtain ⟨ob, _, _, h1, h2, _⟩ := dd
    exact ⟨ob, h1, h2.2.1⟩
  · obtain ⟨_, hd, xs, _, dd⟩ := dt_rd I.hok e
    refine ⟨dd.typeIs, fun b q => ?_, hd⟩
    cases q
    obtain ⟨ob, _, _, h1, h2, _⟩ := dd
    exact ⟨ob, h1, h2.2.1⟩
section
variable {X : Cx} {pins : List (Addr × Obj)} {σ : St} {H : Hp} {s : Shared} {a : Addr} {y d : V} {u r : Value} {o : Option V} {A : Around} {E : Value → Shared → Prop}
end
noncomputable def tDGet2 (td ty tx : TE) : TE := fun σ H Q => td σ H fun x H1 => ∃ a, x = .ref a ∧ IsD H1 a ∧ ty σ H1 fun y H2 => tx σ H2 fun z H3 => ∃ o, DGet H3 a y o ∧ Q (o.getD z) H3
section
variable {X : Cx} {o e f : Expr} {apos cpos : Pos} {td ty tx : TE}
end
section
variable {X : Cx} {pins : List (Addr × Obj)} {σ : St} {H : Hp} {s : Shared} {a : Addr} {kvs : List (Key × V)} {A : Around} {E : Value → Shared → Prop}
end
section
variable {X : Cx} {pins : List (Addr × Obj)} {σ : St} {H : Hp} {s : Shared} {a : Addr} {y : V} {u : Value} {A : Around} {E : Value → Shared → Prop}
end
end L2
namespace Att
open PySem PySem.W PySem.Calls PyProof.Rows
theorem ints_of_wellAll {P : Params} {h : Heap} : ∀ (ns : List Int) (vs : List Value), WellAll P h vs (ns.map WData.int) → IntsAre vs ns := by
  intro ns
  induction ns with
  | nil =>
    intro vs w
    rw [List.map_nil] at w
    cases w
    exact .nil
  | cons n ns ih =>
    intro vs w
    rw [List.map_cons] at w
    cases w with
    | cons a b =>
      cases a
      exact .cons _ _ (ih _ b)
theorem script_of {l : OpenLaw} {n : Nat} (hn : l.most = some n) {P : Params} {h : Heap} {args : List WData} {vals : List Value}
    (hpre : l.row.toRowW.claim.pre args = true) (hwl : WellAll P h vals args) :
    ∃ a vs ns, vals = [Value.ref a] ∧ args = [WData.list (ns.map WData.int)] ∧ h.get? a = some { cls := .type "list", data := .seq vs.toArray } ∧ IntsAre vs ns ∧ ns.length ≤ n := by
  have hsh : WShape.hasAll [] args [.list .int] = true := (pre_splitW hpre).1
  have hc : l.pre.holds [] { args := args } = true := (pre_splitW hpre).2
  obtain ⟨d, r, rfl, h1, h2⟩ := hasAllW_cons hsh
  obtain rfl := hasAllW_nil h2
  obtain ⟨xs, rfl, h3⟩ := hasW_list h1
  obtain ⟨ns, rfl⟩ := items_int h3
  have hlen : ns.length ≤ n := by
    unfold OpenLaw.pre at hc
    have h4 : (WTm.not (.lt (.lit (.int (n : Int))) (.len (.arg 0)))).holds [] { args := [.list (ns.map .int)] } = true := by
      have h4 := (holds_andW hc).1
      rw [hn] at h4
      exact h4
    have h5 := condW_of h4 (w_not (w_lt w_lit (w_len_list (w_arg rfl))))
    rw [List.length_map] at h5
    refine Nat.le_of_not_lt fun q => ?_
    have q' : (n : Int) < ((ns.length : Nat) : Int) := by omega
    first
      | (rw [decide_eq_true q'] at h5; exact absurd h5 (by decide))
      | (simp at h5; omega)
  cases hwl with
  | cons w1 w2 =>
    cases w2
    cases w1 with
    | list ho hall => exact ⟨_, _, ns, rfl, rfl, ho, ints_of_wellAll ns _ hall, hlen⟩
theorem post_true (l : OpenLaw) (args : List WData) : l.row.toRowW.claim.post args (.bool true) args = true :=
  postW_of (r := l.row.toRowW) (X := (true == true))
    (show WShape.has [] (.bool true) .bool = true by first | rfl | decide | simp [WShape.has, WShape.arms, WShape.armsAll])
    (show (WTm.eq .res (.lit (.bool true))).value [] { args := args, res := some (.bool true), after := args } = some (.bool (true == true)) from w_eq_bool (w_res rfl) w_lit) rfl
section
variable {prog : Program} {w : World} {A : Around} {E : Value → Shared → Prop} {s : Shared} {K : Frag}
end
end Att
namespace L2
open PySem PySem.Spec PyProof.Rows
theorem vals_ints : ∀ {vs : List Value} {ns : List Int}, IntsAre vs ns → Vals (ns.map V.int) vs
  | _, _, .nil => .nil
  | _, _, .cons n t h => .cons ⟨t, rfl⟩ (vals_ints h)
noncomputable def Only (H : Hp) : Prop := ∀ b, H b = none ∨ ∃ o xs, H b = some (.frz o (.lst xs))
theorem law_call {P : Program} {w : World} {K : PySem.W.Frag} {mg mb : Str → Option Value} {CX : CXT} {k : Nat} {fa a : Addr} {fd : FuncData} {x : Str} {sp : Sp} {s₁ : Shared} {vs : List Value} {ns : List Int}
    (KX : K.In s₁.heap) (hns : s₁.heap.Ns mainGlobals mg) (hb : s₁.heap.Ns builtinsNs mb) (hbb : ∀ x : Str, x ≠ "__name__" → mb x = bootBuiltins x) (hlim : s₁.heap.NoLimit) (hg : s₁.gens = #[])
    (ha : s₁.heap.get? a = some { cls := .type "list", data := .seq vs.toArray }) (hi : IntsAre vs ns) (hl : ns.length ≤ sizeLine) (hr : Room k callerA)
    (F : ∀ base : Heap, K.In base → base.Ns mainGlobals mg → FnOk P w K mg base CX k fa fd [x] sp) (hbind : ∀ (s : Shared) (u : Value), BindsTo s fd ⟨[u], []⟩ [(x, u)])
    (hsp : ∀ H : Hp, Only H → SqL K H a (ns.map V.int) → sp [.ref a] H (fun v _ => v = .bl true) fun _ _ _ => False)
    (hCX : ∀ H e s', CX [] H s₁ (fun _ _ _ => False) e s' → False) :
    codeAny (model P w) callerA (.call (.ref fa) ⟨[.ref a], []⟩) (fun r s' => r = .ok (.ret (.bool true)) ∧ OldK s₁.heap s'.heap ∧ s'.os = s₁.os ∧ AllBare s'.gens) s₁ := by
  have rv := vals_ints hi
  have lenV := hi.length
  -- from an abstract heap in which nothing but the script may be tracked
  have core : ∀ H : Hp, Only H → SqL K H a (ns.map V.int) → HOk P w H s₁.heap → (∀ b, H b ≠ none → b = a) → (H a ≠ none → K.lookup a = none) →
      codeAny (model P w) callerA (.call (.ref fa) ⟨[.ref a], []⟩) (fun r s' => r = .ok (.ret (.bool true)) ∧ OldK s₁.heap s'.heap ∧ s'.os = s₁.os ∧ AllBare s'.gens) s₁ := by
    intro H hO hS hok hA hK
    have base_of : ∀ {b : Addr} {o : Obj}, s₁.heap.get? b = some o → H b = none → (hidT s₁.heap H).get? b = some o := fun e n => hidT_get e n
    have noA : ∀ {b : Addr} {o : Obj} {es : Array DictEntry} {ep : Nat}, s₁.heap.get? b = some o → o.data = .dict es ep → H b = none := fun {b o es ep} e d => by
      cases q : H b with
      | none => rfl
      | some u =>
        have e' : b = a := hA b (by rw [q]; simp)
        subst e'
        rw [ha] at e; cases e
        have d' : Data.seq vs.toArray _ = Data.dict es ep := d
        cases d'
    have nsK : ∀ {b : Addr} {m : Str → Option Value}, s₁.heap.Ns b m → (hidT s₁.heap H).Ns b m := fun {b m} ⟨o, es, ep, e, d, r⟩ => ⟨o, es, ep, base_of e (noA e d), d, r⟩
    have hKb : K.In (hidT s₁.heap H) := fun b o e => base_of (KX b o e) (by
      cases q : H b with
      | none => rfl
      | some u =>
        have e' : b = a := hA b (by rw [q]; simp)
        subst e'
        rw [hK (by rw [q]; simp)] at e; cases e)
    have hM : Mod K mg (hidT s₁.heap H) := ⟨hKb, nsK hns, ⟨mb, nsK hb, hbb⟩, let ⟨mc, h1, h2⟩ := hlim; ⟨mc, nsK h1, h2⟩⟩
    have e0 : Env0 P w K mg (hidT s₁.heap H) callerA [] s₁ H := ⟨rfl, hM, fun b o e => of_hidT e, Nat.le_of_eq (hidT_size _ _), trivial, fun b hb => absurd (show b ∈ ([] : List Addr) from hb) (by simp), hok, .of_eq hg⟩
    refine codeAny_mono ((F _ hKb (nsK hns)).run callerA [] s₁ H ⟨[.ref a], []⟩ [.ref a] [.ref a] _ _ hr e0 (hbind s₁ (.ref a)) (.cons rfl .nil) (hsp H hO hS)) fun r s' h => ?_
    cases r with
    | error e => exact (hCX H e s' h).elim
    | ok fl =>
      cases fl with
      | next => exact False.elim h
      | brk => exact False.elim h
      | cont => exact False.elim h
      | ret u =>
        obtain ⟨v, H', os, bare, un, hok', r', q⟩ := h
        have q' : v = .bl true := q
        subst q'
        obtain rfl : u = Value.bool true := r'
        refine ⟨rfl, OldK.of_keep fun b o e => ?_, os, bare⟩
        cases q : H b with
        | none => exact un.keep b o e q (by intro z; exact absurd (show b ∈ ([] : List Addr) from z) (by simp)) (by simp)
        | some u =>
          rcases hO b with z | ⟨ob, xs, z⟩
          · rw [q] at z; cases z
          · have z2 := un.frzs b ob _ z
            obtain ⟨e1, _⟩ := hok b _ z
            obtain ⟨e2, _⟩ := hok' b _ z2
            rw [e] at e1; cases e1
            exact e2
  cases hk : K.lookup a with
  | some o =>
    -- the script is one of the module's own objects
    have e := KX a o hk
    rw [ha] at e
    cases e
    refine core (fun _ => none) (fun _ => .inl rfl) (.inr ⟨_, vs.toArray, _, hk, rfl, rfl, rfl, by rw [List.size_toArray, lenV]; exact hl, by simpa using rv⟩) (fun b u z => by have z' : (none : Option HO) = some u := z; cases z') (fun b z => absurd rfl z) fun z => absurd rfl z
  | none =>
    refine core (fun b => if b = a then some (.frz { cls := .type "list", data := .seq vs.toArray } (.lst (ns.map V.int))) else none) (fun b => ?_) (.inl (.inr ⟨{ cls := .type "list", data := .seq vs.toArray }, if_pos rfl⟩)) (fun b u z => ?_) (fun b z => ?_) fun _ => hk
    · by_cases hb : b = a
      · exact .inr ⟨_, _, if_pos hb⟩
      · exact .inl (if_neg hb)
    · by_cases hb : b = a
      · have z' := (if_pos hb).symm.trans z
        cases z'
        subst hb
        exact ⟨ha, by rw [List.length_map]; exact hl, vs, _, rv, ha⟩
      · have z' := (if_neg hb).symm.trans z
        cases z'
    · by_cases hb : b = a
      · exact hb
      · exact absurd (if_neg hb) z
end L2
namespace L2
open PySem PySem.Spec PyProof.Rows
end L2
/- THE LAST THEOREM (shape; LID, My.* are yours):
   My.Adr: a structure of the addresses that your layer names (classes, functions); My.Txt K t: a structure (Prop) of the equations over K;
   My.txt_mk : {K} {implicit addresses ..} (e1 : nsIn K mainGlobals "law" = some (some (.ref f))) (e2 : K.lookup f = some ⟨oc, od, .func (fnOf "law" "law" params body scope dV kV doc pm an cdv ct), sl⟩) (e3 : codeIn K cdv "law" = true) .. : ∃ t, My.Txt K t
set_option maxRecDepth 100000 in
set_option maxHeartbeats 0 in
theorem PySem.Challenge.cw_LID_holds : PySem.Challenge.rw_LID.Holds := by
  w_on; o_law; k_head; (case hw => w_witness2)
  k_fill
  refine L2.walk_of (l := PySem.Challenge.rw_LID) (n := 63) (k := 40) (x := "script") (CX := fun w => ..) (sp := fun _ => My.sp_law) rfl (by decide) rfl ⟨rfl, by decide, by decide⟩ (fun w h Y => PySem.W.kIn_of Y) ?F ?S ?C
  case F =>
    intro w mg fa h KX G hmg
    have T : ∃ t, My.Txt (L2.KOf KX) t := by
      dsimp only [L2.KOf]                          -- K must stand as «<heap const> w.params» for k_is
      refine' My.txt_mk ?e1 ?e2 ?e3 ..
      (case e1 => PySem.W.k_is)                    -- in the order: a name -> its address -> its object -> its parts
      (case e2 => PySem.W.k_is)
      ..
    obtain ⟨t, T⟩ := T
    have e0 := hmg.symm.trans (PySem.W.mg_of KX G T.law)
    cases e0                                       -- fa is the law's own address
    exact ⟨_, fun s u => .of_eq rfl, fun base kb nb => My.law_fn T kb nb⟩     -- if «.of_eq rfl» comes too early: refine' ⟨_, ?b, fun base kb nb => My.law_fn T kb nb⟩; exact fun s u => .of_eq rfl
  case S => exact fun w H a ns hl hO hS => ..
  case C => exact ..
(the tactic k_is has no namespace: write k_is) -/
namespace L2
open PySem PySem.Spec PyProof.Rows
noncomputable def inClass (s : Stmt) (j : Nat) : Stmt := match s with
  | .ClassDef _ _ _ body _ _ _ _ _ _ _ => body.getD j (.Pass ⟨0, 0, 0, 0⟩)
  | _ => .Pass ⟨0, 0, 0, 0⟩
noncomputable def defArgs (s : Stmt) : Arguments := match s with
  | .FunctionDef _ a _ _ _ _ _ _ _ _ => a
  | _ => { posonlyargs := [], args := [], vararg := none, kwonlyargs := [], kw_defaults := [], kwarg := none, defaults := [] }
noncomputable def defBody (s : Stmt) : List Stmt := match s with
  | .FunctionDef _ _ b _ _ _ _ _ _ _ => b
  | _ => []
noncomputable def defScope (s : Stmt) : Scope := match s with
  | .FunctionDef _ _ _ _ _ _ sc _ _ _ => sc
  | _ => { kind := .function, names := [], isGenerator := false, isCoroutine := false }
noncomputable abbrev CX0 : CXT := fun _ _ _ _ _ _ => False
noncomputable abbrev E0 : XK := fun _ _ _ => False
theorem pass0 {X : Cx} : Passes CX0 X E0 := fun _ _ _ _ _ _ _ h => h.elim
structure Fun (K : PySem.W.Frag) (x qual : Str) (st : Stmt) (f : Addr) (fd : FuncData) : Prop where
  ex : ∃ (oc : Value) (od : Option Addr) (kV doc pm : Value) (an : Option Addr) (cdv ct : Value) (osl : Array (Option Value)),
    fd = PySem.W.fnOf x qual (defArgs st) (defBody st) (defScope st) .none kV doc pm an cdv ct ∧ K.lookup f = some ⟨oc, od, .func fd, osl⟩ ∧ PySem.W.codeIn K cdv qual = true
  kp : PySem.W.keepIn K (.ref f) = true
section
variable {P : Program} {w : World} {K : PySem.W.Frag} {mg : Str → Option Value} {base : Heap}
theorem Fun.ok {x qual : Str} {st : Stmt} {f : Addr} {fd : FuncData} {N ps : List Str} {k : Nat} {sp : Sp} (F : Fun K x qual st f fd) (S : FnScope N ps (defScope st)) (len : ∀ vs H Q E, sp vs H Q E → vs.length = ps.length)
    (hbody : ∀ (cdv : Value) (A : Around) (outer : List Env) (s : Shared) (H : Hp) (vs : List V) (Q : VK) (E : XK), Room k (A.deeper (envOfC qual (defScope st) s.heap.objs.size f cdv)) → sp vs H Q E →
      ∃ t, PSs (cxOf CX0 P w K mg base N qual (defScope st) f cdv A outer s H E).nox (defBody st) t ∧ t { nx := fun _ H' => Q .non H', rt := Q } (start N vs) H) : FnOk P w K mg base CX0 (k + 1) f fd ps sp := by
  obtain ⟨oc, od, kV, doc, pm, an, cdv, ct, osl, rfl, lk, hcd⟩ := F.ex
  refine fn_of lk hcd S len fun A outer s H vs Q E hr hsp => ?_
  obtain ⟨t, h, q⟩ := hbody cdv A outer s H vs Q E hr hsp
  exact ⟨t, h.nox, q⟩
theorem Fun.binds {x qual : Str} {st : Stmt} {f : Addr} {fd : FuncData} {ps : List Str} (F : Fun K x qual st f fd)
    (h : ∀ (kV doc pm : Value) (an : Option Addr) (cdv ct : Value) (us : List Value), us.length = ps.length → bindArgs (PySem.W.fnOf x qual (defArgs st) (defBody st) (defScope st) .none kV doc pm an cdv ct) ⟨us, []⟩ = pure (ps.zip us)) : Binds K fd ps [] := by
  obtain ⟨oc, od, kV, doc, pm, an, cdv, ct, osl, rfl, lk, hcd⟩ := F.ex
  exact .all (h kV doc pm an cdv ct)
theorem fun_mk {x qual : Str} {st : Stmt} {f : Addr} {oc : Value} {od an : Option Addr} {osl : Array (Option Value)} {kV doc pm cdv ct : Value} (l : K.lookup f = some ⟨oc, od, .func (PySem.W.fnOf x qual (defArgs st) (defBody st) (defScope st) .none kV doc pm an cdv ct), osl⟩)
    (c : PySem.W.codeIn K cdv qual = true) (k : PySem.W.keepIn K (.ref f) = true) : Fun K x qual st f (PySem.W.fnOf x qual (defArgs st) (defBody st) (defScope st) .none kV doc pm an cdv ct) := ⟨⟨oc, od, kV, doc, pm, an, cdv, ct, osl, rfl, l, c⟩, k⟩
end
theorem hu_of {A : Around} {k : Nat} (hr : Room k A) : A.units + 1 < cLine := Nat.lt_of_le_of_lt (Nat.add_le_add_left (by decide : 1 ≤ 64) _) hr.units
section
variable {X : Cx}
end
noncomputable def Same (H H' : Hp) : Prop := ∀ b o, H b = some o → H' b = some o
theorem Same.refl (H : Hp) : Same H H := fun _ _ h => h
theorem Same.trans {H H1 H2 : Hp} (a : Same H H1) (b : Same H1 H2) : Same H H2 := fun c o h => b c o (a c o h)
theorem Same.free {H H' : Hp} (e : Same H H') {l : Addr} (h : H' l = Option.none) : H l = Option.none := by
  cases q : H l with
  | none => rfl
  | some o =>
    rw [e l o q] at h
    cases h
theorem Same.seq {K : PySem.W.Frag} {H H' : Hp} {a : Addr} {xs : List V} (e : Same H H') (h : SqL K H a xs) : SqL K H' a xs := by
  rcases h with (h | ⟨o, h⟩) | h
  · exact .inl (.inl (e _ _ h))
  · exact .inl (.inr ⟨o, e _ _ h⟩)
  · exact .inr h
end L2
namespace L2
open PySem PySem.Spec PyProof.Rows
section
variable {X : Cx}
end
section
variable {κ : Type} [DecidableEq κ]
end
end L2
namespace L2
open PySem PySem.Spec PyProof.Rows
section
variable {X : Cx}
noncomputable def CDivB (i j : Int) : Prop := 0 < j ∧ j.natAbs.log2 < 9000
theorem op_fdivB : OpR X (binaryOp .FloorDiv) (rI CDivB fun i j => .int (i / j)) := opI fun i j _ _ _ _ _ hc q => by
  have h1 : (0 : Int) < j := hc.1
  exact floordiv_int (by omega) (by rw [Int.fdiv_eq_ediv_of_nonneg i (by omega)]; exact q) (.inl (PyProof.noPylong_of_log2 hc.2))
theorem op_mulB : OpR X (binaryOp .Mult) (rI IntMulOk fun i j => .int (i * j)) := opI fun _ _ _ _ _ _ _ hc q => mul_int q hc
theorem CDivB.small {i j : Int} (h : 0 < j) (h2 : j < 1073741824) : CDivB i j := ⟨h, by
  have h3 : j.natAbs.log2 < 30 := (Nat.log2_lt (by omega)).mpr (by omega)
  omega⟩
end
theorem ite_dec {c A B : Prop} [Decidable c] (h1 : c → A) (h2 : ¬ c → B) : if decide c = true then A else B := by
  by_cases h : c
  · rw [if_pos (decide_eq_true h)]; exact h1 h
  · rw [if_neg (fun q => h (of_decide_eq_true q))]; exact h2 h
structure DefAt (K : PySem.W.Frag) (mg : Str → Option Value) (x : Str) (st : Stmt) (ps : List Str) (f : Addr) (fd : FuncData) : Prop where
  F : Fun K x x st f fd
  B : Binds K fd ps []
  M : mg x = some (.ref f)
theorem pe_callD {X : Cx} {k : Nat} {f : Addr} {fd : FuncData} {ps : List Str} {sp : Sp} {x : Str} {st : Stmt} {p pos : Pos} {e : Expr} {es : List Expr} {t : TA} (D : DefAt X.K X.mg x st ps f fd) (G : FnOk X.prog X.w X.K X.mg X.base CX0 k f fd ps sp) (hr : Room k X.A)
    (ha : PA X (e :: es) t) (hg : Gl X x := by rfl) (hdb : (x == ("__debug__" : Str)) = false := by decide) (he : starEach (e :: es) X.env = (false, eval e X.env) :: starEach es X.env := by rfl) (hpl : (backTo pos (starEach es X.env)).any (·.1) = false := by rfl) :
    PE X (.Call (.Name x p) (e :: es) [] pos) (tCall sp [] E0 t) := pe_call G hr hg D.M D.F.kp D.B .nil pass0 ha hdb he hpl
noncomputable def Ite (K : PySem.W.Frag) (a : Addr) : It :=
  ⟨fun i H => ∃ xs x, SqL K H a xs ∧ xs[i]? = some x,
   fun i H x H' => ∃ p y, x = .ref p ∧ H p = none ∧ H' = upd H p (.tup [.int i, y]) ∧ ∀ xs, SqL K H a xs → xs[i]? = some y,
   fun i H => ∃ xs, SqL K H a xs ∧ xs.length ≤ i⟩
theorem turn_enum {P : Program} {w : World} {K : PySem.W.Frag} {elts : List Expr} {k0 : Nat} {pos0 : Pos} (a e it : Addr) (hei : e ≠ it) :
    Turn P w K (.Tuple elts k0 pos0) (Ite K a) [e, it] e (fun i h => (∃ old, IsEnum h e it i old) ∧ h.IsListIter it a i) where
  mem := by simp
  obj := fun i h ⟨⟨old, he⟩, hit⟩ b hb => by
    rcases List.mem_cons.mp hb with rfl | hb
    · exact ⟨_, he, fun v z => by
        have z' : Data.fields _ = Data.cell v := z
        cases z'⟩
    · have e' : b = it := by simpa using hb
      subst e'
      obtain ⟨o, q, c, d⟩ := hit
      exact ⟨o, q, fun v z => by rw [d] at z; cases z⟩
  keep := fun i h h' ⟨⟨old, he⟩, hit⟩ k => ⟨⟨old, k e (by simp) _ he⟩, hit.at fun o q => k it (by simp) o q⟩
  item := by
    intro X hP hw hK hc i pins s σ H E I hf st hg
    subst hP hw hK
    obtain ⟨xs, x, hq, hx⟩ := hg
    obtain ⟨its, rv, p, hz⟩ := I.list hq
    obtain ⟨u, hu, ru⟩ := rv.get hx
    obtain ⟨⟨old, he⟩, hit⟩ := st
    obtain ⟨f0, f1, f2, f3, f4, f5⟩ := hf e (by simp)
    obtain ⟨g0, g1, g2, g3, g4, g5⟩ := hf it (by simp)
    refine wpAny_pyNext_enum_item he hit p.isList (x := u) (by simpa using hu) hei fun h1 ho hit1 hT hsz hk => ?_
    refine ⟨_, rfl, wpAny_letOwnedTupleGo_enum ho fun h2 he2 hs2 => ?_⟩
    replace hs2 : Heap.SameBut e h1 h2 := hs2
    have helt : e < s.heap.objs.size := Heap.lt_size he
    have hk2 : ∀ b o, b ≠ e → b ≠ it → s.heap.get? b = some o → h2.get? b = some o := fun b o b1 b2 q => (hs2.2 b b1).trans (hk b o b1 b2 q)
    have hT2 : h2.get? s.heap.objs.size = some { cls := .type "tuple", data := .seq #[.int i s.toks, u] } := (hs2.2 _ (Nat.ne_of_gt helt)).trans hT
    have hn : H s.heap.objs.size = none := I.hok.fresh (Nat.le_refl _)
    have nE : ∀ b v, H b = some v → b ≠ e := fun b v q z => by rw [z, f0] at q; cases q
    have nI : ∀ b v, H b = some v → b ≠ it := fun b v q z => by rw [z, g0] at q; cases q
    have ok2 : HOk X.prog X.w H h2 := fun b v q => (I.hok b v q).stay (fun c v' hc r => by
      rcases hc with z | z
      · exact hk2 c v' (by rw [z]; exact nE b v q) (by rw [z]; exact nI b v q) r
      · exact hk2 c v' (nE c _ z) (nI c _ z) r) (fun _ r => r) fun _ _ r => r
    have ok3 : HOk X.prog X.w (upd H s.heap.objs.size (.tup [.int i, x])) h2 := fun b v q => by
      by_cases hb : b = s.heap.objs.size
      · subst hb
        rw [upd_same] at q
        cases q
        exact ⟨by show 2 ≤ sizeLine; decide, [.int i s.toks, u], .cons ⟨_, rfl⟩ (.cons ru .nil), ⟨_, hT2, rfl, _, rfl⟩⟩
      · rw [upd_ne hb] at q
        exact (ok2 b v q).stay (fun c v' _ r => r) (fun c r => by rw [upd_ne (ne_of_none r hn)]; exact r) fun c ys r => by rw [upd_ne (ne_of_none r hn)]; exact r
    have nlt : ∀ {b : Addr} {o : Obj}, s.heap.get? b = some o → b ≠ s.heap.objs.size := fun q => Nat.ne_of_lt (Heap.lt_size q)
    have I2 : Inv X pins σ (upd H s.heap.objs.size (.tup [.int i, x])) { s with heap := h2, toks := s.toks + 1 } :=
      I.step (g' := s.gens) (d' := s.drawn) (ch := [e, it]) (fun b hb => by
          rcases List.mem_cons.mp hb with rfl | hb
          · exact ⟨f3, f1, f4, f5⟩
          · have e' : b = it := by simpa using hb
            subst e'
            exact ⟨g3, g1, g4, g5⟩)
        (fun b o _ _ hc q _ => hk2 b o (fun z => hc (by simp [z])) (fun z => hc (by simp [z])) q)
        (fun b o _ _ hc q _ => ⟨o.slots, hk2 b o (fun z => hc (by simp [z])) (fun z => hc (by simp [z])) q⟩)
        (fun b o _ q n => by rw [upd_ne (nlt q)]; exact n)
        (fun b o hc q => ⟨o, hk2 b o (fun z => hc (by simp [z])) (fun z => hc (by simp [z])) q⟩)
        (fun b ys q => by rw [upd_ne (ne_of_none q hn)]; exact q) (fun b o v q => by rw [upd_ne (ne_of_none q hn)]; exact q) (fun b ps q => ⟨#[], by rw [upd_ne (ne_of_none q hn), q]; simp⟩)
        (fun m ⟨o, es, ep, hm, r⟩ => ⟨o, es, ep, hk2 _ o (Ne.symm f1) (Ne.symm g1) hm, r⟩) ok3 I.bare
    refine ⟨.ref s.heap.objs.size, _, I2, rfl, ⟨_, x, rfl, hn, rfl, fun ys hy => by rw [I.list_inj hy hq]; exact hx⟩, ⟨⟨_, by simpa using he2⟩, hit1.at fun o y => (hs2.2 it hei.symm).trans y⟩, fun b hb => ?_⟩
    rcases List.mem_cons.mp hb with rfl | hb
    · rw [upd_ne (Nat.ne_of_lt helt)]; exact f0
    · have e' : b = it := by simpa using hb
      subst e'
      obtain ⟨o, q, _⟩ := hit
      rw [upd_ne (nlt q)]; exact g0
  done := by
    intro X hP hw hK hc i pins s σ H E I hf st hg
    subst hP hw hK
    obtain ⟨xs, hq, hx⟩ := hg
    obtain ⟨its, rv, p, hz⟩ := I.list hq
    obtain ⟨⟨old, he⟩, hit⟩ := st
    obtain ⟨g0, g1, g2, g3, g4, g5⟩ := hf it (by simp)
    have hl := rv.length
    exact wpAny_pyNext_enum_end (I.ok.hd hc) he hit p.isList (by simp; omega) fun h' eb => ⟨rfl, I.turned (t' := s.toks) (it := it) (fun b o hb q => eb b o hb q) g0 g1 g3 g4 g5⟩
  self := fun _ _ _ _ _ ⟨⟨_, he⟩, _⟩ h => wpAny_pyIter_enum he h
noncomputable def iEnum (K : PySem.W.Frag) (ta : TA) : TI := fun σ H R => ta σ H fun vs H1 => ∃ a, vs = [.ref a] ∧ (∃ xs, SqL K H1 a xs) ∧ R (Ite K a) H1
theorem pi_enum {X : Cx} {a : Expr} {ta : TA} {p pos pos0 : Pos} {elts : List Expr} {k0 : Nat} (hm : X.mg "enumerate" = none) (ha : PA X [a] ta) (hg : Gl X "enumerate" := by rfl) (hs : starEach [a] X.env = [(false, eval a X.env)] := by rfl) :
    PI X (.Tuple elts k0 pos0) (.Call (.Name "enumerate" p) [a] [] pos) (iEnum X.K ta) := by
  intro pins s σ H R I h
  refine Call_ (ld_blt I hg hm boot_enumerate (PyProof.Rows.callWith_type1 (thn (ha pos pins s σ H _ I h) fun us s1 hhx => ?_) hs rfl))
  obtain ⟨vs, H1, I1, r1, q1⟩ := hhx
  obtain ⟨l, e, ⟨xs, hq⟩, q⟩ := q1
  subst e
  cases r1 with
  | cons r rr =>
    cases rr
    cases r
    obtain ⟨its, rv, pl, hz⟩ := I1.list hq
    refine call_enumerate_list pl.isList fun h' he hit hsz hk => ?_
    refine wpAny_pyIter_enum he ?_
    have I2 : Inv X pins σ H1 { s1 with heap := h' } := I1.kept (t' := s1.toks) hk
    refine ⟨s1.heap.objs.size + 1, [s1.heap.objs.size + 1, s1.heap.objs.size], _, _, H1, rfl, I2, turn_enum l _ _ (Nat.succ_ne_self _), ⟨⟨_, he⟩, hit⟩, fun b hb => ?_, q⟩
    have hle : s1.heap.objs.size ≤ b := by
      rcases List.mem_cons.mp hb with rfl | hb
      · exact Nat.le_succ _
      · rw [List.mem_singleton.mp hb]; exact Nat.le_refl _
    exact I1.fpOk hle (I1.hok.fresh hle)
theorem for_enum {K : PySem.W.Frag} {a : Addr} {xs : List V} {g : TG} {tb : TS} {D : Ends} {σ : St} {H : Hp} (Pv : Nat → St → Hp → Prop) (h0 : Pv 0 σ H) (hl : ∀ i σ H, i ≤ xs.length → Pv i σ H → SqL K H a xs)
    (hs : ∀ (i : Nat) x σ H p, xs[i]? = some x → H p = none → Pv i σ H → g (.ref p) σ (upd H p (.tup [.int i, x])) fun σ2 H2 => tb { D with nx := Pv (i + 1), ct := Pv (i + 1), bk := D.nx } σ2 H2) (hd : ∀ σ H, Pv xs.length σ H → D.nx σ H) :
    ∃ W : Nat → Nat → St → Hp → Prop, (∃ m, W 0 m σ H) ∧ ∀ i m σ H, W i m σ H →
      ((Ite K a).stop i H ∧ D.nx σ H) ∨ ((Ite K a).go i H ∧ ∃ N : St → Hp → Prop, (∀ σ' H', N σ' H' → ∃ m', m' < m ∧ W (i + 1) m' σ' H') ∧ ∀ x H', (Ite K a).yld i H x H' → g x σ H' fun σ2 H2 => tb { D with nx := N, ct := N, bk := D.nx } σ2 H2) := by
  refine ⟨fun i m σ H => m = xs.length - i ∧ i ≤ xs.length ∧ Pv i σ H, ⟨xs.length, by simp, Nat.zero_le _, h0⟩, ?_⟩
  rintro i m σ H ⟨rfl, hi, p⟩
  have q := hl i σ H hi p
  by_cases hlt : i < xs.length
  · refine .inr ⟨⟨xs, xs[i], q, by simp [hlt]⟩, Pv (i + 1), fun σ' H' p' => ⟨xs.length - (i + 1), by omega, rfl, hlt, p'⟩, fun x H' y => ?_⟩
    obtain ⟨pp, z, ex, hn, eH, y⟩ := y
    subst ex eH
    exact hs i z σ H pp (y xs q) hn p
  · have e : i = xs.length := by omega
    subst e
    exact .inl ⟨⟨xs, q, Nat.le_refl _⟩, hd σ H p⟩
theorem bits_of_lay {ns : List Int} (h : PySem.W.WData.layableAll [PySem.W.WData.list (ns.map PySem.W.WData.int)] = true) : ∀ n ∈ ns, Builtin.Int.intBits n ≤ 2 ^ 20 := fun n hn => by
  have h1 := (PySem.W.layW_cons h).1
  have h2 := PySem.W.layableW_item h1 (PySem.W.WData.int n) (List.mem_map.mpr ⟨n, hn, rfl⟩)
  exact PyData.bits_of_layable (PySem.W.layable0_of_all (PySem.W.lay0_int h2))
section
open PySem.W PySem.Calls
theorem walk_ofL {l : PySem.W.OpenLaw} {n k : Nat} {q : Program} {loose : List Str} {XP : (Str → Option Value) → Heap → Prop} {YP : World → Heap → Prop} {d : DefRec} {K : Params → PySem.W.Frag} {CX : World → CXT} {sp : World → Sp} {x : Str}
    (hn : l.most = some n) (hn2 : n ≤ sizeLine) (hdf : d.params.defaults = []) (hr : Room k callerA)
    (hY : ∀ (w : World) (h : Heap), YP w h → (K w.params).In h)
    (F : ∀ (w : World) (mg : Str → Option Value) (fa : Addr) (h : Heap), (K w.params).In h → h.Ns mainGlobals mg → mg d.name = some (.ref fa) →
      ∃ fd : FuncData, (∀ (s : Shared) (u : Value), BindsTo s fd ⟨[u], []⟩ [(x, u)]) ∧
        ∀ base : Heap, (K w.params).In base → base.Ns mainGlobals mg → FnOk l.prog w (K w.params) mg base (CX w) k fa fd [x] (sp w))
    (hsp : ∀ (w : World) (H : Hp) (a : Addr) (ns : List Int), ns.length ≤ n → (∀ z ∈ ns, Builtin.Int.intBits z ≤ 2 ^ 20) → Only H → SqL (K w.params) H a (ns.map V.int) → sp w [.ref a] H (fun v _ => v = .bl true) fun _ _ _ => False)
    (hCX : ∀ (w : World) (H : Hp) (s : Shared) (e : Value) (s' : Shared), CX w [] H s (fun _ _ _ => False) e s' → False) :
    PySem.W.WalkO q loose XP YP l.row.toRowW d [] (fun f vs => PySem.call f vs) := by
  intro w s₀ s₁ mg mb G Y fa o pm cd doc dV kV ho hd hcd hD hmg hg args vals as hpre hlay hrd hwl hlo
  obtain rfl : dV = .none := Dflts.none hD hdf
  obtain rfl : kV = .none := Dflts.noKw hD
  obtain ⟨a, vs, ns, rfl, rfl, hobj, hints, hlen⟩ := Att.script_of hn hpre hwl
  have KX := hY w _ Y
  obtain ⟨fd, hb, hF⟩ := F w mg fa _ KX G.T.g hmg
  refine enter_call (codeAny_mono (law_call KX G.T.g G.T.b G.T.builtins G.T.nolimit hg hobj hints (Nat.le_trans hlen hn2) hr hF hb (fun H hO hS => hsp w H a ns hlen (bits_of_lay hlay) hO hS) fun H e s' => hCX w H s₁ e s') fun r s' hq => ?_)
  obtain ⟨rfl, h2, h3, h4⟩ := hq
  exact ⟨.inl ⟨.bool true, .bool true, [], rfl, fun _ => rfl, .bool true, Att.post_true l _, fun _ => ⟨List.Pairwise.nil, fun _ hm => (nomatch hm)⟩⟩, h2, h3, h4⟩
end
end L2
namespace L2
open PySem PySem.Spec PyProof.Rows
section
variable {H : Hp} {Q : VK} {σ : St} {D : Ends}
theorem r_g0 {v : V} {b : Option V} {r : St} {Z : St → Hp → Prop}  : gName 0 v (b :: r) H Z = Z (some v :: r) H := rfl
theorem r_g1 {v : V} {b : Option V} {r : St} {Z : St → Hp → Prop} {a0 : Option V} : gName 1 v (a0 :: b :: r) H Z = Z (a0 :: some v :: r) H := rfl
theorem r_g2 {v : V} {b : Option V} {r : St} {Z : St → Hp → Prop} {a0 : Option V} {a1 : Option V} : gName 2 v (a0 :: a1 :: b :: r) H Z = Z (a0 :: a1 :: some v :: r) H := rfl
theorem r_g3 {v : V} {b : Option V} {r : St} {Z : St → Hp → Prop} {a0 : Option V} {a1 : Option V} {a2 : Option V} : gName 3 v (a0 :: a1 :: a2 :: b :: r) H Z = Z (a0 :: a1 :: a2 :: some v :: r) H := rfl
theorem r_g4 {v : V} {b : Option V} {r : St} {Z : St → Hp → Prop} {a0 : Option V} {a1 : Option V} {a2 : Option V} {a3 : Option V} : gName 4 v (a0 :: a1 :: a2 :: a3 :: b :: r) H Z = Z (a0 :: a1 :: a2 :: a3 :: some v :: r) H := rfl
theorem r_g5 {v : V} {b : Option V} {r : St} {Z : St → Hp → Prop} {a0 : Option V} {a1 : Option V} {a2 : Option V} {a3 : Option V} {a4 : Option V} : gName 5 v (a0 :: a1 :: a2 :: a3 :: a4 :: b :: r) H Z = Z (a0 :: a1 :: a2 :: a3 :: a4 :: some v :: r) H := rfl
theorem r_g6 {v : V} {b : Option V} {r : St} {Z : St → Hp → Prop} {a0 : Option V} {a1 : Option V} {a2 : Option V} {a3 : Option V} {a4 : Option V} {a5 : Option V} : gName 6 v (a0 :: a1 :: a2 :: a3 :: a4 :: a5 :: b :: r) H Z = Z (a0 :: a1 :: a2 :: a3 :: a4 :: a5 :: some v :: r) H := rfl
theorem r_g7 {v : V} {b : Option V} {r : St} {Z : St → Hp → Prop} {a0 : Option V} {a1 : Option V} {a2 : Option V} {a3 : Option V} {a4 : Option V} {a5 : Option V} {a6 : Option V} : gName 7 v (a0 :: a1 :: a2 :: a3 :: a4 :: a5 :: a6 :: b :: r) H Z = Z (a0 :: a1 :: a2 :: a3 :: a4 :: a5 :: a6 :: some v :: r) H := rfl
theorem r_g8 {v : V} {b : Option V} {r : St} {Z : St → Hp → Prop} {a0 : Option V} {a1 : Option V} {a2 : Option V} {a3 : Option V} {a4 : Option V} {a5 : Option V} {a6 : Option V} {a7 : Option V} : gName 8 v (a0 :: a1 :: a2 :: a3 :: a4 :: a5 :: a6 :: a7 :: b :: r) H Z = Z (a0 :: a1 :: a2 :: a3 :: a4 :: a5 :: a6 :: a7 :: some v :: r) H := rfl
theorem r_g9 {v : V} {b : Option V} {r : St} {Z : St → Hp → Prop} {a0 : Option V} {a1 : Option V} {a2 : Option V} {a3 : Option V} {a4 : Option V} {a5 : Option V} {a6 : Option V} {a7 : Option V} {a8 : Option V} : gName 9 v (a0 :: a1 :: a2 :: a3 :: a4 :: a5 :: a6 :: a7 :: a8 :: b :: r) H Z = Z (a0 :: a1 :: a2 :: a3 :: a4 :: a5 :: a6 :: a7 :: a8 :: some v :: r) H := rfl
theorem r_g10 {v : V} {b : Option V} {r : St} {Z : St → Hp → Prop} {a0 : Option V} {a1 : Option V} {a2 : Option V} {a3 : Option V} {a4 : Option V} {a5 : Option V} {a6 : Option V} {a7 : Option V} {a8 : Option V} {a9 : Option V} : gName 10 v (a0 :: a1 :: a2 :: a3 :: a4 :: a5 :: a6 :: a7 :: a8 :: a9 :: b :: r) H Z = Z (a0 :: a1 :: a2 :: a3 :: a4 :: a5 :: a6 :: a7 :: a8 :: a9 :: some v :: r) H := rfl
theorem r_g11 {v : V} {b : Option V} {r : St} {Z : St → Hp → Prop} {a0 : Option V} {a1 : Option V} {a2 : Option V} {a3 : Option V} {a4 : Option V} {a5 : Option V} {a6 : Option V} {a7 : Option V} {a8 : Option V} {a9 : Option V} {a10 : Option V} : gName 11 v (a0 :: a1 :: a2 :: a3 :: a4 :: a5 :: a6 :: a7 :: a8 :: a9 :: a10 :: b :: r) H Z = Z (a0 :: a1 :: a2 :: a3 :: a4 :: a5 :: a6 :: a7 :: a8 :: a9 :: a10 :: some v :: r) H := rfl
theorem r_g12 {v : V} {b : Option V} {r : St} {Z : St → Hp → Prop} {a0 : Option V} {a1 : Option V} {a2 : Option V} {a3 : Option V} {a4 : Option V} {a5 : Option V} {a6 : Option V} {a7 : Option V} {a8 : Option V} {a9 : Option V} {a10 : Option V} {a11 : Option V} : gName 12 v (a0 :: a1 :: a2 :: a3 :: a4 :: a5 :: a6 :: a7 :: a8 :: a9 :: a10 :: a11 :: b :: r) H Z = Z (a0 :: a1 :: a2 :: a3 :: a4 :: a5 :: a6 :: a7 :: a8 :: a9 :: a10 :: a11 :: some v :: r) H := rfl
theorem r_g13 {v : V} {b : Option V} {r : St} {Z : St → Hp → Prop} {a0 : Option V} {a1 : Option V} {a2 : Option V} {a3 : Option V} {a4 : Option V} {a5 : Option V} {a6 : Option V} {a7 : Option V} {a8 : Option V} {a9 : Option V} {a10 : Option V} {a11 : Option V} {a12 : Option V} : gName 13 v (a0 :: a1 :: a2 :: a3 :: a4 :: a5 :: a6 :: a7 :: a8 :: a9 :: a10 :: a11 :: a12 :: b :: r) H Z = Z (a0 :: a1 :: a2 :: a3 :: a4 :: a5 :: a6 :: a7 :: a8 :: a9 :: a10 :: a11 :: a12 :: some v :: r) H := rfl
theorem r_g14 {v : V} {b : Option V} {r : St} {Z : St → Hp → Prop} {a0 : Option V} {a1 : Option V} {a2 : Option V} {a3 : Option V} {a4 : Option V} {a5 : Option V} {a6 : Option V} {a7 : Option V} {a8 : Option V} {a9 : Option V} {a10 : Option V} {a11 : Option V} {a12 : Option V} {a13 : Option V} : gName 14 v (a0 :: a1 :: a2 :: a3 :: a4 :: a5 :: a6 :: a7 :: a8 :: a9 :: a10 :: a11 :: a12 :: a13 :: b :: r) H Z = Z (a0 :: a1 :: a2 :: a3 :: a4 :: a5 :: a6 :: a7 :: a8 :: a9 :: a10 :: a11 :: a12 :: a13 :: some v :: r) H := rfl
theorem r_g15 {v : V} {b : Option V} {r : St} {Z : St → Hp → Prop} {a0 : Option V} {a1 : Option V} {a2 : Option V} {a3 : Option V} {a4 : Option V} {a5 : Option V} {a6 : Option V} {a7 : Option V} {a8 : Option V} {a9 : Option V} {a10 : Option V} {a11 : Option V} {a12 : Option V} {a13 : Option V} {a14 : Option V} : gName 15 v (a0 :: a1 :: a2 :: a3 :: a4 :: a5 :: a6 :: a7 :: a8 :: a9 :: a10 :: a11 :: a12 :: a13 :: a14 :: b :: r) H Z = Z (a0 :: a1 :: a2 :: a3 :: a4 :: a5 :: a6 :: a7 :: a8 :: a9 :: a10 :: a11 :: a12 :: a13 :: a14 :: some v :: r) H := rfl
theorem r_g16 {v : V} {b : Option V} {r : St} {Z : St → Hp → Prop} {a0 : Option V} {a1 : Option V} {a2 : Option V} {a3 : Option V} {a4 : Option V} {a5 : Option V} {a6 : Option V} {a7 : Option V} {a8 : Option V} {a9 : Option V} {a10 : Option V} {a11 : Option V} {a12 : Option V} {a13 : Option V} {a14 : Option V} {a15 : Option V} : gName 16 v (a0 :: a1 :: a2 :: a3 :: a4 :: a5 :: a6 :: a7 :: a8 :: a9 :: a10 :: a11 :: a12 :: a13 :: a14 :: a15 :: b :: r) H Z = Z (a0 :: a1 :: a2 :: a3 :: a4 :: a5 :: a6 :: a7 :: a8 :: a9 :: a10 :: a11 :: a12 :: a13 :: a14 :: a15 :: some v :: r) H := rfl
theorem r_g17 {v : V} {b : Option V} {r : St} {Z : St → Hp → Prop} {a0 : Option V} {a1 : Option V} {a2 : Option V} {a3 : Option V} {a4 : Option V} {a5 : Option V} {a6 : Option V} {a7 : Option V} {a8 : Option V} {a9 : Option V} {a10 : Option V} {a11 : Option V} {a12 : Option V} {a13 : Option V} {a14 : Option V} {a15 : Option V} {a16 : Option V} : gName 17 v (a0 :: a1 :: a2 :: a3 :: a4 :: a5 :: a6 :: a7 :: a8 :: a9 :: a10 :: a11 :: a12 :: a13 :: a14 :: a15 :: a16 :: b :: r) H Z = Z (a0 :: a1 :: a2 :: a3 :: a4 :: a5 :: a6 :: a7 :: a8 :: a9 :: a10 :: a11 :: a12 :: a13 :: a14 :: a15 :: a16 :: some v :: r) H := rfl
theorem r_g18 {v : V} {b : Option V} {r : St} {Z : St → Hp → Prop} {a0 : Option V} {a1 : Option V} {a2 : Option V} {a3 : Option V} {a4 : Option V} {a5 : Option V} {a6 : Option V} {a7 : Option V} {a8 : Option V} {a9 : Option V} {a10 : Option V} {a11 : Option V} {a12 : Option V} {a13 : Option V} {a14 : Option V} {a15 : Option V} {a16 : Option V} {a17 : Option V} : gName 18 v (a0 :: a1 :: a2 :: a3 :: a4 :: a5 :: a6 :: a7 :: a8 :: a9 :: a10 :: a11 :: a12 :: a13 :: a14 :: a15 :: a16 :: a17 :: b :: r) H Z = Z (a0 :: a1 :: a2 :: a3 :: a4 :: a5 :: a6 :: a7 :: a8 :: a9 :: a10 :: a11 :: a12 :: a13 :: a14 :: a15 :: a16 :: a17 :: some v :: r) H := rfl
theorem r_g19 {v : V} {b : Option V} {r : St} {Z : St → Hp → Prop} {a0 : Option V} {a1 : Option V} {a2 : Option V} {a3 : Option V} {a4 : Option V} {a5 : Option V} {a6 : Option V} {a7 : Option V} {a8 : Option V} {a9 : Option V} {a10 : Option V} {a11 : Option V} {a12 : Option V} {a13 : Option V} {a14 : Option V} {a15 : Option V} {a16 : Option V} {a17 : Option V} {a18 : Option V} : gName 19 v (a0 :: a1 :: a2 :: a3 :: a4 :: a5 :: a6 :: a7 :: a8 :: a9 :: a10 :: a11 :: a12 :: a13 :: a14 :: a15 :: a16 :: a17 :: a18 :: b :: r) H Z = Z (a0 :: a1 :: a2 :: a3 :: a4 :: a5 :: a6 :: a7 :: a8 :: a9 :: a10 :: a11 :: a12 :: a13 :: a14 :: a15 :: a16 :: a17 :: a18 :: some v :: r) H := rfl
theorem r_g20 {v : V} {b : Option V} {r : St} {Z : St → Hp → Prop} {a0 : Option V} {a1 : Option V} {a2 : Option V} {a3 : Option V} {a4 : Option V} {a5 : Option V} {a6 : Option V} {a7 : Option V} {a8 : Option V} {a9 : Option V} {a10 : Option V} {a11 : Option V} {a12 : Option V} {a13 : Option V} {a14 : Option V} {a15 : Option V} {a16 : Option V} {a17 : Option V} {a18 : Option V} {a19 : Option V} : gName 20 v (a0 :: a1 :: a2 :: a3 :: a4 :: a5 :: a6 :: a7 :: a8 :: a9 :: a10 :: a11 :: a12 :: a13 :: a14 :: a15 :: a16 :: a17 :: a18 :: a19 :: b :: r) H Z = Z (a0 :: a1 :: a2 :: a3 :: a4 :: a5 :: a6 :: a7 :: a8 :: a9 :: a10 :: a11 :: a12 :: a13 :: a14 :: a15 :: a16 :: a17 :: a18 :: a19 :: some v :: r) H := rfl
theorem r_g21 {v : V} {b : Option V} {r : St} {Z : St → Hp → Prop} {a0 : Option V} {a1 : Option V} {a2 : Option V} {a3 : Option V} {a4 : Option V} {a5 : Option V} {a6 : Option V} {a7 : Option V} {a8 : Option V} {a9 : Option V} {a10 : Option V} {a11 : Option V} {a12 : Option V} {a13 : Option V} {a14 : Option V} {a15 : Option V} {a16 : Option V} {a17 : Option V} {a18 : Option V} {a19 : Option V} {a20 : Option V} : gName 21 v (a0 :: a1 :: a2 :: a3 :: a4 :: a5 :: a6 :: a7 :: a8 :: a9 :: a10 :: a11 :: a12 :: a13 :: a14 :: a15 :: a16 :: a17 :: a18 :: a19 :: a20 :: b :: r) H Z = Z (a0 :: a1 :: a2 :: a3 :: a4 :: a5 :: a6 :: a7 :: a8 :: a9 :: a10 :: a11 :: a12 :: a13 :: a14 :: a15 :: a16 :: a17 :: a18 :: a19 :: a20 :: some v :: r) H := rfl
theorem r_g22 {v : V} {b : Option V} {r : St} {Z : St → Hp → Prop} {a0 : Option V} {a1 : Option V} {a2 : Option V} {a3 : Option V} {a4 : Option V} {a5 : Option V} {a6 : Option V} {a7 : Option V} {a8 : Option V} {a9 : Option V} {a10 : Option V} {a11 : Option V} {a12 : Option V} {a13 : Option V} {a14 : Option V} {a15 : Option V} {a16 : Option V} {a17 : Option V} {a18 : Option V} {a19 : Option V} {a20 : Option V} {a21 : Option V} : gName 22 v (a0 :: a1 :: a2 :: a3 :: a4 :: a5 :: a6 :: a7 :: a8 :: a9 :: a10 :: a11 :: a12 :: a13 :: a14 :: a15 :: a16 :: a17 :: a18 :: a19 :: a20 :: a21 :: b :: r) H Z = Z (a0 :: a1 :: a2 :: a3 :: a4 :: a5 :: a6 :: a7 :: a8 :: a9 :: a10 :: a11 :: a12 :: a13 :: a14 :: a15 :: a16 :: a17 :: a18 :: a19 :: a20 :: a21 :: some v :: r) H := rfl
theorem r_g23 {v : V} {b : Option V} {r : St} {Z : St → Hp → Prop} {a0 : Option V} {a1 : Option V} {a2 : Option V} {a3 : Option V} {a4 : Option V} {a5 : Option V} {a6 : Option V} {a7 : Option V} {a8 : Option V} {a9 : Option V} {a10 : Option V} {a11 : Option V} {a12 : Option V} {a13 : Option V} {a14 : Option V} {a15 : Option V} {a16 : Option V} {a17 : Option V} {a18 : Option V} {a19 : Option V} {a20 : Option V} {a21 : Option V} {a22 : Option V} : gName 23 v (a0 :: a1 :: a2 :: a3 :: a4 :: a5 :: a6 :: a7 :: a8 :: a9 :: a10 :: a11 :: a12 :: a13 :: a14 :: a15 :: a16 :: a17 :: a18 :: a19 :: a20 :: a21 :: a22 :: b :: r) H Z = Z (a0 :: a1 :: a2 :: a3 :: a4 :: a5 :: a6 :: a7 :: a8 :: a9 :: a10 :: a11 :: a12 :: a13 :: a14 :: a15 :: a16 :: a17 :: a18 :: a19 :: a20 :: a21 :: a22 :: some v :: r) H := rfl
theorem r_c {v : V} : tC v σ H Q = Q v H := rfl
theorem r_op {r : R2} {ta tb : TE} : tOp r ta tb σ H Q = ta σ H fun x H1 => tb σ H1 fun y H2 => r x y H2 Q := rfl
theorem r_un {r : V → Hp → VK → Prop} {ta : TE} : tUn r ta σ H Q = ta σ H fun x H1 => r x H1 Q := rfl
theorem decq_int {i j : Int} : decide (V.int i = V.int j) = decide (i = j) := by
  by_cases h : i = j
  · rw [decide_eq_true h, decide_eq_true (congrArg V.int h)]
  · rw [decide_eq_false h, decide_eq_false fun q => h (V.int.inj q)]
theorem decq_str {i j : Str} : decide (V.str i = V.str j) = decide (i = j) := by
  by_cases h : i = j
  · rw [decide_eq_true h, decide_eq_true (congrArg V.str h)]
  · rw [decide_eq_false h, decide_eq_false fun q => h (V.str.inj q)]
theorem r_eqI {i j : Int} : rEq (.int i) (.int j) H Q = Q (.bl (decide (i = j))) H := by
  show (scal (.int i) (.int j) = true ∧ Q (.bl (decide (V.int i = V.int j))) H) = _
  rw [decq_int]; exact propext ⟨fun h => h.2, fun h => ⟨rfl, h⟩⟩
theorem r_eqS {i j : Str} : rEq (.str i) (.str j) H Q = Q (.bl (decide (i = j))) H := by
  show (scal (.str i) (.str j) = true ∧ Q (.bl (decide (V.str i = V.str j))) H) = _
  rw [decq_str]; exact propext ⟨fun h => h.2, fun h => ⟨rfl, h⟩⟩
theorem r_neI {i j : Int} : rNe (.int i) (.int j) H Q = Q (.bl (!decide (i = j))) H := by
  show (scal (.int i) (.int j) = true ∧ Q (.bl (!decide (V.int i = V.int j))) H) = _
  rw [decq_int]; exact propext ⟨fun h => h.2, fun h => ⟨rfl, h⟩⟩
theorem r_exbl {c : Bool} {Z : Bool → Prop} : (∃ k, V.bl c = V.bl k ∧ Z k) = Z c := propext ⟨by rintro ⟨_, e, q⟩; cases e; exact q, by intro q; exact ⟨c, rfl, q⟩⟩
theorem r_exint {c : Int} {Z : Int → Prop} : (∃ k, V.int c = V.int k ∧ Z k) = Z c := propext ⟨by rintro ⟨_, e, q⟩; cases e; exact q, by intro q; exact ⟨c, rfl, q⟩⟩
theorem r_test {t : TE} {Z : Bool → Hp → Prop} : tTest t σ H Z = t σ H fun x H' => ∃ k, x = .bl k ∧ Z k H' := rfl
theorem r_B {t : TE} {Z : Bool → Hp → Prop} : tB t σ H Z = t σ H fun x H' => ∃ k, x = .bl k ∧ Z k H' := rfl
theorem r_and {t u : TT} {Z : Bool → Hp → Prop} : tAnd t u σ H Z = t σ H fun c H1 => if c = true then u σ H1 Z else Z false H1 := rfl
theorem r_or {t u : TT} {Z : Bool → Hp → Prop} : tOr t u σ H Z = t σ H fun c H1 => if c = true then Z true H1 else u σ H1 Z := rfl
theorem r_not {t : TT} {Z : Bool → Hp → Prop} : tNot t σ H Z = t σ H fun c H1 => Z (!c) H1 := rfl
theorem r_andV {ta tb : TE} : tAndV ta tb σ H Q = ta σ H fun x H1 => ∃ c, x = .bl c ∧ if c = true then tb σ H1 Q else Q (.bl false) H1 := rfl
theorem r_orV {ta tb : TE} : tOrV ta tb σ H Q = ta σ H fun x H1 => ∃ c, x = .bl c ∧ if c = true then Q (.bl true) H1 else tb σ H1 Q := rfl
theorem r_notV {ta : TE} : tNotV ta σ H Q = ta σ H fun x H1 => ∃ c, x = .bl c ∧ Q (.bl (!c)) H1 := rfl
theorem r_if {t : TT} {ta tb : TE} : tIf t ta tb σ H Q = t σ H fun c H1 => if c = true then ta σ H1 Q else tb σ H1 Q := rfl
theorem r_next : tNext D σ H = D.nx σ H := rfl
theorem r_seq {t u : TS} : tSeq t u D σ H = t { D with nx := u D } σ H := rfl
theorem r_brk : tBreak D σ H = D.bk σ H := rfl
theorem r_cont : tCont D σ H = D.ct σ H := rfl
theorem r_drop {te : TE} : tDrop te D σ H = te σ H fun _ H1 => D.nx σ H1 := rfl
theorem r_ret {te : TE} : tRet te D σ H = te σ H D.rt := rfl
theorem r_retN : tRetN D σ H = D.rt .non H := rfl
theorem r_ifS {c : TT} {t u : TS} : tIfS c t u D σ H = c σ H fun b H1 => if b = true then t D σ H1 else u D σ H1 := rfl
theorem r_asg {te : TE} {g : TG} : tAsg te g D σ H = te σ H fun x H1 => g x σ H1 D.nx := rfl
theorem r_CB {r : List V → Hp → VK → Prop} {t : TA} : tCB r t σ H Q = t σ H fun vs H1 => r vs H1 Q := rfl
theorem r_nil {Z : List V → Hp → Prop} : tNil σ H Z = Z [] H := rfl
theorem r_cons {ta : TE} {tr : TA} {Z : List V → Hp → Prop} : tCons ta tr σ H Z = ta σ H fun x H1 => tr σ H1 fun xs H2 => Z (x :: xs) H2 := rfl
theorem r_call {sp : Sp} {E : XK} {t : TA} : tCall sp [] E t σ H Q = t σ H fun vs H1 => sp vs H1 Q E := by
  show (t σ H fun vs H1 => sp (vs ++ []) H1 Q E) = _
  simp only [List.append_nil]
theorem r_tup {t : TA} : tTup t σ H Q = t σ H fun xs H1 => xs.length ≤ sizeLine ∧ ∀ p, H1 p = none → Q (.ref p) (upd H1 p (.tup xs)) := rfl
theorem r_lst {t : TA} : tLst t σ H Q = t σ H fun xs H1 => xs.length ≤ sizeLine ∧ ∀ p, H1 p = none → Q (.ref p) (upd H1 p (.lst xs)) := rfl
theorem r_p0 {Z : List (V × V) → Hp → Prop} : tPairs [] σ H Z = Z [] H := rfl
theorem r_pS {tk tv : TE} {r : List (TE × TE)} {Z : List (V × V) → Hp → Prop} : tPairs ((tk, tv) :: r) σ H Z = tk σ H fun x H1 => tv σ H1 fun y H2 => tPairs r σ H2 fun ps H3 => Z ((x, y) :: ps) H3 := rfl
theorem r_disp {trs : List (TE × TE)} : tDisp trs σ H Q = ∀ p, H p = none → tPairs trs σ (upd H p (.dK [])) fun ps H2 => H2 p = some (.dK []) ∧ ∃ kvs : List (Key × V), ps = kvs.map (fun kv => (kV kv.1, kv.2)) ∧ kvs.length ≤ 15 ∧ Q (.ref p) (upd H2 p (.dK (mergeK [] kvs))) := rfl
theorem r_dget {td ty : TE} : tDGet td ty σ H Q = td σ H fun x H1 => ty σ H1 fun y H2 => ∃ a v, x = .ref a ∧ DGet H2 a y (some v) ∧ Q v H2 := rfl
theorem r_sl {r : V → Option Int → Option Int → Hp → VK → Prop} {te : TE} {tl th : TO} : tSl r te tl th σ H Q = te σ H fun x H1 => tl σ H1 fun l H2 => th σ H2 fun u H3 => r x l u H3 Q := rfl
theorem r_noPart {Z : Option Int → Hp → Prop} : tNoPart σ H Z = Z none H := rfl
theorem r_part {te : TE} {Z : Option Int → Hp → Prop} : tPart te σ H Z = te σ H fun x H1 => ∃ i, x = .int i ∧ Z (some i) H1 := rfl
theorem r_gNil {Z : St → Hp → Prop} : gNil [] σ H Z = Z σ H := propext ⟨fun h => h.2, fun h => ⟨rfl, h⟩⟩
theorem r_gCons {t : TG} {u : TGs} {v : V} {r : List V} {Z : St → Hp → Prop} : gCons t u (v :: r) σ H Z = t v σ H fun σ' H' => u r σ' H' Z := propext ⟨by rintro ⟨_, _, e, q⟩; cases e; exact q, by intro q; exact ⟨v, r, rfl, q⟩⟩
theorem r_itF {A B : Prop} : (if false = true then A else B) = B := if_neg Bool.false_ne_true
theorem r_nT : (!true) = false := rfl
theorem r_nF : (!false) = true := rfl
theorem r_len0 : (([] : List V).length ≤ sizeLine) = True := eq_true (by show 0 ≤ sizeLine; decide)
theorem r_len1 {a0 : V} : (([a0] : List V).length ≤ sizeLine) = True := eq_true (by show 1 ≤ sizeLine; decide)
theorem r_len2 {a0 a1 : V} : (([a0, a1] : List V).length ≤ sizeLine) = True := eq_true (by show 2 ≤ sizeLine; decide)
theorem r_len3 {a0 a1 a2 : V} : (([a0, a1, a2] : List V).length ≤ sizeLine) = True := eq_true (by show 3 ≤ sizeLine; decide)
theorem r_len4 {a0 a1 a2 a3 : V} : (([a0, a1, a2, a3] : List V).length ≤ sizeLine) = True := eq_true (by show 4 ≤ sizeLine; decide)
theorem r_len7 {a0 a1 a2 a3 a4 a5 a6 : V} : (([a0, a1, a2, a3, a4, a5, a6] : List V).length ≤ sizeLine) = True := eq_true (by show 7 ≤ sizeLine; decide)
theorem r_len8 {a0 a1 a2 a3 a4 a5 a6 a7 : V} : (([a0, a1, a2, a3, a4, a5, a6, a7] : List V).length ≤ sizeLine) = True := eq_true (by show 8 ≤ sizeLine; decide)
end
noncomputable def ForW (J : It) (g : TG) (tb : TS) (D : Ends) (σ : St) (H1 : Hp) : Prop := ∃ W : Nat → Nat → St → Hp → Prop, (∃ m, W 0 m σ H1) ∧ ∀ i m σ H, W i m σ H →
  (J.stop i H ∧ D.nx σ H) ∨ (J.go i H ∧ ∃ N : St → Hp → Prop, (∀ σ' H', N σ' H' → ∃ m', m' < m ∧ W (i + 1) m' σ' H') ∧ ∀ x H', J.yld i H x H' → g x σ H' fun σ2 H2 => tb { D with nx := N, ct := N, bk := D.nx } σ2 H2)
section
variable {g : TG} {tb : TS} {D : Ends} {σ : St} {H : Hp}
theorem r_for {wi : TI} : tFor wi g tb D σ H = wi σ H fun J H1 => ForW J g tb D σ H1 := rfl
theorem r_iEnum {K : PySem.W.Frag} {ta : TA} {R : It → Hp → Prop} : iEnum K ta σ H R = ta σ H fun vs H1 => ∃ a, vs = [.ref a] ∧ (∃ xs, SqL K H1 a xs) ∧ R (Ite K a) H1 := rfl
theorem r_iList {K : PySem.W.Frag} {tl : TE} {R : It → Hp → Prop} : iList K tl σ H R = tl σ H fun x H1 => ∃ a, x = .ref a ∧ (∃ xs, SqL K H1 a xs) ∧ R (Itl K a) H1 := rfl
theorem r_iTup {K : PySem.W.Frag} {tl : TE} {R : It → Hp → Prop} : iTup K tl σ H R = tl σ H fun x H1 => ∃ a, x = .ref a ∧ (∃ xs, SqT K H1 a xs) ∧ R (Itt K a) H1 := rfl
theorem r_iRng1 {ta : TA} {R : It → Hp → Prop} : iRng1 ta σ H R = ta σ H fun vs H1 => ∃ j : Int, vs = [.int j] ∧ -(2 ^ 62) ≤ j ∧ j < 2 ^ 62 ∧ R (Itr 0 j.toNat) H1 := rfl
theorem r_iRng2 {ta : TA} {R : It → Hp → Prop} : iRng2 ta σ H R = ta σ H fun vs H1 => ∃ i j : Int, vs = [.int i, .int j] ∧ (-(2 ^ 62) ≤ i ∧ i < 2 ^ 62 ∧ -(2 ^ 62) ≤ j ∧ j < 2 ^ 62) ∧ R (Itr i (j - i).toNat) H1 := rfl
theorem r_exI1 {c : Int} {Z : Int → Prop} : (∃ k, [V.int c] = [V.int k] ∧ Z k) = Z c := propext ⟨by rintro ⟨_, e, q⟩; cases e; exact q, by intro q; exact ⟨c, rfl, q⟩⟩
theorem r_exI2 {c d : Int} {Z : Int → Int → Prop} : (∃ k l, [V.int c, V.int d] = [V.int k, V.int l] ∧ Z k l) = Z c d := propext ⟨by rintro ⟨_, _, e, q⟩; cases e; exact q, by intro q; exact ⟨c, d, rfl, q⟩⟩
theorem r_exR1 {c : Addr} {Z : Addr → Prop} : (∃ k, [V.ref c] = [V.ref k] ∧ Z k) = Z c := propext ⟨by rintro ⟨_, e, q⟩; cases e; exact q, by intro q; exact ⟨c, rfl, q⟩⟩
theorem r_exR {c : Addr} {Z : Addr → Prop} : (∃ k, V.ref c = V.ref k ∧ Z k) = Z c := propext ⟨by rintro ⟨_, e, q⟩; cases e; exact q, by intro q; exact ⟨c, rfl, q⟩⟩
theorem fw_range {lo : Int} {n : Nat} (Pv : Nat → St → Hp → Prop) (h0 : Pv 0 σ H)
    (hs : ∀ (i : Nat) σ H, i < n → Pv i σ H → g (.int (lo + i)) σ H fun σ2 H2 => tb { D with nx := Pv (i + 1), ct := Pv (i + 1), bk := D.nx } σ2 H2) (hd : ∀ σ H, Pv n σ H → D.nx σ H) : ForW (Itr lo n) g tb D σ H := for_range Pv h0 hs hd
theorem fw_range0 {n : Nat} (Pv : Nat → St → Hp → Prop) (h0 : Pv 0 σ H)
    (hs : ∀ (i : Nat) σ H, i < n → Pv i σ H → g (.int (i : Int)) σ H fun σ2 H2 => tb { D with nx := Pv (i + 1), ct := Pv (i + 1), bk := D.nx } σ2 H2) (hd : ∀ σ H, Pv n σ H → D.nx σ H) : ForW (Itr 0 n) g tb D σ H :=
  fw_range Pv h0 (fun i σ H hi p => by rw [Int.zero_add]; exact hs i σ H hi p) hd
theorem fw_enum {K : PySem.W.Frag} {a : Addr} {xs : List V} (Pv : Nat → St → Hp → Prop) (h0 : Pv 0 σ H) (hl : ∀ i σ H, i ≤ xs.length → Pv i σ H → SqL K H a xs)
    (hs : ∀ (i : Nat) x σ H p, xs[i]? = some x → H p = none → Pv i σ H → g (.ref p) σ (upd H p (.tup [.int i, x])) fun σ2 H2 => tb { D with nx := Pv (i + 1), ct := Pv (i + 1), bk := D.nx } σ2 H2) (hd : ∀ σ H, Pv xs.length σ H → D.nx σ H) : ForW (Ite K a) g tb D σ H := for_enum Pv h0 hl hs hd
theorem fw_list {K : PySem.W.Frag} {a : Addr} {xs : List V} (Pv : Nat → St → Hp → Prop) (h0 : Pv 0 σ H) (hl : ∀ i σ H, i ≤ xs.length → Pv i σ H → SqL K H a xs)
    (hs : ∀ (i : Nat) x σ H, xs[i]? = some x → Pv i σ H → g x σ H fun σ2 H2 => tb { D with nx := Pv (i + 1), ct := Pv (i + 1), bk := D.nx } σ2 H2) (hd : ∀ σ H, Pv xs.length σ H → D.nx σ H) : ForW (Itl K a) g tb D σ H := for_list Pv h0 hl hs hd
theorem Same.upd {H : Hp} {p : Addr} {o : HO} (h : H p = none) : Same H (upd H p o) := fun b u e => by rw [upd_ne (ne_of_none e h)]; exact e
theorem Same.seqT {K : PySem.W.Frag} {H H' : Hp} {a : Addr} {xs : List V} (e : Same H H') (h : SqT K H a xs) : SqT K H' a xs := by
  rcases h with (h | ⟨o, h⟩) | h
  · exact .inl (.inl (e _ _ h))
  · exact .inl (.inr ⟨o, e _ _ h⟩)
  · exact .inr h
end
section
variable {H : Hp} {Q : VK} {σ : St} {D : Ends} {K : PySem.W.Frag}
theorem r_bm {T : String} {r : V → List V → Hp → VK → Prop} {to : TE} {t : TA} : tBM K T r to t σ H Q = to σ H fun x H1 => tyV K T x H1 ∧ t σ H1 fun xs H2 => r x xs H2 Q := rfl
theorem r_bm0 {T : String} {r : V → List V → Hp → VK → Prop} {to : TE} : tBM0 K T r to σ H Q = to σ H fun x H1 => tyV K T x H1 ∧ r x [] H1 Q := rfl
theorem r_ixS {z : Str} {i : Int} : rIxS (.str z) (.int i) H Q = (z.length ≤ sizeLine ∧ ∃ c, atI z.cps.toList i = some c ∧ Q (.str ⟨#[c]⟩) H) := propext ⟨by rintro ⟨_, _, c, e1, e2, h1, h2, q⟩; cases e1; cases e2; exact ⟨h1, c, h2, q⟩, by rintro ⟨h1, c, h2, q⟩; exact ⟨_, _, c, rfl, rfl, h1, h2, q⟩⟩
theorem r_ixL {p : Addr} {i : Int} : rIxL K (.ref p) (.int i) H Q = ∃ xs v, SqL K H p xs ∧ atI xs i = some v ∧ Q v H := propext ⟨by rintro ⟨_, xs, _, v, e1, e2, h1, h2, q⟩; cases e1; cases e2; exact ⟨xs, v, h1, h2, q⟩, by rintro ⟨xs, v, h1, h2, q⟩; exact ⟨_, xs, _, v, rfl, rfl, h1, h2, q⟩⟩
theorem r_ixT {p : Addr} {i : Int} : rIxT K (.ref p) (.int i) H Q = ∃ xs v, SqT K H p xs ∧ atI xs i = some v ∧ Q v H := propext ⟨by rintro ⟨_, xs, _, v, e1, e2, h1, h2, q⟩; cases e1; cases e2; exact ⟨xs, v, h1, h2, q⟩, by rintro ⟨xs, v, h1, h2, q⟩; exact ⟨_, xs, _, v, rfl, rfl, h1, h2, q⟩⟩
theorem r_cat {a b : Addr} : rCat (.ref a) (.ref b) H Q = ∃ xs zs, H a = some (.lst xs) ∧ H b = some (.lst zs) ∧ xs.length + zs.length ≤ sizeLine ∧ ∀ p, H p = none → Q (.ref p) (upd H p (.lst (xs ++ zs))) := propext ⟨by rintro ⟨_, _, xs, zs, e1, e2, h⟩; cases e1; cases e2; exact ⟨xs, zs, h⟩, by rintro ⟨xs, zs, h⟩; exact ⟨_, _, xs, zs, rfl, rfl, h⟩⟩
theorem r_slL {a : Addr} {lo hi : Option Int} : rSlL K (.ref a) lo hi H Q = ∃ xs, SqL K H a xs ∧ ∀ p, H p = none → Q (.ref p) (upd H p (.lst (cutV xs lo hi))) := propext ⟨by rintro ⟨_, xs, e1, h⟩; cases e1; exact ⟨xs, h⟩, by rintro ⟨xs, h⟩; exact ⟨_, xs, rfl, h⟩⟩
theorem r_append {a : Addr} {y : V} : rAppend (.ref a) [y] H Q = ∃ xs, H a = some (.lst xs) ∧ xs.length < sizeLine ∧ Q .non (upd H a (.lst (xs ++ [y]))) := propext ⟨by rintro ⟨_, xs, _, e1, e2, h⟩; cases e1; cases e2; exact ⟨xs, h⟩, by rintro ⟨xs, h⟩; exact ⟨_, xs, _, rfl, rfl, h⟩⟩
theorem r_pop {a : Addr} : rPop (.ref a) [] H Q = ∃ xs y, H a = some (.lst xs) ∧ xs[xs.length - 1]? = some y ∧ Q y (upd H a (.lst xs.dropLast)) := propext ⟨by rintro ⟨_, xs, y, e1, _, h⟩; cases e1; exact ⟨xs, y, h⟩, by rintro ⟨xs, y, h⟩; exact ⟨_, xs, y, rfl, rfl, h⟩⟩
theorem r_exS2 {a b : Str} {Z : Str → Str → Prop} : (∃ i j, V.str a = V.str i ∧ V.str b = V.str j ∧ Z i j) = Z a b := propext ⟨by rintro ⟨_, _, e1, e2, q⟩; cases e1; cases e2; exact q, by intro q; exact ⟨a, b, rfl, rfl, q⟩⟩
theorem r_exRl {a : Addr} {Z : Addr → List V → Prop} : (∃ p ys, [V.ref a] = [V.ref p] ∧ Z p ys) = ∃ ys, Z a ys := propext ⟨by rintro ⟨_, ys, e1, q⟩; cases e1; exact ⟨ys, q⟩, by rintro ⟨ys, q⟩; exact ⟨a, ys, rfl, q⟩⟩
theorem r_intB {c : Bool} {Z : Int → Prop} {Y : Bool → Prop} : ((∃ i, [V.bl c] = [V.int i] ∧ Z i) ∨ ∃ k, [V.bl c] = [V.bl k] ∧ Y k) = Y c := propext ⟨fun h => (by rcases h with ⟨_, e, q⟩ | ⟨_, e, q⟩ <;> cases e <;> exact q), fun q => Or.inr ⟨c, rfl, q⟩⟩
theorem r_gTup {n : Nat} {t : TGs} {a : Addr} {Z : St → Hp → Prop} : gTup K n t (.ref a) σ H Z = ∃ xs, SqT K H a xs ∧ xs.length = n ∧ t xs σ H Z := propext ⟨by rintro ⟨_, xs, e, h⟩; cases e; exact ⟨xs, h⟩, by rintro ⟨xs, h⟩; exact ⟨a, xs, rfl, h⟩⟩
end
end L2
namespace L2
open PySem PySem.Spec PyProof.Rows
section
variable {prog : Program} {w : World} {A : Around} {R : Result → Shared → Prop} {s : Shared}
end
end L2
namespace L2
open PySem PySem.Spec PyProof.Rows
inductive Dq (K : PySem.W.Frag) (H : Hp) : Nat → V → V → Bool → Prop where
  | flat {n : Nat} {x y : V} (fx : flatV x = true) (fy : flatV y = true) : Dq K H n x y (eqV x y)
  | same {n : Nat} {a : Addr} : Dq K H n (.ref a) (.ref a) true
  | lists {n : Nat} {a b : Addr} {xs ys : List V} (e : Nat → Bool) (ne : a ≠ b) (ha : SqL K H a xs) (hb : SqL K H b ys) (hl : xs.length = ys.length)
      (he : ∀ (j : Nat) x y, xs[j]? = some x → ys[j]? = some y → Dq K H n x y (e j)) : Dq K H (n + 1) (.ref a) (.ref b) ((List.range xs.length).all e)
  | lens {n : Nat} {a b : Addr} {xs ys : List V} (ne : a ≠ b) (ha : SqL K H a xs) (hb : SqL K H b ys) (hl : ¬ xs.length = ys.length) : Dq K H (n + 1) (.ref a) (.ref b) false
  | tups {n : Nat} {a b : Addr} {xs ys : List V} (e : Nat → Bool) (ne : a ≠ b) (ha : SqT K H a xs) (hb : SqT K H b ys)
      (he : ∀ (j : Nat) x y, xs[j]? = some x → ys[j]? = some y → Dq K H n x y (e j)) : Dq K H (n + 1) (.ref a) (.ref b) ((List.range (min xs.length ys.length)).all e && xs.length == ys.length)
section
variable {X : Cx} {pins : List (Addr × Obj)} {σ : St} {H : Hp} {s : Shared}
theorem el_of {xs : List V} {its : List Value} (r : Vals xs its) {j : Nat} (h : j < its.toArray.size) : ∃ x, xs[j]? = some x ∧ RelV x its.toArray[j] := by
  have hl := r.length
  have hj : j < xs.length := by simpa [hl] using h
  obtain ⟨u, hu, ru⟩ := r.get (List.getElem?_eq_getElem hj)
  have e : its.toArray[j] = u := by
    have h2 : its[j]? = some u := hu
    have h3 : j < its.length := by simpa using h
    rw [List.getElem?_eq_getElem h3] at h2
    simpa using h2
  exact ⟨xs[j], List.getElem?_eq_getElem hj, by rw [e]; exact ru⟩
theorem Dq.at (I : Inv X pins σ H s) {n : Nat} {x y : V} {b : Bool} (d : Dq X.K H n x y b) : ∀ {A : Around} {v u : Value}, RelV x v → RelV y u → A.units + n < cLine → SeqAt.EqAt A s v u b := by
  induction d with
  | flat fx fy => intro A v u rv ru _; exact eqAt_V rv ru fx fy
  | same => intro A v u rv ru _; cases rv; cases ru; exact SeqAt.EqAt.same _
  | @lists n a b xs ys e ne ha hb hl he ih =>
    intro A v u rv ru hu
    cases rv; cases ru
    obtain ⟨its, r, p, _⟩ := I.list ha
    obtain ⟨its2, r2, p2, _⟩ := I.list hb
    have e1 := r.length
    have e2 := r2.length
    have z := SeqAt.RcAt.lists (A := A) (e := e) p.isList p2.isList (by simp; omega) (by omega) fun j h1 h2 => by
      obtain ⟨x, hx, rx⟩ := el_of r h1
      obtain ⟨y, hy, ry⟩ := el_of r2 h2
      exact ih j x y hx hy rx ry (by show A.units + 1 + n < cLine; omega)
    have e3 : its.toArray.size = xs.length := by simp [e1]
    rw [e3] at z
    exact SeqAt.EqAt.of_refs ne z
  | @lens n a b xs ys ne ha hb hl =>
    intro A v u rv ru hu
    cases rv; cases ru
    obtain ⟨its, r, p, _⟩ := I.list ha
    obtain ⟨its2, r2, p2, _⟩ := I.list hb
    have e1 := r.length
    have e2 := r2.length
    exact SeqAt.EqAt.of_refs ne (SeqAt.RcAt.lists_lengths (A := A) p.isList p2.isList (by simp; omega) (by omega))
  | @tups n a b xs ys e ne ha hb he ih =>
    intro A v u rv ru hu
    cases rv; cases ru
    obtain ⟨its, r, p, _⟩ := I.tuple ha
    obtain ⟨its2, r2, p2, _⟩ := I.tuple hb
    have e1 := r.length
    have e2 := r2.length
    have z := SeqAt.RcAt.tuples (A := A) (e := e) (show s.heap.IsTuple a its.toArray from p) (show s.heap.IsTuple b its2.toArray from p2) (by omega) fun j h1 h2 => by
      obtain ⟨x, hx, rx⟩ := el_of r h1
      obtain ⟨y, hy, ry⟩ := el_of r2 h2
      exact ih j x y hx hy rx ry (by show A.units + 1 + n < cLine; omega)
    have e3 : its.toArray.size = xs.length := by simp [e1]
    have e4 : its2.toArray.size = ys.length := by simp [e2]
    rw [e3, e4] at z
    exact SeqAt.EqAt.of_refs ne z
end
inductive Rq (K : PySem.W.Frag) (H : Hp) (n : Nat) : V → V → Bool → Prop where
  | lists {a b : Addr} {xs ys : List V} (e : Nat → Bool) (ha : SqL K H a xs) (hb : SqL K H b ys) (hl : xs.length = ys.length)
      (he : ∀ (j : Nat) x y, xs[j]? = some x → ys[j]? = some y → Dq K H n x y (e j)) : Rq K H n (.ref a) (.ref b) ((List.range xs.length).all e)
  | lens {a b : Addr} {xs ys : List V} (ha : SqL K H a xs) (hb : SqL K H b ys) (hl : ¬ xs.length = ys.length) : Rq K H n (.ref a) (.ref b) false
  | tups {a b : Addr} {xs ys : List V} (e : Nat → Bool) (ha : SqT K H a xs) (hb : SqT K H b ys)
      (he : ∀ (j : Nat) x y, xs[j]? = some x → ys[j]? = some y → Dq K H n x y (e j)) : Rq K H n (.ref a) (.ref b) ((List.range (min xs.length ys.length)).all e && xs.length == ys.length)
noncomputable def rEqD (K : PySem.W.Frag) (n : Nat) : R2 := fun x y H Q => ∃ b, Rq K H n x y b ∧ Q (.bl b) H
noncomputable def rNeD (K : PySem.W.Frag) (n : Nat) : R2 := fun x y H Q => ∃ b, Rq K H n x y b ∧ Q (.bl (!b)) H
section
variable {X : Cx}
theorem op_eqD {n : Nat} (hu : X.A.units + (n + 1) < cLine) : OpR X (compareOp .Eq) (rEqD X.K n) := by
  intro pins s σ H x y v u Q I rx ry h
  obtain ⟨b, d, q⟩ := h
  cases d with
  | @lists a c xs ys e ha hb hl he =>
    cases rx; cases ry
    obtain ⟨its, r, p, _⟩ := I.list ha
    obtain ⟨its2, r2, p2, _⟩ := I.list hb
    have e1 := r.length
    have e2 := r2.length
    have e3 : its.toArray.size = xs.length := by simp [e1]
    refine SeqAt.eq_listAt (e := e) p.isList p2.isList (by simp; omega) (by omega) (fun j h1 h2 => ?_) ⟨.bl _, H, I, rfl, by rw [e3]; exact q⟩
    obtain ⟨x, hx, rx⟩ := el_of r h1
    obtain ⟨y, hy, ry⟩ := el_of r2 h2
    exact (he j x y hx hy).at I rx ry (by show X.A.units + 1 + n < cLine; omega)
  | @lens a c xs ys ha hb hl =>
    cases rx; cases ry
    obtain ⟨its, r, p, _⟩ := I.list ha
    obtain ⟨its2, r2, p2, _⟩ := I.list hb
    have e1 := r.length
    have e2 := r2.length
    exact SeqAt.eq_list_lengthsAt p.isList p2.isList (by simp; omega) (by omega) ⟨.bl _, H, I, rfl, q⟩
  | @tups a c xs ys e ha hb he =>
    cases rx; cases ry
    obtain ⟨its, r, p, _⟩ := I.tuple ha
    obtain ⟨its2, r2, p2, _⟩ := I.tuple hb
    have e1 := r.length
    have e2 := r2.length
    have e3 : its.toArray.size = xs.length := by simp [e1]
    have e4 : its2.toArray.size = ys.length := by simp [e2]
    refine SeqAt.eq_tupleAt (e := e) (show s.heap.IsTuple a its.toArray from p) (show s.heap.IsTuple c its2.toArray from p2) (by omega) (fun j h1 h2 => ?_) ⟨.bl _, H, I, rfl, by rw [e3, e4]; exact q⟩
    obtain ⟨x, hx, rx⟩ := el_of r h1
    obtain ⟨y, hy, ry⟩ := el_of r2 h2
    exact (he j x y hx hy).at I rx ry (by show X.A.units + 1 + n < cLine; omega)
theorem op_neD {n : Nat} (hu : X.A.units + (n + 1) < cLine) : OpR X (compareOp .NotEq) (rNeD X.K n) := by
  intro pins s σ H x y v u Q I rx ry h
  obtain ⟨b, d, q⟩ := h
  cases d with
  | @lists a c xs ys e ha hb hl he =>
    cases rx; cases ry
    obtain ⟨its, r, p, _⟩ := I.list ha
    obtain ⟨its2, r2, p2, _⟩ := I.list hb
    have e1 := r.length
    have e2 := r2.length
    have e3 : its.toArray.size = xs.length := by simp [e1]
    refine SeqAt.RcNeAt.lists (A := X.A) (e := e) p.isList p2.isList (by simp; omega) (by omega) (fun j h1 h2 => ?_) X.prog X.w X.xe _ ⟨.bl _, H, I, rfl, by rw [e3]; exact q⟩
    obtain ⟨x, hx, rx⟩ := el_of r h1
    obtain ⟨y, hy, ry⟩ := el_of r2 h2
    exact (he j x y hx hy).at I rx ry (by show X.A.units + 1 + n < cLine; omega)
  | @lens a c xs ys ha hb hl =>
    cases rx; cases ry
    obtain ⟨its, r, p, _⟩ := I.list ha
    obtain ⟨its2, r2, p2, _⟩ := I.list hb
    have e1 := r.length
    have e2 := r2.length
    exact SeqAt.RcNeAt.lists_lengths (A := X.A) p.isList p2.isList (by simp; omega) (by omega) X.prog X.w X.xe _ ⟨.bl _, H, I, rfl, q⟩
  | @tups a c xs ys e ha hb he =>
    cases rx; cases ry
    obtain ⟨its, r, p, _⟩ := I.tuple ha
    obtain ⟨its2, r2, p2, _⟩ := I.tuple hb
    have e1 := r.length
    have e2 := r2.length
    have e3 : its.toArray.size = xs.length := by simp [e1]
    have e4 : its2.toArray.size = ys.length := by simp [e2]
    refine SeqAt.RcNeAt.tuples (A := X.A) (e := e) (show s.heap.IsTuple a its.toArray from p) (show s.heap.IsTuple c its2.toArray from p2) (by omega) (fun j h1 h2 => ?_) X.prog X.w X.xe _ ⟨.bl _, H, I, rfl, by rw [e3, e4]; exact q⟩
    obtain ⟨x, hx, rx⟩ := el_of r h1
    obtain ⟨y, hy, ry⟩ := el_of r2 h2
    exact (he j x y hx hy).at I rx ry (by show X.A.units + 1 + n < cLine; omega)
end
theorem all_true (n : Nat) : (List.range n).all (fun _ => true) = true := by simp
end L2
namespace L2
open PySem PySem.Spec PyProof.Rows
noncomputable def clOf (cells : List (Str × Addr)) : List (Str × NameKind) → List (Str × Addr) → List (Str × Addr)
  | [], acc => acc
  | (n, k) :: r, acc => if k == .free then clOf cells r ((n, (cells.lookup n).getD 0) :: acc) else clOf cells r acc
theorem closureFor_cl {scope : Scope} {env : Env} (h : ∀ y ∈ scope.names, y.2 = .free → ∃ c, env.cells.lookup y.1 = some c) : closureFor scope env = pure (clOf env.cells scope.names []) := by
  have key : ∀ (names : List (Str × NameKind)) (acc : List (Str × Addr)), (∀ y ∈ names, y.2 = .free → ∃ c, env.cells.lookup y.1 = some c) →
      (forIn names acc fun x (r : List (Str × Addr)) => match x with
        | (name, kind) => if (kind == .free) = true then do let c ← cellOf env name; pure (ForInStep.yield ((name, c) :: r)) else pure (ForInStep.yield r)) = (pure (clOf env.cells names acc) : Sem (List (Str × Addr))) := by
    intro names
    induction names with
    | nil => intro acc _; rfl
    | cons y r ih =>
      intro acc hy
      obtain ⟨n, k⟩ := y
      rw [List.forIn_cons]
      cases hk : (k == NameKind.free) with
      | true =>
        have hk' : k = .free := by simpa using hk
        obtain ⟨c, hc⟩ := hy (n, k) List.mem_cons_self hk'
        have e : cellOf env n = pure c := by unfold cellOf; rw [show env.cells.lookup n = some c from hc]
        simp only [hk, if_true, e, pure_bind]
        rw [ih _ fun z hz => hy z (List.mem_cons_of_mem _ hz)]
        simp only [clOf, hk, if_true]
        rw [show env.cells.lookup n = some c from hc]
        rfl
      | false =>
        simp only [hk, Bool.false_eq_true, if_false, pure_bind]
        rw [ih _ fun z hz => hy z (List.mem_cons_of_mem _ hz)]
        simp only [clOf, hk, Bool.false_eq_true, if_false]
  refine (show closureFor scope env = ((forIn scope.names [] fun x (r : List (Str × Addr)) => match x with
        | (name, kind) => if (kind == .free) = true then do let c ← cellOf env name; pure (ForInStep.yield ((name, c) :: r)) else pure (ForInStep.yield r)) >>= fun cs => pure cs) from rfl).trans ?_
  rw [key scope.names [] h]
  rfl
theorem clOf_sub {cells : List (Str × Addr)} : ∀ {names : List (Str × NameKind)} {acc : List (Str × Addr)}, (∀ y ∈ names, y.2 = .free → ∃ c, cells.lookup y.1 = some c) → (∀ y c, acc.lookup y = some c → cells.lookup y = some c) →
    ∀ y c, (clOf cells names acc).lookup y = some c → cells.lookup y = some c
  | [], _, _, ha => ha
  | (n, k) :: r, acc, hn, ha => by
    intro y c
    unfold clOf
    split
    · next hk =>
      refine clOf_sub (fun z hz => hn z (List.mem_cons_of_mem _ hz)) (fun z d hz => ?_) y c
      obtain ⟨e, he⟩ := hn (n, k) List.mem_cons_self (by simpa using hk)
      rw [List.lookup_cons] at hz
      split at hz
      · next hq =>
        have : z = n := by simpa using hq
        subst this
        have he' : cells.lookup z = some e := he
        rw [he'] at hz ⊢
        exact hz
      · exact ha z d hz
    · exact clOf_sub (fun z hz => hn z (List.mem_cons_of_mem _ hz)) ha y c
theorem clOf_acc {cells : List (Str × Addr)} {y : Str} : ∀ {names : List (Str × NameKind)} {acc : List (Str × Addr)}, (∃ c, acc.lookup y = some c) → ∃ c, (clOf cells names acc).lookup y = some c
  | [], _, h => h
  | (n, k) :: r, acc, h => by
    unfold clOf
    split
    · refine clOf_acc ?_
      rw [List.lookup_cons]
      split
      · exact ⟨_, rfl⟩
      · exact h
    · exact clOf_acc h
theorem clOf_has {cells : List (Str × Addr)} {y : Str} : ∀ {names : List (Str × NameKind)} {acc : List (Str × Addr)}, (y, NameKind.free) ∈ names → ∃ c, (clOf cells names acc).lookup y = some c
  | (n, k) :: r, acc, h => by
    unfold clOf
    rcases List.mem_cons.mp h with e | e
    · cases e
      rw [if_pos (by rfl)]
      exact clOf_acc ⟨(cells.lookup y).getD 0, by rw [List.lookup_cons, beq_self_eq_true]⟩
    · split
      · exact clOf_has e
      · exact clOf_has e
structure Bk where
  C : Addr
  fp : List Addr
  s₂ : Shared
  H₂ : Hp
noncomputable def Cx.blk (X : Cx) (N' : List Str) (scope : Scope) (b : Bk) : Cx :=
  { prog := X.prog, w := X.w, K := X.K, mg := X.mg, base := X.base, A := X.A, N := N', s₀ := b.s₂, H₀ := b.H₂, env := compEnvC scope (clOf X.env.cells scope.names []) b.C X.env, outer := X.stack, stack := X.stack, ex := b.fp, fn := fun _ => false, calm := X.calm, pn := [], xe := fun _ _ => False }
noncomputable def blkSt (os : List (Option V)) (ci : List Nat) (σ : St) : St := none :: (os ++ ci.map fun i => (σ[i]?).join)
noncomputable def CompGW (J : It) (g : TG) (tt : TT) (te : TE) (nt : Nat) (ci : List Nat) (σ : St) (acc : Addr) (Q : Hp → Prop) (H0 : Hp) : Prop := ∃ W : Nat → Nat → List V → Hp → Prop, (∃ m, W 0 m [] H0) ∧ ∀ i m ys H, W i m ys H →
  (J.stop i H ∧ Q H) ∨ (J.go i H ∧ ∃ N : List V → Hp → Prop, (∀ zs H', N zs H' → ∃ m', m' < m ∧ W (i + 1) m' zs H') ∧ ∀ y H' os, os.length = nt → J.yld i H y H' → g y (blkSt os ci σ) H' fun σ1 H1 => (∃ os', os'.length = nt ∧ σ1 = blkSt os' ci σ) ∧ tt σ1 H1 fun b H2 =>
    if b = true then te σ1 H2 fun z H3 => H3 acc = some (.lst ys) ∧ ys.length < sizeLine ∧ N (ys ++ [z]) (upd H3 acc (.lst (ys ++ [z]))) else N ys H2)
noncomputable def tCompG (wi : TI) (g : Bk → TG) (tt : Bk → TT) (te : Bk → TE) (nt : Nat) (ci : List Nat) : TE := fun σ H Q => wi σ H fun J H1 => ∀ acc, H1 acc = none → ∀ bk : Bk, CompGW J (g bk) (tt bk) (te bk) nt ci σ acc (fun H' => Q (.ref acc) H') (upd H1 acc (.lst []))
noncomputable def PIfs (X : Cx) (ifs : List Expr) (t : TT) : Prop :=
  ∀ (pins : List (Addr × Obj)) (s : Shared) (σ : St) (H : Hp) (Q : Bool → Hp → Prop), Inv X pins σ H s → t σ H Q →
    wpAny (model X.prog X.w) X.A (forIn ifs true fun c r => if r = true then do let ok ← isTrue c X.env (eval c X.env); pure (ForInStep.yield ok) else pure (ForInStep.yield r)) (TP X pins σ Q) X.xe s
noncomputable def tYes : TT := fun _ H Q => Q true H
theorem pf_nil {X : Cx} : PIfs X [] tYes := fun pins s σ H Q I h => wpAny_tests_nil ⟨H, I, h⟩
theorem pf_one {X : Cx} {c : Expr} {t : TT} (h : PT X c t) : PIfs X [c] t := fun pins s σ H Q I q => wpAny_tests_one (h pins s σ H Q I q)
structure CompSc (X : Cx) (scope : Scope) (cns : List Str) (ci : List Nat) : Prop where
  kind : scope.kind = .function
  cell : ∀ y ∈ scope.names, y.2 ≠ .cell
  names : ∀ y ∈ scope.names, y.2 = .local → scope.names.lookup y.1 = some .local
  free : ∀ y ∈ scope.names, y.2 = .free → X.env.kindOf y.1 = some .cell ∨ X.env.kindOf y.1 = some .free
  cap : ∀ (j : Nat) x, cns[j]? = some x → ∃ i, ci[j]? = some i ∧ X.N[i]? = some x ∧ (x, NameKind.free) ∈ scope.names
  len : cns.length = ci.length
  noloc : ∀ y, (y, NameKind.free) ∈ scope.names → ¬ (relabel scope X.env).names.lookup y = some .local
theorem relabel_cell {env : Env} : ∀ {names : List (Str × NameKind)} {y : Str} {k : NameKind}, (names.map fun (n, k) => if (k == NameKind.free && env.scope.kind == .function && env.kindOf n == some .cell) then (n, NameKind.cell) else (n, k)).lookup y = some k → k = .cell ∨ k = .free →
    (∀ z ∈ names, z.2 ≠ .cell) → (y, NameKind.free) ∈ names
  | [], _, _, h, _, _ => by simp at h
  | (n, k0) :: r, y, k, h, hk, hc => by
    rw [List.map_cons, List.lookup_cons] at h
    by_cases hf : (k0 == NameKind.free && env.scope.kind == .function && env.kindOf n == some .cell) = true
    · simp only [hf, if_true] at h
      have k0f : k0 = .free := by
        have := hf
        simp only [Bool.and_eq_true] at this
        simpa using this.1.1
      split at h
      · next hq =>
        have : y = n := by simpa using hq
        subst this; subst k0f
        exact List.mem_cons_self
      · exact List.mem_cons_of_mem _ (relabel_cell h hk fun z hz => hc z (List.mem_cons_of_mem _ hz))
    · simp only [hf] at h
      split at h
      · next hq =>
        have : y = n := by simpa using hq
        subst this
        have e : k0 = k := by simpa using h
        subst e
        rcases hk with z | z
        · exact absurd z (hc _ List.mem_cons_self)
        · subst z; exact List.mem_cons_self
      · exact List.mem_cons_of_mem _ (relabel_cell h hk fun z hz => hc z (List.mem_cons_of_mem _ hz))
section
variable {prog : Program} {w : World} {A : Around} {R : Result → Shared → Prop} {s : Shared}
theorem compLoop_goT {elt target iter : Expr} {ifs : List Expr} {scope : Scope} {pos : Pos} {it acc : Value} {env : Env} (I : Nat → Shared → Prop)
    (turn : ∀ n s, I n s → wpAny (model prog w) A (pyNext it) (fun r s₁ => match r with
      | none => R (.ok .next) s₁
      | some v => wpAny (model prog w) A (letOwnedTupleGo target it v) (fun _ s₅ => wpAny (model prog w) A (assign target env v) (fun _ s₂ =>
          wpAny (model prog w) A (forIn ifs true fun c r => if r = true then do let ok ← isTrue c env (eval c env); pure (ForInStep.yield ok) else pure (ForInStep.yield r)) (fun ok s₃ =>
            if ok = true then wpAny (model prog w) A (eval elt env) (fun x s₄ =>
              wpAny (model prog w) A (call (.builtin "list.append") [acc, x]) (fun _ s₅ => ∃ m, m < n ∧ I m s₅) (fun _ _ => False) s₄) (fun _ _ => False) s₃
            else ∃ m, m < n ∧ I m s₃) (fun _ _ => False) s₂) (fun _ _ => False) s₅) (fun _ _ => False) s₁) (fun _ _ => False) s)
    (n : Nat) (h : I n s) :
    codeAny (model prog w) A (.compLoop (.ListComp elt [⟨target, iter, ifs, 0⟩] scope pos) 0 it acc env) R s := by
  refine codeAny_loop rfl I (fun n s hI => ?_) n h
  show wpAny _ _ ((compTurn (.ListComp elt [⟨target, iter, ifs, 0⟩] scope pos) 0 it acc env).onRaise (fun x => do noteFrame x env; theTreesLotGoes x)) _ _ s
  refine wpAny_noted ?_
  rw [compTurn_list]
  refine wpAny_bind (wpAny_standAt (wpAny_bind (wpAny_mono (turn n s hI) (fun r s₁ h₁ => ?_) fun _ _ h' => h'.elim)))
  cases r with
  | none => exact wpAny_pure h₁
  | some v =>
    refine wpAny_bind (wpAny_mono h₁ (fun _ s₅ h₅ => ?_) fun _ _ h' => h'.elim)
    refine wpAny_bind (wpAny_mono h₅ (fun _ s₂ h₂ => wpAny_bind (wpAny_mono h₂ (fun ok s₃ h₃ => ?_) fun _ _ h' => h'.elim)) fun _ _ h' => h'.elim)
    cases ok with
    | true =>
      rw [if_pos rfl] at h₃
      exact wpAny_bind (wpAny_bind (wpAny_mono h₃ (fun x s₃ h₃ => wpAny_bind (wpAny_mono h₃ (fun _ s₄ h₄ => wpAny_pure (wpAny_pure ⟨rfl, h₄⟩)) fun _ _ h' => h'.elim)) fun _ _ h' => h'.elim))
    | false =>
      rw [if_neg Bool.false_ne_true] at h₃
      exact wpAny_bind (wpAny_pure (wpAny_pure ⟨rfl, h₃⟩))
end
theorem comp_core {X : Cx} {elt iter tgt : Expr} {ifs : List Expr} {pos : Pos} {scope : Scope} {g : Bk → TG} {tt : Bk → TT} {te : Bk → TE} {tns cns : List Str} {ci : List Nat} {RR : Value → Addr → Result → Shared → Prop} {E : Value → Shared → Prop}
    {pins : List (Addr × Obj)} {σ : St} {H2 : Hp} {s2 : Shared} {it : Addr} {fp : List Addr} {tn : Nat → Heap → Prop} {J : It} {Q : Addr → Hp → Prop}
    (hc : X.calm = true) (S : CompSc X scope cns ci)
    (hg : ∀ bk : Bk, PG (X.blk (".0" :: (tns ++ cns)) scope bk) tgt (g bk))
    (ht : ∀ bk : Bk, PIfs (X.blk (".0" :: (tns ++ cns)) scope bk) ifs (tt bk))
    (he : ∀ bk : Bk, PE (X.blk (".0" :: (tns ++ cns)) scope bk) elt (te bk))
    (I2 : Inv X pins σ H2 s2) (T : Turn X.prog X.w X.K tgt J fp it tn) (st2 : tn 0 s2.heap) (f2 : ∀ b ∈ fp, FpOk X pins H2 b)
    (hcw : ∀ acc, H2 acc = none → ∀ bk : Bk, CompGW J (g bk) (tt bk) (te bk) tns.length ci σ acc (Q acc) (upd H2 acc (.lst [])))
    (fin : ∀ D C s5 H4 m, Inv X pins σ H4 s5 → s5.heap.Ns C m → FpOk X pins H4 C → Q D H4 → RR (.ref D) C (.ok .next) s5) :
    wpAny (model X.prog X.w) X.A (newList []) (fun acc s₃ => wpAny (model X.prog X.w) X.A (newFunctionEnv scope X.env.globals (clOf X.env.cells scope.names []) [] X.env.qual none .none (some X.env)) (fun cenv s₄ =>
      codeAny (model X.prog X.w) X.A (.compStart (.ListComp elt [⟨tgt, iter, ifs, 0⟩] scope pos) 0 (.ref it) acc { cenv with scope := relabel scope X.env }) (RR acc cenv.locals) s₄) E s₃) E s2 := by
  have hfc : ∀ y ∈ scope.names, y.2 = .free → ∃ c, X.env.cells.lookup y.1 = some c := fun y hy hk => I2.ok.has _ (S.free y hy hk)
  have hsub : ∀ y c, (clOf X.env.cells scope.names []).lookup y = some c → X.env.cells.lookup y = some c := clOf_sub hfc (fun y c e => by simp at e)
  refine wpAny_newObj_type (wpAny_newFunctionEnv S.cell (by intro y hy; simp at hy) (fun h₁ hns₁ hsb₁ => ?_) S.kind)
  dsimp only at hns₁ hsb₁ ⊢
  generalize hH2 : s2.heap.push { cls := .type "list", dict := none, data := .seq ([] : List Value).toArray } = G2 at hns₁ hsb₁ ⊢
  have hCz : G2.objs.size = s2.heap.objs.size + 1 := by rw [← hH2, Heap.size_push]
  have hDC : s2.heap.objs.size ≠ G2.objs.size := by rw [hCz]; exact Nat.ne_of_lt (Nat.lt_succ_self _)
  have below : ∀ b, b < s2.heap.objs.size → b ≠ G2.objs.size := fun b hb => by omega
  have old : ∀ b o, s2.heap.get? b = some o → h₁.get? b = some o := fun b o e => hsb₁.extBut b o (below b (Heap.lt_size e)) (Heap.get?_push_of_some _ (hH2 ▸ Heap.get?_push_of_some _ e))
  have hacc : h₁.get? s2.heap.objs.size = some { cls := .type "list", dict := none, data := .seq ([] : List Value).toArray } := hsb₁.extBut _ _ hDC (Heap.get?_push_of_some _ (hH2 ▸ Heap.get?_push_size _ rfl))
  have hnD : H2 s2.heap.objs.size = none := I2.hok.fresh (Nat.le_refl _)
  have hnC : H2 G2.objs.size = none := I2.hok.fresh (by omega)
  obtain ⟨W, ⟨m0, w0⟩, turn⟩ := hcw s2.heap.objs.size hnD ⟨G2.objs.size, fp, s2, H2⟩
  have nlt : ∀ {b : Addr} {o : Obj}, s2.heap.get? b = some o → b ≠ s2.heap.objs.size := fun q => Nat.ne_of_lt (Heap.lt_size q)
  have fpl : ∀ b ∈ fp, b < s2.heap.objs.size := fun b hb => by
    obtain ⟨o, e, _⟩ := T.obj _ _ st2 b hb
    exact Heap.lt_size e
  have clt : ∀ y c, (clOf X.env.cells scope.names []).lookup y = some c → c < s2.heap.objs.size := fun y c e => by
    obtain ⟨v, q⟩ := I2.cell y c (hsub y c e)
    exact q.lt
  have hasC : ∀ y, ((relabel scope X.env).names.lookup y = some .cell ∨ (relabel scope X.env).names.lookup y = some .free) → ∃ c, (clOf X.env.cells scope.names []).lookup y = some c := fun y hk => by
    rcases hk with z | z
    · exact clOf_has (relabel_cell z (.inl rfl) S.cell)
    · exact clOf_has (relabel_cell z (.inr rfl) S.cell)
  have ok : (X.blk (".0" :: (tns ++ cns)) scope ⟨G2.objs.size, fp, s2, H2⟩).Ok := {
    mod := I2.ok.mod
    kind := S.kind
    glob := I2.ok.glob
    blt := I2.ok.blt
    above := by show s2.heap.objs.size ≤ G2.objs.size; omega
    inj := fun y z c e1 e2 => I2.ok.inj y z c (hsub y c e1) (hsub z c e2)
    has := fun y hk => hasC y hk
    cab := fun y c e => by
      have e' : (false = true) := e
      cases e'
    hd := I2.ok.hd
    frames := I2.ok.frames
    stk := .inl rfl
    exf := fun b hb => ⟨below b (fpl b hb), fun y c e => (f2 b hb).2.2.2.2.1 y c (hsub y c e)⟩
    bs := I2.bs
    bsz := Nat.le_trans I2.ok.bsz I2.sz
    noex := fun b o e hb => by
      rcases (f2 b hb).2.2.2.1 with z | z
      · exact I2.ok.noex b o e z
      · exact absurd (Nat.lt_of_lt_of_le (Heap.lt_size e) (Nat.le_trans I2.ok.bsz z)) (Nat.lt_irrefl _)
    exfs := fun b hb hf => by
      rcases List.mem_cons.mp (I2.stkSub b hf) with z | z
      · exact (f2 b hb).2.1 z
      · exact (f2 b hb).2.2.1 z
    funs := I2.stack
    frf := I2.stkFree }
  have hokD : HOk X.prog X.w (upd H2 s2.heap.objs.size (.lst [])) h₁ := I2.hok.laid old (Nat.le_refl _) ⟨Nat.zero_le _, [], 0, .nil, hacc⟩
  have clD : ∀ y c, (clOf X.env.cells scope.names []).lookup y = some c → c ≠ s2.heap.objs.size := fun y c e => Nat.ne_of_lt (clt y c e)
  have I3 : Inv (X.blk (".0" :: (tns ++ cns)) scope ⟨G2.objs.size, fp, s2, H2⟩) [] (blkSt (List.replicate tns.length none) ci σ) (upd H2 s2.heap.objs.size (.lst [])) { s2 with heap := h₁, toks := s2.toks + ([] : List (Str × Value)).length } := {
    ok := ok
    os := rfl
    bare := I2.bare
    base := ⟨fun b o e n _ _ => old b o e, fun b o e n _ _ => ⟨o.slots, old b o e⟩, fun b o e n _ => by rw [upd_ne (nlt e)]; exact n, fun b o e _ => ⟨o, old b o e⟩,
      fun b ys e => by rw [upd_ne (ne_of_none e hnD)]; exact e, fun b o u e => by rw [upd_ne (ne_of_none e hnD)]; exact e, fun b ps e => ⟨#[], by rw [upd_ne (ne_of_none e hnD), Array.append_empty]; exact e⟩⟩
    loc := ⟨_, hns₁, fun i y v e1 e2 e3 => by
      have e1' : ((".0" : Str) :: (tns ++ cns))[i]? = some y := e1
      unfold blkSt at e2
      cases i with
      | zero => simp at e2
      | succ i =>
        rw [List.getElem?_cons_succ] at e1' e2
        by_cases hi : i < tns.length
        · rw [List.getElem?_append_left (by simpa using hi), List.getElem?_replicate, if_pos hi] at e2
          cases e2
        · rw [List.getElem?_append_right (by omega)] at e1'
          rw [List.getElem?_append_right (by simp; omega), List.length_replicate] at e2
          obtain ⟨q, hq, hN, hm⟩ := S.cap _ _ e1'
          rw [List.getElem?_map, hq] at e2
          have e2' : (σ[q]?).join = some v := by simpa using e2
          have e4 : σ[q]? = some (some v) := by
            cases z : σ[q]? with
            | none => rw [z] at e2'; cases e2'
            | some o => rw [z] at e2'; rw [show o = some v from e2']
          obtain ⟨m, hns, hl⟩ := I2.loc
          have hvis : Vis X.env.scope y := by
            rcases S.free (y, .free) hm rfl with z | z
            · exact .inr (.inl z)
            · exact .inr (.inr z)
          obtain ⟨u, ru, lk⟩ := hl q y v hN e4 hvis
          refine ⟨u, ru, .inr ?_⟩
          have hkk : X.env.kindOf y = some .cell ∨ X.env.kindOf y = some .free := S.free (y, .free) hm rfl
          rcases lk with ⟨k1, _⟩ | ⟨_, c, hc1, hc2⟩
          · rcases hkk with z | z <;> (rw [k1] at z; cases z)
          · obtain ⟨c', hc'⟩ := clOf_has (cells := X.env.cells) (acc := []) hm
            have ecc : c' = c := by
              have := hsub y c' hc'
              rw [hc1] at this; cases this; rfl
            subst ecc
            have e3' : Vis (relabel scope X.env) y := e3
            refine ⟨?_, c', hc', ?_⟩
            · rcases e3' with z | z | z
              · exfalso
                exact S.noloc y hm z
              · exact .inl z
              · exact .inr z
            · exact hc2.keeps old⟩
    cell := fun y c e => by
      obtain ⟨v, q⟩ := I2.cell y c (hsub y c e)
      exact ⟨v, q.keeps old⟩
    free := by show upd H2 s2.heap.objs.size (.lst []) G2.objs.size = none; rw [upd_ne (Ne.symm hDC)]; exact hnC
    freeC := fun y c e => by rw [upd_ne (clD y c e)]; exact I2.freeC y c (hsub y c e)
    pin := fun p hp => by
      have hp' : p ∈ ([] : List (Addr × Obj)) ++ [] := hp
      simp at hp'
    hok := hokD
    len := by
      show (blkSt _ ci σ).length = ((".0" : Str) :: (tns ++ cns)).length
      unfold blkSt
      simp [S.len] }
  have st3 : tn 0 h₁ := T.keep _ _ _ st2 fun b _ o e => old b o e
  have fr3 : ∀ b ∈ fp, upd H2 s2.heap.objs.size (.lst []) b = none := fun b hb => by rw [upd_ne (Nat.ne_of_lt (fpl b hb))]; exact (f2 b hb).1
  have stat : ∀ {H' : Hp}, (∀ b ∈ fp, H' b = none) → ∀ b ∈ fp, FpOk (X.blk (".0" :: (tns ++ cns)) scope ⟨G2.objs.size, fp, s2, H2⟩) [] H' b := fun hn b hb =>
    ⟨hn b hb, below b (fpl b hb), ok.exfs b hb, .inl hb, fun y c e => (f2 b hb).2.2.2.2.1 y c (hsub y c e), fun p hp => by
      have hp' : p ∈ ([] : List (Addr × Obj)) ++ [] := hp
      simp at hp'⟩
  have loop : ∀ s₃ : Shared, s₃ = { s2 with heap := h₁, toks := s2.toks + ([] : List (Str × Value)).length } →
      codeAny (model X.prog X.w) X.A (.compLoop (.ListComp elt [⟨tgt, iter, ifs, 0⟩] scope pos) 0 (.ref it) (.ref s2.heap.objs.size) (compEnvC scope (clOf X.env.cells scope.names []) G2.objs.size X.env))
        (RR (.ref s2.heap.objs.size) G2.objs.size) s₃ := by
    rintro s₃ rfl
    refine compLoop_goT (fun n s' => ∃ (i : Nat) (os : List (Option V)) (ys : List V) (H' : Hp), os.length = tns.length ∧ Inv (X.blk (".0" :: (tns ++ cns)) scope ⟨G2.objs.size, fp, s2, H2⟩) [] (blkSt os ci σ) H' s' ∧ tn i s'.heap ∧ (∀ b ∈ fp, H' b = none) ∧ W i n ys H') ?_ m0 ⟨0, _, [], _, by simp, I3, st3, fr3, w0⟩
    rintro n s4 ⟨i, os, ys, H4, hos, I4, st4, fr4, w4⟩
    rcases turn i n ys H4 w4 with ⟨stop, q⟩ | ⟨go, N, hN, step⟩
    · refine thn (T.done (X.blk (".0" :: (tns ++ cns)) scope ⟨G2.objs.size, fp, s2, H2⟩) rfl rfl rfl hc i [] s4 _ H4 (fun _ _ => False) I4 (stat fr4) st4 stop) fun r s5 ⟨hr, I5⟩ => ?_
      subst hr
      obtain ⟨m, hm, _⟩ := I5.loc
      have fC : H4 G2.objs.size = none := I5.free
      have ub : Un (frs X.stack) fp H2 H4 s2.heap s5.heap := I5.base
      have IX : Inv X pins σ H4 s5 := I2.call' (s' := s5) (show s5.os = s2.os from I5.os) ub I5.hok I5.bare fun b hb => ⟨(f2 b hb).2.2.2.1, (f2 b hb).2.1, (f2 b hb).2.2.2.2.1, (f2 b hb).2.2.2.2.2⟩
      exact fin _ _ s5 H4 m IX hm (I2.fpOk (by omega) fC) q
    · refine thn (T.item (X.blk (".0" :: (tns ++ cns)) scope ⟨G2.objs.size, fp, s2, H2⟩) rfl rfl rfl hc i [] s4 _ H4 (fun _ _ => False) I4 (stat fr4) st4 go) fun r s5 ⟨u, hr, h5⟩ => ?_
      subst hr
      refine thn h5 fun _ s6 hhx => ?_
      obtain ⟨y, H6, I6, r6, y6, st6, fr6⟩ := hhx
      have I6' := I6.pinned (stat fr6) (T.obj _ _ st6)
      refine thn (hg _ _ s6 _ H6 y u _ I6' r6 (step y H6 os hos y6)) fun _ s7 ⟨σ7, H7, I7, ⟨os', hos', e7⟩, q7⟩ => ?_
      subst e7
      have back : ∀ {H9 : Hp} {s9 : Shared}, Inv (X.blk (".0" :: (tns ++ cns)) scope ⟨G2.objs.size, fp, s2, H2⟩) ([] ++ pinsAt fp s6.heap) (blkSt os' ci σ) H9 s9 → tn (i + 1) s9.heap ∧ ∀ b ∈ fp, H9 b = none := fun {H9 s9} I9 =>
        ⟨T.keep _ _ _ st6 fun b hb ob e => (I9.pin (b, ob) (List.mem_append_right _ (List.mem_append_right _ (mem_pinsAt hb e)))).1, fun b hb => by
          obtain ⟨ob, e, d⟩ := T.obj _ _ st6 b hb
          exact (I9.pin (b, ob) (List.mem_append_right _ (List.mem_append_right _ (mem_pinsAt hb e)))).2.1⟩
      refine thn (ht _ _ s7 _ H7 _ I7 q7) fun b s8 hhx => ?_
      obtain ⟨H8, I8, q8⟩ := hhx
      cases b with
      | false =>
        rw [if_neg Bool.false_ne_true] at q8 ⊢
        obtain ⟨m', hm', w8⟩ := hN _ _ q8
        exact ⟨m', hm', i + 1, os', ys, _, hos', I8.unpinned, (back I8).1, (back I8).2, w8⟩
      | true =>
        rw [if_pos rfl] at q8 ⊢
        refine thn (he _ _ s8 _ H8 _ I8 q8) fun zv s8 hhx => ?_
        obtain ⟨z, H8, I8, rz, ha8, hl8, n8⟩ := hhx
        obtain ⟨m', hm', w8⟩ := hN _ _ n8
        refine thn (mt_append (X := X.blk (".0" :: (tns ++ cns)) scope ⟨G2.objs.size, fp, s2, H2⟩) _ s8 _ H8 (.ref s2.heap.objs.size) [z] (.ref s2.heap.objs.size) [zv] (fun _ H9 => H9 = upd H8 s2.heap.objs.size (.lst (ys ++ [z]))) I8 rfl (.cons rz .nil) ⟨_, ys, z, rfl, rfl, ha8, hl8, rfl⟩) fun _ s9 hhx => ?_
        obtain ⟨_, H9, I9, _, e9⟩ := hhx
        subst e9
        exact ⟨m', hm', i + 1, os', ys ++ [z], _, hos', I9.unpinned, (back I9).1, (back I9).2, w8⟩
  exact codeAny_compStart_list (loop _ rfl) (T.self _ 0 _ _ _ st3 (loop _ rfl))
theorem pe_compG {X : Cx} {elt iter tgt : Expr} {ifs : List Expr} {pos : Pos} {scope : Scope} {wi : TI} {g : Bk → TG} {tt : Bk → TT} {te : Bk → TE} {tns cns : List Str} {ci : List Nat} (hc : X.calm = true) (S : CompSc X scope cns ci) (hi : PI X tgt iter wi)
    (hg : ∀ bk : Bk, PG (X.blk (".0" :: (tns ++ cns)) scope bk) tgt (g bk))
    (ht : ∀ bk : Bk, PIfs (X.blk (".0" :: (tns ++ cns)) scope bk) ifs (tt bk))
    (he : ∀ bk : Bk, PE (X.blk (".0" :: (tns ++ cns)) scope bk) elt (te bk))
    (hs : ∀ v, foldedSetIterable iter X.env v = pure v := by intro _; rfl) :
    PE X (.ListComp elt [⟨tgt, iter, ifs, 0⟩] scope pos) (tCompG wi g tt te tns.length ci) := by
  intro pins s σ H Q I h
  have hfc : ∀ y ∈ scope.names, y.2 = .free → ∃ c, X.env.cells.lookup y.1 = some c := fun y hy hk => I.ok.has _ (S.free y hy hk)
  rw [eval_ListComp]
  refine wpAny_comprehension_free (use := none) rfl hs (closureFor_cl hfc) S.kind S.names (thn (hi pins s σ H _ I h) fun v s1 h1 => thn h1 fun itv s2 h2 => ?_)
  obtain ⟨it, fp, tn, J, H2, rfl, I2, T, st2, f2, hcw⟩ := h2
  refine comp_core (RR := fun acc C => compPost (model X.prog X.w) X.A X.xe none (EP X pins σ Q) acc C) hc S hg ht he I2 T st2 f2 hcw fun D C s5 H4 m I5 hm fo q => ?_
  refine ⟨m, hm, fun h' hs' => ⟨.ref D, H4, ?_, rfl, q⟩⟩
  exact I5.turned (t' := s5.toks) (it := C) (fun b o hb e => (hs'.2 b hb).trans e) fo.1 fo.2.1 fo.2.2.2.1 fo.2.2.2.2.1 fo.2.2.2.2.2
noncomputable def sSetComp (i : Nat) (wi : TI) (g : Bk → TG) (tt : Bk → TT) (te : Bk → TE) (nt : Nat) (ci : List Nat) : TS := fun D σ H => wi σ H fun J H1 => ∀ acc, H1 acc = none → ∀ bk : Bk, CompGW J (g bk) (tt bk) (te bk) nt ci σ acc (fun H' => D.nx (σ.set i (some (.ref acc))) H') (upd H1 acc (.lst []))
noncomputable def relS (scope osc : Scope) : List (Str × NameKind) := scope.names.map fun (n, k) => if (k == NameKind.free && osc.kind == .function && osc.names.lookup n == some .cell) then (n, NameKind.cell) else (n, k)
noncomputable def capOk (N : List Str) (names : List (Str × NameKind)) : List Str → List Nat → Bool
  | [], [] => true
  | x :: xs, i :: is => N[i]? == some x && names.any (fun y => y.1 == x && y.2 == .free) && capOk N names xs is
  | _, _ => false
noncomputable def chkC (osc : Scope) (N : List Str) (scope : Scope) (cns : List Str) (ci : List Nat) : Bool :=
  scope.kind == .function && scope.names.all (fun y => y.2 != .cell) && scope.names.all (fun y => y.2 != .local || scope.names.lookup y.1 == some .local) &&
  scope.names.all (fun y => y.2 != .free || (osc.names.lookup y.1 == some .cell || osc.names.lookup y.1 == some .free)) && capOk N scope.names cns ci &&
  scope.names.all (fun y => y.2 != .free || (relS scope osc).lookup y.1 != some .local)
theorem capOk_get {N : List Str} {names : List (Str × NameKind)} : ∀ {cns : List Str} {ci : List Nat}, capOk N names cns ci = true → cns.length = ci.length ∧ ∀ (j : Nat) x, cns[j]? = some x → ∃ i, ci[j]? = some i ∧ N[i]? = some x ∧ (x, NameKind.free) ∈ names
  | [], [], _ => ⟨rfl, fun j x e => by simp at e⟩
  | [], _ :: _, h => by simp [capOk] at h
  | _ :: _, [], h => by simp [capOk] at h
  | x :: xs, i :: is, h => by
    unfold capOk at h
    rw [Bool.and_eq_true, Bool.and_eq_true] at h
    obtain ⟨⟨h1, h2⟩, h3⟩ := h
    obtain ⟨l, r⟩ := capOk_get h3
    refine ⟨by simp [l], fun j y e => ?_⟩
    cases j with
    | zero =>
      have e' : x = y := by simpa using e
      subst e'
      refine ⟨i, by simp, by simpa using h1, ?_⟩
      obtain ⟨z, hz, hq⟩ := List.any_eq_true.mp h2
      rw [Bool.and_eq_true] at hq
      obtain ⟨a, b⟩ := z
      have e1 : a = x := by simpa using hq.1
      have e2 : b = .free := by simpa using hq.2
      subst e1 e2
      exact hz
    | succ j =>
      obtain ⟨k, hk⟩ := r j y (by simpa using e)
      exact ⟨k, by simpa using hk.1, hk.2⟩
theorem CompSc.of {X : Cx} {scope : Scope} {cns : List Str} {ci : List Nat} (h : chkC X.env.scope X.N scope cns ci = true) : CompSc X scope cns ci := by
  unfold chkC at h
  rw [Bool.and_eq_true, Bool.and_eq_true, Bool.and_eq_true, Bool.and_eq_true, Bool.and_eq_true] at h
  obtain ⟨⟨⟨⟨⟨h1, h2⟩, h3⟩, h4⟩, h5⟩, h6⟩ := h
  obtain ⟨l, r⟩ := capOk_get h5
  refine ⟨by simpa using h1, fun y hy => ?_, fun y hy hk => ?_, fun y hy hk => ?_, r, l, fun y hy z => ?_⟩
  · simpa using List.all_eq_true.mp h2 y hy
  · have := List.all_eq_true.mp h3 y hy
    rw [Bool.or_eq_true] at this
    rcases this with q | q
    · exact absurd hk (by simpa using q)
    · simpa using q
  · have := List.all_eq_true.mp h4 y hy
    rw [Bool.or_eq_true, Bool.or_eq_true] at this
    rcases this with q | q | q
    · exact absurd hk (by simpa using q)
    · exact .inl (show X.env.scope.names.lookup y.1 = _ by simpa using q)
    · exact .inr (show X.env.scope.names.lookup y.1 = _ by simpa using q)
  · have := List.all_eq_true.mp h6 _ hy
    rw [Bool.or_eq_true] at this
    rcases this with q | q
    · simp at q
    · have z' : (relS scope X.env.scope).lookup y = some .local := z
      have q' : ((relS scope X.env.scope).lookup y != some .local) = true := q
      rw [z'] at q'
      exact absurd q' (by decide)
section
variable {K : PySem.W.Frag} {g : TG} {tt : TT} {te : TE} {nt : Nat} {ci : List Nat} {σ : St} {acc : Addr} {Q : Hp → Prop} {H0 : Hp}
theorem cg_list {a : Addr} {xs : List V} (Pv : Nat → List V → Hp → Prop) (h0 : Pv 0 [] H0) (hl : ∀ i ys H, i ≤ xs.length → Pv i ys H → SqL K H a xs)
    (hs : ∀ (i : Nat) x ys H os, xs[i]? = some x → os.length = nt → Pv i ys H → g x (blkSt os ci σ) H fun σ1 H1 => (∃ os', os'.length = nt ∧ σ1 = blkSt os' ci σ) ∧ tt σ1 H1 fun b H2 =>
      if b = true then te σ1 H2 fun z H3 => H3 acc = some (.lst ys) ∧ ys.length < sizeLine ∧ Pv (i + 1) (ys ++ [z]) (upd H3 acc (.lst (ys ++ [z]))) else Pv (i + 1) ys H2)
    (hd : ∀ ys H, Pv xs.length ys H → Q H) : CompGW (Itl K a) g tt te nt ci σ acc Q H0 := by
  refine ⟨fun i m ys H => m = xs.length - i ∧ i ≤ xs.length ∧ Pv i ys H, ⟨xs.length, by simp, Nat.zero_le _, h0⟩, ?_⟩
  rintro i m ys H ⟨rfl, hi, p⟩
  have q := hl i ys H hi p
  by_cases hlt : i < xs.length
  · refine .inr ⟨⟨xs, xs[i], q, by simp [hlt]⟩, Pv (i + 1), fun ys' H' p' => ⟨xs.length - (i + 1), by omega, rfl, hlt, p'⟩, fun y H' os ho yl => ?_⟩
    obtain ⟨rfl, yl⟩ := yl
    exact hs i y ys H' os (yl xs q) ho p
  · have e : i = xs.length := by omega
    subst e
    exact .inl ⟨⟨xs, q, Nat.le_refl _⟩, hd ys H p⟩
theorem cg_tup {a : Addr} {xs : List V} (Pv : Nat → List V → Hp → Prop) (h0 : Pv 0 [] H0) (hl : ∀ i ys H, i ≤ xs.length → Pv i ys H → SqT K H a xs)
    (hs : ∀ (i : Nat) x ys H os, xs[i]? = some x → os.length = nt → Pv i ys H → g x (blkSt os ci σ) H fun σ1 H1 => (∃ os', os'.length = nt ∧ σ1 = blkSt os' ci σ) ∧ tt σ1 H1 fun b H2 =>
      if b = true then te σ1 H2 fun z H3 => H3 acc = some (.lst ys) ∧ ys.length < sizeLine ∧ Pv (i + 1) (ys ++ [z]) (upd H3 acc (.lst (ys ++ [z]))) else Pv (i + 1) ys H2)
    (hd : ∀ ys H, Pv xs.length ys H → Q H) : CompGW (Itt K a) g tt te nt ci σ acc Q H0 := by
  refine ⟨fun i m ys H => m = xs.length - i ∧ i ≤ xs.length ∧ Pv i ys H, ⟨xs.length, by simp, Nat.zero_le _, h0⟩, ?_⟩
  rintro i m ys H ⟨rfl, hi, p⟩
  have q := hl i ys H hi p
  by_cases hlt : i < xs.length
  · refine .inr ⟨⟨xs, xs[i], q, by simp [hlt]⟩, Pv (i + 1), fun ys' H' p' => ⟨xs.length - (i + 1), by omega, rfl, hlt, p'⟩, fun y H' os ho yl => ?_⟩
    obtain ⟨rfl, yl⟩ := yl
    exact hs i y ys H' os (yl xs q) ho p
  · have e : i = xs.length := by omega
    subst e
    exact .inl ⟨⟨xs, q, Nat.le_refl _⟩, hd ys H p⟩
end
end L2
namespace L2
open PySem PySem.Spec PyProof.Rows
noncomputable def isiT : List String := ["int", "bool", "str", "list", "tuple", "dict"]
inductive KindV (K : PySem.W.Frag) (H : Hp) : V → String → Prop where
  | non : KindV K H .non "NoneType"
  | bl {b : Bool} : KindV K H (.bl b) "bool"
  | int {i : Int} : KindV K H (.int i) "int"
  | str {x : Str} : KindV K H (.str x) "str"
  | lst {a : Addr} {xs : List V} (h : SqL K H a xs) : KindV K H (.ref a) "list"
  | tup {a : Addr} {xs : List V} (h : SqT K H a xs) : KindV K H (.ref a) "tuple"
  | dic {a : Addr} (h : IsD H a) : KindV K H (.ref a) "dict"
noncomputable def kindIs (k T : String) : Bool := k == T || (k == "bool" && T == "int")
noncomputable def rIsi (K : PySem.W.Frag) : List V → Hp → VK → Prop := fun xs H Q => ∃ x T k, xs = [x, .ty T] ∧ isiT.contains T = true ∧ KindV K H x k ∧ Q (.bl (kindIs k T)) H
section
variable {X : Cx}
theorem call_isi : CallR X (.builtin "isinstance") (rIsi X.K) := by
  intro pins s σ H xs us Q I r h
  obtain ⟨x, T, k, rfl, hT, hk, q⟩ := h
  obtain ⟨u, v, rfl, ru, rv⟩ := vals2 r
  cases rv
  have hT' : T = "int" ∨ T = "bool" ∨ T = "str" ∨ T = "list" ∨ T = "tuple" ∨ T = "dict" := by simpa [isiT] using hT
  have fin : ∀ {b : Bool}, b = kindIs k T → EP X pins σ Q (.bool b) s := fun e => ⟨.bl _, H, I, rfl, by rw [e]; exact q⟩
  have finT : ∀ {b : Bool}, b = kindIs k T → EP X pins σ Q (.bool b) { s with toks := s.toks + 1 } := fun e => ⟨.bl _, H, I.tok _, rfl, by rw [e]; exact q⟩
  cases hk with
  | non =>
    cases ru
    rcases hT' with rfl | rfl | rfl | rfl | rfl | rfl
    · exact IsiPair.NoneType_int (finT (by decide +kernel))
    · exact IsiPair.NoneType_bool (finT (by decide +kernel))
    · exact IsiPair.NoneType_str (finT (by decide +kernel))
    · exact IsiPair.NoneType_list (finT (by decide +kernel))
    · exact IsiPair.NoneType_tuple (finT (by decide +kernel))
    · exact IsiPair.NoneType_dict (finT (by decide +kernel))
  | bl =>
    cases ru
    rcases hT' with rfl | rfl | rfl | rfl | rfl | rfl
    · exact IsiPair.bool_int (fin (by decide +kernel))
    · exact IsiPair.bool_bool (fin (by decide +kernel))
    · exact IsiPair.bool_str (finT (by decide +kernel))
    · exact IsiPair.bool_list (finT (by decide +kernel))
    · exact IsiPair.bool_tuple (finT (by decide +kernel))
    · exact IsiPair.bool_dict (finT (by decide +kernel))
  | int =>
    obtain ⟨t, rfl⟩ := ru
    rcases hT' with rfl | rfl | rfl | rfl | rfl | rfl
    · exact IsiPair.int_int (fin (by decide +kernel))
    · exact IsiPair.int_bool (finT (by decide +kernel))
    · exact IsiPair.int_str (finT (by decide +kernel))
    · exact IsiPair.int_list (finT (by decide +kernel))
    · exact IsiPair.int_tuple (finT (by decide +kernel))
    · exact IsiPair.int_dict (finT (by decide +kernel))
  | str =>
    obtain ⟨t, rfl⟩ := ru
    rcases hT' with rfl | rfl | rfl | rfl | rfl | rfl
    · exact IsiPair.str_int (finT (by decide +kernel))
    · exact IsiPair.str_bool (finT (by decide +kernel))
    · exact IsiPair.str_str (fin (by decide +kernel))
    · exact IsiPair.str_list (finT (by decide +kernel))
    · exact IsiPair.str_tuple (finT (by decide +kernel))
    · exact IsiPair.str_dict (finT (by decide +kernel))
  | lst hl =>
    cases ru
    obtain ⟨its, _, ⟨o, n, e, c, _⟩, _⟩ := I.list hl
    rcases hT' with rfl | rfl | rfl | rfl | rfl | rfl
    · exact IsiPair.list_int e c (finT (by decide +kernel))
    · exact IsiPair.list_bool e c (finT (by decide +kernel))
    · exact IsiPair.list_str e c (finT (by decide +kernel))
    · exact IsiPair.list_list e c (fin (by decide +kernel))
    · exact IsiPair.list_tuple e c (finT (by decide +kernel))
    · exact IsiPair.list_dict e c (finT (by decide +kernel))
  | tup hl =>
    cases ru
    obtain ⟨its, _, ⟨o, e, c, _⟩, _⟩ := I.tuple hl
    rcases hT' with rfl | rfl | rfl | rfl | rfl | rfl
    · exact IsiPair.tuple_int e c (finT (by decide +kernel))
    · exact IsiPair.tuple_bool e c (finT (by decide +kernel))
    · exact IsiPair.tuple_str e c (finT (by decide +kernel))
    · exact IsiPair.tuple_list e c (finT (by decide +kernel))
    · exact IsiPair.tuple_tuple e c (fin (by decide +kernel))
    · exact IsiPair.tuple_dict e c (finT (by decide +kernel))
  | dic hl =>
    cases ru
    obtain ⟨o, e, c⟩ := (isD_at I hl).1
    rcases hT' with rfl | rfl | rfl | rfl | rfl | rfl
    · exact IsiPair.dict_int e c (finT (by decide +kernel))
    · exact IsiPair.dict_bool e c (finT (by decide +kernel))
    · exact IsiPair.dict_str e c (finT (by decide +kernel))
    · exact IsiPair.dict_list e c (finT (by decide +kernel))
    · exact IsiPair.dict_tuple e c (finT (by decide +kernel))
    · exact IsiPair.dict_dict e c (fin (by decide +kernel))
end
section
variable {H : Hp} {Q : VK} {σ : St} {D : Ends} {K : PySem.W.Frag}
theorem r_compG {wi : TI} {g : Bk → TG} {tt : Bk → TT} {te : Bk → TE} {nt : Nat} {ci : List Nat} : tCompG wi g tt te nt ci σ H Q = wi σ H fun J H1 => ∀ acc, H1 acc = none → ∀ bk : Bk, CompGW J (g bk) (tt bk) (te bk) nt ci σ acc (fun H' => Q (.ref acc) H') (upd H1 acc (.lst [])) := rfl
theorem r_setComp {i : Nat} {wi : TI} {g : Bk → TG} {tt : Bk → TT} {te : Bk → TE} {nt : Nat} {ci : List Nat} : sSetComp i wi g tt te nt ci D σ H = wi σ H fun J H1 => ∀ acc, H1 acc = none → ∀ bk : Bk, CompGW J (g bk) (tt bk) (te bk) nt ci σ acc (fun H' => D.nx (σ.set i (some (.ref acc))) H') (upd H1 acc (.lst [])) := rfl
theorem r_yes {Q : Bool → Hp → Prop} : tYes σ H Q = Q true H := rfl
theorem rIsi_of {x : V} {T k : String} (hk : KindV K H x k) (hT : isiT.contains T = true) (hf : ∀ k', KindV K H x k' → k' = k) : rIsi K [x, .ty T] H Q = Q (.bl (kindIs k T)) H :=
  propext ⟨by rintro ⟨_, _, k', e, _, h2, q⟩; cases e; rw [hf k' h2] at q; exact q, by intro q; exact ⟨x, T, k, rfl, hT, hk, q⟩⟩
theorem r_isi_int_str {i : Int} : rIsi K [.int i, .ty "str"] H Q = Q (.bl false) H := (rIsi_of (T := "str") .int (by decide +kernel) (fun k h => by cases h; rfl)).trans (by rw [show kindIs "int" "str" = false by decide +kernel])
theorem r_isi_str_str {x : Str} : rIsi K [.str x, .ty "str"] H Q = Q (.bl true) H := (rIsi_of (T := "str") .str (by decide +kernel) (fun k h => by cases h; rfl)).trans (by rw [show kindIs "str" "str" = true by decide +kernel])
end
end L2
namespace L2
open PySem PySem.Spec PyProof.Rows
section
variable {H : Hp} {Q : VK} {σ : St} {D : Ends} {K : PySem.W.Frag}
theorem r_slT {a : Addr} {lo hi : Option Int} : rSlT K (.ref a) lo hi H Q = ∃ xs, SqT K H a xs ∧ ¬ (HT.sIx xs.length 0 lo = 0 ∧ HT.sIx xs.length xs.length hi = xs.length) ∧ ∀ p, H p = none → Q (.ref p) (upd H p (.tup (cutV xs lo hi))) := propext ⟨by rintro ⟨_, xs, e1, h⟩; cases e1; exact ⟨xs, h⟩, by rintro ⟨xs, h⟩; exact ⟨_, xs, rfl, h⟩⟩
theorem r_inR {x : V} {p : Addr} : rIn K false x (.ref p) H Q = ∃ xs, (SqL K H p xs ∨ SqT K H p xs) ∧ flatV x = true ∧ xs.all flatV = true ∧ Q (.bl (inV x xs)) H := propext ⟨by rintro ⟨_, xs, e1, h⟩; cases e1; exact ⟨xs, h⟩, by rintro ⟨xs, h⟩; exact ⟨_, xs, rfl, h⟩⟩
theorem r_notInR {x : V} {p : Addr} : rIn K true x (.ref p) H Q = ∃ xs, (SqL K H p xs ∨ SqT K H p xs) ∧ flatV x = true ∧ xs.all flatV = true ∧ Q (.bl (!inV x xs)) H := propext ⟨by rintro ⟨_, xs, e1, h⟩; cases e1; exact ⟨xs, h⟩, by rintro ⟨xs, h⟩; exact ⟨_, xs, rfl, h⟩⟩
end
theorem Paired.get {α β : Type} {F : α → β → Prop} : ∀ {l₁ : List α} {l₂ : List β} {i : Nat} {a : α}, Paired F l₁ l₂ → l₁[i]? = some a → ∃ b, l₂[i]? = some b ∧ F a b
  | _, _, _, _, .nil, e => by simp at e
  | _, _, 0, _, .cons h _, e => by simp at e; subst e; exact ⟨_, rfl, h⟩
  | _, _, i + 1, a, .cons _ t, e => by
    obtain ⟨b, h1, h2⟩ := Paired.get (i := i) (a := a) t (by simpa using e)
    exact ⟨b, by simpa using h1, h2⟩
theorem Same.updM {H0 H : Hp} {p : Addr} {o : HO} (s : Same H0 H) (h : H0 p = none) : Same H0 (L2.upd H p o) := fun b u e => by rw [upd_ne (ne_of_none e h)]; exact s b u e
theorem Same.updN {H0 H : Hp} {p : Addr} {o : HO} (s : Same H0 H) (h : H p = none) : Same H0 (L2.upd H p o) := s.updM (s.free h)
theorem cxOf_K {CX : CXT} {P : Program} {w : World} {K : PySem.W.Frag} {mg : Str → Option Value} {base : Heap} {N : List Str} {qual : Str} {scope : Scope} {f : Addr} {cd : Value} {A : Around} {outer : List Env} {s : Shared} {H : Hp} {E : XK} : (cxOf CX P w K mg base N qual scope f cd A outer s H E).K = K := rfl
theorem wish_K {X : Cx} {E : Value → Shared → Prop} : (X.wish E).K = X.K := rfl
theorem blk_K {X : Cx} {N' : List Str} {scope : Scope} {b : Bk} : (X.blk N' scope b).K = X.K := rfl
theorem r_blk1 {o : Option V} {ci : List Nat} {σ : St} : blkSt [o] ci σ = none :: o :: ci.map fun i => (σ[i]?).join := rfl
theorem r_blk2 {o o' : Option V} {ci : List Nat} {σ : St} : blkSt [o, o'] ci σ = none :: o :: o' :: ci.map fun i => (σ[i]?).join := rfl
theorem notWhole {n k : Nat} {P : Prop} (h : ¬ HT.sIx n 0 (some (k : Int)) = 0) : ¬ (HT.sIx n 0 (some (k : Int)) = 0 ∧ P) := fun z => h z.1
noncomputable def isStrV : V → Bool
  | .str _ => true
  | _ => false
theorem inV_str {n : Str} : ∀ {ns : List Str}, inV (.str n) (ns.map V.str) = decide (n ∈ ns)
  | [] => by simp [inV]
  | m :: ns => by
    have ih := inV_str (n := n) (ns := ns)
    unfold inV at ih ⊢
    rw [List.map_cons, List.any_cons, ih]
    have e : eqV (.str m) (.str n) = decide (m = n) := by unfold eqV; rfl
    rw [e]
    by_cases h1 : m = n
    · subst h1; simp
    · have h2 : ¬ n = m := fun z => h1 z.symm
      simp [h1, h2]
section
variable {K : PySem.W.Frag} {tt : TT} {te : TE} {ci : List Nat} {σ : St} {acc : Addr} {Q : Hp → Prop} {H1 : Hp} {a : Addr} {xs : List V}
theorem flat_turn (p : V → Bool) (f : V → V) {x : V} {ys : List V} {H : Hp} {os : List (Option V)} {i : Nat} {Pv : Nat → List V → Hp → Prop} (ho : os.length = 1) (hi : xs[i]? = some x)
    (hp : ∀ Q', Q' (p x) H → tt (blkSt [some x] ci σ) H Q') (hf : ∀ Q', p x = true → Q' (f x) H → te (blkSt [some x] ci σ) H Q') (hacc : H acc = some (.lst ys)) (hlen : ys.length < sizeLine)
    (h1 : p x = true → Pv (i + 1) (ys ++ [f x]) (upd H acc (.lst (ys ++ [f x])))) (h2 : p x = false → Pv (i + 1) ys H) :
    gName 1 x (blkSt os ci σ) H fun σ1 H1 => (∃ os', os'.length = 1 ∧ σ1 = blkSt os' ci σ) ∧ tt σ1 H1 fun b H2 =>
      if b = true then te σ1 H2 fun z H3 => H3 acc = some (.lst ys) ∧ ys.length < sizeLine ∧ Pv (i + 1) (ys ++ [z]) (upd H3 acc (.lst (ys ++ [z]))) else Pv (i + 1) ys H2 := by
  have e : (blkSt os ci σ).set 1 (some x) = blkSt [some x] ci σ := by
    match os, ho with
    | [o], _ => rfl
  show (∃ os', os'.length = 1 ∧ (blkSt os ci σ).set 1 (some x) = blkSt os' ci σ) ∧ tt ((blkSt os ci σ).set 1 (some x)) H _
  rw [e]
  refine ⟨⟨[some x], rfl, rfl⟩, hp _ ?_⟩
  cases hb : p x with
  | true => rw [if_pos rfl]; exact hf _ hb ⟨hacc, hlen, h1 hb⟩
  | false => rw [if_neg Bool.false_ne_true]; exact h2 hb
theorem take_filter_map {p : V → Bool} {f : V → V} {xs : List V} {i : Nat} {x : V} (hi : xs[i]? = some x) : ((xs.take (i + 1)).filter p).map f = ((xs.take i).filter p).map f ++ (if p x = true then [f x] else []) := by
  obtain ⟨h, e⟩ := List.getElem?_eq_some_iff.mp hi
  rw [List.take_succ_eq_append_getElem h, e, List.filter_append, List.map_append]
  congr 1
  cases hb : p x <;> simp [hb]
theorem flat_len {p : V → Bool} {f : V → V} {xs : List V} {i : Nat} {x : V} (hi : xs[i]? = some x) (hz : xs.length ≤ sizeLine) : (((xs.take i).filter p).map f).length < sizeLine := by
  obtain ⟨h, e⟩ := List.getElem?_eq_some_iff.mp hi
  rw [List.length_map]
  have := List.length_filter_le p (xs.take i)
  rw [List.length_take] at this
  omega
theorem cg_flat {J : It} (p : V → Bool) (f : V → V) (hz : xs.length ≤ sizeLine) (hacc : H1 acc = none)
    (hJ : ∀ (Pv : Nat → List V → Hp → Prop), Pv 0 [] (upd H1 acc (.lst [])) → (∀ i ys H, Pv i ys H → ∃ ys', H = upd H1 acc (.lst ys')) →
      (∀ (i : Nat) x ys H os, xs[i]? = some x → os.length = 1 → Pv i ys H → gName 1 x (blkSt os ci σ) H fun σ1 H1 => (∃ os', os'.length = 1 ∧ σ1 = blkSt os' ci σ) ∧ tt σ1 H1 fun b H2 =>
        if b = true then te σ1 H2 fun z H3 => H3 acc = some (.lst ys) ∧ ys.length < sizeLine ∧ Pv (i + 1) (ys ++ [z]) (upd H3 acc (.lst (ys ++ [z]))) else Pv (i + 1) ys H2) →
      (∀ ys H, Pv xs.length ys H → Q H) → CompGW J (gName 1) tt te 1 ci σ acc Q (upd H1 acc (.lst [])))
    (hp : ∀ x ∈ xs, ∀ H Q', Same H1 H → Q' (p x) H → tt (blkSt [some x] ci σ) H Q') (hf : ∀ x ∈ xs, ∀ H Q', Same H1 H → p x = true → Q' (f x) H → te (blkSt [some x] ci σ) H Q')
    (q : Q (upd H1 acc (.lst ((xs.filter p).map f)))) : CompGW J (gName 1) tt te 1 ci σ acc Q (upd H1 acc (.lst [])) := by
  refine hJ (fun i ys H => ys = ((xs.take i).filter p).map f ∧ H = upd H1 acc (.lst ys)) ⟨by simp, rfl⟩ (fun i ys H h => ⟨ys, h.2⟩) ?_ ?_
  · rintro i x ys H os hi ho ⟨rfl, rfl⟩
    have hm := List.mem_of_getElem? hi
    refine flat_turn (xs := xs) (Pv := fun i ys H => ys = ((xs.take i).filter p).map f ∧ H = upd H1 acc (.lst ys)) p f ho hi (fun Q' h => hp x hm _ _ (Same.upd hacc) h) (fun Q' hb h => hf x hm _ _ (Same.upd hacc) hb h) upd_same (flat_len hi hz) (fun hb => ?_) (fun hb => ?_)
    · rw [take_filter_map hi, if_pos hb]; exact ⟨rfl, by rw [upd_upd]⟩
    · rw [take_filter_map hi, if_neg (by rw [hb]; exact Bool.false_ne_true), List.append_nil]; exact ⟨rfl, rfl⟩
  · rintro ys H ⟨rfl, rfl⟩
    rw [List.take_length]
    exact q
theorem cg_flatT (p : V → Bool) (f : V → V) (hz : xs.length ≤ sizeLine) (hl : SqT K H1 a xs) (hacc : H1 acc = none) 
    (hp : ∀ x ∈ xs, ∀ H Q', Same H1 H → Q' (p x) H → tt (blkSt [some x] ci σ) H Q') (hf : ∀ x ∈ xs, ∀ H Q', Same H1 H → p x = true → Q' (f x) H → te (blkSt [some x] ci σ) H Q')
    (q : Q (upd H1 acc (.lst ((xs.filter p).map f)))) : CompGW (Itt K a) (gName 1) tt te 1 ci σ acc Q (upd H1 acc (.lst [])) :=
  cg_flat p f hz hacc (fun Pv h0 hH hs hd => cg_tup Pv h0 (fun i ys H _ h => by obtain ⟨ys', rfl⟩ := hH i ys H h; exact (Same.upd hacc).seqT hl) hs hd) hp hf q
end
end L2
namespace FB
open PySem L2
inductive Opd where
  | box (n : Str)
  | word (i : Int)
  deriving DecidableEq
noncomputable def Opd.v : Opd → V
  | .box n => .str n
  | .word i => .int i
noncomputable def Opd.reads : Opd → List Str
  | .box n => [n]
  | .word _ => []
inductive Deed where
  | tell (a : Opd)
  | copy (d : Str) (a : Opd)
  | op (f d : Str) (a b : Opd)
  deriving DecidableEq
noncomputable def opsL : List Str := ["plus", "less", "and", "or", "xor", "below", "same"]
noncomputable def Deed.vs : Deed → List V
  | .tell a => [.str "tell", a.v]
  | .copy d a => [.str "copy", .str d, a.v]
  | .op f d a b => [.str f, .str d, a.v, b.v]
noncomputable def Deed.fine : Deed → Prop
  | .op f _ _ _ => f ∈ opsL
  | _ => True
noncomputable def Deed.reads : Deed → List Str
  | .tell a => a.reads
  | .copy _ a => a.reads
  | .op _ _ a b => a.reads ++ b.reads
noncomputable def Deed.writes : Deed → List Str
  | .tell _ => []
  | .copy d _ => [d]
  | .op _ d _ _ => [d]
noncomputable def Deed.tells : Deed → Bool
  | .tell _ => true
  | _ => false
end FB
namespace L2
open PySem PySem.Spec PyProof.Rows
section
variable {X : Cx}
theorem vals_strs : ∀ {ns : List Str} {us : List Value}, Vals (ns.map V.str) us → StrsAre us ns
  | [], _, r => by cases r; exact .nil
  | n :: ns, _, r => by
    cases r with
    | cons r0 rr =>
      obtain ⟨t, rfl⟩ := r0
      exact StrsAre.cons _ _ (vals_strs rr)
end
end L2
namespace L2
open PySem PySem.Spec PyProof.Rows
section
variable {X : Cx} {x : Str} {p pos : Pos} {e : Expr} {es : List Expr} {t : TA} {id T : String} {r : List V → Hp → VK → Prop}
theorem qv (i : Nat) {x : Str} {pos : Pos} (hv : Vis X.env.scope x) (hN : X.N[i]? = some x := by rfl) (hd : (x == ("__debug__" : Str)) = false := by kernel_rfl) (hcd : (x == ("__classdict__" : Str)) = false := by kernel_rfl) : PE X (.Name x pos) (tVar i) := pe_var hN hv hd hcd
theorem vl {sc : Scope} {x : Str} (h : sc.names.lookup x = some .local := by kernel_rfl) : Vis sc x := .inl h
theorem vc {sc : Scope} {x : Str} (h : sc.names.lookup x = some .cell := by kernel_rfl) : Vis sc x := .inr (.inl h)
theorem ll {sc : Scope} {x : Str} (h : sc.names.lookup x = some .local := by kernel_rfl) : Loc sc x := .inl h
theorem lc {sc : Scope} {x : Str} (h : sc.names.lookup x = some .cell := by kernel_rfl) : Loc sc x := .inr h
theorem gl {X : Cx} {x : Str} (h : X.env.scope.names.lookup x = some .globalImplicit := by kernel_rfl) : Gl X x := h
theorem ne_name {x : Str} (h : (x == ("__name__" : Str)) = false := by kernel_rfl) : x ≠ "__name__" := fun z => by subst z; exact absurd h (by decide +kernel)
theorem qe_callB (hc : CallR X (.builtin id) r) (hg : Gl X x) (hm : X.mg x = none) (hv : bootBuiltins x = some (.builtin id)) (ha : PA X (e :: es) t) (hn : (x == ("__name__" : Str)) = false := by kernel_rfl) (hdb : (x == ("__debug__" : Str)) = false := by kernel_rfl)
    (he : starEach (e :: es) X.env = (false, eval e X.env) :: starEach es X.env := by rfl) (hpl : (backTo pos (starEach es X.env)).any (·.1) = false := by rfl) : PE X (.Call (.Name x p) (e :: es) [] pos) (tCB r t) := pe_callB hc hg hm hv ha (ne_name hn) hdb he hpl
theorem qe_callTy (hc : CallR X (.type T) r) (hg : Gl X x) (hm : X.mg x = none) (hv : bootBuiltins x = some (.type T)) (ha : PA X (e :: es) t) (hn : (x == ("__name__" : Str)) = false := by kernel_rfl) (hdb : (x == ("__debug__" : Str)) = false := by kernel_rfl)
    (he : starEach (e :: es) X.env = (false, eval e X.env) :: starEach es X.env := by rfl) (hpl : (backTo pos (starEach es X.env)).any (·.1) = false := by rfl) : PE X (.Call (.Name x p) (e :: es) [] pos) (tCB r t) := pe_callTy hc hg hm hv ha (ne_name hn) hdb he hpl
theorem qe_bltn {x : Str} {v : V} {u : Value} {pos : Pos} (hg : Gl X x) (hm : X.mg x = none) (hv : bootBuiltins x = some u) (r : RelV v u) (hn : (x == ("__name__" : Str)) = false := by kernel_rfl) (hd : (x == ("__debug__" : Str)) = false := by kernel_rfl) : PE X (.Name x pos) (tC v) := pe_bltn hg hm hv r (ne_name hn) hd
theorem qe_glob {x : Str} {v : V} {u : Value} {pos : Pos} (hg : Gl X x) (hm : X.mg x = some u) (r : RelV v u) (hd : (x == ("__debug__" : Str)) = false := by kernel_rfl) : PE X (.Name x pos) (tC v) := pe_glob hg hm r hd
theorem qe_callD {k : Nat} {f : Addr} {fd : FuncData} {ps : List Str} {sp : Sp} {x : Str} {st : Stmt} {p pos : Pos} {e : Expr} {es : List Expr} {t : TA} (D : DefAt X.K X.mg x st ps f fd) (G : FnOk X.prog X.w X.K X.mg X.base CX0 k f fd ps sp) (hr : Room k X.A)
    (ha : PA X (e :: es) t) (hg : Gl X x) (hdb : (x == ("__debug__" : Str)) = false := by kernel_rfl) (he : starEach (e :: es) X.env = (false, eval e X.env) :: starEach es X.env := by rfl) (hpl : (backTo pos (starEach es X.env)).any (·.1) = false := by rfl) :
    PE X (.Call (.Name x p) (e :: es) [] pos) (tCall sp [] E0 t) := pe_callD D G hr ha hg hdb he hpl
noncomputable def constV : Expr → Option V
  | .Constant (.int i) _ _ => some (.int i)
  | .Constant (.str x) _ _ => some (.str x)
  | .Constant (.bool b) _ _ => some (.bl b)
  | .Constant .none _ _ => some .non
  | _ => none
noncomputable def constVs : List Expr → Option (List V)
  | [] => some []
  | e :: es => (constV e).bind fun v => (constVs es).map fun vs => v :: vs
noncomputable def tVs (vs : List V) : TA := fun _ H Q => Q vs H
theorem constV_pe {e : Expr} {v : V} (h : constV e = some v) : PE X e (tC v) ∧ ∀ es, starEach (e :: es) X.env = (false, eval e X.env) :: starEach es X.env := by
  unfold constV at h
  split at h
  · cases h; exact ⟨pe_int, fun _ => rfl⟩
  · cases h; exact ⟨pe_str, fun _ => rfl⟩
  · cases h; exact ⟨pe_bl, fun _ => rfl⟩
  · cases h; exact ⟨pe_non, fun _ => rfl⟩
  · cases h
theorem pa_const : ∀ {es : List Expr} {vs : List V}, constVs es = some vs → PA X es (tVs vs)
  | [], _, h => by cases h; exact pa_nil
  | e :: es, vs, h => by
    unfold constVs at h
    obtain ⟨v, h1, h2⟩ := Option.bind_eq_some_iff.mp h
    obtain ⟨ws, h3, h4⟩ := Option.map_eq_some_iff.mp h2
    subst h4
    obtain ⟨p1, p2⟩ := constV_pe (X := X) h1
    exact pa_cons p1 (pa_const h3) (p2 es)
theorem r_Vs {vs : List V} {σ : St} {H : Hp} {Z : List V → Hp → Prop} : tVs vs σ H Z = Z vs H := rfl
theorem r_dnewK {σ : St} {H : Hp} {Q : VK} : tDNewK σ H Q = ∀ p, H p = none → Q (.ref p) (upd H p (.dK [])) := rfl
theorem r_dput {td ty tv : TE} {D : Ends} {σ : St} {H : Hp} : sDPut td ty tv D σ H = tv σ H fun v H1 => td σ H1 fun x H2 => ty σ H2 fun y H3 => ∃ a H4, x = .ref a ∧ DPut H3 a y v H4 ∧ D.nx σ H4 := rfl
theorem r_gSub {to ti : TE} {ts : TSet} {v : V} {σ : St} {H : Hp} {Q : St → Hp → Prop} : gSub to ti ts v σ H Q = to σ H fun o H1 => ti σ H1 fun i H2 => ts o i v H2 fun H3 => Q σ H3 := rfl
noncomputable def tMid (t u : TS) : TS := fun D σ H => ∃ Mid : St → Hp → Prop, t { D with nx := Mid } σ H ∧ ∀ σ' H', Mid σ' H' → u D σ' H'
theorem pss_mid {st : Stmt} {ss : List Stmt} {ta tb : TS} (h1 : PS X st ta) (h2 : PSs X ss tb) : PSs X (st :: ss) (tMid ta tb) := by
  intro pins s σ H D I h
  obtain ⟨Mid, a, b⟩ := h
  refine wpAny_execs_cons (thn (h1 pins s σ H { D with nx := Mid } I a) fun f s1 q => ?_)
  cases f with
  | next =>
    obtain ⟨σ', H', I', q⟩ := q
    exact h2 pins s1 σ' H' D I' (b σ' H' q)
  | ret v => exact q
  | brk => exact q
  | cont => exact q
theorem r_mid {ta tb : TS} {D : Ends} {σ : St} {H : Hp} : tMid ta tb D σ H = ∃ Mid : St → Hp → Prop, ta { D with nx := Mid } σ H ∧ ∀ σ' H', Mid σ' H' → tb D σ' H' := rfl
end
end L2
namespace L2
open PySem PySem.Spec PyProof.Rows
structure KlsAt (K : PySem.W.Frag) (mg : Str → Option Value) (x : Str) (C : Addr) : Prop where
  cl : Cls K C
  mks : PySem.W.makesIn K C = true
  kp : PySem.W.keepIn K (.ref C) = true
  M : mg x = some (.ref C)
structure MethAt (K : PySem.W.Frag) (C : Addr) (m qual : Str) (st : Stmt) (ps : List Str) (f : Addr) (fd : FuncData) : Prop where
  F : Fun K m qual st f fd
  B : Binds K fd ps []
  M : Meth K C m f
theorem KlsAt.make {K : PySem.W.Frag} {mg : Str → Option Value} {x qual : Str} {C f : Addr} {st : Stmt} {ps : List Str} {fd : FuncData} (c : KlsAt K mg x C) (m : MethAt K C "__init__" qual st ps f fd) : Mk K C f := ⟨c.mks, m.M.at_, m.M.fn, c.kp⟩
section
variable {X : Cx} {k : Nat} {f C : Addr} {fd : FuncData} {ps : List Str} {sp : Sp} {x m qual : Str} {st : Stmt} {p pos apos : Pos} {e o : Expr} {es : List Expr} {ta : TE} {t : TA}
theorem qe_makeD (c : KlsAt X.K X.mg x C) (D : MethAt X.K C "__init__" qual st ps f fd) (G : FnOk X.prog X.w X.K X.mg X.base CX0 k f fd ps sp) (hr : Room (k + 1) X.A)
    (ha : PA X (e :: es) t) (hg : Gl X x) (hdb : (x == ("__debug__" : Str)) = false := by kernel_rfl) (he : starEach (e :: es) X.env = (false, eval e X.env) :: starEach es X.env := by rfl) (hpl : (backTo pos (starEach es X.env)).any (·.1) = false := by rfl) :
    PE X (.Call (.Name x p) (e :: es) [] pos) (tMake C sp [] E0 t) := pe_make (c.make D) G hr hg c.M D.B .nil pass0 ha hdb he hpl
end
section
variable {H : Hp} {Q : VK} {σ : St} {D : Ends} {K : PySem.W.Frag}
noncomputable def FldPut (K : PySem.W.Frag) (x : V) (f : Str) (y : V) (H : Hp) (Z : Hp → Prop) : Prop := ∃ a C dx fs, x = .ref a ∧ H a = some (.ins C dx fs) ∧ Cls K C ∧ NoAttr K C f ∧ fs.length < 1000 ∧ Z (upd H a (.ins C dx (putF f y fs)))
noncomputable def FldGet (K : PySem.W.Frag) (x : V) (f : Str) (H : Hp) (Q : VK) : Prop := ∃ a C dx fs v, x = .ref a ∧ H a = some (.ins C dx fs) ∧ Cls K C ∧ NoAttr K C f ∧ fs.lookup f = some v ∧ Q v H
noncomputable def Make (C : Addr) (sp : Sp) (vs : List V) (H : Hp) (Q : VK) (E : XK) : Prop := ∀ x dx, H x = none → H dx = none → dx ≠ x → sp (.ref x :: vs) (upd (upd H dx (.own x)) x (.ins C dx [])) (fun v H2 => v = .non ∧ Q (.ref x) H2) E
theorem r_sfld {ta tv : TE} {f : Str} : sFld K ta tv f D σ H = tv σ H fun y H1 => ta σ H1 fun x H2 => FldPut K x f y H2 (D.nx σ) := rfl
theorem r_gfld {ta : TE} {f : Str} : tFld K ta f σ H Q = ta σ H fun x H1 => FldGet K x f H1 Q := rfl
theorem r_make {C : Addr} {sp : Sp} {E : XK} {t : TA} : tMake C sp [] E t σ H Q = t σ H fun vs H1 => Make C sp vs H1 Q E := by
  unfold tMake Make; simp only [List.append_nil]
theorem fput {p C dx : Addr} {fs : List (Str × V)} {f : Str} {y : V} {Z : Hp → Prop} (e : H p = some (.ins C dx fs)) (c : Cls K C) (n : NoAttr K C f) (l : fs.length < 1000) (h : Z (upd H p (.ins C dx (putF f y fs)))) : FldPut K (.ref p) f y H Z := ⟨p, C, dx, fs, rfl, e, c, n, l, h⟩
theorem fget {p C dx : Addr} {fs : List (Str × V)} {f : Str} {v : V} (e : H p = some (.ins C dx fs)) (c : Cls K C) (n : NoAttr K C f) (l : fs.lookup f = some v) (h : Q v H) : FldGet K (.ref p) f H Q := ⟨p, C, dx, fs, v, rfl, e, c, n, l, h⟩
end
end L2
namespace L2
open PySem PySem.Spec PyProof.Rows
section
variable {X : Cx}
end
end L2
namespace L2
open PySem PySem.Spec PyProof.Rows
section
variable {X : Cx}
end
end L2
namespace L2
open PySem PySem.Spec PyProof.Rows
open AutoSeq1 (wpAny_loadPart')
theorem rev_mro : mroOf (.type "reversed") = pure [.type "reversed", .type "object"] := by rw [mroOf_type]; kernel_rfl
theorem rev_new : typeLookup (.type "reversed") "__new__" = pure (some (.builtin "reversed.__new__")) := by rw [typeLookup_type, builtinLookup_eq_fast]; kernel_rfl
theorem rev_made : Bind.madeBy (.type "reversed") = pure (some "reversed.__new__") := madeBy_type rev_mro rev_new (by decide +kernel)
theorem rev_sub : isSubtype (.type "list_reverseiterator") (.type "reversed") = pure false := by rw [isSubtype_type]; kernel_rfl
theorem rev_sub2 : isSubtype (.type "reversed") (.type "reversed") = pure true := by rw [isSubtype_type]; kernel_rfl
theorem rev_entry : entryFor table "reversed.__new__" = some Builtin.«reversed.__new__» := entryFor_of_tree (by kernel_rfl)
theorem meets_reversed_new (l : Addr) (items : Array Value) (n : Nat) (dct : Option Addr) (sl : Array (Option Value)) :
    Meets (Builtin.«reversed.__new__» ⟨[.type "reversed", .ref l], []⟩) (fun _ R s => s.heap.get? l = some { cls := .type "list", dict := dct, data := .seq items n, slots := sl } ∧
      R (.ok (.ret (.ref s.heap.objs.size))) { s with heap := s.heap.push { cls := .type "list_reverseiterator", data := .fields #[.ref l, rawInt (((items.size : Nat) : Int) - 1)] } }) :=
  .of_wp fun prog w A R s h => by
    obtain ⟨hp, g, d, tk, os⟩ := s; obtain ⟨hl, h⟩ := h
    have hsub := rev_sub2
    have hL : Heap.IsList (Shared.heap ⟨hp, g, d, tk, os⟩) l items := ⟨_, hl, rfl, n, rfl⟩
    wp_walk using wpAny_loadPart' hl
    refine wpAny_of_eq PySem.F.slot_list_reversed.lookup ?_
    refine wpAny_bind ?_
    unfold bindSpecial
    refine wpAny_bind (wpAny_of_eq PySem.F.type_list_reversed ?_)
    rw [if_pos (by decide)]
    refine wpAny_pure ?_
    show wpAny _ _ (if (Value.builtin "list.__reversed__" == Value.none) = true then _ else _) _ _ _
    rw [if_neg (by decide)]
    refine wpAny_bind (wpAny_rule ?_)
    refine wpAny_bind ?_
    show wpAny (model prog w) A.in1 (call (.builtin "list.__reversed__") [.ref l]) _ _ _
    refine wpAny_call_entry PySem.F.slot_list_reversed hL.typeIs PySem.F.entry_list_reversed ?_ (PySem.F.args_list_reversed_1 _)
    wp_walk using wpAny_loadPart' hl
    exact ⟨_, rfl, wpAny_pure ⟨_, rfl, h⟩⟩
noncomputable def IsRev (h : Heap) (it l : Addr) (k : Int) : Prop := ∃ o, h.get? it = some o ∧ o.cls = .type "list_reverseiterator" ∧ o.data = .fields #[.ref l, .int k 0]
section
variable {prog : Program} {w : World} {A : Around} {E : Value → Shared → Prop} {s : Shared}
theorem call_reversed_list {l : Addr} {items : Array Value} {Q : Value → Shared → Prop} (hL : s.heap.IsList l items)
    (h : ∀ h', IsRev h' s.heap.objs.size l (((items.size : Nat) : Int) - 1) → h'.objs.size = s.heap.objs.size + 1 → (∀ b o, s.heap.get? b = some o → h'.get? b = some o) → Q (.ref s.heap.objs.size) { s with heap := h' }) :
    wpAny (model prog w) A (call (.type "reversed") [.ref l]) Q E s := by
  obtain ⟨⟨c, dct, dt, sl⟩, hl, hc, n, hd⟩ := hL
  replace hc : c = .type "list" := hc
  replace hd : dt = .seq items n := hd
  subst hc hd
  have hmro := rev_mro
  have hmade := rev_made
  have hsub := rev_sub
  refine wpAny_call (codeAny_of_tree ?_)
  show wpAny _ _ (callAny (.type "reversed") _) _ _ _
  refine wpAny_pure ⟨Code.quiet_builtin _ (by decide +kernel), codeAny_builtin F.entry_type_call ?_⟩
  rw [Around.under_plain (weight_type_call_type "reversed" [.ref l] []) (units_type_call_type "reversed" [.ref l] [])]
  have h1 : (Value.type "reversed" == Value.type "type") = false := by decide +kernel
  have h2 : ((Manifest.find? "reversed").bind (·.mro.findSome? fun t => (Manifest.find? t).bind fun b => if b.noNew then some true else if b.attrs.any (·.1 == "__new__") then some false else none)).getD false = false := by decide +kernel
  have hct : checkTypeCall "reversed" ⟨[.ref l], []⟩ = pure () := by kernel_rfl
  have hcn : checkBuiltinCall "reversed.__new__" ⟨[.type "reversed", .ref l], []⟩ = pure () := by kernel_rfl
  repeat (any_goals (first | assumption | wp_step))
  have key := meets_reversed_new l items n dct sl prog w A.in1 (wants (fun v s' => v = .ref s.heap.objs.size ∧ s' = { s with heap := s.heap.push { cls := .type "list_reverseiterator", data := .fields #[.ref l, rawInt (((items.size : Nat) : Int) - 1)] } }) E) s ⟨hl, rfl, rfl⟩
  refine codeAny_mono (codeAny_call_builtin (by decide +kernel) rev_entry (wpAny_of_eq hcn key)) fun r s₁ hr => ?_
  cases r with
  | error e => exact hr
  | ok fl =>
    cases fl with
    | ret obj =>
      obtain ⟨rfl, rfl⟩ := hr
      have hT : Shared.TypeIs { s with heap := s.heap.push { cls := .type "list_reverseiterator", data := .fields #[.ref l, rawInt (((items.size : Nat) : Int) - 1)] } } (.ref s.heap.objs.size) "list_reverseiterator" := ⟨_, Heap.get?_push_size _ rfl, rfl⟩
      repeat (any_goals (first | assumption | wp_step))
      exact h _ ⟨_, Heap.get?_push_size _ rfl, rfl, rfl⟩ (Heap.size_push ..) (fun b o x => Heap.get?_push_of_some _ x)
    | _ => exact hr.elim
end
end L2
namespace L2
open PySem PySem.Spec PyProof.Rows
theorem slot_rev_next : Slot "list_reverseiterator" "__next__" "list_reverseiterator.__next__" :=
  .of (owner := "list_reverseiterator") (n := "__next__") (by rw [typeLookup_type, builtinLookup_eq_fast]; kernel_rfl) (by decide +kernel) (by decide +kernel) (by decide +kernel)
    (by first | exact .inl (by decide +kernel) | exact .inr (by decide +kernel)) (by rw [isSubtype_type]; kernel_rfl)
theorem slot_rev_iter : Slot "list_reverseiterator" "__iter__" "list_reverseiterator.__iter__" :=
  .of (owner := "list_reverseiterator") (n := "__iter__") (by rw [typeLookup_type, builtinLookup_eq_fast]; kernel_rfl) (by decide +kernel) (by decide +kernel) (by decide +kernel)
    (by first | exact .inl (by decide +kernel) | exact .inr (by decide +kernel)) (by rw [isSubtype_type]; kernel_rfl)
theorem entry_rev_next : entryFor table "list_reverseiterator.__next__" = some Builtin.«list_reverseiterator.__next__» := entryFor_of_tree (by kernel_rfl)
theorem entry_rev_iter : entryFor table "list_reverseiterator.__iter__" = some Builtin.«dict_keyiterator.__iter__» :=
  entryFor_alias (id' := "dict_keyiterator.__iter__") (by kernel_rfl) (by first | rfl | decide +kernel | (unfold String.splitOn; simp +decide [String.splitOnAux])) (by decide +kernel) (by kernel_rfl)
theorem args_rev_next (a : Value) : argsOk "list_reverseiterator.__next__" ⟨[a], []⟩ := by unfold argsOk; kernel_rfl
theorem args_rev_iter (a : Value) : argsOk "list_reverseiterator.__iter__" ⟨[a], []⟩ := by unfold argsOk; kernel_rfl
theorem IsRev.typeIs {s : Shared} {it l : Addr} {k : Int} (x : IsRev s.heap it l k) : s.TypeIs (.ref it) "list_reverseiterator" := let ⟨o, ho, hc, _⟩ := x; ⟨o, ho, hc⟩
section
variable {prog : Program} {w : World} {A : Around} {E : Value → Shared → Prop} {s : Shared}
theorem pyIter_rev {it l : Addr} {k : Int} {Q : Value → Shared → Prop} (hi : IsRev s.heap it l k) (h : Q (.ref it) s) : wpAny (model prog w) A (pyIter (.ref it)) Q E s := by
  refine wpAny_pyIter_slot hi.typeIs slot_rev_iter (wpAny_call_entry slot_rev_iter hi.typeIs entry_rev_iter ?_ (args_rev_iter _))
  show wpAny _ _ (ret (.ref it)) _ _ s
  exact wpAny_pure ⟨_, rfl, "list_reverseiterator", _, hi.typeIs, slot_rev_next.lookup, h⟩
theorem pyNext_rev_item {it l : Addr} {i : Nat} {items : Array Value} {x : Value} {Q : Option Value → Shared → Prop} (hit : IsRev s.heap it l (i : Int)) (hl : s.heap.IsList l items) (hx : items[i]? = some x)
    (hQ : ∀ h', IsRev h' it l ((i : Int) - 1) → Heap.SameBut it s.heap h' → Q (some x) { s with heap := h' }) : wpAny (model prog w) A (pyNext (.ref it)) Q E s := by
  obtain ⟨o, ho, hc, hd⟩ := id hit
  obtain ⟨ol, hol, _, nl, hdl⟩ := hl
  unfold pyNext
  refine wpAny_bind (wpAny_attempt (wpAny_callSpecial?_slot (name := Str.ofString "__next__") hit.typeIs slot_rev_next (wpAny_call_entry slot_rev_next hit.typeIs entry_rev_next ?_ (args_rev_next _))))
  show wpAny _ _ (field (.ref it) 1 >>= _) _ _ s
  refine wpAny_bind (wpAny_field ho hd (x := .int i 0) rfl ?_)
  show wpAny _ _ (if (i : Int) < 0 then _ else _) _ _ s
  rw [if_neg (by omega)]
  show wpAny _ _ (field (.ref it) 0 >>= _) _ _ s
  refine wpAny_bind (wpAny_field ho hd (x := .ref l) rfl ?_)
  show wpAny _ _ (seqItems? (.ref l) >>= _) _ _ s
  refine wpAny_bind (wpAny_seqItems hol hdl ?_)
  simp only [Int.toNat_natCast, hx]
  refine wpAny_bind (wpAny_setField ho hd (by simp) (wpAny_pure ⟨x, rfl, wpAny_pure (hQ _ ?_ (Heap.SameBut.update ..))⟩))
  exact ⟨_, Heap.get?_update_self _ ho (Obj.isFreed_of_fields (Obj.data_mapFields hd _)), (Obj.cls_mapFields ..).trans hc, by
    rw [Obj.data_mapFields hd]; simp [rawInt]⟩
theorem pyNext_rev_end {it l : Addr} {Q : Option Value → Shared → Prop} (hh : A.handled = none) (hit : IsRev s.heap it l (-1))
    (hQ : ∀ h', Heap.ExtBut it s.heap h' → Q none { s with heap := h' }) : wpAny (model prog w) A (pyNext (.ref it)) Q E s := by
  obtain ⟨o, ho, hc, hd⟩ := id hit
  unfold pyNext
  refine wpAny_bind (wpAny_attempt (wpAny_callSpecial?_slot (name := Str.ofString "__next__") hit.typeIs slot_rev_next (wpAny_call_entry slot_rev_next hit.typeIs entry_rev_next ?_ (args_rev_next _))))
  show wpAny _ _ (field (.ref it) 1 >>= _) _ _ s
  refine wpAny_bind (wpAny_field ho hd (x := .int (-1) 0) rfl ?_)
  show wpAny _ _ (if (-1 : Int) < 0 then _ else _) _ _ s
  rw [if_pos (by decide)]
  refine wpAny_bind (wpAny_rule ?_)
  refine wpAny_bind ?_
  show wpAny _ _ (newExc (.type "StopIteration") [] >>= _) _ _ _
  refine wpAny_bind ?_
  simp only [newExc, newTuple]
  refine wpAny_bind (wpAny_newObj_type ?_ (by size_fits))
  refine wpAny_bind (m := firstArgMember _ _) (wpAny_of_eq (a := Value.none) (by first | rfl | (simp only [firstArgMember]; rfl)) ?_)
  refine wpAny_newObj_type ?_ (by size_fits)
  simp only [raiseNew]
  refine wpAny_bind (wpAny_handled ?_)
  rw [show A.in1.handled = none from hh]
  refine wpAny_bind (wpAny_pure (wpAny_throw ?_))
  refine wpAny_bind (wpAny_isInstance (T := "StopIteration") (b := true) ⟨_, Heap.get?_push_size _ rfl, rfl⟩ isSubtype_stop ?_)
  exact wpAny_pure (hQ _ (fun b o _ e => Heap.get?_push_of_some _ (Heap.get?_push_of_some _ e)))
end
end L2
namespace L2
open PySem PySem.Spec PyProof.Rows
noncomputable def Itv (K : PySem.W.Frag) (a : Addr) (n : Nat) : It :=
  ⟨fun i H => ∃ xs, SqL K H a xs ∧ xs.length = n ∧ i < n, fun i H x H' => H' = H ∧ ∀ xs, SqL K H a xs → xs.reverse[i]? = some x, fun i _ => n ≤ i⟩
theorem rev_at {α : Type} {xs : List α} {i : Nat} (h : i < xs.length) : xs.reverse[i]? = xs[xs.length - 1 - i]? := by
  rw [List.getElem?_reverse h]
theorem IsRev.keep {h h' : Heap} {it l : Addr} {k : Int} (x : IsRev h it l k) (hk : ∀ o, h.get? it = some o → h'.get? it = some o) : IsRev h' it l k := let ⟨o, ho, r⟩ := x; ⟨o, hk o ho, r⟩
theorem turn_rev {P : Program} {w : World} {K : PySem.W.Frag} {tg : Expr} (a it : Addr) (n : Nat) : Turn P w K tg (Itv K a n) [it] it (fun i h => i ≤ n ∧ IsRev h it a ((n : Int) - 1 - (i : Nat))) where
  mem := by simp
  obj := fun i h st b hb => by
    have e : b = it := by simpa using hb
    subst e
    obtain ⟨_, o, e, c, d⟩ := st
    exact ⟨o, e, fun v z => by rw [d] at z; cases z⟩
  keep := fun i h h' st k => ⟨st.1, st.2.keep fun o e => k it (by simp) o e⟩
  item := by
    intro X hP hw hK hc i pins s σ H E I hf st hg
    subst hP hw hK
    obtain ⟨xs, hq, hn, hi⟩ := hg
    subst hn
    obtain ⟨x, hx⟩ : ∃ x, xs[xs.length - 1 - i]? = some x := ⟨_, List.getElem?_eq_getElem (by omega)⟩
    obtain ⟨its, rv, p, hz⟩ := I.list hq
    obtain ⟨u, hu, ru⟩ := rv.get hx
    obtain ⟨f0, f1, f2, f3, f4, f5⟩ := hf it (by simp)
    have st0 : IsRev s.heap it a ((xs.length - 1 - i : Nat) : Int) := by
      have := st.2
      rw [show ((xs.length : Int) - 1 - (i : Nat)) = ((xs.length - 1 - i : Nat) : Int) by omega] at this
      exact this
    refine pyNext_rev_item st0 p.isList (x := u) (by simpa using hu) fun h' st' sb => ?_
    have I1 : Inv X pins σ H { s with heap := h' } := I.turned (t' := s.toks) (fun b o hb e => (sb.2 b hb).trans e) f0 f1 f3 f4 f5
    obtain ⟨o, e, c, d⟩ := id st'
    have st2 : IsRev h' it a ((xs.length : Int) - 1 - ((i + 1 : Nat) : Int)) := by
      rw [show ((xs.length : Int) - 1 - ((i + 1 : Nat) : Int)) = ((xs.length - 1 - i : Nat) : Int) - 1 by omega]
      exact st'
    exact ⟨u, rfl, go_of (s := { s with heap := h' }) e c d (by decide) ⟨x, H, I1, ru, ⟨rfl, fun ys hy => by rw [I.list_inj hy hq, rev_at hi]; exact hx⟩, ⟨hi, st2⟩, fun b hb => (hf b hb).1⟩⟩
  done := by
    intro X hP hw hK hc i pins s σ H E I hf st hg
    subst hP hw hK
    obtain ⟨f0, f1, f2, f3, f4, f5⟩ := hf it (by simp)
    have hg' : n ≤ i := hg
    have e : i = n := Nat.le_antisymm st.1 hg'
    have st0 : IsRev s.heap it a (-1) := by
      have := st.2
      rw [show ((n : Int) - 1 - (i : Nat)) = -1 by omega] at this
      exact this
    exact pyNext_rev_end (I.ok.hd hc) st0 fun h' eb => ⟨rfl, I.turned (t' := s.toks) (fun b o hb e => eb b o hb e) f0 f1 f3 f4 f5⟩
  self := fun _ _ _ _ _ st h => pyIter_rev st.2 h
noncomputable def iRev (K : PySem.W.Frag) (ta : TA) : TI := fun σ H R => ta σ H fun vs H1 => ∃ a xs, vs = [.ref a] ∧ SqL K H1 a xs ∧ R (Itv K a xs.length) H1
theorem pi_rev {X : Cx} {tg a : Expr} {ta : TA} {p pos : Pos} (hm : X.mg "reversed" = none) (ha : PA X [a] ta) (hg : Gl X "reversed" := by rfl) (hs : starEach [a] X.env = [(false, eval a X.env)] := by rfl) :
    PI X tg (.Call (.Name "reversed" p) [a] [] pos) (iRev X.K ta) := by
  intro pins s σ H R I h
  refine Call_ (ld_blt I hg hm boot_reversed (PyProof.Rows.callWith_type1 (thn (ha pos pins s σ H _ I h) fun us s1 hhx => ?_) hs rfl))
  obtain ⟨vs, H1, I1, r1, q1⟩ := hhx
  obtain ⟨l, xs, e, hq, q⟩ := q1
  subst e
  cases r1 with
  | cons r rr =>
    cases rr
    cases r
    obtain ⟨its, rv, pl, hz⟩ := I1.list hq
    have hlen := rv.length
    refine call_reversed_list pl.isList fun h' hit hsz hk => ?_
    refine pyIter_rev hit ?_
    have I2 : Inv X pins σ H1 { s1 with heap := h' } := I1.kept (t' := s1.toks) hk
    refine ⟨s1.heap.objs.size, [s1.heap.objs.size], _, _, H1, rfl, I2, turn_rev l _ xs.length, ⟨Nat.zero_le _, ?_⟩, fun b hb => ?_, q⟩
    · have e : (((its.toArray.size : Nat) : Int) - 1) = ((xs.length : Int) - 1 - ((0 : Nat) : Int)) := by simp [hlen]
      rw [e] at hit
      exact hit
    · rw [List.mem_singleton.mp hb]
      exact I1.fpOk (Nat.le_refl _) (I1.hok.fresh (Nat.le_refl _))
section
variable {g : TG} {tb : TS} {D : Ends} {σ : St} {H : Hp}
theorem r_iRev {K : PySem.W.Frag} {ta : TA} {R : It → Hp → Prop} : iRev K ta σ H R = ta σ H fun vs H1 => ∃ a xs, vs = [.ref a] ∧ SqL K H1 a xs ∧ R (Itv K a xs.length) H1 := rfl
theorem fw_rev {K : PySem.W.Frag} {a : Addr} {xs : List V} (Pv : Nat → St → Hp → Prop) (h0 : Pv 0 σ H) (hl : ∀ i σ H, i ≤ xs.length → Pv i σ H → SqL K H a xs)
    (hs : ∀ (i : Nat) x σ H, xs.reverse[i]? = some x → Pv i σ H → g x σ H fun σ2 H2 => tb { D with nx := Pv (i + 1), ct := Pv (i + 1), bk := D.nx } σ2 H2) (hd : ∀ σ H, Pv xs.length σ H → D.nx σ H) : ForW (Itv K a xs.length) g tb D σ H := by
  refine ⟨fun i m σ H => m = xs.length - i ∧ i ≤ xs.length ∧ Pv i σ H, ⟨xs.length, by simp, Nat.zero_le _, h0⟩, ?_⟩
  rintro i m σ H ⟨rfl, hi, p⟩
  have q := hl i σ H hi p
  by_cases hlt : i < xs.length
  · refine .inr ⟨⟨xs, q, rfl, hlt⟩, Pv (i + 1), fun σ' H' p' => ⟨xs.length - (i + 1), by omega, rfl, hlt, p'⟩, fun x H' y => ?_⟩
    obtain ⟨eH, y⟩ := y
    subst eH
    exact hs i x σ H' (y xs q) p
  · have e : i = xs.length := by omega
    subst e
    exact .inl ⟨Nat.le_refl _, hd σ H p⟩
end
end L2
namespace L2
open PySem PySem.Spec PyProof.Rows
theorem rev_nolen : typeLookup (.type "list_reverseiterator") "__len__" = pure none := by rw [typeLookup_type, builtinLookup_eq_fast]; kernel_rfl
theorem rev_hint : typeLookup (.type "list_reverseiterator") "__length_hint__" = pure (some (.builtin "list_reverseiterator.__length_hint__")) := by rw [typeLookup_type, builtinLookup_eq_fast]; kernel_rfl
section
variable {prog : Program} {w : World} {A : Around} {E : Value → Shared → Prop} {s : Shared}
theorem hint_rev {r : Addr} {Q : Bool → Shared → Prop} (hT : s.TypeIs (.ref r) "list_reverseiterator") (h : Q false s) : wpAny (model prog w) A (Builtin.List.listLengthHint (.ref r)) Q E s := by
  unfold Builtin.List.listLengthHint
  refine wpAny_bind (wpAny_specialOf hT rev_nolen ?_)
  refine wpAny_ite_split (fun hab => absurd hab (by decide)) (fun _ => ?_)
  refine wpAny_ite_split (fun hab => absurd hab (by decide)) (fun _ => ?_)
  refine wpAny_bind (wpAny_specialOf hT rev_hint ?_)
  generalize hid : ("list_reverseiterator.__length_hint__" : String) = id0
  wp_delta
  rw [show splitId id0 = some ("list_reverseiterator", "__length_hint__") from by subst hid; decide +kernel]
  subst hid
  refine wpAny_bind (wpAny_isInstance (T := "list_reverseiterator") (b := true) hT (by rw [isSubtype_type]; kernel_rfl) ?_)
  refine wpAny_ite_split (fun hab => absurd hab (by decide)) (fun _ => ?_)
  refine wpAny_ite_split (fun _ => ?_) (fun hab => absurd (by decide +kernel) hab)
  refine wpAny_ite_split (fun hab => absurd hab (by decide +kernel)) (fun _ => ?_)
  exact wpAny_pure h
theorem walks_rev (hh : A.handled = none) (it l : Addr) (hne : it ≠ l) (items : Array Value) : Walks prog w A it [it, l] [it] items.size (fun i v => items[items.size - 1 - i]? = some v) (fun i h => i ≤ items.size ∧ IsRev h it l ((items.size : Int) - 1 - (i : Nat)) ∧ h.IsList l items) where
  sub := by intro b hb; rw [List.mem_singleton.mp hb]; simp
  frame := fun i h h' st k => ⟨st.1, st.2.1.keep fun o e => k it (by simp) o e, let ⟨o, ho, r⟩ := st.2.2; ⟨o, k l (by simp) o ho, r⟩⟩
  item := by
    intro i s Q E hi st hQ
    obtain ⟨x, hx⟩ : ∃ x, items[items.size - 1 - i]? = some x := ⟨_, Array.getElem?_eq_getElem (by omega)⟩
    have st0 : IsRev s.heap it l ((items.size - 1 - i : Nat) : Int) := by
      have := st.2.1
      rw [show ((items.size : Int) - 1 - (i : Nat)) = ((items.size - 1 - i : Nat) : Int) by omega] at this
      exact this
    refine pyNext_rev_item st0 st.2.2 hx fun h' st' sb => hQ x h' s.toks hx ⟨hi, ?_, ?_⟩ (fun b o hb e => (sb.2 b (fun z => hb (by simp [z]))).trans e)
    · rw [show ((items.size : Int) - 1 - ((i + 1 : Nat) : Int)) = ((items.size - 1 - i : Nat) : Int) - 1 by omega]
      exact st'
    · obtain ⟨o, ho, r⟩ := st.2.2
      exact ⟨o, (sb.2 l (Ne.symm hne)).trans ho, r⟩
  done := by
    intro s Q E st hQ
    have st0 : IsRev s.heap it l (-1) := by
      have := st.2.1
      rw [show ((items.size : Int) - 1 - ((items.size : Nat) : Int)) = -1 by omega] at this
      exact this
    exact pyNext_rev_end hh st0 fun h' eb => hQ h' s.toks (fun b o hb e => eb b o (fun z => hb (by simp [z])) e)
  self := fun i s Q E st h => pyIter_rev st.2.1 h
theorem ext_rev {R : Result → Shared → Prop} {it l S : Addr} {items : Array Value} (hh : A.handled = none) (hit : IsRev s.heap it l ((items.size : Int) - 1)) (hL : s.heap.IsList l items) (hil : it ≠ l) (hSi : S ≠ it) (hSl : S ≠ l) (res : Value) (c₀ : Nat) (hS : s.heap.get? S = some { cls := .type "list", data := .seq #[] c₀ })
    (hR : ∀ h' tk acc' c', (∀ b o, b ≠ S → b ≠ it → s.heap.get? b = some o → h'.get? b = some o) → h'.get? S = some { cls := .type "list", dict := none, data := .seq acc' c', slots := #[] } → ItemsOf (fun i v => items[items.size - 1 - i]? = some v) acc' items.size → R (.ok (.ret res)) { s with heap := h', toks := tk }) (hn : items.size ≤ sizeLine) :
    wpAny (model prog w) A.in1 (Builtin.List.listExtendWith (.ref S) (.ref it) res)
      (fun fin s' => match fin with | .done f => R (.ok f) s' | .again c' => c'.quiet = true ∧ codeAny (model prog w) A c' R s') (fun e s' => R (.error e) s') s := by
  have W := walks_rev (prog := prog) (w := w) (A := A.in1) hh it l hil items
  have hSf : S ∉ [it, l] := by simp only [List.mem_cons, List.not_mem_nil, or_false, not_or]; exact ⟨hSi, hSl⟩
  have st0 : (0 : Nat) ≤ items.size ∧ IsRev s.heap it l ((items.size : Int) - 1 - ((0 : Nat) : Int)) ∧ s.heap.IsList l items := ⟨Nat.zero_le _, by rw [show ((items.size : Int) - 1 - ((0 : Nat) : Int)) = (items.size : Int) - 1 by omega]; exact hit, hL⟩
  unfold Builtin.List.listExtendWith
  refine wpAny_bind (wpAny_typeOf (T := "list_reverseiterator") hit.typeIs ?_)
  have h1 : Builtin.List.listSameRef (.ref S) (.ref it) = false := by simp [Builtin.List.listSameRef, hSi]
  have n1 : (Value.type "list_reverseiterator" == Value.type "list") = false := by decide
  have n2 : (Value.type "list_reverseiterator" == Value.type "tuple") = false := by decide
  simp only [h1, n1, n2, Bool.or_false, Bool.false_eq_true, if_false]
  refine wpAny_bind (pyIter_rev hit ?_)
  refine wpAny_bind (wpAny_holding (hint_rev hit.typeIs ?_))
  refine wpAny_ite_split (fun hab => absurd hab (by decide +kernel)) (fun _ => wpAny_pure ⟨plainId_quiet PySem.F.plain_extend_loop _, ?_⟩)
  refine codeAny_extend_loopS W.toS hn S hSf res items.size 0 _ #[] c₀ rfl (Nat.zero_le _) st0 hS (ItemsOf.nil _) fun s' acc' c' hm hS' hacc => ?_
  rw [Moved.eq_with hm]
  refine hR s'.heap s'.toks acc' c' (fun b o hb hb2 e => hm.heap b o (fun hmem => ?_) e) hS' hacc
  rcases List.mem_cons.mp hmem with e' | hmem
  · exact hb e'
  · exact hb2 (List.mem_singleton.mp hmem)
theorem call_list_rev {it l : Addr} {items : Array Value} {Q : Value → Shared → Prop} (hh : A.handled = none) (hit : IsRev s.heap it l ((items.size : Int) - 1)) (hL : s.heap.IsList l items) (hil : it ≠ l) (hn : items.size ≤ sizeLine)
    (hQ : ∀ h' tk acc' c', (∀ b o, b ≠ it → s.heap.get? b = some o → h'.get? b = some o) → h'.get? s.heap.objs.size = some { cls := .type "list", dict := none, data := .seq acc' c', slots := #[] } → ItemsOf (fun i v => items[items.size - 1 - i]? = some v) acc' items.size → Q (.ref s.heap.objs.size) { s with heap := h', toks := tk }) :
    wpAny (model prog w) A (call (.type "list") [.ref it]) Q E s := by
  refine callType_codes (Q₁ := fun obj s₁ => obj = .ref s.heap.objs.size ∧ s₁ = { s with heap := s.heap.push { cls := .type "list", data := .seq #[] } }) PySem.F.called_list (PySem.F.typeCall_list_1 _) PySem.F.entry_list_init
    (code_list_new _ ⟨rfl, rfl⟩) fun obj s₁ h₁ => ?_
  obtain ⟨rfl, rfl⟩ := h₁
  have hS : (s.heap.push { cls := .type "list", data := .seq #[] }).get? s.heap.objs.size = some { cls := .type "list", data := .seq #[] } := Heap.get?_push_size _ rfl
  obtain ⟨oi, hoi, ri⟩ := id hit
  obtain ⟨ol, hol, rl⟩ := id hL
  have li := Heap.lt_size hoi
  have ll := Heap.lt_size hol
  refine ⟨⟨_, hS, rfl⟩, PySem.F.args_list_init_2 _ _, ?_⟩
  show wpAny _ _ (do let old ← Builtin.List.listItems (.ref s.heap.objs.size); Builtin.List.listUpdate (.ref s.heap.objs.size) (fun _ => #[]); letGo old.toList.reverse; Builtin.List.listExtendWith (.ref s.heap.objs.size) (.ref it) .none) _ _ _
  refine wpAny_bind ?_
  unfold Builtin.List.listItems
  refine wpAny_bind (wpAny_seqItems hS rfl (wpAny_pure ?_))
  show wpAny _ _ (updateSeq s.heap.objs.size (fun _ => #[]) >>= fun _ => letGo (#[] : Array Value).toList.reverse >>= fun _ => Builtin.List.listExtendWith (.ref s.heap.objs.size) (.ref it) .none) _ _ _
  refine wpAny_bind (wpAny_updateSeq hS rfl ?_)
  have hS₂ := Heap.get?_update_self (Obj.mapSeq (fun _ => (#[] : Array Value))) hS rfl
  have oth : ∀ b o, b ≠ s.heap.objs.size → (s.heap.push { cls := .type "list", data := .seq #[] }).get? b = some o → ((s.heap.push { cls := .type "list", data := .seq #[] }).update s.heap.objs.size (Obj.mapSeq (fun _ => (#[] : Array Value)))).get? b = some o :=
    fun b o hb e => (Heap.get?_update_other _ _ (Ne.symm hb)).trans e
  have ki : ∀ b o, s.heap.get? b = some o → ((s.heap.push { cls := .type "list", data := .seq #[] }).update s.heap.objs.size (Obj.mapSeq (fun _ => (#[] : Array Value)))).get? b = some o := fun b o e => oth b o (Nat.ne_of_lt (Heap.lt_size e)) (Heap.get?_push_of_some _ e)
  refine wpAny_bind (wpAny_letGo ?_)
  refine ext_rev (A := A.in1) hh ⟨oi, ki _ _ hoi, ri⟩ ⟨ol, ki _ _ hol, rl⟩ hil (Nat.ne_of_gt li) (Nat.ne_of_gt ll) .none _ hS₂ (fun h' tk acc' c' hk hS' hacc => ?_) hn
  exact ⟨rfl, hQ h' tk acc' c' (fun b o hb e => hk b o (Nat.ne_of_lt (Heap.lt_size e)) hb (ki b o e)) hS' hacc⟩
end
end L2
namespace L2
open PySem PySem.Spec PyProof.Rows
theorem Paired.app {α β : Type} {F : α → β → Prop} : ∀ {l₁ : List α} {l₂ : List β} {m₁ : List α} {m₂ : List β}, Paired F l₁ l₂ → Paired F m₁ m₂ → Paired F (l₁ ++ m₁) (l₂ ++ m₂)
  | _, _, _, _, .nil, h => h
  | _, _, _, _, .cons h t, h2 => .cons h (Paired.app t h2)
theorem Paired.rev {α β : Type} {F : α → β → Prop} : ∀ {l₁ : List α} {l₂ : List β}, Paired F l₁ l₂ → Paired F l₁.reverse l₂.reverse
  | _, _, .nil => .nil
  | _, _, .cons h t => by rw [List.reverse_cons, List.reverse_cons]; exact Paired.app (Paired.rev t) (.cons h .nil)
theorem items_rev {its : List Value} {acc : Array Value} (h : ItemsOf (fun i v => its.toArray[its.toArray.size - 1 - i]? = some v) acc its.toArray.size) : acc = its.reverse.toArray := by
  obtain ⟨h1, h2⟩ := h
  apply Array.ext_getElem?
  intro j
  have e1 : its.toArray.size = its.length := by simp
  rw [e1] at h1 h2
  by_cases hj : j < acc.size
  · have z := h2 j acc[j] (by simp [hj])
    rw [Array.getElem?_eq_getElem hj, List.getElem?_toArray, List.getElem?_reverse (by omega)]
    have z2 : its.toArray[its.length - 1 - j]? = some acc[j] := z
    rw [List.getElem?_toArray] at z2
    exact z2.symm
  · rw [Array.getElem?_eq_none (by omega), List.getElem?_toArray, List.getElem?_eq_none (by simp; omega)]
noncomputable def tListRev (K : PySem.W.Frag) (ta : TA) : TE := fun σ H Q => ta σ H fun vs H1 => ∃ a xs, vs = [.ref a] ∧ SqL K H1 a xs ∧ ∀ l, H1 l = none → Q (.ref l) (upd H1 l (.lst xs.reverse))
theorem pe_listRev {X : Cx} {a : Expr} {ta : TA} {p p2 pos pos2 : Pos} (hc : X.calm = true) (hm : X.mg "list" = none) (hm2 : X.mg "reversed" = none) (ha : PA X [a] ta) (hg : Gl X "list") (hg2 : Gl X "reversed") (hs : starEach [a] X.env = [(false, eval a X.env)] := by rfl)
    (hs2 : starEach [.Call (.Name "reversed" p2) [a] [] pos2] X.env = [(false, eval (.Call (.Name "reversed" p2) [a] [] pos2) X.env)] := by rfl) :
    PE X (.Call (.Name "list" p) [.Call (.Name "reversed" p2) [a] [] pos2] [] pos) (tListRev X.K ta) := by
  intro pins s σ H Q I h
  refine Call_ (ld_blt I hg hm boot_list (PyProof.Rows.callWith_type1 ?_ hs2 rfl))
  rw [hs2]
  show wpAny _ _ (spliced ((false, eval (.Call (.Name "reversed" p2) [a] [] pos2) X.env) :: [])) _ _ s
  refine Calls.spliced_cons (Call_ (ld_blt I hg2 hm2 boot_reversed (PyProof.Rows.callWith_type1 (thn (ha pos2 pins s σ H _ I h) fun us s1 hhx => ?_) hs rfl)))
  obtain ⟨vs, H1, I1, r1, q1⟩ := hhx
  obtain ⟨l, xs, e, hq, q⟩ := q1
  subst e
  cases r1 with
  | cons r rr =>
    cases rr
    cases r
    obtain ⟨its, rv, pl, hz⟩ := I1.list hq
    have hlen := rv.length
    refine call_reversed_list pl.isList fun h' hit hsz hk => Calls.spliced_nil ?_
    obtain ⟨o, ho, ro⟩ := pl.isList
    have hlt := Heap.lt_size ho
    refine call_list_rev (I.ok.hd hc) hit ⟨o, hk _ _ ho, ro⟩ (Nat.ne_of_gt hlt) (by simp; omega) fun h2 tk acc c' hk2 hS hacc => ?_
    have eacc := items_rev hacc
    subst eacc
    have kp : ∀ b u, s1.heap.get? b = some u → h2.get? b = some u := fun b u e => hk2 b u (Nat.ne_of_lt (Heap.lt_size e)) (hk b u e)
    refine ⟨.ref h'.objs.size, _, I1.laid (t' := tk) kp (show s1.heap.objs.size ≤ h'.objs.size by omega) (show ObjOk X.prog X.w _ h2 _ (.lst xs.reverse) from ⟨by rw [List.length_reverse]; exact hz, its.reverse, c', Paired.rev rv, hS⟩), rfl, q _ (I1.hok.fresh (by omega))⟩
theorem r_listRev {K : PySem.W.Frag} {ta : TA} {σ : St} {H : Hp} {Q : VK} : tListRev K ta σ H Q = ta σ H fun vs H1 => ∃ a xs, vs = [.ref a] ∧ SqL K H1 a xs ∧ ∀ l, H1 l = none → Q (.ref l) (upd H1 l (.lst xs.reverse)) := rfl
section
variable {X : Cx}
end
noncomputable def tListVals (to : TE) : TE := fun σ H Q => to σ H fun x H1 => ∃ a kvs, x = .ref a ∧ H1 a = some (.dK kvs) ∧ ∀ l, H1 l = none → Q (.ref l) (upd H1 l (.lst (kvs.map (·.2))))
theorem r_listVals {to : TE} {σ : St} {H : Hp} {Q : VK} : tListVals to σ H Q = to σ H fun x H1 => ∃ a kvs, x = .ref a ∧ H1 a = some (.dK kvs) ∧ ∀ l, H1 l = none → Q (.ref l) (upd H1 l (.lst (kvs.map (·.2)))) := rfl
end L2
namespace L2
open PySem PySem.Spec PyProof.Rows
theorem range_back : ∀ n : Nat, (List.range n).map (fun k : Nat => (((n : Int) - 1) + (-1) * (k : Int)).toNat) = (List.range n).reverse := by
  intro n
  apply List.ext_getElem?
  intro j
  by_cases h : j < n
  · rw [List.getElem?_map, List.getElem?_range h, List.getElem?_reverse (by simpa using h), List.length_range, List.getElem?_range (by omega)]
    simp only [Option.map_some]
    congr 1
    omega
  · rw [List.getElem?_eq_none (by simp; omega), List.getElem?_eq_none (by simp; omega)]
theorem pick_all (its : List Value) : (List.range its.length).filterMap (its.toArray[·]?) = its := by
  have h := pick_run its.toArray 0 its.length
  simpa using h
theorem pick_rev (its : List Value) : slicePick its.toArray none none (some (-1)) = its.reverse.toArray := by
  unfold slicePick
  have e : sliceBounds none none (some (-1)) its.toArray.size = ((its.length : Int) - 1, -1, -1) := by simp [sliceBounds]
  rw [e]
  have c : sliceRange ((its.length : Int) - 1) (-1) (-1) = (List.range its.length).reverse := by
    unfold sliceRange
    rw [if_neg (by decide)]
    dsimp only
    by_cases hn : its.length = 0
    · rw [hn]; rfl
    · rw [if_pos (by omega), show (((its.length : Int) - 1 - -1 - -1 - 1) / - -1).toNat = its.length by rw [show (- -1 : Int) = 1 from rfl, Int.ediv_one]; omega]
      exact range_back its.length
  rw [c, List.filterMap_reverse, pick_all]
noncomputable def tSlRev (K : PySem.W.Frag) (te tst : TE) : TE := fun σ H Q => te σ H fun x H1 => tst σ H1 fun y H2 => ∃ a xs, x = .ref a ∧ y = .int (-1) ∧ SqL K H2 a xs ∧ ∀ l, H2 l = none → Q (.ref l) (upd H2 l (.lst xs.reverse))
theorem pe_slRev {X : Cx} {e st : Expr} {te tst : TE} {p2 pos : Pos} (he : PE X e te) (hst : PE X st tst) : PE X (.Subscript e (.Slice none none (some st) p2) pos) (tSlRev X.K te tst) := by
  intro pins s σ H Q I h
  refine Subscript_ (thn (he pins s σ H _ I h) fun v s1 hhx => ?_)
  obtain ⟨x, H1, I1, r1, q1⟩ := hhx
  refine wpAny_Slice ?_
  rw [evalPart_none]
  refine wpAny_pure (wpAny_pure ?_)
  rw [evalPart_some]
  refine thn (hst pins s1 σ H1 _ I1 q1) fun vs s3 hhx => ?_
  obtain ⟨y, H3, I3, r3, a, xs, ex, ey, hx, q⟩ := hhx
  subst ex ey
  cases r1
  obtain ⟨tk, rfl⟩ : ∃ tk, vs = .int (-1) tk := r3
  have I4 : Inv X pins σ H3 { s3 with heap := s3.heap.push { cls := .type "slice", data := .fields #[.none, .none, .int (-1) tk] } } := I3.kept (t' := s3.toks) fun b ob q => Heap.get?_push_of_some _ q
  obtain ⟨its, r, ht, hz⟩ := I4.list hx
  have hlen := r.length
  show wpAny (model X.prog X.w) X.A (subscriptTail e (.Slice none none (some st) p2) (.ref a) (.ref s3.heap.objs.size)) (EP X pins σ Q) X.xe { s3 with heap := s3.heap.push { cls := .type "slice", data := .fields #[.none, .none, .int (-1) tk] } }
  refine tail_any (ops := [.ref a, .ref s3.heap.objs.size]) ht.isList.typeIs slot_list_getitem.lookup ?_ (by with_unfolding_all rfl)
  refine wpAny_getItem_list_slice ht.isList (Heap.IsSliceOf.new ..) .none .none (.int (-1) tk) (by simp) ?_ (by rw [List.size_toArray] <;> omega)
  rw [pick_rev]
  refine ⟨.ref (s3.heap.push { cls := .type "slice", data := .fields #[.none, .none, .int (-1) tk] }).objs.size, _, I4.laid (t' := s3.toks) (o := .lst xs.reverse) (fun b ob q => Heap.get?_push_of_some _ q) (Nat.le_refl _) ?_, rfl, q _ (I4.hok.fresh (Nat.le_refl _))⟩
  exact ⟨by rw [List.length_reverse]; exact hz, _, 0, Paired.rev r, Heap.get?_push_size _ rfl⟩
theorem r_dget2 {td ty tx : TE} {σ : St} {H : Hp} {Q : VK} : tDGet2 td ty tx σ H Q = td σ H fun x H1 => ∃ a, x = .ref a ∧ IsD H1 a ∧ ty σ H1 fun y H2 => tx σ H2 fun z H3 => ∃ o, DGet H3 a y o ∧ Q (o.getD z) H3 := rfl
theorem r_slRev {K : PySem.W.Frag} {te tst : TE} {σ : St} {H : Hp} {Q : VK} : tSlRev K te tst σ H Q = te σ H fun x H1 => tst σ H1 fun y H2 => ∃ a xs, x = .ref a ∧ y = .int (-1) ∧ SqL K H2 a xs ∧ ∀ l, H2 l = none → Q (.ref l) (upd H2 l (.lst xs.reverse)) := rfl
end L2
namespace L2
open PySem PySem.Spec PyProof.Rows
structure XE (X : Cx) (e : Expr) (t : TE) : Prop where
  h : PE X e t
structure XT (X : Cx) (e : Expr) (t : TT) : Prop where
  h : PT X e t
structure XW (X : Cx) (e : Expr) (t : TT) : Prop where
  h : PW X e t
structure XA (X : Cx) (es : List Expr) (t : TA) : Prop where
  h : PA X es t
structure XS (X : Cx) (st : Stmt) (t : TS) : Prop where
  h : PS X st t
structure XSs (X : Cx) (st : List Stmt) (t : TS) : Prop where
  h : PSs X st t
structure XG (X : Cx) (target : Expr) (t : TG) : Prop where
  h : PG X target t
structure XGs (X : Cx) (ts : List Expr) (t : TGs) : Prop where
  h : PGs X ts t
structure XI (X : Cx) (tg iter : Expr) (wi : TI) : Prop where
  h : PI X tg iter wi
structure XO (X : Cx) (e : Option Expr) (t : TO) : Prop where
  h : PO X e t
structure XIfs (X : Cx) (ifs : List Expr) (t : TT) : Prop where
  h : PIfs X ifs t
theorem xpe_int {X : Cx} {i j pos} : XE X (.Constant (.int i) j pos) (tC (.int i)) := ⟨pe_int ⟩
theorem xpe_bl {X : Cx} {b j pos} : XE X (.Constant (.bool b) j pos) (tC (.bl b)) := ⟨pe_bl ⟩
theorem xpe_non {X : Cx} {j pos} : XE X (.Constant .none j pos) (tC .non) := ⟨pe_non ⟩
theorem xpe_str {X : Cx} {x j pos} : XE X (.Constant (.str x) j pos) (tC (.str x)) := ⟨pe_str ⟩
theorem xpe_op {X : Cx} {a b : Expr} {ta tb : TE} {pos : Pos} {op : Operator} {r : R2} (ho : OpR X (binaryOp op) r) (ha : XE X a ta) (hb : XE X b tb) : XE X (.BinOp a op b pos) (tOp r ta tb) := ⟨pe_op ho ha.h hb.h⟩
theorem xpe_un {X : Cx} {a : Expr} {ta : TE} {pos : Pos} {op : UnaryOp} {r : V → Hp → VK → Prop} (ho : UnR X (unaryOp op) r) (ha : XE X a ta) : XE X (.UnaryOp op a pos) (tUn r ta) := ⟨pe_un ho ha.h⟩
theorem xpe_cmpR {X : Cx} {a b : Expr} {ta tb : TE} {pos : Pos} {op : CmpOp} {r : R2} (ho : OpR X (compareOp op) r) (ha : XE X a ta) (hb : XE X b tb) (hm : behindInMarks op b = false) : XE X (.Compare a [op] [b] pos) (tOp r ta tb) := ⟨pe_cmpR ho ha.h hb.h hm⟩
theorem xpe_and {X : Cx} {a b : Expr} {ta tb : TE} {pos : Pos} {rest : List Expr} (ha : XE X a ta) (hb : XE X (.BoolOp .And (b :: rest) pos) tb) : XE X (.BoolOp .And (a :: b :: rest) pos) (tAndV ta tb) := ⟨pe_and ha.h hb.h⟩
theorem xpe_one {X : Cx} {a : Expr} {pos : Pos} {op} {t : TE} (h : XE X a t) : XE X (.BoolOp op [a] pos) t := ⟨pe_one h.h⟩
theorem xpe_ifExp {X : Cx} {a b : Expr} {ta tb : TE} {pos : Pos} {tA : TT} {c : Expr} (hc : XT X c tA) (ha : XE X a ta) (hb : XE X b tb) : XE X (.IfExp c a b pos) (tIf tA ta tb) := ⟨pe_ifExp hc.h ha.h hb.h⟩
theorem xpe_lst {X : Cx} {es : List Expr} {t : TA} {pos : Pos} (h : XA X es t) : XE X (.List es pos) (tLst t) := ⟨pe_lst h.h⟩
theorem xpe_tup {X : Cx} {es : List Expr} {t : TA} {pos : Pos} {x1} (h : XA X es t) : XE X (.Tuple es x1 pos) (tTup t) := ⟨pe_tup h.h⟩
theorem xqe_callB {X : Cx} {x : Str} {p pos : Pos} {e : Expr} {es : List Expr} {t : TA} {id : String} {r : List V → Hp → VK → Prop} (hc : CallR X (.builtin id) r) (hg : Gl X x) (hm : X.mg x = none) (hv : bootBuiltins x = some (.builtin id)) (ha : XA X (e :: es) t) (hn : (x == ("__name__" : Str)) = false := by kernel_rfl) (hdb : (x == ("__debug__" : Str)) = false := by kernel_rfl) (he : starEach (e :: es) X.env = (false, eval e X.env) :: starEach es X.env := by rfl) (hpl : (backTo pos (starEach es X.env)).any (·.1) = false := by rfl) : XE X (.Call (.Name x p) (e :: es) [] pos) (tCB r t) := ⟨qe_callB hc hg hm hv ha.h hn hdb he hpl⟩
theorem xqe_callTy {X : Cx} {x : Str} {p pos : Pos} {e : Expr} {es : List Expr} {t : TA} {T : String} {r : List V → Hp → VK → Prop} (hc : CallR X (.type T) r) (hg : Gl X x) (hm : X.mg x = none) (hv : bootBuiltins x = some (.type T)) (ha : XA X (e :: es) t) (hn : (x == ("__name__" : Str)) = false := by kernel_rfl) (hdb : (x == ("__debug__" : Str)) = false := by kernel_rfl) (he : starEach (e :: es) X.env = (false, eval e X.env) :: starEach es X.env := by rfl) (hpl : (backTo pos (starEach es X.env)).any (·.1) = false := by rfl) : XE X (.Call (.Name x p) (e :: es) [] pos) (tCB r t) := ⟨qe_callTy hc hg hm hv ha.h hn hdb he hpl⟩
theorem xqe_callD {X : Cx} {k : Nat} {f : Addr} {fd : FuncData} {ps : List Str} {sp : Sp} {x : Str} {st : Stmt} {p pos : Pos} {e : Expr} {es : List Expr} {t : TA} (D : DefAt X.K X.mg x st ps f fd) (G : FnOk X.prog X.w X.K X.mg X.base CX0 k f fd ps sp) (hr : Room k X.A) (ha : XA X (e :: es) t) (hg : Gl X x) (hdb : (x == ("__debug__" : Str)) = false := by kernel_rfl) (he : starEach (e :: es) X.env = (false, eval e X.env) :: starEach es X.env := by rfl) (hpl : (backTo pos (starEach es X.env)).any (·.1) = false := by rfl) : XE X (.Call (.Name x p) (e :: es) [] pos) (tCall sp [] E0 t) := ⟨qe_callD D G hr ha.h hg hdb he hpl⟩
theorem xpe_bm {X : Cx} {o e : Expr} {es : List Expr} {to : TE} {t : TA} {name : Str} {apos cpos : Pos} {T id : String} {r : V → List V → Hp → VK → Prop} (pa : PlainAttrs T) (slot : Slot T name id) (hty : typeOf (.builtin id) = pure (.type "method_descriptor")) (hm : MtR X id r) (ho : XE X o to) (ha : XA X (e :: es) t) (hbase : attributeBase o name X.env (eval o X.env) = eval o X.env := by rfl) (hfew : ((backTo cpos (starEach (e :: es) X.env)).all (fun x => !x.1) && (backToKw cpos (keywordEach [] X.env)).all (fun x => x.1.isSome)
      && decide ((e :: es).length + ([] : List Keyword).length + (if ([] : List Keyword).isEmpty then 0 else 1) < 30)) = true := by rfl) (hline : (apos.endLine == cpos.line) = true := by rfl) (hs : starEach (e :: es) X.env = (false, eval e X.env) :: starEach es X.env := by rfl) (hplain : (backTo cpos (starEach es X.env)).any (·.1) = false := by rfl) : XE X (.Call (.Attribute o name apos) (e :: es) [] cpos) (tBM X.K T r to t) := ⟨pe_bm pa slot hty hm ho.h ha.h hbase hfew hline hs hplain⟩
theorem xpe_bm0 {X : Cx} {o : Expr} {to : TE} {name : Str} {apos cpos : Pos} {T id : String} {r : V → List V → Hp → VK → Prop} (pa : PlainAttrs T) (slot : Slot T name id) (hty : typeOf (.builtin id) = pure (.type "method_descriptor")) (hm : MtR X id r) (ho : XE X o to) (hbase : attributeBase o name X.env (eval o X.env) = eval o X.env := by rfl) (hline : (apos.endLine == cpos.line) = true := by rfl) : XE X (.Call (.Attribute o name apos) [] [] cpos) (tBM0 X.K T r to) := ⟨pe_bm0 pa slot hty hm ho.h hbase hline⟩
theorem xpe_slice {X : Cx} {e : Expr} {te : TE} {lo hi : Option Expr} {tl th : TO} {pos p2 : Pos} {r : V → Option Int → Option Int → Hp → VK → Prop} (hr : SlR X r) (he : XE X e te) (hl : XO X lo tl) (hu : XO X hi th) : XE X (.Subscript e (.Slice lo hi none p2) pos) (tSl r te tl th) := ⟨pe_slice hr he.h hl.h hu.h⟩
theorem xpe_ix {X : Cx} {a b : Expr} {ta tb : TE} {pos : Pos} {r : R2} (hr : IxR X r) (ha : XE X a ta) (hb : XE X b tb) (hs : PlainIx b) : XE X (.Subscript a b pos) (tOp r ta tb) := ⟨pe_ix hr ha.h hb.h hs⟩
theorem xpe_fld {X : Cx} {e : Expr} {f : Str} {pos : Pos} {ta : TE} (he : XE X e ta) (hb : attributeBase e f X.env (eval e X.env) = eval e X.env) : XE X (.Attribute e f pos) (tFld X.K ta f) := ⟨pe_fld he.h hb⟩
theorem xpe_compG  {X : Cx} {elt iter tgt : Expr} {ifs : List Expr} {pos : Pos} {scope : Scope} {wi : TI} {g : Bk → TG} {tt : Bk → TT} {te : Bk → TE} {tns cns : List Str} {ci : List Nat} (hc : X.calm = true) (S : CompSc X scope cns ci) (hi : XI X tgt iter wi) (hg : ∀ bk : Bk, XG (X.blk (".0" :: (tns ++ cns)) scope bk) tgt (g bk)) (ht : ∀ bk : Bk, XIfs (X.blk (".0" :: (tns ++ cns)) scope bk) ifs (tt bk)) (he : ∀ bk : Bk, XE (X.blk (".0" :: (tns ++ cns)) scope bk) elt (te bk)) (hs : ∀ v, foldedSetIterable iter X.env v = pure v := by intro _; rfl) : XE X (.ListComp elt [⟨tgt, iter, ifs, 0⟩] scope pos) (tCompG wi g tt te tns.length ci) := ⟨pe_compG hc S hi.h (fun bk => (hg bk).h) (fun bk => (ht bk).h) (fun bk => (he bk).h) hs⟩
theorem xqe_bltn {X : Cx} {x : Str} {v : V} {u : Value} {pos : Pos} (hg : Gl X x) (hm : X.mg x = none) (hv : bootBuiltins x = some u) (r : RelV v u) (hn : (x == ("__name__" : Str)) = false := by kernel_rfl) (hd : (x == ("__debug__" : Str)) = false := by kernel_rfl) : XE X (.Name x pos) (tC v) := ⟨qe_bltn hg hm hv r hn hd⟩
theorem xqe_glob {X : Cx} {x : Str} {v : V} {u : Value} {pos : Pos} (hg : Gl X x) (hm : X.mg x = some u) (r : RelV v u) (hd : (x == ("__debug__" : Str)) = false := by kernel_rfl) : XE X (.Name x pos) (tC v) := ⟨qe_glob hg hm r hd⟩
theorem xpt_cmpR {X : Cx} {a b : Expr} {ta tb : TE} {pos : Pos} {op : CmpOp} {r : R2} (ho : OpR X (compareOp op) r) (ha : XE X a ta) (hb : XE X b tb) (hm : behindInMarks op b = false) : XT X (.Compare a [op] [b] pos) (tTest (tOp r ta tb)) := ⟨pt_cmpR ho ha.h hb.h hm⟩
theorem xpt_val {X : Cx} {e : Expr} {t : TE} (h : XE X e t) (he : ∀ whole, isTrue e X.env whole = (do let v ← whole; standAt e.pos; holding [v] (truthy v)) := by intro _; rfl) : XT X e (tB t) := ⟨pt_val h.h he⟩
theorem xpt_truth {X : Cx} {a : Expr} {ta : TE} (ha : XE X a ta) (he : ∀ whole, isTrue a X.env whole = (do let v ← whole; standAt a.pos; holding [v] (truthy v))) : XT X a (fun σ H Q => ta σ H fun x H' => ∃ k, TruV X.K x H' k ∧ Q k H') := ⟨pt_truth ha.h he⟩
theorem xpt_not {X : Cx} {a : Expr} {pos : Pos} {tA : TT} (ha : XT X a tA) : XT X (.UnaryOp .Not a pos) (tNot tA) := ⟨pt_not ha.h⟩
theorem xPW_pt  {X : Cx} {e : Expr} {t : TT} (h : XW X e t) : XT X e t := ⟨PW.pt h.h⟩
theorem xpw_and {X : Cx} {a b : Expr} {pos : Pos} {tA tB' : TT} {rest : List Expr} (ha : XT X a tA) (hb : XW X (.BoolOp .And (b :: rest) pos) tB') : XW X (.BoolOp .And (a :: b :: rest) pos) (tAnd tA tB') := ⟨pw_and ha.h hb.h⟩
theorem xpw_and1 {X : Cx} {a : Expr} {pos : Pos} {tA : TT} (ha : XT X a tA) : XW X (.BoolOp .And [a] pos) tA := ⟨pw_and1 ha.h⟩
theorem xpw_or {X : Cx} {a b : Expr} {pos : Pos} {tA tB' : TT} {rest : List Expr} (ha : XT X a tA) (hb : XW X (.BoolOp .Or (b :: rest) pos) tB') : XW X (.BoolOp .Or (a :: b :: rest) pos) (tOr tA tB') := ⟨pw_or ha.h hb.h⟩
theorem xpw_or1 {X : Cx} {a : Expr} {pos : Pos} {tA : TT} (ha : XT X a tA) : XW X (.BoolOp .Or [a] pos) tA := ⟨pw_or1 ha.h⟩
theorem xpa_nil {X : Cx}  : XA X [] tNil := ⟨pa_nil ⟩
theorem xpa_cons {X : Cx} {e : Expr} {es : List Expr} {te : TE} {t : TA} (ha : XE X e te) (hr : XA X es t) (hs : starEach (e :: es) X.env = (false, eval e X.env) :: starEach es X.env := by rfl) : XA X (e :: es) (tCons te t) := ⟨pa_cons ha.h hr.h hs⟩
theorem xpo_none {X : Cx}  : XO X none tNoPart := ⟨po_none ⟩
theorem xpo_some {X : Cx} {e : Expr} {te : TE} (h : XE X e te) : XO X (some e) (tPart te) := ⟨po_some h.h⟩
theorem xpg_name {X : Cx} {pos : Pos} {i : Nat} {x : Str} (hN : X.N.Nodup) (hi : X.N[i]? = some x) (hx : Loc X.env.scope x) (hf : X.fn x = true ∨ X.env.scope.names.lookup x = some .local := by first | exact .inl rfl | exact .inr rfl | assumption) : XG X (.Name x pos) (gName i) := ⟨pg_name hN hi hx hf⟩
theorem xpg_tup {X : Cx} {pos : Pos} {es : List Expr} {k : Nat} {t : TGs} {n : Nat} (hc : X.calm = true) (h : XGs X es t) (hn : (assignEach es X.env).length = n := by rfl) (hst : (assignEach es X.env).findIdx? (·.1) = none := by rfl) : XG X (.Tuple es k pos) (gTup X.K n t) := ⟨pg_tup hc h.h hn hst⟩
theorem xpgs_nil {X : Cx}  : XGs X [] gNil := ⟨pgs_nil ⟩
theorem xpgs_cons {X : Cx} {e : Expr} {es : List Expr} {t : TG} {u : TGs} (h1 : XG X e t) (h2 : XGs X es u) (hs : (assignEach (e :: es) X.env).map (·.2) = assign e X.env :: (assignEach es X.env).map (·.2) := by rfl) : XGs X (e :: es) (gCons t u) := ⟨pgs_cons h1.h h2.h hs⟩
theorem xpg_sub {X : Cx} {pos : Pos} {o i : Expr} {to ti : TE} {t : TSet} (ho : XE X o to) (hi : XE X i ti) (hs : PSet X t) (ha : ∀ v, assign (.Subscript o i pos) X.env v = (do
      let ov ← holding [v] (eval o X.env)
      let iv ← holding [v, ov] (eval i X.env)
      standAt pos
      holding [v, ov, iv] (setItem ov iv v)
      release [v, ov, iv] []) := by intro _; rfl) : XG X (.Subscript o i pos) (gSub to ti t) := ⟨pg_sub ho.h hi.h hs ha⟩
theorem xpi_range1 {X : Cx} {tg : Expr} {a : Expr} {ta : TA} {p pos : Pos} (hg : Gl X "range") (hm : X.mg "range" = none) (ha : XA X [a] ta) (hs : starEach [a] X.env = [(false, eval a X.env)] := by rfl) : XI X tg (.Call (.Name "range" p) [a] [] pos) (iRng1 ta) := ⟨pi_range1 hg hm ha.h hs⟩
theorem xpi_range2 {X : Cx} {tg : Expr} {a b : Expr} {ta : TA} {p pos : Pos} (hg : Gl X "range") (hm : X.mg "range" = none) (ha : XA X [a, b] ta) (hs : starEach [a, b] X.env = [(false, eval a X.env), (false, eval b X.env)] := by rfl) (hs2 : starEach [b] X.env = [(false, eval b X.env)] := by rfl) : XI X tg (.Call (.Name "range" p) [a, b] [] pos) (iRng2 ta) := ⟨pi_range2 hg hm ha.h hs hs2⟩
theorem xpi_enum  {X : Cx} {a : Expr} {ta : TA} {p pos pos0 : Pos} {elts : List Expr} {k0 : Nat} (hm : X.mg "enumerate" = none) (ha : XA X [a] ta) (hg : Gl X "enumerate" := by rfl) (hs : starEach [a] X.env = [(false, eval a X.env)] := by rfl) : XI X (.Tuple elts k0 pos0) (.Call (.Name "enumerate" p) [a] [] pos) (iEnum X.K ta) := ⟨pi_enum hm ha.h hg hs⟩
theorem xpi_list {X : Cx} {tg : Expr} {l : Expr} {tl : TE} (hl : XE X l tl) : XI X tg l (iList X.K tl) := ⟨pi_list hl.h⟩
theorem xpi_tup {X : Cx} {tg : Expr} {l : Expr} {tl : TE} (hl : XE X l tl) : XI X tg l (iTup X.K tl) := ⟨pi_tup hl.h⟩
theorem xps_set {X : Cx} {pos : Pos} {i : Nat} {x : Str} {e : Expr} {te : TE} {pos' : Pos} (hN : X.N.Nodup) (hi : X.N[i]? = some x) (hx : Loc X.env.scope x) (he : XE X e te) (hs : swapsWith e (some (.Name x pos')) pos.line X.env = pure false := by rfl) (hf : X.fn x = true ∨ X.env.scope.names.lookup x = some .local := by first | exact .inl rfl | exact .inr rfl | assumption) : XS X (.Assign [.Name x pos'] e pos) (tAsg te (gName i)) := ⟨ps_set hN hi hx he.h hs hf⟩
theorem xps_asg {X : Cx} {pos : Pos} {tg e : Expr} {te : TE} {g : TG} (he : XE X e te) (hg : XG X tg g) (hs : swapsWithSole [tg] e pos.line X.env = pure false := by rfl) (hw : swappedStores [tg] e X.env = pure none := by rfl) (h1 : (assignEach [tg] X.env).map (·.2) = [assign tg X.env] := by rfl) : XS X (.Assign [tg] e pos) (tAsg te g) := ⟨ps_asg he.h hg.h hs hw h1⟩
theorem xps_fld {X : Cx} {o value : Expr} {f : Str} {pos pos' : Pos} {ta tv : TE} (ha : XE X o ta) (hv : XE X value tv) (hs : swapsWith value (some (.Attribute o f pos')) pos.line X.env = pure false) : XS X (.Assign [.Attribute o f pos'] value pos) (sFld X.K ta tv f) := ⟨ps_fld ha.h hv.h hs⟩
theorem xps_ret {X : Cx} {e : Expr} {te : TE} {pos : Pos} (he : XE X e te) : XS X (.Return (some e) pos) (tRet te) := ⟨ps_ret he.h⟩
theorem xps_expr {X : Cx} {e : Expr} {te : TE} {pos : Pos} (he : XE X e te) (hs : swapsWith e none pos.line X.env = pure false := by rfl) : XS X (.Expr e pos) (tDrop te) := ⟨ps_expr he.h hs⟩
theorem xps_if {X : Cx} {t u : TS} {pos : Pos} {c : Expr} {a b : List Stmt} {tc : TT} (hc : XT X c tc) (ha : XSs X a t) (hb : XSs X b u) : XS X (.If c a b pos) (tIfS tc t u) := ⟨ps_if hc.h ha.h hb.h⟩
theorem xps_while {X : Cx} {pos : Pos} {c : Expr} {body : List Stmt} {tc : TT} {tb : TS} (hp : PassesOwn (model X.prog X.w) X.A X.env X.xe) (hc : XT X c tc) (hb : XSs X body tb) : XS X (.While c body [] pos) (tWhile tc tb) := ⟨ps_while hp hc.h hb.h⟩
theorem xps_for {X : Cx} {tg : Expr} {iter : Expr} {body : List Stmt} {wi : TI} {g : TG} {tb : TS} {pos : Pos} (hp : PassesOwn (model X.prog X.w) X.A X.env X.xe) (hc : X.calm = true) (hi : XI X tg iter wi) (hg : XG X tg g) (hb : XSs X body tb) (hs : ∀ x, foldedSetIterable iter X.env x = pure x := by intro _; rfl) : XS X (.For tg iter body [] pos) (tFor wi g tb) := ⟨ps_for hp hc hi.h hg.h hb.h hs⟩
theorem xpss_nil {X : Cx}  : XSs X [] tNext := ⟨pss_nil ⟩
theorem xpss_one {X : Cx} {st : Stmt} {t : TS} (h1 : XS X st t) : XSs X [st] t := ⟨pss_one h1.h⟩
theorem xpss_cons {X : Cx} {st : Stmt} {rest : List Stmt} {t u : TS} (h1 : XS X st t) (h2 : XSs X rest u) : XSs X (st :: rest) (tSeq t u) := ⟨pss_cons h1.h h2.h⟩
theorem xpss_mid {X : Cx} {st : Stmt} {ss : List Stmt} {ta tb : TS} (h1 : XS X st ta) (h2 : XSs X ss tb) : XSs X (st :: ss) (tMid ta tb) := ⟨pss_mid h1.h h2.h⟩
theorem xpf_nil  {X : Cx} : XIfs X [] tYes := ⟨pf_nil ⟩
theorem xpf_one  {X : Cx} {c : Expr} {t : TT} (h : XT X c t) : XIfs X [c] t := ⟨pf_one h.h⟩
theorem xqe_makeD {X : Cx} {k : Nat} {f C : Addr} {fd : FuncData} {ps : List Str} {sp : Sp} {x qual : Str} {st : Stmt} {p pos : Pos} {e : Expr} {es : List Expr} {t : TA} (c : KlsAt X.K X.mg x C) (D : MethAt X.K C "__init__" qual st ps f fd) (G : FnOk X.prog X.w X.K X.mg X.base CX0 k f fd ps sp) (hr : Room (k + 1) X.A) (ha : XA X (e :: es) t) (hg : Gl X x) (hdb : (x == ("__debug__" : Str)) = false := by kernel_rfl) (he : starEach (e :: es) X.env = (false, eval e X.env) :: starEach es X.env := by rfl) (hpl : (backTo pos (starEach es X.env)).any (·.1) = false := by rfl) : XE X (.Call (.Name x p) (e :: es) [] pos) (tMake C sp [] E0 t) := ⟨qe_makeD c D G hr ha.h hg hdb he hpl⟩
theorem xpa_const {X : Cx} {es : List Expr} {vs : List V} (h : constVs es = some vs) : XA X es (tVs vs) := ⟨pa_const h⟩
end L2
namespace L2
open PySem PySem.Spec PyProof.Rows
theorem xpi_rev  {X : Cx} {tg a : Expr} {ta : TA} {p pos : Pos} (hm : X.mg "reversed" = none) (ha : XA X [a] ta) (hg : Gl X "reversed" := by rfl) (hs : starEach [a] X.env = [(false, eval a X.env)] := by rfl) : XI X tg (.Call (.Name "reversed" p) [a] [] pos) (iRev X.K ta) := ⟨pi_rev hm ha.h hg hs⟩
theorem xpe_listRev  {X : Cx} {a : Expr} {ta : TA} {p p2 pos pos2 : Pos} (hc : X.calm = true) (hm : X.mg "list" = none) (hm2 : X.mg "reversed" = none) (ha : XA X [a] ta) (hg : Gl X "list") (hg2 : Gl X "reversed") (hs : starEach [a] X.env = [(false, eval a X.env)] := by rfl) (hs2 : starEach [.Call (.Name "reversed" p2) [a] [] pos2] X.env = [(false, eval (.Call (.Name "reversed" p2) [a] [] pos2) X.env)] := by rfl) : XE X (.Call (.Name "list" p) [.Call (.Name "reversed" p2) [a] [] pos2] [] pos) (tListRev X.K ta) := ⟨pe_listRev hc hm hm2 ha.h hg hg2 hs hs2⟩
theorem xpe_slRev  {X : Cx} {e st : Expr} {te tst : TE} {p2 pos : Pos} (he : XE X e te) (hst : XE X st tst) : XE X (.Subscript e (.Slice none none (some st) p2) pos) (tSlRev X.K te tst) := ⟨pe_slRev he.h hst.h⟩
end L2
namespace L2
open PySem PySem.Spec PyProof.Rows
section
variable {X : Cx}
noncomputable def tListRng (ta : TA) : TE := fun σ H Q => ta σ H fun vs H1 => ∃ n : Nat, vs = [.int n] ∧ n ≤ 1000 ∧ ∀ l, H1 l = none → Q (.ref l) (upd H1 l (.lst ((List.range n).map fun i : Nat => V.int i)))
theorem r_listRng {ta : TA} {σ : St} {H : Hp} {Q : VK} : tListRng ta σ H Q = ta σ H fun vs H1 => ∃ n : Nat, vs = [.int n] ∧ n ≤ 1000 ∧ ∀ l, H1 l = none → Q (.ref l) (upd H1 l (.lst ((List.range n).map fun i : Nat => V.int i))) := rfl
end
noncomputable def tKGet1 (kvs : List (Key × V)) (ty : TE) : TE := fun σ H Q => ty σ H fun y H1 => ∃ k, y = kV k ∧ Q ((valV kvs k).getD .non) H1
section
variable {X : Cx} {e : Expr} {x : Str} {p apos cpos : Pos} {ty : TE} {a : Addr} {kvs : List (Key × V)} {pr : Params}
theorem r_kget1 {kvs : List (Key × V)} {ty : TE} {σ : St} {H : Hp} {Q : VK} : tKGet1 kvs ty σ H Q = ty σ H fun y H1 => ∃ k, y = kV k ∧ Q ((valV kvs k).getD .non) H1 := rfl
end
end L2
namespace L2
open PySem PySem.Spec PyProof.Rows
section
variable {prog : Program} {w : World} {A : Around} {E : Value → Shared → Prop} {s : Shared}
open AutoSeq1 (wpAny_loadPart') in
end
noncomputable def IteT (K : PySem.W.Frag) (a : Addr) : It :=
  ⟨fun i H => ∃ xs x, SqT K H a xs ∧ xs[i]? = some x,
   fun i H x H' => ∃ p y, x = .ref p ∧ H p = none ∧ H' = upd H p (.tup [.int i, y]) ∧ ∀ xs, SqT K H a xs → xs[i]? = some y,
   fun i H => ∃ xs, SqT K H a xs ∧ xs.length ≤ i⟩
noncomputable def iEnumT (K : PySem.W.Frag) (ta : TA) : TI := fun σ H R => ta σ H fun vs H1 => ∃ a, vs = [.ref a] ∧ (∃ xs, SqT K H1 a xs) ∧ R (IteT K a) H1
theorem r_iEnumT {K : PySem.W.Frag} {ta : TA} {σ : St} {H : Hp} {R : It → Hp → Prop} : iEnumT K ta σ H R = ta σ H fun vs H1 => ∃ a, vs = [.ref a] ∧ (∃ xs, SqT K H1 a xs) ∧ R (IteT K a) H1 := rfl
section
variable {K : PySem.W.Frag} {a : Addr} {xs : List V}
end
section
variable {K : PySem.W.Frag} {a b : Addr} {H : Hp} {Q : VK}
theorem r_extend : rExtend (.ref a) [.ref b] H Q = ∃ xs zs, H a = some (.lst xs) ∧ H b = some (.lst zs) ∧ xs.length + zs.length ≤ sizeLine ∧ Q .non (upd H a (.lst (xs ++ zs))) := propext ⟨by rintro ⟨_, _, xs, zs, e1, e2, q⟩; cases e1; cases e2; exact ⟨xs, zs, q⟩, by rintro ⟨xs, zs, q⟩; exact ⟨a, b, xs, zs, rfl, rfl, q⟩⟩
end
end L2
namespace L2
open PySem PySem.Spec PyProof.Rows
noncomputable def stAt : Nat → St → Option V
  | 0, o :: _ => o
  | n + 1, _ :: r => stAt n r
  | _, [] => none
theorem stAt_get : ∀ {n : Nat} {σ : St} {v : V}, stAt n σ = some v → σ[n]? = some (some v)
  | 0, o :: _, v, h => by rw [show stAt 0 (o :: _) = o from rfl] at h; rw [h]; rfl
  | n + 1, _ :: r, v, h => by rw [List.getElem?_cons_succ]; exact stAt_get h
  | 0, [], _, h => by cases h
  | _ + 1, [], _, h => by cases h
noncomputable def yVar (i : Nat) : TE := fun σ H Q => match stAt i σ with
  | some v => Q v H
  | none => False
theorem yVar_le {i : Nat} {σ : St} {H : Hp} {Q : VK} (h : yVar i σ H Q) : tVar i σ H Q := by
  unfold yVar at h
  split at h
  · next v e => exact ⟨v, stAt_get e, h⟩
  · exact h.elim
theorem yqv {X : Cx} (i : Nat) {x : Str} {pos : Pos} (hv : Vis X.env.scope x) (hN : X.N[i]? = some x := by rfl) (hd : (x == ("__debug__" : Str)) = false := by kernel_rfl) (hcd : (x == ("__classdict__" : Str)) = false := by kernel_rfl) : XE X (.Name x pos) (yVar i) :=
  ⟨fun pins s σ H Q I h => qv i hv hN hd hcd pins s σ H Q I (yVar_le h)⟩
noncomputable def yI0 (g : Int → Int → V) : R2 := fun x y H Q => match x, y with
  | .int i, .int j => Q (g i j) H
  | _, _ => False
noncomputable def yI (C : Int → Int → Prop) (g : Int → Int → V) : R2 := fun x y H Q => match x, y with
  | .int i, .int j => C i j ∧ Q (g i j) H
  | _, _ => False
noncomputable def yU (g : Int → V) : V → Hp → VK → Prop := fun x H Q => match x with
  | .int i => Q (g i) H
  | _ => False
theorem yI0_le {g : Int → Int → V} {x y : V} {H : Hp} {Q : VK} (h : yI0 g x y H Q) : rI0 g x y H Q := by
  unfold yI0 at h
  split at h
  · exact ⟨_, _, rfl, rfl, h⟩
  · exact h.elim
theorem yI_le {C : Int → Int → Prop} {g : Int → Int → V} {x y : V} {H : Hp} {Q : VK} (h : yI C g x y H Q) : rI C g x y H Q := by
  unfold yI at h
  split at h
  · exact ⟨_, _, rfl, rfl, h⟩
  · exact h.elim
theorem yU_le {g : Int → V} {x : V} {H : Hp} {Q : VK} (h : yU g x H Q) : rU g x H Q := by
  unfold yU at h
  split at h
  · exact ⟨_, rfl, h⟩
  · exact h.elim
section
variable {X : Cx}
theorem OpR.le {f : Value → Value → Sem Value} {r r' : R2} (h : OpR X f r) (le : ∀ {x y : V} {H : Hp} {Q : VK}, r' x y H Q → r x y H Q) : OpR X f r' := fun pins s σ H x y v u Q I rx ry q => h pins s σ H x y v u Q I rx ry (le q)
theorem yop_add : OpR X (binaryOp .Add) (yI0 fun i j => .int (i + j)) := OpR.le op_add yI0_le
theorem yop_sub : OpR X (binaryOp .Sub) (yI0 fun i j => .int (i - j)) := OpR.le op_sub yI0_le
theorem yop_mul : OpR X (binaryOp .Mult) (yI CMul fun i j => .int (i * j)) := OpR.le op_mul yI_le
theorem yop_mod : OpR X (binaryOp .Mod) (yI (fun _ j => 0 < j) fun i j => .int (i % j)) := OpR.le op_mod yI_le
theorem yop_pow : OpR X (binaryOp .Pow) (yI CPow fun i j => .int (i ^ j.toNat)) := OpR.le op_pow yI_le
theorem yop_shl : OpR X (binaryOp .LShift) (yI CPow fun i j => .int (i * 2 ^ j.toNat)) := OpR.le op_shl yI_le
theorem yop_lt : OpR X (compareOp .Lt) (yI0 fun i j => .bl (decide (i < j))) := OpR.le op_lt yI0_le
theorem yop_gt : OpR X (compareOp .Gt) (yI0 fun i j => .bl (decide (j < i))) := OpR.le op_gt yI0_le
theorem yop_ge : OpR X (compareOp .GtE) (yI0 fun i j => .bl (decide (j ≤ i))) := OpR.le op_ge yI0_le
theorem yop_fdivB : OpR X (binaryOp .FloorDiv) (yI CDivB fun i j => .int (i / j)) := OpR.le op_fdivB yI_le
theorem yop_mulB : OpR X (binaryOp .Mult) (yI IntMulOk fun i j => .int (i * j)) := OpR.le op_mulB yI_le
theorem yun_neg : UnR X (unaryOp .USub) (yU fun i => .int (-i)) := fun pins s σ H x v Q I rx q => un_neg pins s σ H x v Q I rx (yU_le q)
end
section
variable {H : Hp} {Q : VK}
theorem y_v0 {v : V} {r : St}  : yVar 0 (some v :: r) H Q = Q v H := rfl
theorem y_v1 {v : V} {r : St} {a0 : Option V} : yVar 1 (a0 :: some v :: r) H Q = Q v H := rfl
theorem y_v2 {v : V} {r : St} {a0 : Option V} {a1 : Option V} : yVar 2 (a0 :: a1 :: some v :: r) H Q = Q v H := rfl
theorem y_v3 {v : V} {r : St} {a0 : Option V} {a1 : Option V} {a2 : Option V} : yVar 3 (a0 :: a1 :: a2 :: some v :: r) H Q = Q v H := rfl
theorem y_v4 {v : V} {r : St} {a0 : Option V} {a1 : Option V} {a2 : Option V} {a3 : Option V} : yVar 4 (a0 :: a1 :: a2 :: a3 :: some v :: r) H Q = Q v H := rfl
theorem y_v5 {v : V} {r : St} {a0 : Option V} {a1 : Option V} {a2 : Option V} {a3 : Option V} {a4 : Option V} : yVar 5 (a0 :: a1 :: a2 :: a3 :: a4 :: some v :: r) H Q = Q v H := rfl
theorem y_v6 {v : V} {r : St} {a0 : Option V} {a1 : Option V} {a2 : Option V} {a3 : Option V} {a4 : Option V} {a5 : Option V} : yVar 6 (a0 :: a1 :: a2 :: a3 :: a4 :: a5 :: some v :: r) H Q = Q v H := rfl
theorem y_v7 {v : V} {r : St} {a0 : Option V} {a1 : Option V} {a2 : Option V} {a3 : Option V} {a4 : Option V} {a5 : Option V} {a6 : Option V} : yVar 7 (a0 :: a1 :: a2 :: a3 :: a4 :: a5 :: a6 :: some v :: r) H Q = Q v H := rfl
theorem y_v8 {v : V} {r : St} {a0 : Option V} {a1 : Option V} {a2 : Option V} {a3 : Option V} {a4 : Option V} {a5 : Option V} {a6 : Option V} {a7 : Option V} : yVar 8 (a0 :: a1 :: a2 :: a3 :: a4 :: a5 :: a6 :: a7 :: some v :: r) H Q = Q v H := rfl
theorem y_v9 {v : V} {r : St} {a0 : Option V} {a1 : Option V} {a2 : Option V} {a3 : Option V} {a4 : Option V} {a5 : Option V} {a6 : Option V} {a7 : Option V} {a8 : Option V} : yVar 9 (a0 :: a1 :: a2 :: a3 :: a4 :: a5 :: a6 :: a7 :: a8 :: some v :: r) H Q = Q v H := rfl
theorem y_v10 {v : V} {r : St} {a0 : Option V} {a1 : Option V} {a2 : Option V} {a3 : Option V} {a4 : Option V} {a5 : Option V} {a6 : Option V} {a7 : Option V} {a8 : Option V} {a9 : Option V} : yVar 10 (a0 :: a1 :: a2 :: a3 :: a4 :: a5 :: a6 :: a7 :: a8 :: a9 :: some v :: r) H Q = Q v H := rfl
theorem y_v11 {v : V} {r : St} {a0 : Option V} {a1 : Option V} {a2 : Option V} {a3 : Option V} {a4 : Option V} {a5 : Option V} {a6 : Option V} {a7 : Option V} {a8 : Option V} {a9 : Option V} {a10 : Option V} : yVar 11 (a0 :: a1 :: a2 :: a3 :: a4 :: a5 :: a6 :: a7 :: a8 :: a9 :: a10 :: some v :: r) H Q = Q v H := rfl
theorem y_v12 {v : V} {r : St} {a0 : Option V} {a1 : Option V} {a2 : Option V} {a3 : Option V} {a4 : Option V} {a5 : Option V} {a6 : Option V} {a7 : Option V} {a8 : Option V} {a9 : Option V} {a10 : Option V} {a11 : Option V} : yVar 12 (a0 :: a1 :: a2 :: a3 :: a4 :: a5 :: a6 :: a7 :: a8 :: a9 :: a10 :: a11 :: some v :: r) H Q = Q v H := rfl
theorem y_v13 {v : V} {r : St} {a0 : Option V} {a1 : Option V} {a2 : Option V} {a3 : Option V} {a4 : Option V} {a5 : Option V} {a6 : Option V} {a7 : Option V} {a8 : Option V} {a9 : Option V} {a10 : Option V} {a11 : Option V} {a12 : Option V} : yVar 13 (a0 :: a1 :: a2 :: a3 :: a4 :: a5 :: a6 :: a7 :: a8 :: a9 :: a10 :: a11 :: a12 :: some v :: r) H Q = Q v H := rfl
theorem y_v14 {v : V} {r : St} {a0 : Option V} {a1 : Option V} {a2 : Option V} {a3 : Option V} {a4 : Option V} {a5 : Option V} {a6 : Option V} {a7 : Option V} {a8 : Option V} {a9 : Option V} {a10 : Option V} {a11 : Option V} {a12 : Option V} {a13 : Option V} : yVar 14 (a0 :: a1 :: a2 :: a3 :: a4 :: a5 :: a6 :: a7 :: a8 :: a9 :: a10 :: a11 :: a12 :: a13 :: some v :: r) H Q = Q v H := rfl
theorem y_v15 {v : V} {r : St} {a0 : Option V} {a1 : Option V} {a2 : Option V} {a3 : Option V} {a4 : Option V} {a5 : Option V} {a6 : Option V} {a7 : Option V} {a8 : Option V} {a9 : Option V} {a10 : Option V} {a11 : Option V} {a12 : Option V} {a13 : Option V} {a14 : Option V} : yVar 15 (a0 :: a1 :: a2 :: a3 :: a4 :: a5 :: a6 :: a7 :: a8 :: a9 :: a10 :: a11 :: a12 :: a13 :: a14 :: some v :: r) H Q = Q v H := rfl
theorem y_v16 {v : V} {r : St} {a0 : Option V} {a1 : Option V} {a2 : Option V} {a3 : Option V} {a4 : Option V} {a5 : Option V} {a6 : Option V} {a7 : Option V} {a8 : Option V} {a9 : Option V} {a10 : Option V} {a11 : Option V} {a12 : Option V} {a13 : Option V} {a14 : Option V} {a15 : Option V} : yVar 16 (a0 :: a1 :: a2 :: a3 :: a4 :: a5 :: a6 :: a7 :: a8 :: a9 :: a10 :: a11 :: a12 :: a13 :: a14 :: a15 :: some v :: r) H Q = Q v H := rfl
theorem y_v17 {v : V} {r : St} {a0 : Option V} {a1 : Option V} {a2 : Option V} {a3 : Option V} {a4 : Option V} {a5 : Option V} {a6 : Option V} {a7 : Option V} {a8 : Option V} {a9 : Option V} {a10 : Option V} {a11 : Option V} {a12 : Option V} {a13 : Option V} {a14 : Option V} {a15 : Option V} {a16 : Option V} : yVar 17 (a0 :: a1 :: a2 :: a3 :: a4 :: a5 :: a6 :: a7 :: a8 :: a9 :: a10 :: a11 :: a12 :: a13 :: a14 :: a15 :: a16 :: some v :: r) H Q = Q v H := rfl
theorem y_v18 {v : V} {r : St} {a0 : Option V} {a1 : Option V} {a2 : Option V} {a3 : Option V} {a4 : Option V} {a5 : Option V} {a6 : Option V} {a7 : Option V} {a8 : Option V} {a9 : Option V} {a10 : Option V} {a11 : Option V} {a12 : Option V} {a13 : Option V} {a14 : Option V} {a15 : Option V} {a16 : Option V} {a17 : Option V} : yVar 18 (a0 :: a1 :: a2 :: a3 :: a4 :: a5 :: a6 :: a7 :: a8 :: a9 :: a10 :: a11 :: a12 :: a13 :: a14 :: a15 :: a16 :: a17 :: some v :: r) H Q = Q v H := rfl
theorem y_v19 {v : V} {r : St} {a0 : Option V} {a1 : Option V} {a2 : Option V} {a3 : Option V} {a4 : Option V} {a5 : Option V} {a6 : Option V} {a7 : Option V} {a8 : Option V} {a9 : Option V} {a10 : Option V} {a11 : Option V} {a12 : Option V} {a13 : Option V} {a14 : Option V} {a15 : Option V} {a16 : Option V} {a17 : Option V} {a18 : Option V} : yVar 19 (a0 :: a1 :: a2 :: a3 :: a4 :: a5 :: a6 :: a7 :: a8 :: a9 :: a10 :: a11 :: a12 :: a13 :: a14 :: a15 :: a16 :: a17 :: a18 :: some v :: r) H Q = Q v H := rfl
theorem y_v20 {v : V} {r : St} {a0 : Option V} {a1 : Option V} {a2 : Option V} {a3 : Option V} {a4 : Option V} {a5 : Option V} {a6 : Option V} {a7 : Option V} {a8 : Option V} {a9 : Option V} {a10 : Option V} {a11 : Option V} {a12 : Option V} {a13 : Option V} {a14 : Option V} {a15 : Option V} {a16 : Option V} {a17 : Option V} {a18 : Option V} {a19 : Option V} : yVar 20 (a0 :: a1 :: a2 :: a3 :: a4 :: a5 :: a6 :: a7 :: a8 :: a9 :: a10 :: a11 :: a12 :: a13 :: a14 :: a15 :: a16 :: a17 :: a18 :: a19 :: some v :: r) H Q = Q v H := rfl
theorem y_v21 {v : V} {r : St} {a0 : Option V} {a1 : Option V} {a2 : Option V} {a3 : Option V} {a4 : Option V} {a5 : Option V} {a6 : Option V} {a7 : Option V} {a8 : Option V} {a9 : Option V} {a10 : Option V} {a11 : Option V} {a12 : Option V} {a13 : Option V} {a14 : Option V} {a15 : Option V} {a16 : Option V} {a17 : Option V} {a18 : Option V} {a19 : Option V} {a20 : Option V} : yVar 21 (a0 :: a1 :: a2 :: a3 :: a4 :: a5 :: a6 :: a7 :: a8 :: a9 :: a10 :: a11 :: a12 :: a13 :: a14 :: a15 :: a16 :: a17 :: a18 :: a19 :: a20 :: some v :: r) H Q = Q v H := rfl
theorem y_v22 {v : V} {r : St} {a0 : Option V} {a1 : Option V} {a2 : Option V} {a3 : Option V} {a4 : Option V} {a5 : Option V} {a6 : Option V} {a7 : Option V} {a8 : Option V} {a9 : Option V} {a10 : Option V} {a11 : Option V} {a12 : Option V} {a13 : Option V} {a14 : Option V} {a15 : Option V} {a16 : Option V} {a17 : Option V} {a18 : Option V} {a19 : Option V} {a20 : Option V} {a21 : Option V} : yVar 22 (a0 :: a1 :: a2 :: a3 :: a4 :: a5 :: a6 :: a7 :: a8 :: a9 :: a10 :: a11 :: a12 :: a13 :: a14 :: a15 :: a16 :: a17 :: a18 :: a19 :: a20 :: a21 :: some v :: r) H Q = Q v H := rfl
theorem y_v23 {v : V} {r : St} {a0 : Option V} {a1 : Option V} {a2 : Option V} {a3 : Option V} {a4 : Option V} {a5 : Option V} {a6 : Option V} {a7 : Option V} {a8 : Option V} {a9 : Option V} {a10 : Option V} {a11 : Option V} {a12 : Option V} {a13 : Option V} {a14 : Option V} {a15 : Option V} {a16 : Option V} {a17 : Option V} {a18 : Option V} {a19 : Option V} {a20 : Option V} {a21 : Option V} {a22 : Option V} : yVar 23 (a0 :: a1 :: a2 :: a3 :: a4 :: a5 :: a6 :: a7 :: a8 :: a9 :: a10 :: a11 :: a12 :: a13 :: a14 :: a15 :: a16 :: a17 :: a18 :: a19 :: a20 :: a21 :: a22 :: some v :: r) H Q = Q v H := rfl
theorem y_I0 {g : Int → Int → V} {i j : Int} : yI0 g (.int i) (.int j) H Q = Q (g i j) H := rfl
theorem y_I {C : Int → Int → Prop} {g : Int → Int → V} {i j : Int} : yI C g (.int i) (.int j) H Q = (C i j ∧ Q (g i j) H) := rfl
theorem y_U {g : Int → V} {i : Int} : yU g (.int i) H Q = Q (g i) H := rfl
end
end L2
set_option maxHeartbeats 4000000
namespace FA
open PySem L2 PyProof.Rows
noncomputable def mixed (c k : Int) : Int :=
  if 10 ^ Int.toNat 40 ≤ c then (c - 10 ^ Int.toNat 40) / (1 * 2 ^ (100 * (k % 60)).toNat) % (1 * 2 ^ Int.toNat 100)
  else ((c * c + 3 * c + 7919 * k + 1) * 48271 % 2147483629 * ((c * c + 3 * c + 7919 * k + 1) * 48271 % 2147483629) + 7) % 2147483587
theorem mixed_nn (c k : Int) : 0 ≤ mixed c k := by
  unfold mixed
  split
  · exact Int.emod_nonneg _ (by decide)
  · exact Int.emod_nonneg _ (by decide)
theorem CDivB.pow {i : Int} {n : Nat} (h : n < 9000) : CDivB i (1 * 2 ^ n) := by
  rw [Int.one_mul]
  refine ⟨Int.pow_pos (by decide), ?_⟩
  rw [Int.natAbs_pow]
  show (2 ^ n).log2 < 9000
  rw [Nat.log2_two_pow]
  exact h
theorem mulSelf {c : Int} (h : Builtin.Int.intBits c ≤ 2 ^ 20) : IntMulOk c c := mulOk_of_bits h h (by decide)
noncomputable def ltr (z : Int) : Nat := 97 + (z % 26).toNat
noncomputable def nmAt (m pl k : Int) (j : Nat) : Int := m / 36 + j * j + (if decide ((j : Int) = pl) = true then 1 else 0) * k
noncomputable def nm (m pl k : Int) : Nat → Str
  | 0 => ""
  | j + 1 => nm m pl k j ++ ⟨#[ltr (nmAt m pl k j)]⟩
theorem nm_len (m pl k : Int) : ∀ j, (nm m pl k j).length = j
  | 0 => by show ("" : Str).length = 0; decide +kernel
  | j + 1 => by
    rw [nm, strLen_append, nm_len m pl k j]
    rfl
noncomputable def nms (m : Int) (n : Nat) : List Str := (List.range n).map fun (k : Nat) => nm m (m / 6 % (1 + m % 6)) k (1 + m % 6).toNat
theorem nms_succ (m : Int) (n : Nat) : nms m (n + 1) = nms m n ++ [nm m (m / 6 % (1 + m % 6)) n (1 + m % 6).toNat] := by
  unfold nms
  rw [List.range_succ, List.map_append, List.map_singleton]
noncomputable def keyw : List Str := ["tell", "end", "if", "in", "box", "while", "else", "plus"]
noncomputable def namesF (c : Int) : List Str := if mixed c 3 / 1000 % 5 = 1 then keyw else nms (mixed c 3) 8
theorem let26 : ∀ n : Nat, n < 26 → atI ("abcdefghijklmnopqrstuvwxyz" : Str).cps.toList (n : Int) = some (97 + n) := by decide +kernel
theorem let_at (z : Int) : atI ("abcdefghijklmnopqrstuvwxyz" : Str).cps.toList (z % 26) = some (ltr z) := by
  have h0 : 0 ≤ z % 26 := Int.emod_nonneg _ (by decide)
  have h1 : z % 26 < 26 := Int.emod_lt_of_pos _ (by decide)
  unfold ltr
  obtain ⟨n, hn⟩ := Int.eq_ofNat_of_zero_le h0
  rw [hn]
  exact let26 n (by omega)
noncomputable def pick (m : Int) (ns : List Str) : Str := ns.getD (m % (ns.length : Int)).toNat ""
theorem pick_at {m : Int} {ns : List Str} (h : ¬ ns = []) : atI (ns.map V.str) (m % (ns.length : Int)) = some (.str (pick m ns)) := by
  have hl : 0 < ns.length := List.length_pos_iff.mpr h
  have h0 : 0 ≤ m % (ns.length : Int) := Int.emod_nonneg _ (by omega)
  have h1 : m % (ns.length : Int) < ns.length := Int.emod_lt_of_pos _ (by omega)
  unfold pick
  obtain ⟨n, hn⟩ := Int.eq_ofNat_of_zero_le h0
  rw [hn]
  refine atI_nat ?_
  have hn' : n < ns.length := by omega
  rw [List.getElem?_map, Int.toNat_natCast, List.getD_eq_getElem?_getD, List.getElem?_eq_getElem hn']
  rfl
theorem pick_mem {m : Int} {ns : List Str} (h : ¬ ns = []) : pick m ns ∈ ns := by
  have hl : 0 < ns.length := List.length_pos_iff.mpr h
  have h0 : 0 ≤ m % (ns.length : Int) := Int.emod_nonneg _ (by omega)
  have h1 : m % (ns.length : Int) < ns.length := Int.emod_lt_of_pos _ (by omega)
  unfold pick
  have hn' : (m % (ns.length : Int)).toNat < ns.length := by omega
  rw [List.getD_eq_getElem?_getD, List.getElem?_eq_getElem hn']
  exact List.getElem_mem hn'
noncomputable def opdF (m : Int) (ns : List Str) (w : Int) : V := if 0 < m % 3 ∧ ¬ ns = [] then .str (pick (m / 3) ns) else .int (m / 3 % (1 * 2 ^ w.toNat))
noncomputable def opsL : List Str := ["plus", "less", "and", "or", "xor", "below", "same"]
noncomputable def deedF (m : Int) (ns : List Str) (w : Int) : List V :=
  if m % 9 = 0 ∨ ns = [] then [.str "tell", opdF (m / 16) ns w]
  else if m % 9 = 1 then [.str "copy", .str (pick (m / 7) ns), opdF (m / 16) ns w]
  else [.str (opsL.getD (m % 9 - 2).toNat ""), .str (pick (m / 7) ns), opdF (m / 16) ns w, opdF (m / 1009) ns w]
theorem ops_at7 : ∀ n : Nat, n < 7 → atI [V.str "plus", V.str "less", V.str "and", V.str "or", V.str "xor", V.str "below", V.str "same"] (n : Int) = some (.str (opsL.getD n "")) := by decide +kernel
theorem ops_at {j : Int} (h0 : 0 ≤ j) (h7 : j < 7) : atI [V.str "plus", V.str "less", V.str "and", V.str "or", V.str "xor", V.str "below", V.str "same"] j = some (.str (opsL.getD j.toNat "")) := by
  obtain ⟨n, rfl⟩ := Int.eq_ofNat_of_zero_le h0
  rw [Int.toNat_natCast]
  exact ops_at7 n (Int.ofNat_lt.mp h7)
end FA
namespace L2
open PySem PyProof.Rows
theorem hu_n {A : Around} {k n : Nat} (h : n ≤ 64) (hr : Room k A) : A.units + n < cLine := Nat.lt_of_le_of_lt (Nat.add_le_add_left h _) hr.units
theorem cutV_to {xs : List V} {k : Int} (h : 0 ≤ k) : cutV xs none (some k) = xs.take k.toNat := by
  obtain ⟨n, rfl⟩ := Int.eq_ofNat_of_zero_le h
  unfold cutV
  rw [HT.sIx_none, HT.sIx_nat, List.drop_zero, Int.toNat_natCast, Nat.sub_zero]
  by_cases hn : n ≤ xs.length
  · rw [Nat.min_eq_left hn]
  · rw [Nat.min_eq_right (by omega), List.take_length, List.take_of_length_le (by omega)]
theorem cutV_from {xs : List V} {k : Int} (h : 0 ≤ k) : cutV xs (some k) none = xs.drop k.toNat := by
  obtain ⟨n, rfl⟩ := Int.eq_ofNat_of_zero_le h
  unfold cutV
  rw [HT.sIx_none, HT.sIx_nat, Int.toNat_natCast]
  by_cases hn : n ≤ xs.length
  · rw [Nat.min_eq_left hn, List.take_of_length_le (by simp)]
  · rw [Nat.min_eq_right (by omega), List.drop_of_length_le (Nat.le_refl _), List.drop_of_length_le (by omega)]; simp
theorem cutV_mid {xs : List V} {k l : Int} (h : 0 ≤ k) (h2 : 0 ≤ l) : cutV xs (some k) (some l) = (xs.take l.toNat).drop k.toNat := by
  obtain ⟨n, rfl⟩ := Int.eq_ofNat_of_zero_le h
  obtain ⟨m, rfl⟩ := Int.eq_ofNat_of_zero_le h2
  unfold cutV
  rw [HT.sIx_nat, HT.sIx_nat, Int.toNat_natCast, Int.toNat_natCast]
  by_cases hn : n ≤ xs.length
  · rw [Nat.min_eq_left hn]
    by_cases hm : m ≤ xs.length
    · rw [Nat.min_eq_left hm, List.drop_take]
    · rw [Nat.min_eq_right (by omega), List.take_of_length_le (by simp), List.take_of_length_le (by omega)]
  · rw [Nat.min_eq_right (show xs.length ≤ n by omega), List.drop_of_length_le (Nat.le_refl _), List.drop_of_length_le (by rw [List.length_take]; omega)]; simp
section
variable {K : PySem.W.Frag} {te : TE} {ci : List Nat} {σ : St} {acc : Addr} {Q : Hp → Prop} {H1 : Hp} {a : Addr} {xs : List V}
end
structure TSame (H H' : Hp) : Prop where
  tup : ∀ b xs, H b = some (.tup xs) → H' b = some (.tup xs)
  frz : ∀ b o u, H b = some (.frz o u) → H' b = some (.frz o u)
theorem Same.ts {H H' : Hp} (s : Same H H') : TSame H H' := ⟨fun b xs e => s b _ e, fun b o u e => s b _ e⟩
theorem TSame.trans {H H1 H2 : Hp} (a : TSame H H1) (b : TSame H1 H2) : TSame H H2 := ⟨fun c xs e => b.tup c xs (a.tup c xs e), fun c o u e => b.frz c o u (a.frz c o u e)⟩
theorem TSame.updL {H : Hp} {p : Addr} {ys : List V} {o : HO} (h : H p = some (.lst ys)) : TSame H (upd H p o) :=
  ⟨fun b xs e => by rw [upd_ne (ne_of e h (by intro z; cases z))]; exact e, fun b o u e => by rw [upd_ne (ne_of e h (by intro z; cases z))]; exact e⟩
theorem TSame.seqT {K : PySem.W.Frag} {H H' : Hp} {a : Addr} {xs : List V} (e : TSame H H') (h : SqT K H a xs) : SqT K H' a xs := by
  rcases h with (h | ⟨o, h⟩) | h
  · exact .inl (.inl (e.tup _ _ h))
  · exact .inl (.inr ⟨o, e.frz _ _ _ h⟩)
  · exact .inr h
end L2
namespace FA
open PySem L2
noncomputable def opdD (m : Int) (ns : List Str) (w : Int) : FB.Opd := if 0 < m % 3 ∧ ¬ ns = [] then .box (pick (m / 3) ns) else .word (m / 3 % (1 * 2 ^ w.toNat))
theorem opdD_v {m : Int} {ns : List Str} {w : Int} : (opdD m ns w).v = opdF m ns w := by
  unfold opdD opdF
  split <;> rfl
noncomputable def deedOf (m : Int) (ns : List Str) (w : Int) : FB.Deed :=
  if m % 9 = 0 ∨ ns = [] then .tell (opdD (m / 16) ns w)
  else if m % 9 = 1 then .copy (pick (m / 7) ns) (opdD (m / 16) ns w)
  else .op (opsL.getD (m % 9 - 2).toNat "") (pick (m / 7) ns) (opdD (m / 16) ns w) (opdD (m / 1009) ns w)
theorem deedOf_vs {m : Int} {ns : List Str} {w : Int} : (deedOf m ns w).vs = deedF m ns w := by
  unfold deedOf deedF
  split
  · simp only [FB.Deed.vs, opdD_v]
  · split
    · simp only [FB.Deed.vs, opdD_v]
    · simp only [FB.Deed.vs, opdD_v]
theorem deedOf_fine {m : Int} {ns : List Str} {w : Int} : (deedOf m ns w).fine := by
  unfold deedOf
  split
  · trivial
  · split
    · trivial
    · show opsL.getD (m % 9 - 2).toNat "" ∈ FB.opsL
      have h0 : 0 ≤ m % 9 := Int.emod_nonneg _ (by decide)
      have h1 : m % 9 < 9 := Int.emod_lt_of_pos _ (by decide)
      have h : ∀ n : Nat, n < 7 → opsL.getD n "" ∈ FB.opsL := by decide +kernel
      by_cases h2 : m % 9 - 2 < 7
      · exact h _ (by omega)
      · exact absurd h1 (by omega)
end FA
namespace FL
open PySem L2 PyProof.Rows
noncomputable def rangeI (n : Nat) : List Int := (List.range n).map fun i : Nat => (i : Int)
noncomputable def GoodP (b : List Int) : Prop := b ≠ [] ∧ b.Pairwise (· ≤ ·)
noncomputable instance (b : List Int) : Decidable (GoodP b) := by unfold GoodP; infer_instance
structure PlacesP (n : Nat) (bss : List (List Int)) : Prop where
  good : ∀ b ∈ bss, GoodP b
  perm : bss.flatten.Perm (rangeI n)
noncomputable instance (n : Nat) (bss : List (List Int)) : Decidable (PlacesP n bss) := decidable_of_iff ((∀ b ∈ bss, GoodP b) ∧ bss.flatten.Perm (rangeI n)) ⟨fun ⟨a, b⟩ => ⟨a, b⟩, fun h => ⟨h.good, h.perm⟩⟩
theorem sorted_eq {b c : List Int} (h1 : c.Perm b) (h2 : c.Pairwise (· ≤ ·)) : b = c ↔ b.Pairwise (· ≤ ·) :=
  ⟨fun e => e ▸ h2, fun h => List.Perm.eq_of_pairwise (fun x y _ _ h1 h2 => Int.le_antisymm h1 h2) h h2 h1.symm⟩
theorem ixN_nat {n k : Nat} (h : k < n) : ixN n (k : Int) = some k := by
  unfold ixN
  rw [if_pos (by omega), if_pos (by omega), Int.toNat_natCast]
end FL
namespace FL
open PySem L2 PyProof.Rows
noncomputable def NewB (H H' : Hp) (p : Addr) (ys : List V) (bss : List (List Int)) : Prop := Same H H' ∧ H p = none ∧ H' p = some (.lst ys) ∧
  ∃ ps : List Addr, ys = ps.map V.ref ∧ Paired (fun q (b : List Int) => H' q = some (.lst (b.map V.int))) ps bss ∧ (p :: ps).Nodup ∧ ∀ c ∈ ps, H c = none
theorem NewB.nil {H : Hp} {p : Addr} (h : H p = none) : NewB H (upd H p (.lst [])) p [] [] := ⟨Same.upd h, h, upd_same, [], rfl, .nil, by simp, fun c hc => by cases hc⟩
theorem NewB.len {H H' : Hp} {p : Addr} {ys : List V} {bss : List (List Int)} (h : NewB H H' p ys bss) : ys.length = bss.length := by
  obtain ⟨_, _, _, ps, rfl, q, _⟩ := h
  rw [List.length_map]; exact q.length
theorem Paired.mem {α β : Type} {F : α → β → Prop} : ∀ {l₁ : List α} {l₂ : List β}, Paired F l₁ l₂ → ∀ a ∈ l₁, ∃ b ∈ l₂, F a b
  | _, _, .nil => by intro a h; cases h
  | _, _, .cons h t => by
    intro a hm
    rcases List.mem_cons.mp hm with e | e
    · subst e; exact ⟨_, List.mem_cons_self .., h⟩
    · obtain ⟨b, hb, hf⟩ := Paired.mem t a e
      exact ⟨b, List.mem_cons_of_mem _ hb, hf⟩
theorem Paired.imp {α β : Type} {F G : α → β → Prop} : ∀ {l₁ : List α} {l₂ : List β}, Paired F l₁ l₂ → (∀ a ∈ l₁, ∀ b ∈ l₂, F a b → G a b) → Paired G l₁ l₂
  | _, _, .nil, _ => .nil
  | _, _, .cons h t, hi => .cons (hi _ (List.mem_cons_self ..) _ (List.mem_cons_self ..) h) (Paired.imp t fun a ha b hb => hi a (List.mem_cons_of_mem _ ha) b (List.mem_cons_of_mem _ hb))
theorem Paired.snoc {α β : Type} {F : α → β → Prop} {a : α} {b : β} (hf : F a b) : ∀ {l₁ : List α} {l₂ : List β}, Paired F l₁ l₂ → Paired F (l₁ ++ [a]) (l₂ ++ [b])
  | _, _, .nil => .cons hf .nil
  | _, _, .cons h t => .cons h (Paired.snoc hf t)
theorem NewB.snoc {H H1 H2 : Hp} {p q : Addr} {ys : List V} {bss : List (List Int)} {b : List Int} (h : NewB H H1 p ys bss) (s : Same H1 H2) (hq : H1 q = none) (h2 : H2 q = some (.lst (b.map V.int))) :
    H2 p = some (.lst ys) ∧ NewB H (upd H2 p (.lst (ys ++ [V.ref q]))) p (ys ++ [V.ref q]) (bss ++ [b]) := by
  obtain ⟨sm, hp, e, ps, rfl, pr, nd, fr⟩ := h
  have hqp : q ≠ p := fun z => by rw [z, e] at hq; cases hq
  have hqps : q ∉ ps := fun z => by
    obtain ⟨b', _, hb'⟩ := Paired.mem pr q z
    rw [hq] at hb'; cases hb'
  have npp : p ∉ ps := (List.nodup_cons.mp nd).1
  refine ⟨s _ _ e, (sm.trans s).updM hp, hp, upd_same, ps ++ [q], by simp, ?_, ?_, ?_⟩
  · refine Paired.snoc (by rw [upd_ne hqp]; exact h2) (Paired.imp pr fun a ha b' _ hb' => ?_)
    rw [upd_ne (show a ≠ p from fun z => npp (z ▸ ha))]
    exact s _ _ hb'
  · rw [← List.cons_append, List.nodup_append]
    refine ⟨nd, by simp, fun x hx y hy => ?_⟩
    rw [List.mem_singleton.mp hy]
    rintro rfl
    rcases List.mem_cons.mp hx with z | z
    · exact hqp z
    · exact hqps z
  · intro c hc
    rcases List.mem_append.mp hc with z | z
    · exact fr c z
    · rw [List.mem_singleton.mp z]; exact sm.free hq
theorem Paired.put {α β : Type} {F : α → β → Prop} {a : α} {b : β} (hf : F a b) : ∀ {l₁ : List α} {l₂ : List β} (i : Nat), Paired F l₁ l₂ → Paired F (l₁.set i a) (l₂.set i b)
  | _, _, _, .nil => .nil
  | _, _, 0, .cons h t => .cons hf t
  | _, _, i + 1, .cons h t => .cons h (Paired.put hf i t)
theorem Paired.cat {α β : Type} {F : α → β → Prop} : ∀ {l₁ : List α} {l₂ : List β} {m₁ : List α} {m₂ : List β}, Paired F l₁ l₂ → Paired F m₁ m₂ → Paired F (l₁ ++ m₁) (l₂ ++ m₂)
  | _, _, _, _, .nil, k => k
  | _, _, _, _, .cons h t, k => .cons h (Paired.cat t k)
theorem Paired.of_get {α β : Type} {F : α → β → Prop} : ∀ {l₁ : List α} {l₂ : List β}, l₁.length = l₂.length → (∀ (i : Nat) a b, l₁[i]? = some a → l₂[i]? = some b → F a b) → Paired F l₁ l₂
  | [], [], _, _ => .nil
  | [], _ :: _, h, _ => by simp at h
  | _ :: _, [], h, _ => by simp at h
  | a :: l₁, b :: l₂, h, f => .cons (f 0 a b rfl rfl) (Paired.of_get (by simpa using h) fun i x y hx hy => f (i + 1) x y hx hy)
section
variable {K : PySem.W.Frag} {te : TE} {ci : List Nat} {σ : L2.St} {acc : Addr} {Q : Hp → Prop} {H1 : Hp}
end
section
variable {K : PySem.W.Frag} {H : Hp}
theorem rq_two {n : Nat} {a c x1 x2 y1 y2 : Addr} (ha : H a = some (.lst [.ref x1, .ref x2])) (hc : H c = some (.lst [.ref y1, .ref y2])) (h1 : Dq K H n (.ref x1) (.ref y1) true) (h2 : Dq K H n (.ref x2) (.ref y2) true) : Rq K H n (.ref a) (.ref c) true := by
  have z := Rq.lists (n := n) (fun _ => true) (SqL.of (K := K) ha) (SqL.of hc) rfl fun j x y hx hy => by
    match j, hx, hy with
    | 0, hx, hy => cases hx; cases hy; exact h1
    | 1, hx, hy => cases hx; cases hy; exact h2
    | j + 2, hx, _ => simp at hx
  rw [L2.all_true] at z
  exact z
end
end FL
namespace L2
open PySem PySem.Spec PyProof.Rows
section
variable {K : PySem.W.Frag} {tt : TT} {te : TE} {ci : List Nat} {σ : St} {acc : Addr} {Q : Hp → Prop} {H1 : Hp} {a : Addr} {xs : List V}
theorem cg_sameL (p : V → Bool) (f : V → V) (hz : xs.length ≤ sizeLine) (hl : SqL K H1 a xs) (hacc : H1 acc = none)
    (hp : ∀ x ∈ xs, ∀ H Q', Same H1 H → (∀ H', Same H H' → Q' (p x) H') → tt (blkSt [some x] ci σ) H Q') (hf : ∀ x ∈ xs, ∀ H Q', Same H1 H → p x = true → (∀ H', Same H H' → Q' (f x) H') → te (blkSt [some x] ci σ) H Q')
    (q : ∀ H, Same H1 H → H acc = some (.lst ((xs.filter p).map f)) → Q H) : CompGW (Itl K a) (gName 1) tt te 1 ci σ acc Q (upd H1 acc (.lst [])) := by
  refine cg_list (fun i ys H => ys = ((xs.take i).filter p).map f ∧ Same H1 H ∧ H acc = some (.lst ys)) ⟨by simp, Same.upd hacc, upd_same⟩ (fun i ys H _ h => h.2.1.seq hl) ?_ ?_
  · rintro i x ys H os hi ho ⟨rfl, sm, ha⟩
    have hm := List.mem_of_getElem? hi
    have e : (blkSt os ci σ).set 1 (some x) = blkSt [some x] ci σ := by
      match os, ho with
      | [o], _ => rfl
    show (∃ os', os'.length = 1 ∧ (blkSt os ci σ).set 1 (some x) = blkSt os' ci σ) ∧ tt ((blkSt os ci σ).set 1 (some x)) H _
    rw [e]
    refine ⟨⟨[some x], rfl, rfl⟩, hp x hm _ _ sm fun H2 s2 => ?_⟩
    cases hb : p x with
    | true =>
      rw [if_pos rfl]
      refine hf x hm _ _ (sm.trans s2) hb fun H3 s3 => ⟨s3 _ _ (s2 _ _ ha), flat_len hi hz, ?_, ((sm.trans s2).trans s3).updM hacc, upd_same⟩
      rw [take_filter_map hi, if_pos hb]
    | false =>
      rw [if_neg Bool.false_ne_true]
      refine ⟨?_, sm.trans s2, s2 _ _ ha⟩
      rw [take_filter_map hi, if_neg (by rw [hb]; exact Bool.false_ne_true), List.append_nil]
  · rintro ys H ⟨rfl, sm, ha⟩
    rw [List.take_length] at ha
    exact q H sm ha
end
end L2
set_option maxHeartbeats 4000000
namespace FD
open PySem L2 PyProof.Rows
noncomputable def mixed (c k : Int) : Int :=
  if 10 ^ Int.toNat 40 ≤ c then (c - 10 ^ Int.toNat 40) / (1 * 2 ^ (31 * (k % 60)).toNat) % (1 * 2 ^ Int.toNat 31)
  else (c * 1103515245 + 7919 * k * k + k) % 2147483647 * ((c * 1103515245 + 7919 * k * k + k) % 2147483647) % 2147483629 * 69621 % 2147483587
theorem mixed_nn (c k : Int) : 0 ≤ mixed c k := by
  unfold mixed
  split
  · exact Int.emod_nonneg _ (by decide)
  · exact Int.emod_nonneg _ (by decide)
end FD
namespace L2
open PySem PyProof.Rows
end L2
namespace FG
open PySem L2 PyProof.Rows
end FG
namespace FS
open PySem L2 FB PyProof.Rows
inductive Stm where
  | deed (d : Deed)
  | ifs (n : Str) (ones others : List Stm)
  | whl (n : Str) (rows : List Stm)
mutual
inductive StmV (K : PySem.W.Frag) (H : Hp) : V → Stm → List Addr → Prop where
  | deed {q : Addr} {d : Deed} : d.fine → SqT K H q d.vs → StmV K H (.ref q) (.deed d) []
  | ifs {q a b : Addr} {n : Str} {xs ys : List V} {ones others : List Stm} {f g : List Addr} : SqT K H q [.str "if", .str n, .ref a, .ref b] → H a = some (.lst xs) → H b = some (.lst ys) → StmsV K H xs ones f → StmsV K H ys others g →
      StmV K H (.ref q) (.ifs n ones others) (a :: b :: (f ++ g))
  | whl {q a : Addr} {n : Str} {xs : List V} {rows : List Stm} {f : List Addr} : SqT K H q [.str "while", .str n, .ref a] → H a = some (.lst xs) → StmsV K H xs rows f → StmV K H (.ref q) (.whl n rows) (a :: f)
inductive StmsV (K : PySem.W.Frag) (H : Hp) : List V → List Stm → List Addr → Prop where
  | nil : StmsV K H [] [] []
  | cons {x : V} {s : Stm} {xs : List V} {ss : List Stm} {f g : List Addr} : StmV K H x s f → StmsV K H xs ss g → StmsV K H (x :: xs) (s :: ss) (f ++ g)
end
noncomputable def Kept (fp : List Addr) (H H' : Hp) : Prop := ∀ a ∈ fp, ∀ o, H a = some o → H' a = some o
theorem Kept.left {f g : List Addr} {H H' : Hp} (h : Kept (f ++ g) H H') : Kept f H H' := fun a ha => h a (List.mem_append_left _ ha)
theorem Kept.right {f g : List Addr} {H H' : Hp} (h : Kept (f ++ g) H H') : Kept g H H' := fun a ha => h a (List.mem_append_right _ ha)
theorem Kept.tail {x : Addr} {g : List Addr} {H H' : Hp} (h : Kept (x :: g) H H') : Kept g H H' := fun a ha => h a (List.mem_cons_of_mem _ ha)
theorem Kept.of {fp : List Addr} {H H' : Hp} (s : Same H H') : Kept fp H H' := fun a _ o e => s a o e
theorem Kept.upd {fp : List Addr} {H : Hp} {p : Addr} {o : HO} (h : p ∉ fp) : Kept fp H (upd H p o) := fun a ha u e => by rw [upd_ne (fun z => h (by rw [← z]; exact ha))]; exact e
variable {K : PySem.W.Frag}
mutual
theorem StmV.keep {H H' : Hp} (t : TSame H H') : ∀ {x : V} {s : Stm} {f : List Addr}, StmV K H x s f → Kept f H H' → StmV K H' x s f
  | _, _, _, .deed hf h, _ => .deed hf (t.seqT h)
  | _, _, _, .ifs (a := a) (b := b) h ha hb h1 h2, k => .ifs (t.seqT h) (k a (by simp) _ ha) (k b (by simp) _ hb) (StmsV.keep t h1 k.tail.tail.left) (StmsV.keep t h2 k.tail.tail.right)
  | _, _, _, .whl (a := a) h ha h1, k => .whl (t.seqT h) (k a (by simp) _ ha) (StmsV.keep t h1 k.tail)
theorem StmsV.keep {H H' : Hp} (t : TSame H H') : ∀ {xs : List V} {ss : List Stm} {f : List Addr}, StmsV K H xs ss f → Kept f H H' → StmsV K H' xs ss f
  | _, _, _, .nil, _ => .nil
  | _, _, _, .cons h1 h2, k => .cons (StmV.keep t h1 k.left) (StmsV.keep t h2 k.right)
end
theorem StmsV.same {H H' : Hp} {xs : List V} {ss : List Stm} {f : List Addr} (h : StmsV K H xs ss f) (s : Same H H') : StmsV K H' xs ss f := h.keep s.ts (Kept.of s)
theorem StmV.same {H H' : Hp} {x : V} {s : Stm} {f : List Addr} (h : StmV K H x s f) (sm : Same H H') : StmV K H' x s f := h.keep sm.ts (Kept.of sm)
theorem StmsV.length {H : Hp} : ∀ {xs : List V} {ss : List Stm} {f : List Addr}, StmsV K H xs ss f → xs.length = ss.length
  | _, _, _, .nil => rfl
  | _, _, _, .cons _ h => by rw [List.length_cons, List.length_cons, StmsV.length h]
theorem StmsV.snoc {H : Hp} {y : V} {r : Stm} {g : List Addr} (hy : StmV K H y r g) : ∀ {xs : List V} {ss : List Stm} {f : List Addr}, StmsV K H xs ss f → StmsV K H (xs ++ [y]) (ss ++ [r]) (f ++ g)
  | _, _, _, .nil => by have := StmsV.cons hy StmsV.nil; rw [List.append_nil] at this; exact this
  | _, _, _, .cons h1 h2 => by rw [List.append_assoc]; exact .cons h1 (StmsV.snoc hy h2)
mutual
theorem StmV.tracked {H : Hp} : ∀ {x : V} {s : Stm} {f : List Addr}, StmV K H x s f → ∀ a ∈ f, ∃ zs, H a = some (.lst zs)
  | _, _, _, .deed _ _, a, ha => by cases ha
  | _, _, _, .ifs (f := f) (g := g) h ha hb h1 h2, c, hc => by
    rcases List.mem_cons.mp hc with rfl | hc
    · exact ⟨_, ha⟩
    rcases List.mem_cons.mp hc with rfl | hc
    · exact ⟨_, hb⟩
    rcases List.mem_append.mp hc with hc | hc
    · exact StmsV.tracked h1 c hc
    · exact StmsV.tracked h2 c hc
  | _, _, _, .whl h ha h1, c, hc => by
    rcases List.mem_cons.mp hc with rfl | hc
    · exact ⟨_, ha⟩
    · exact StmsV.tracked h1 c hc
theorem StmsV.tracked {H : Hp} : ∀ {xs : List V} {ss : List Stm} {f : List Addr}, StmsV K H xs ss f → ∀ a ∈ f, ∃ zs, H a = some (.lst zs)
  | _, _, _, .nil, a, ha => by cases ha
  | _, _, _, .cons h1 h2, a, ha => by
    rcases List.mem_append.mp ha with ha | ha
    · exact StmV.tracked h1 a ha
    · exact StmsV.tracked h2 a ha
end
theorem StmsV.get {H : Hp} : ∀ {xs : List V} {ss : List Stm} {f : List Addr} {i : Nat} {x : V}, StmsV K H xs ss f → xs[i]? = some x → ∃ s g, ss[i]? = some s ∧ StmV K H x s g ∧ ∀ a ∈ g, a ∈ f
  | _, _, _, _, _, .nil, e => by simp at e
  | _, _, _, 0, _, .cons h _, e => by simp at e; subst e; exact ⟨_, _, rfl, h, fun a ha => List.mem_append_left _ ha⟩
  | _, _, _, i + 1, x, .cons _ t, e => by
    obtain ⟨s, g, h1, h2, h3⟩ := StmsV.get (i := i) (x := x) t (by simpa using e)
    exact ⟨s, g, by simpa using h1, h2, fun a ha => List.mem_append_right _ (h3 a ha)⟩
theorem nodup_app {α : Type} {l₁ l₂ : List α} (h1 : l₁.Nodup) (h2 : l₂.Nodup) (h : ∀ a ∈ l₁, a ∉ l₂) : (l₁ ++ l₂).Nodup := by
  rw [List.nodup_append]
  exact ⟨h1, h2, fun a ha b hb e => h a ha (by rw [e]; exact hb)⟩
end FS
namespace FP
open PySem L2 FB FS FA PyProof.Rows
inductive Kd where
  | all | iff | whl | els
  deriving DecidableEq
noncomputable def Kd.str : Kd → Str
  | .all => "all"
  | .iff => "if"
  | .whl => "while"
  | .els => "else"
structure Ent where
  kind : Kd
  rows : List Stm
  name : Str
  ones : List Stm
noncomputable def closeF (e : Ent) : Stm := match e.kind with
  | .whl => .whl e.name e.rows
  | .iff => .ifs e.name e.rows []
  | _ => .ifs e.name e.ones e.rows
noncomputable def Ent.add (e : Ent) (r : Stm) : Ent := { e with rows := e.rows ++ [r] }
noncomputable def intoF (r : Stm) : List Ent → List Ent
  | [] => []
  | e :: es => e.add r :: es
noncomputable def closedF : List Ent → List Ent
  | e :: e2 :: es => e2.add (closeF e) :: es
  | es => es
theorem closedF_length {e e2 : Ent} {es : List Ent} : (closedF (e :: e2 :: es)).length = es.length + 1 := rfl
noncomputable def closeAll : List Ent → List Stm
  | [] => []
  | [e] => e.rows
  | e :: e2 :: es => closeAll (e2.add (closeF e) :: es)
termination_by es => es.length
noncomputable def kd3 (j : Int) : Kd := if j = 1 ∨ j = -2 then .whl else .iff
noncomputable def stepP (names : List Str) (w : Int) (most : Int) (k : Nat) (c : Int) (st : List Ent × Int) : List Ent × Int :=
  if mixed c k % 12 < 2 ∧ 1 < st.1.length then
    (match st.1 with
      | e :: es => if mixed c k % 12 = 0 ∧ e.kind = .iff then ⟨.els, [], e.name, e.rows⟩ :: es else closedF st.1
      | [] => [], st.2)
  else if st.2 < most then
    (if mixed c k % 12 < 5 ∧ st.1.length < 9 ∧ ¬ names = [] then ⟨kd3 (mixed c k % 12 - 2), [], pick (mixed c k / 12) names, []⟩ :: st.1 else intoF (.deed (deedOf (mixed c k / 12) names w)) st.1, st.2 + 1)
  else st
noncomputable def runP (names : List Str) (w most : Int) : List Int → Nat → List Ent × Int → List Ent × Int
  | [], _, st => st
  | c :: cs, k, st => runP names w most cs (k + 1) (stepP names w most k c st)
theorem runP_snoc {names : List Str} {w most : Int} {c : Int} : ∀ {cs : List Int} {k : Nat} {st : List Ent × Int}, runP names w most (cs ++ [c]) k st = stepP names w most (k + cs.length) c (runP names w most cs k st)
  | [], k, st => rfl
  | d :: cs, k, st => by
    show runP names w most (cs ++ [c]) (k + 1) _ = _
    rw [runP_snoc, List.length_cons, show k + 1 + cs.length = k + (cs.length + 1) by omega]
    rfl
noncomputable def start0 : List Ent × Int := ([⟨.all, [], "", []⟩], 0)
noncomputable def progF (cs : List Int) (names : List Str) (w most : Int) : List Stm := closeAll (runP names w most cs 0 start0).1
variable {K : PySem.W.Frag}
noncomputable def EntV (K : PySem.W.Frag) (H : Hp) (x : V) (e : Ent) (g : List Addr) : Prop := ∃ (q r o : Addr) (ys zs : List V) (fr fo : List Addr), x = .ref q ∧ SqT K H q [.str e.kind.str, .ref r, .str e.name, .ref o] ∧ H r = some (.lst ys) ∧ StmsV K H ys e.rows fr ∧ H o = some (.lst zs) ∧ StmsV K H zs e.ones fo ∧ g = r :: o :: (fr ++ fo)
theorem EntV.keep {H H' : Hp} {x : V} {e : Ent} {g : List Addr} (t : TSame H H') (h : EntV K H x e g) (k : Kept g H H') : EntV K H' x e g := by
  obtain ⟨q, r, o, ys, zs, fr, fo, ex, hq, hr, h1, ho, h2, rfl⟩ := h
  exact ⟨q, r, o, ys, zs, fr, fo, ex, t.seqT hq, k r (by simp) _ hr, h1.keep t k.tail.tail.left, k o (by simp) _ ho, h2.keep t k.tail.tail.right, rfl⟩
inductive StkV (K : PySem.W.Frag) (H : Hp) : List V → List Ent → List Addr → Prop where
  | nil : StkV K H [] [] []
  | snoc {xs : List V} {es : List Ent} {f g : List Addr} {x : V} {e : Ent} : StkV K H xs es f → EntV K H x e g → StkV K H (xs ++ [x]) (e :: es) (g ++ f)
theorem StkV.keep {H H' : Hp} (t : TSame H H') : ∀ {xs : List V} {es : List Ent} {f : List Addr}, StkV K H xs es f → Kept f H H' → StkV K H' xs es f
  | _, _, _, .nil, _ => .nil
  | _, _, _, .snoc h1 h2, k => .snoc (StkV.keep t h1 k.right) (h2.keep t k.left)
theorem StkV.length {H : Hp} : ∀ {xs : List V} {es : List Ent} {f : List Addr}, StkV K H xs es f → xs.length = es.length
  | _, _, _, .nil => rfl
  | _, _, _, .snoc h _ => by rw [List.length_append, List.length_cons, StkV.length h]; rfl
theorem EntV.tracked {H : Hp} {x : V} {e : Ent} {g : List Addr} (h : EntV K H x e g) : ∀ a ∈ g, ∃ zs, H a = some (.lst zs) := by
  obtain ⟨q, r, o, ys, zs, fr, fo, ex, hq, hr, h1, ho, h2, rfl⟩ := h
  intro a ha
  rcases List.mem_cons.mp ha with rfl | ha
  · exact ⟨_, hr⟩
  rcases List.mem_cons.mp ha with rfl | ha
  · exact ⟨_, ho⟩
  rcases List.mem_append.mp ha with ha | ha
  · exact h1.tracked a ha
  · exact h2.tracked a ha
theorem StkV.tracked {H : Hp} : ∀ {xs : List V} {es : List Ent} {f : List Addr}, StkV K H xs es f → ∀ a ∈ f, ∃ zs, H a = some (.lst zs)
  | _, _, _, .nil, a, ha => by cases ha
  | _, _, _, .snoc h1 h2, a, ha => by
    rcases List.mem_append.mp ha with ha | ha
    · exact h2.tracked a ha
    · exact StkV.tracked h1 a ha
theorem StkV.inv {H : Hp} {xs : List V} {e : Ent} {es : List Ent} {f : List Addr} (h : StkV K H xs (e :: es) f) : ∃ xs' x f' g, xs = xs' ++ [x] ∧ f = g ++ f' ∧ StkV K H xs' es f' ∧ EntV K H x e g := by
  cases h with
  | snoc h1 h2 => exact ⟨_, _, _, _, rfl, rfl, h1, h2⟩
theorem atI_last {α : Type} {xs : List α} {x : α} : atI (xs ++ [x]) (-1) = some x := by
  unfold atI ixN
  rw [if_neg (by decide), if_pos (by simp; omega)]
  have e : (-1 + ((xs ++ [x]).length : Int)).toNat = xs.length := by rw [List.length_append, List.length_singleton]; omega
  rw [e]
  simp
structure StkOk (K : PySem.W.Frag) (H0 H : Hp) (S : Addr) (es : List Ent) (B : Nat) : Prop where
  same : Same H0 H
  at_ : ∃ xs f, H S = some (.lst xs) ∧ StkV K H xs es f ∧ (S :: f).Nodup ∧ ∀ a ∈ S :: f, H0 a = none
  few : ∀ e ∈ es, e.rows.length ≤ B
theorem push_ok {H0 H : Hp} {S q r o : Addr} {xs zs : List V} {es : List Ent} {f fo : List Addr} {kind : Kd} {name : Str} {ones : List Stm} {B : Nat} (sm : Same H0 H) (hS : H S = some (.lst xs)) (hK : StkV K H xs es f) (hr : H r = some (.lst [])) (ho : H o = some (.lst zs)) (hz : StmsV K H zs ones fo)
    (hq : SqT K H q [.str kind.str, .ref r, .str name, .ref o]) (nd : (S :: ((r :: o :: fo) ++ f)).Nodup) (fr : ∀ a ∈ S :: ((r :: o :: fo) ++ f), H0 a = none) (few : ∀ e ∈ es, e.rows.length ≤ B) :
    StkOk K H0 (upd H S (.lst (xs ++ [.ref q]))) S (⟨kind, [], name, ones⟩ :: es) B := by
  have nS := (List.nodup_cons.mp nd).1
  have tt : TSame H (upd H S (.lst (xs ++ [V.ref q]))) := TSame.updL hS
  refine ⟨sm.updM (fr S (by simp)), ⟨_, (r :: o :: ([] ++ fo)) ++ f, upd_same, .snoc (hK.keep tt (Kept.upd fun z => nS (by simp [z]))) ⟨q, r, o, [], zs, [], fo, rfl, tt.seqT hq, ?_, .nil, ?_, hz.keep tt (Kept.upd fun z => nS (by simp [z])), rfl⟩, nd, fr⟩, fun e he => ?_⟩
  · rw [upd_ne (fun z => nS (by rw [← z]; simp))]; exact hr
  · rw [upd_ne (fun z => nS (by rw [← z]; simp))]; exact ho
  · rcases List.mem_cons.mp he with z | z
    · subst z; exact Nat.zero_le _
    · exact few e z
theorem and_gt {H : Hp} {S : Addr} {xs : List V} {c : Prop} [Decidable c] {k : Int} {A B : Prop} (hx : SqL K H S xs) (hA : c → k < xs.length → A) (hB : ¬ (c ∧ k < xs.length) → B) :
    if decide c = true then ∃ ys, (SqL K H S ys ∨ SqT K H S ys) ∧ if decide (k < (ys.length : Int)) = true then A else B else B := by
  by_cases h : c
  · rw [decide_eq_true h, if_pos rfl]
    refine ⟨xs, .inl hx, ?_⟩
    by_cases h2 : k < (xs.length : Int)
    · rw [decide_eq_true h2, if_pos rfl]; exact hA h h2
    · rw [decide_eq_false h2, if_neg Bool.false_ne_true]; exact hB fun z => h2 z.2
  · rw [decide_eq_false h, if_neg Bool.false_ne_true]; exact hB fun z => h z.1
theorem and3 {H : Hp} {S T : Addr} {xs ts : List V} {c : Prop} [Decidable c] {k l : Int} {A B : Prop} (hx : SqL K H S xs) (ht : SqL K H T ts) (hA : c → (xs.length : Int) < k → l < ts.length → A) (hB : ¬ (c ∧ (xs.length : Int) < k ∧ l < ts.length) → B) :
    if decide c = true then ∃ ys, (SqL K H S ys ∨ SqT K H S ys) ∧ if decide ((ys.length : Int) < k) = true then ∃ zs, (SqL K H T zs ∨ SqT K H T zs) ∧ if decide (l < (zs.length : Int)) = true then A else B else B else B := by
  by_cases h : c
  · rw [decide_eq_true h, if_pos rfl]
    refine ⟨xs, .inl hx, ?_⟩
    by_cases h2 : (xs.length : Int) < k
    · rw [decide_eq_true h2, if_pos rfl]
      refine ⟨ts, .inl ht, ?_⟩
      by_cases h3 : l < (ts.length : Int)
      · rw [decide_eq_true h3, if_pos rfl]; exact hA h h2 h3
      · rw [decide_eq_false h3, if_neg Bool.false_ne_true]; exact hB fun z => h3 z.2.2
    · rw [decide_eq_false h2, if_neg Bool.false_ne_true]; exact hB fun z => h2 z.2.1
  · rw [decide_eq_false h, if_neg Bool.false_ne_true]; exact hB fun z => h z.1
theorem kd_if {k : Kd} : (k.str = "if") ↔ k = .iff := by cases k <;> decide +kernel
theorem and_kind {H : Hp} {S q : Addr} {xs : List V} {c : Prop} [Decidable c] {k : Kd} {r o : Addr} {n : Str} {A B : Hp → Prop} (hx : SqL K H S (xs ++ [.ref q])) (hq : SqT K H q [.str k.str, .ref r, .str n, .ref o]) (hA : c → k = .iff → A H) (hB : ¬ (c ∧ k = .iff) → B H) :
    if decide c = true then ∃ xs v, SqL K H S xs ∧ atI xs (-1) = some v ∧ rIxT K v (V.int 0) H fun x H1 => rEq x (V.str "if") H1 fun x H' => ∃ k, x = V.bl k ∧ if k = true then A H' else B H' else B H := by
  by_cases h : c
  · rw [decide_eq_true h, if_pos rfl]
    refine ⟨_, _, hx, atI_last, ?_⟩
    rw [r_ixT]
    refine ⟨_, _, hq, rfl, ?_⟩
    show scal (.str k.str) (.str "if") = true ∧ ∃ k_1, V.bl (decide (V.str k.str = V.str "if")) = V.bl k_1 ∧ _
    refine ⟨rfl, _, rfl, ?_⟩
    by_cases hk : k = .iff
    · rw [decide_eq_true (congrArg V.str (kd_if.mpr hk)), if_pos rfl]; exact hA h hk
    · rw [decide_eq_false (fun z => hk (kd_if.mp (V.str.inj z))), if_neg Bool.false_ne_true]; exact hB fun z => hk z.2
  · rw [decide_eq_false h, if_neg Bool.false_ne_true]; exact hB fun z => h z.1
theorem kd3_at {j : Int} (h0 : -2 ≤ j) (h3 : j < 3) : atI [V.str "if", V.str "while", V.str "if"] j = some (.str (kd3 j).str) := by
  have h : j = -2 ∨ j = -1 ∨ j = 0 ∨ j = 1 ∨ j = 2 := by omega
  rcases h with rfl | rfl | rfl | rfl | rfl <;> rfl
end FP
namespace FS
open PySem L2 FB PyProof.Rows
theorem opsL_ne {f k : Str} (h : f ∈ opsL) (hk : opsL.contains k = false) : ¬ f = k := by
  rintro rfl
  rw [List.contains_eq_mem, decide_eq_false_iff_not] at hk
  exact hk h
theorem deed0 {K : PySem.W.Frag} {H : Hp} {q : Addr} {d : Deed} {k : Str} {Z : V → Hp → Prop} (hf : d.fine) (hq : SqT K H q d.vs) (h1 : opsL.contains k = false) (h2 : ¬ ("tell" : Str) = k) (h3 : ¬ ("copy" : Str) = k) (h : Z (.bl false) H) : ∃ xs v, SqT K H q xs ∧ atI xs 0 = some v ∧ rEq v (.str k) H Z := by
  cases d with
  | tell a => exact ⟨_, _, hq, rfl, rfl, by rw [decide_eq_false (fun z => h2 (V.str.inj z))]; exact h⟩
  | copy n a => exact ⟨_, _, hq, rfl, rfl, by rw [decide_eq_false (fun z => h3 (V.str.inj z))]; exact h⟩
  | op f n a b => exact ⟨_, _, hq, rfl, rfl, by rw [decide_eq_false (fun z => opsL_ne hf h1 (V.str.inj z))]; exact h⟩
mutual
noncomputable def Stm.deep : Stm → Nat
  | .deed _ => 0
  | .ifs _ a b => max (deepL a) (deepL b) + 1
  | .whl _ a => deepL a + 1
noncomputable def deepL : List Stm → Nat
  | [] => 0
  | s :: ss => max s.deep (deepL ss)
end
mutual
noncomputable def Stm.many : Stm → Nat
  | .deed _ => 1
  | .ifs _ a b => manyL a + manyL b + 1
  | .whl _ a => manyL a + 1
noncomputable def manyL : List Stm → Nat
  | [] => 0
  | s :: ss => s.many + manyL ss
end
noncomputable def Opd.good (ns : List Str) (w : Int) : Opd → Prop
  | .box n => n ∈ ns
  | .word i => 0 ≤ i ∧ i < 2 ^ w.toNat
noncomputable def Deed.good (ns : List Str) (w : Int) : Deed → Prop
  | .tell a => Opd.good ns w a
  | .copy d a => d ∈ ns ∧ Opd.good ns w a
  | .op f d a b => f ∈ opsL ∧ d ∈ ns ∧ Opd.good ns w a ∧ Opd.good ns w b
mutual
noncomputable def Stm.good (ns : List Str) (w : Int) : Stm → Prop
  | .deed d => Deed.good ns w d
  | .ifs n a b => n ∈ ns ∧ goodL ns w a ∧ goodL ns w b
  | .whl n a => n ∈ ns ∧ goodL ns w a
noncomputable def goodL (ns : List Str) (w : Int) : List Stm → Prop
  | [] => True
  | s :: ss => s.good ns w ∧ goodL ns w ss
end
theorem many_pos (s : Stm) : 1 ≤ s.many := by cases s <;> simp [Stm.many]
theorem len_many (ss : List Stm) : ss.length ≤ manyL ss := by
  induction ss with
  | nil => simp [manyL]
  | cons s ss ih => rw [manyL, List.length_cons]; have := many_pos s; omega
theorem many_mem {s : Stm} {ss : List Stm} (h : s ∈ ss) : s.many ≤ manyL ss := by
  induction ss with
  | nil => cases h
  | cons x xs ih =>
    rw [manyL]
    rcases List.mem_cons.mp h with z | z
    · subst z; omega
    · have := ih z; omega
theorem deepL_mem {s : Stm} {ss : List Stm} (h : s ∈ ss) : s.deep ≤ deepL ss := by
  induction ss with
  | nil => cases h
  | cons x xs ih =>
    rw [deepL]
    rcases List.mem_cons.mp h with z | z
    · subst z; omega
    · have := ih z; omega
theorem deepL_append {a b : List Stm} : deepL (a ++ b) = max (deepL a) (deepL b) := by
  induction a with
  | nil => simp [deepL]
  | cons s ss ih => rw [List.cons_append, deepL, deepL, ih, Nat.max_assoc]
theorem manyL_append {a b : List Stm} : manyL (a ++ b) = manyL a + manyL b := by
  induction a with
  | nil => simp [manyL]
  | cons s ss ih => rw [List.cons_append, manyL, manyL, ih]; omega
theorem goodL_append {ns : List Str} {w : Int} {a b : List Stm} : goodL ns w (a ++ b) ↔ goodL ns w a ∧ goodL ns w b := by
  induction a with
  | nil => simp [goodL]
  | cons s ss ih => rw [List.cons_append, goodL, goodL, ih]; exact and_assoc.symm
end FS
namespace FP
open PySem L2 FB FS FA PyProof.Rows
theorem deedOf_good {m : Int} {ns : List Str} {w : Int} : Deed.good ns w (deedOf m ns w) := by
  have og : ∀ k, Opd.good ns w (opdD k ns w) := fun k => by
    unfold opdD
    split
    · next h => exact pick_mem h.2
    · have hp : (0 : Int) < 1 * 2 ^ w.toNat := by rw [Int.one_mul]; exact Int.pow_pos (by decide)
      refine ⟨Int.emod_nonneg _ (by omega), ?_⟩
      have := Int.emod_lt_of_pos (k / 3) hp
      rw [Int.one_mul] at this ⊢
      exact this
  unfold deedOf
  split
  · exact og _
  · next h =>
    have hne : ¬ ns = [] := fun z => h (.inr z)
    split
    · exact ⟨pick_mem hne, og _⟩
    · have hf := deedOf_fine (m := m) (ns := ns) (w := w)
      unfold deedOf at hf
      rw [if_neg h, if_neg (by assumption)] at hf
      exact ⟨hf, pick_mem hne, og _, og _⟩
structure EntG (ns : List Str) (w : Int) (h : Nat) (e : Ent) : Prop where
  d1 : deepL e.rows + h ≤ 8
  d2 : deepL e.ones + h ≤ 8
  g1 : goodL ns w e.rows
  g2 : goodL ns w e.ones
  nm : h ≠ 0 → e.name ∈ ns
noncomputable def EsG (ns : List Str) (w : Int) : List Ent → Prop
  | [] => True
  | e :: es => EntG ns w es.length e ∧ EsG ns w es
noncomputable def cntE : List Ent → Nat
  | [] => 0
  | e :: es => manyL e.rows + manyL e.ones + cntE es
noncomputable def cntS (es : List Ent) : Nat := cntE es + (es.length - 1)
theorem closeF_good {ns : List Str} {w : Int} {h : Nat} {e : Ent} (g : EntG ns w (h + 1) e) : (closeF e).good ns w ∧ (closeF e).deep + h ≤ 8 ∧ (closeF e).many ≤ manyL e.rows + manyL e.ones + 1 := by
  have hn := g.nm (by omega)
  have h1 := g.d1
  have h2 := g.d2
  unfold closeF
  cases e.kind
  · exact ⟨⟨hn, g.g2, g.g1⟩, by simp only [Stm.deep]; omega, by simp only [Stm.many]; omega⟩
  · exact ⟨⟨hn, g.g1, trivial⟩, by simp only [Stm.deep, deepL]; omega, by simp only [Stm.many, manyL]; omega⟩
  · exact ⟨⟨hn, g.g1⟩, by simp only [Stm.deep]; omega, by simp only [Stm.many]; omega⟩
  · exact ⟨⟨hn, g.g2, g.g1⟩, by simp only [Stm.deep]; omega, by simp only [Stm.many]; omega⟩
theorem add_good {ns : List Str} {w : Int} {h : Nat} {e : Ent} {s : Stm} (g : EntG ns w h e) (hg : s.good ns w) (hd : s.deep + h ≤ 8) : EntG ns w h (e.add s) := by
  have h1 := g.d1
  refine ⟨?_, g.d2, goodL_append.mpr ⟨g.g1, hg, trivial⟩, g.g2, g.nm⟩
  show deepL (e.rows ++ [s]) + h ≤ 8
  rw [deepL_append, deepL, deepL]; omega
theorem closedF_good {ns : List Str} {w : Int} {e e2 : Ent} {es : List Ent} (g : EsG ns w (e :: e2 :: es)) : EsG ns w (closedF (e :: e2 :: es)) ∧ cntS (closedF (e :: e2 :: es)) ≤ cntS (e :: e2 :: es) := by
  obtain ⟨g1, g2, g3⟩ := g
  obtain ⟨c1, c2, c3⟩ := closeF_good (h := es.length) g1
  refine ⟨⟨add_good g2 c1 c2, g3⟩, ?_⟩
  show cntE (e2.add (closeF e) :: es) + _ ≤ cntE (e :: e2 :: es) + _
  simp only [cntE, Ent.add, manyL_append, manyL, closedF, List.length_cons]
  omega
theorem closeAll_good {ns : List Str} {w : Int} : ∀ {es : List Ent}, EsG ns w es → goodL ns w (closeAll es) ∧ deepL (closeAll es) ≤ 8 ∧ manyL (closeAll es) ≤ cntS es
  | [], _ => by rw [closeAll]; exact ⟨trivial, by simp [deepL], by simp [manyL]⟩
  | [e], g => by
    rw [closeAll]
    have := g.1.d1
    exact ⟨g.1.g1, by simp at this; omega, by simp only [cntS, cntE]; omega⟩
  | e :: e2 :: es, g => by
    rw [closeAll]
    obtain ⟨h1, h2⟩ := closedF_good g
    obtain ⟨h3, h4, h5⟩ := closeAll_good (es := e2.add (closeF e) :: es) h1
    exact ⟨h3, h4, Nat.le_trans h5 h2⟩
termination_by es => es.length
theorem stepP_good {ns : List Str} {w most : Int} {k : Nat} {c : Int} {st : List Ent × Int} (g : EsG ns w st.1) (l1 : 1 ≤ st.1.length) (l9 : st.1.length ≤ 9) (hc : (cntS st.1 : Int) ≤ st.2) (hm : st.2 ≤ most) :
    EsG ns w (stepP ns w most k c st).1 ∧ 1 ≤ (stepP ns w most k c st).1.length ∧ (stepP ns w most k c st).1.length ≤ 9 ∧ (cntS (stepP ns w most k c st).1 : Int) ≤ (stepP ns w most k c st).2 ∧ (stepP ns w most k c st).2 ≤ most := by
  obtain ⟨es, many⟩ := st
  dsimp only at g l1 l9 hc hm
  unfold stepP
  dsimp only
  split
  · next h =>
    match es, h.2, g, l9, hc with
    | e :: e2 :: es', _, g, l9, hc =>
      dsimp only
      split
      · next hk =>
        refine ⟨⟨⟨?_, g.1.d1, trivial, g.1.g1, g.1.nm⟩, g.2⟩, by simp, by simpa using l9, ?_, hm⟩
        · have := g.1.d1; simp only [deepL]; omega
        · simp only [cntS, cntE, manyL, List.length_cons] at hc ⊢
          omega
      · obtain ⟨h1, h2⟩ := closedF_good g
        refine ⟨h1, by rw [closedF_length]; omega, by rw [closedF_length]; simp at l9; omega, by omega, hm⟩
  · split
    · next h2 =>
      dsimp only
      split
      · next h3 =>
        refine ⟨⟨⟨by simp only [deepL]; omega, by simp only [deepL]; omega, trivial, trivial, fun _ => pick_mem h3.2.2⟩, g⟩, by simp, by simp; omega, ?_, by omega⟩
        simp only [cntS, cntE, manyL, List.length_cons] at hc ⊢
        omega
      · match es, l1, g, l9, hc with
        | e :: es', _, g, l9, hc =>
          refine ⟨⟨add_good g.1 deedOf_good (by simp only [Stm.deep]; simp at l9; omega), g.2⟩, by simp [intoF], by simpa [intoF] using l9, ?_, by omega⟩
          simp only [cntS, cntE, intoF, Ent.add, manyL_append, manyL, Stm.many, List.length_cons] at hc ⊢
          omega
    · exact ⟨g, l1, l9, hc, hm⟩
theorem runP_good {ns : List Str} {w most : Int} : ∀ {cs : List Int} {k : Nat} {st : List Ent × Int}, EsG ns w st.1 → 1 ≤ st.1.length → st.1.length ≤ 9 → (cntS st.1 : Int) ≤ st.2 → st.2 ≤ most →
    EsG ns w (runP ns w most cs k st).1 ∧ (cntS (runP ns w most cs k st).1 : Int) ≤ most
  | [], _, _, g, _, _, hc, hm => ⟨g, by show (cntS _ : Int) ≤ _; exact Int.le_trans hc hm⟩
  | c :: cs, k, st, g, l1, l9, hc, hm => by
    obtain ⟨a1, a2, a3, a4, a5⟩ := stepP_good (k := k) (c := c) g l1 l9 hc hm
    show EsG ns w (runP ns w most cs (k + 1) (stepP ns w most k c st)).1 ∧ (cntS (runP ns w most cs (k + 1) (stepP ns w most k c st)).1 : Int) ≤ most
    exact runP_good a1 a2 a3 a4 a5
theorem progF_good {cs : List Int} {ns : List Str} {w most : Int} (h : 0 ≤ most) : goodL ns w (progF cs ns w most) ∧ deepL (progF cs ns w most) ≤ 8 ∧ (manyL (progF cs ns w most) : Int) ≤ most := by
  have z : EsG ns w start0.1 := ⟨⟨by simp [start0, deepL], by simp [start0, deepL], trivial, trivial, fun z => absurd rfl z⟩, trivial⟩
  obtain ⟨g, hc⟩ := runP_good (cs := cs) (k := 0) (most := most) z (by simp [start0]) (by simp [start0]) (by simp [start0, cntS, cntE, manyL]) (by simpa [start0] using h)
  obtain ⟨h1, h2, h3⟩ := closeAll_good g
  exact ⟨h1, h2, by unfold progF; omega⟩
end FP
namespace L2
open PySem PySem.Spec PyProof.Rows
noncomputable def SameX (p : Addr) (H H' : Hp) : Prop := ∀ c o, H c = some o → c ≠ p → H' c = some o
theorem SameX.trans {p : Addr} {H H1 H2 : Hp} (a : SameX p H H1) (b : SameX p H1 H2) : SameX p H H2 := fun c o e n => b c o (a c o e n) n
theorem SameX.of {p : Addr} {H H' : Hp} (s : Same H H') : SameX p H H' := fun c o e _ => s c o e
theorem SameX.upd {p : Addr} {H : Hp} {o : HO} : SameX p H (L2.upd H p o) := fun c u e n => by rw [upd_ne n]; exact e
theorem SameX.free {p c : Addr} {H H' : Hp} {o : HO} (s : SameX p H H') (hp : H' p = some o) (h : H' c = none) : H c = none := by
  cases e : H c with
  | none => rfl
  | some u =>
    have n : c ≠ p := fun z => by subst z; rw [hp] at h; cases h
    rw [s c u e n] at h; cases h
theorem TSame.updI {H : Hp} {p C dx : Addr} {fs : List (Str × V)} {o : HO} (h : H p = some (.ins C dx fs)) : TSame H (L2.upd H p o) :=
  ⟨fun b xs e => by rw [upd_ne (fun z => by rw [z, h] at e; cases e)]; exact e, fun b u v e => by rw [upd_ne (fun z => by rw [z, h] at e; cases e)]; exact e⟩
end L2
namespace FS
open PySem L2 FB PyProof.Rows
noncomputable def progFs (wd : Int) (a b r : Addr) : List (Str × V) := [("width", .int wd), ("ins", .ref a), ("boxes", .ref b), ("rows", .ref r)]
structure ProgAt (K : PySem.W.Frag) (C : Addr) (H : Hp) (p : Addr) (wd : Int) (ins oth : List Str) (ss : List Stm) (a b r : Addr) (xs : List V) (f : List Addr) : Prop where
  ob : ∃ dx, H p = some (.ins C dx (progFs wd a b r))
  ia : H a = some (.lst (ins.map V.str))
  bx : H b = some (.lst ((ins ++ oth).map V.str))
  rs : H r = some (.lst xs)
  st : StmsV K H xs ss f
theorem ProgAt.same {K : PySem.W.Frag} {C : Addr} {H H' : Hp} {p : Addr} {wd : Int} {ins oth : List Str} {ss : List Stm} {a b r : Addr} {xs : List V} {f : List Addr} (h : ProgAt K C H p wd ins oth ss a b r xs f) (s : Same H H') : ProgAt K C H' p wd ins oth ss a b r xs f :=
  ⟨let ⟨dx, e⟩ := h.ob; ⟨dx, s _ _ e⟩, s _ _ h.ia, s _ _ h.bx, s _ _ h.rs, h.st.same s⟩
theorem putF_new {f : Str} {v : V} : ∀ {fs : List (Str × V)}, (fs.map (·.1)).contains f = false → putF f v fs = fs ++ [(f, v)]
  | [], _ => rfl
  | (g, x) :: r, h => by
    rw [List.map_cons, List.contains_cons, Bool.or_eq_false_iff] at h
    have n : ¬ g = f := fun z => by subst z; simp at h
    rw [show putF f v ((g, x) :: r) = (if g = f then (g, v) :: r else (g, x) :: putF f v r) from rfl, if_neg n, putF_new h.2]; rfl
end FS
namespace K01M
noncomputable def bsN (f : Nat → Nat → Nat) (a b : Nat) : Nat → Nat
  | 0 => 0
  | i + 1 => bsN f a b i + f (a / 2 ^ i % 2) (b / 2 ^ i % 2) * 2 ^ i
theorem mod_succ (x w : Nat) : x % 2 ^ (w + 1) = x % 2 ^ w + x / 2 ^ w % 2 * 2 ^ w := by
  rw [Nat.pow_succ, Nat.mod_mul, Nat.mul_comm]
theorem tb (x w : Nat) : x / 2 ^ w % 2 = (x.testBit w).toNat := by
  rw [Nat.testBit_eq_decide_div_mod_eq]
  have h : x / 2 ^ w % 2 = 0 ∨ x / 2 ^ w % 2 = 1 := by omega
  rcases h with h | h <;> simp [h]
theorem bs_and (a b : Nat) : ∀ w, bsN (· * ·) a b w = (a &&& b) % 2 ^ w
  | 0 => by simp [bsN, Nat.mod_one]
  | w + 1 => by
    rw [bsN, bs_and a b w, mod_succ, tb, tb, tb, Nat.testBit_and]
    cases a.testBit w <;> cases b.testBit w <;> simp
theorem bs_or (a b : Nat) : ∀ w, bsN (fun p q => max p q) a b w = (a ||| b) % 2 ^ w
  | 0 => by simp [bsN, Nat.mod_one]
  | w + 1 => by
    rw [bsN, bs_or a b w, mod_succ, tb, tb, tb, Nat.testBit_or]
    cases a.testBit w <;> cases b.testBit w <;> simp
theorem bs_xor (a b : Nat) : ∀ w, bsN (fun p q => (p + q) % 2) a b w + bsN (· * ·) a b w = bsN (fun p q => max p q) a b w
  | 0 => rfl
  | w + 1 => by
    have ih := bs_xor a b w
    have ea : a / 2 ^ w % 2 = 0 ∨ a / 2 ^ w % 2 = 1 := by omega
    have eb : b / 2 ^ w % 2 = 0 ∨ b / 2 ^ w % 2 = 1 := by omega
    rw [bsN, bsN, bsN]
    rcases ea with e | e <;> rcases eb with e' | e' <;> simp only [e, e'] <;> simp <;> omega
noncomputable def bsI (f : Int → Int → Int) (x y : Int) : Nat → Int
  | 0 => 0
  | i + 1 => bsI f x y i + f (x / 2 ^ i % 2) (y / 2 ^ i % 2) * 2 ^ i
theorem bsI_nat {f : Int → Int → Int} {g : Nat → Nat → Nat} (h : ∀ p q : Nat, f p q = (g p q : Nat)) (a b : Nat) : ∀ w, bsI f a b w = ((bsN g a b w : Nat) : Int)
  | 0 => rfl
  | w + 1 => by
    rw [bsI, bsN, bsI_nat h a b w]
    have e : ∀ x : Nat, ((x : Int) / 2 ^ w % 2) = ((x / 2 ^ w % 2 : Nat) : Int) := fun x => by simp
    rw [e, e, h]
    simp
theorem and_of {a b w : Nat} (ha : a < 2 ^ w) : bsI (· * ·) a b w = ((a &&& b : Nat) : Int) := by
  rw [bsI_nat (g := (· * ·)) (fun p q => by simp) a b w, bs_and, Nat.mod_eq_of_lt (Nat.lt_of_le_of_lt Nat.and_le_left ha)]
theorem or_of {a b w : Nat} (ha : a < 2 ^ w) (hb : b < 2 ^ w) : bsI (fun p q => max p q) a b w = ((a ||| b : Nat) : Int) := by
  rw [bsI_nat (g := fun p q => max p q) (fun p q => by omega) a b w, bs_or, Nat.mod_eq_of_lt (Nat.or_lt_two_pow ha hb)]
theorem xor_of {a b w : Nat} (ha : a < 2 ^ w) (hb : b < 2 ^ w) : bsI (fun p q => (p + q) % 2) a b w = ((a ||| b : Nat) : Int) - ((a &&& b : Nat) : Int) := by
  have e1 : bsI (fun p q => (p + q) % 2) a b w = _ := bsI_nat (g := fun p q => (p + q) % 2) (fun p q => by omega) a b w
  have e2 : bsI (fun p q => max p q) a b w = _ := bsI_nat (g := fun p q => max p q) (fun p q => by omega) a b w
  have e3 : bsI (· * ·) a b w = _ := bsI_nat (g := (· * ·)) (fun p q => by simp) a b w
  have h := bs_xor a b w
  rw [← or_of ha hb, ← and_of (b := b) ha, e1, e2, e3]
  omega
end K01M
namespace FO
open PySem L2 K01M FB PyProof.Rows
noncomputable abbrev ops : List Str := FB.opsL
noncomputable def reck (op : Str) (x y w : Int) : Int :=
  if op = "plus" then (x + y) % 2 ^ w.toNat else if op = "less" then (x - y) % 2 ^ w.toNat else if op = "and" then Builtin.bitAnd x y else if op = "or" then Builtin.bitOr x y
  else if op = "xor" then Builtin.bitXor x y else if op = "below" then (if x < y then 1 else 0) else if x = y then 1 else 0
noncomputable def fof (op : Str) (p q : Int) : Int := if op = "and" then p * q else if op = "or" then (if q > p then q else p) else (p + q) % 2
noncomputable def lop (op : Str) (x y w : Int) : Int :=
  if op = "plus" then (x + y) % (1 * 2 ^ w.toNat) else if op = "less" then (x - y) % (1 * 2 ^ w.toNat) else if op = "below" then (if decide (x < y) = true then 1 else 0)
  else if op = "same" then (if decide (x = y) = true then 1 else 0) else bsI (fof op) x y w.toNat
theorem max_if (p q : Int) : (if q > p then q else p) = max p q := by
  split <;> omega
theorem bAnd (a b : Nat) : Builtin.bitAnd (a : Int) (b : Int) = ((a &&& b : Nat) : Int) := by
  unfold Builtin.bitAnd
  rw [decide_eq_true (by omega : (0 : Int) ≤ a), decide_eq_true (by omega : (0 : Int) ≤ b)]
  rfl
theorem bOr (a b : Nat) : Builtin.bitOr (a : Int) (b : Int) = ((a ||| b : Nat) : Int) := by
  unfold Builtin.bitOr Builtin.bitAnd
  have e1 : ∀ z : Nat, Builtin.bitNot (z : Int) = -(z : Int) - 1 := fun z => by unfold Builtin.bitNot; omega
  rw [e1, e1, decide_eq_false (by omega : ¬ (0 : Int) ≤ -(a : Int) - 1), decide_eq_false (by omega : ¬ (0 : Int) ≤ -(b : Int) - 1)]
  show Builtin.bitNot (Builtin.bitNot (((Builtin.bitNot (-(a : Int) - 1)).toNat ||| (Builtin.bitNot (-(b : Int) - 1)).toNat : Nat) : Int)) = _
  have e2 : ∀ z : Nat, (Builtin.bitNot (-(z : Int) - 1)).toNat = z := fun z => by unfold Builtin.bitNot; omega
  rw [e2, e2, e1]
  unfold Builtin.bitNot; omega
theorem bsI_congr {f g : Int → Int → Int} (h : ∀ p q, f p q = g p q) (x y : Int) : ∀ n, bsI f x y n = bsI g x y n
  | 0 => rfl
  | n + 1 => by rw [bsI, bsI, bsI_congr h x y n, h]
theorem alike {op : Str} {x y w : Int} (ho : op ∈ ops) (x0 : 0 ≤ x) (x1 : x < 2 ^ w.toNat) (y0 : 0 ≤ y) (y1 : y < 2 ^ w.toNat) : reck op x y w = lop op x y w := by
  obtain ⟨a, rfl⟩ := Int.eq_ofNat_of_zero_le x0
  obtain ⟨b, rfl⟩ := Int.eq_ofNat_of_zero_le y0
  have ha : a < 2 ^ w.toNat := by
    have : ((a : Nat) : Int) < ((2 ^ w.toNat : Nat) : Int) := by simpa using x1
    omega
  have hb : b < 2 ^ w.toNat := by
    have : ((b : Nat) : Int) < ((2 ^ w.toNat : Nat) : Int) := by simpa using y1
    omega
  unfold reck lop
  rw [Int.one_mul]
  have q : op = "plus" ∨ op = "less" ∨ op = "and" ∨ op = "or" ∨ op = "xor" ∨ op = "below" ∨ op = "same" := by simpa [FB.opsL] using ho
  have n1 : ¬ ("less" : Str) = "plus" := by decide +kernel
  have n2 : ¬ ("and" : Str) = "plus" := by decide +kernel
  have n3 : ¬ ("and" : Str) = "less" := by decide +kernel
  have n4 : ¬ ("and" : Str) = "below" := by decide +kernel
  have n5 : ¬ ("and" : Str) = "same" := by decide +kernel
  have n6 : ¬ ("or" : Str) = "plus" := by decide +kernel
  have n7 : ¬ ("or" : Str) = "less" := by decide +kernel
  have n8 : ¬ ("or" : Str) = "below" := by decide +kernel
  have n9 : ¬ ("or" : Str) = "same" := by decide +kernel
  have n10 : ¬ ("or" : Str) = "and" := by decide +kernel
  have n11 : ¬ ("xor" : Str) = "plus" := by decide +kernel
  have n12 : ¬ ("xor" : Str) = "less" := by decide +kernel
  have n13 : ¬ ("xor" : Str) = "below" := by decide +kernel
  have n14 : ¬ ("xor" : Str) = "same" := by decide +kernel
  have n15 : ¬ ("xor" : Str) = "and" := by decide +kernel
  have n16 : ¬ ("xor" : Str) = "or" := by decide +kernel
  have m1 : ¬ ("below" : Str) = "plus" := by decide +kernel
  have m2 : ¬ ("below" : Str) = "less" := by decide +kernel
  have m3 : ¬ ("below" : Str) = "and" := by decide +kernel
  have m4 : ¬ ("below" : Str) = "or" := by decide +kernel
  have m5 : ¬ ("below" : Str) = "xor" := by decide +kernel
  have m6 : ¬ ("same" : Str) = "plus" := by decide +kernel
  have m7 : ¬ ("same" : Str) = "less" := by decide +kernel
  have m8 : ¬ ("same" : Str) = "and" := by decide +kernel
  have m9 : ¬ ("same" : Str) = "or" := by decide +kernel
  have m10 : ¬ ("same" : Str) = "xor" := by decide +kernel
  have m11 : ¬ ("same" : Str) = "below" := by decide +kernel
  rcases q with rfl | rfl | rfl | rfl | rfl | rfl | rfl
  · rw [if_pos rfl, if_pos rfl]
  · rw [if_neg n1, if_pos rfl, if_neg n1, if_pos rfl]
  · rw [if_neg n2, if_neg n3, if_pos rfl, if_neg n2, if_neg n3, if_neg n4, if_neg n5, bAnd, ← and_of (b := b) ha]
    exact bsI_congr (fun p q => by unfold fof; rw [if_pos rfl]) _ _ _
  · rw [if_neg n6, if_neg n7, if_neg n10, if_pos rfl, if_neg n6, if_neg n7, if_neg n8, if_neg n9, bOr, ← or_of ha hb]
    exact bsI_congr (fun p q => by unfold fof; rw [if_neg n10, if_pos rfl]; exact (max_if p q).symm) _ _ _
  · rw [if_neg n11, if_neg n12, if_neg n15, if_neg n16, if_pos rfl, if_neg n11, if_neg n12, if_neg n13, if_neg n14]
    unfold Builtin.bitXor
    rw [bAnd, bOr, ← xor_of ha hb]
    exact bsI_congr (fun p q => by unfold fof; rw [if_neg n15, if_neg n16]) _ _ _
  · rw [if_neg m1, if_neg m2, if_neg m3, if_neg m4, if_neg m5, if_pos rfl, if_neg m1, if_neg m2, if_pos rfl]
    simp
  · rw [if_neg m6, if_neg m7, if_neg m8, if_neg m9, if_neg m10, if_neg m11, if_neg m6, if_neg m7, if_neg m11, if_pos rfl]
    simp
end FO
namespace FR
open PySem L2 FB FS FG FO PyProof.Rows
end FR
namespace L2
open PySem PySem.Spec PyProof.Rows
section
variable {K : PySem.W.Frag} {te : TE} {ci : List Nat} {σ : St} {acc : Addr} {Q : Hp → Prop} {H1 : Hp} {a : Addr} {xs : List V}
end
theorem while_own {c : TT} {tb : TS} {D : Ends} {σ : St} {H : Hp} (Pv : St → Hp → Prop) (μ : St → Hp → Nat) (h0 : Pv σ H)
    (hs : ∀ σ H, Pv σ H → c σ H fun b H1 => if b = true then ∃ N : St → Hp → Prop, (∀ σ' H', N σ' H' → ∃ m', m' < μ σ H ∧ m' = μ σ' H' ∧ Pv σ' H') ∧ tb { D with nx := N, ct := N, bk := D.nx } σ H1 else D.nx σ H1) : tWhile c tb D σ H := by
  refine ⟨fun m σ H => m = μ σ H ∧ Pv σ H, ⟨_, rfl, h0⟩, ?_⟩
  rintro m σ H ⟨rfl, p⟩
  exact hs σ H p
end L2
namespace FW
open PySem L2 FB FS FG FO FR PyProof.Rows
--BEGIN
noncomputable def joinN (a b : List Str) : List Str := a ++ b.filter fun n => decide (n ∉ a)
theorem mem_joinN {a b : List Str} {n : Str} : n ∈ joinN a b ↔ n ∈ a ∨ n ∈ b := by
  unfold joinN
  rw [List.mem_append, List.mem_filter, decide_eq_true_iff]
  constructor
  · rintro (h | h)
    · exact .inl h
    · exact .inr h.1
  · intro h
    by_cases e : n ∈ a
    · exact .inl e
    · exact .inr ⟨h.resolve_left e, e⟩
mutual
noncomputable def rdF : Stm → List Str → List Str
  | .deed d, X => joinN (X.filter fun n => decide (n ∉ d.writes)) d.reads
  | .ifs n a b, X => joinN (joinN (allF a X) (allF b X)) [n]
  | .whl n a, X => joinN (joinN X [n]) (allF a (joinN X [n]))
noncomputable def allF : List Stm → List Str → List Str
  | [], X => X
  | s :: r, X => rdF s (allF r X)
end
mutual
noncomputable def wiS : Stm → List Str → List Stm
  | .deed d, X => if ∀ n ∈ d.writes, n ∈ X then [.deed d] else []
  | .ifs n a b, X => [.ifs n (wiL a X) (wiL b X)]
  | .whl n a, X => [.whl n (wiL a (rdF (.whl n a) X))]
noncomputable def wiL : List Stm → List Str → List Stm
  | [], _ => []
  | s :: r, X => wiS s (allF r X) ++ wiL r X
end
mutual
noncomputable def weS : Stm → List Stm
  | .deed d => [.deed d]
  | .ifs n a b => if weL a = [] ∧ weL b = [] then [] else [.ifs n (weL a) (weL b)]
  | .whl n a => [.whl n (weL a)]
noncomputable def weL : List Stm → List Stm
  | [] => []
  | s :: r => weS s ++ weL r
end
theorem allF_app {X : List Str} {b : List Stm} : ∀ a : List Stm, allF (a ++ b) X = allF a (allF b X)
  | [] => rfl
  | s :: r => by rw [List.cons_append, allF, allF, allF_app r]
theorem weL_app {b : List Stm} : ∀ a : List Stm, weL (a ++ b) = weL a ++ weL b
  | [] => rfl
  | s :: r => by rw [List.cons_append, weL, weL, weL_app r, List.append_assoc]
mutual
theorem rd_form : ∀ s : Stm, ∃ G P : Str → Prop, ∀ X n, n ∈ rdF s X ↔ G n ∨ (n ∈ X ∧ P n)
  | .deed d => ⟨fun n => n ∈ d.reads, fun n => n ∉ d.writes, fun X n => by
    rw [rdF, mem_joinN, List.mem_filter, decide_eq_true_iff]
    exact or_comm⟩
  | .ifs c a b => by
    obtain ⟨Ga, Pa, ha⟩ := all_form a
    obtain ⟨Gb, Pb, hb⟩ := all_form b
    refine ⟨fun n => Ga n ∨ Gb n ∨ n = c, fun n => Pa n ∨ Pb n, fun X n => ?_⟩
    rw [rdF, mem_joinN, mem_joinN, ha, hb, List.mem_singleton]
    constructor
    · rintro (((h | ⟨h, h'⟩) | (h | ⟨h, h'⟩)) | h)
      · exact .inl (.inl h)
      · exact .inr ⟨h, .inl h'⟩
      · exact .inl (.inr (.inl h))
      · exact .inr ⟨h, .inr h'⟩
      · exact .inl (.inr (.inr h))
    · rintro ((h | h | h) | ⟨h, h' | h'⟩)
      · exact .inl (.inl (.inl h))
      · exact .inl (.inr (.inl h))
      · exact .inr h
      · exact .inl (.inl (.inr ⟨h, h'⟩))
      · exact .inl (.inr (.inr ⟨h, h'⟩))
  | .whl c a => by
    obtain ⟨Ga, Pa, ha⟩ := all_form a
    refine ⟨fun n => n = c ∨ Ga n, fun _ => True, fun X n => ?_⟩
    rw [rdF, mem_joinN, ha, mem_joinN, List.mem_singleton]
    constructor
    · rintro ((h | h) | (h | ⟨h | h, _⟩))
      · exact .inr ⟨h, trivial⟩
      · exact .inl (.inl h)
      · exact .inl (.inr h)
      · exact .inr ⟨h, trivial⟩
      · exact .inl (.inl h)
    · rintro ((h | h) | ⟨h, _⟩)
      · exact .inl (.inr h)
      · exact .inr (.inl h)
      · exact .inl (.inl h)
theorem all_form : ∀ l : List Stm, ∃ G P : Str → Prop, ∀ X n, n ∈ allF l X ↔ G n ∨ (n ∈ X ∧ P n)
  | [] => ⟨fun _ => False, fun _ => True, fun X n => by rw [allF]; simp⟩
  | s :: r => by
    obtain ⟨Gs, Ps, hs⟩ := rd_form s
    obtain ⟨Gr, Pr, hr⟩ := all_form r
    refine ⟨fun n => Gs n ∨ (Gr n ∧ Ps n), fun n => Pr n ∧ Ps n, fun X n => ?_⟩
    rw [allF, hs, hr]
    constructor
    · rintro (h | ⟨h | ⟨h, h'⟩, h''⟩)
      · exact .inl (.inl h)
      · exact .inl (.inr ⟨h, h''⟩)
      · exact .inr ⟨h, h', h''⟩
    · rintro ((h | ⟨h, h'⟩) | ⟨h, h', h''⟩)
      · exact .inl h
      · exact .inr ⟨.inl h, h'⟩
      · exact .inr ⟨.inr ⟨h, h'⟩, h''⟩
end
theorem whl_fix {c : Str} {a : List Stm} {X : List Str} {n : Str} (h : n ∈ allF a (rdF (.whl c a) X)) : n ∈ rdF (.whl c a) X := by
  obtain ⟨Ga, Pa, ha⟩ := all_form a
  rw [ha] at h
  rcases h with h | h
  · rw [rdF, mem_joinN, ha]
    exact .inr (.inl h)
  · exact h.1
theorem whl_sub {c : Str} {a : List Stm} {X : List Str} {n : Str} (h : n ∈ X) : n ∈ rdF (.whl c a) X := by rw [rdF, mem_joinN, mem_joinN]; exact .inl (.inl h)
theorem whl_cond {c : Str} {a : List Stm} {X : List Str} : c ∈ rdF (.whl c a) X := by rw [rdF, mem_joinN, mem_joinN]; exact .inl (.inr (by simp))
noncomputable def afterR (ss : List Stm) : List Stm := weL (wiL ss [])
mutual
theorem wiS_many : ∀ (s : Stm) (X : List Str), manyL (wiS s X) ≤ s.many ∧ (manyL (wiS s X) = s.many → wiS s X = [s])
  | .deed d, X => by
    rw [wiS]
    split
    · exact ⟨Nat.le_refl _, fun _ => rfl⟩
    · exact ⟨Nat.zero_le _, fun h => by simp [manyL, Stm.many] at h⟩
  | .ifs c a b, X => by
    have ha := wiL_many a X
    have hb := wiL_many b X
    rw [wiS, manyL, manyL, Stm.many, Stm.many]
    refine ⟨by omega, fun h => ?_⟩
    rw [ha.2 (by omega), hb.2 (by omega)]
  | .whl c a, X => by
    have ha := wiL_many a (rdF (.whl c a) X)
    rw [wiS, manyL, manyL, Stm.many, Stm.many]
    refine ⟨by omega, fun h => ?_⟩
    rw [ha.2 (by omega)]
theorem wiL_many : ∀ (l : List Stm) (X : List Str), manyL (wiL l X) ≤ manyL l ∧ (manyL (wiL l X) = manyL l → wiL l X = l)
  | [], X => ⟨Nat.le_refl _, fun _ => rfl⟩
  | s :: r, X => by
    have hs := wiS_many s (allF r X)
    have hr := wiL_many r X
    rw [wiL, manyL_append, manyL]
    refine ⟨by omega, fun h => ?_⟩
    rw [hs.2 (by omega), hr.2 (by omega)]
    rfl
end
mutual
theorem weS_many : ∀ s : Stm, manyL (weS s) ≤ s.many ∧ (manyL (weS s) = s.many → weS s = [s])
  | .deed d => by rw [weS]; exact ⟨Nat.le_refl _, fun _ => rfl⟩
  | .ifs c a b => by
    have ha := weL_many a
    have hb := weL_many b
    rw [weS]
    split
    · exact ⟨Nat.zero_le _, fun h => by simp [manyL, Stm.many] at h⟩
    · rw [manyL, manyL, Stm.many, Stm.many]
      refine ⟨by omega, fun h => ?_⟩
      rw [ha.2 (by omega), hb.2 (by omega)]
  | .whl c a => by
    have ha := weL_many a
    rw [weS, manyL, manyL, Stm.many, Stm.many]
    refine ⟨by omega, fun h => ?_⟩
    rw [ha.2 (by omega)]
theorem weL_many : ∀ l : List Stm, manyL (weL l) ≤ manyL l ∧ (manyL (weL l) = manyL l → weL l = l)
  | [] => ⟨Nat.le_refl _, fun _ => rfl⟩
  | s :: r => by
    have hs := weS_many s
    have hr := weL_many r
    rw [weL, manyL_append, manyL]
    refine ⟨by omega, fun h => ?_⟩
    rw [hs.2 (by omega), hr.2 (by omega)]
    rfl
end
theorem afterR_many (ss : List Stm) : manyL (afterR ss) ≤ manyL ss ∧ (manyL (afterR ss) = manyL ss → afterR ss = ss) := by
  have h1 := weL_many (wiL ss [])
  have h2 := wiL_many ss []
  unfold afterR
  refine ⟨by omega, fun h => ?_⟩
  rw [h1.2 (by omega), h2.2 (by omega)]
mutual
theorem wiS_deep : ∀ (s : Stm) (X : List Str), deepL (wiS s X) ≤ s.deep
  | .deed d, X => by
    rw [wiS]
    split
    · exact Nat.le_refl _
    · exact Nat.zero_le _
  | .ifs c a b, X => by
    have ha := wiL_deep a X
    have hb := wiL_deep b X
    rw [wiS, deepL, deepL, Stm.deep, Stm.deep]; omega
  | .whl c a, X => by
    have ha := wiL_deep a (rdF (.whl c a) X)
    rw [wiS, deepL, deepL, Stm.deep, Stm.deep]; omega
theorem wiL_deep : ∀ (l : List Stm) (X : List Str), deepL (wiL l X) ≤ deepL l
  | [], X => Nat.le_refl _
  | s :: r, X => by
    have hs := wiS_deep s (allF r X)
    have hr := wiL_deep r X
    rw [wiL, deepL_append, deepL]; omega
end
mutual
theorem weS_deep : ∀ s : Stm, deepL (weS s) ≤ s.deep
  | .deed d => by rw [weS]; exact Nat.le_refl _
  | .ifs c a b => by
    have ha := weL_deep a
    have hb := weL_deep b
    rw [weS]
    split
    · exact Nat.zero_le _
    · rw [deepL, deepL, Stm.deep, Stm.deep]; omega
  | .whl c a => by
    have ha := weL_deep a
    rw [weS, deepL, deepL, Stm.deep, Stm.deep]; omega
theorem weL_deep : ∀ l : List Stm, deepL (weL l) ≤ deepL l
  | [] => Nat.le_refl _
  | s :: r => by
    have hs := weS_deep s
    have hr := weL_deep r
    rw [weL, deepL_append, deepL]; omega
end
theorem afterR_deep (ss : List Stm) : deepL (afterR ss) ≤ deepL ss := Nat.le_trans (weL_deep _) (wiL_deep _ _)
mutual
theorem wiS_good {ns : List Str} {w : Int} : ∀ (s : Stm) (X : List Str), s.good ns w → goodL ns w (wiS s X)
  | .deed d, X, h => by
    rw [wiS]
    split
    · exact ⟨h, trivial⟩
    · exact trivial
  | .ifs c a b, X, h => by rw [wiS]; exact ⟨⟨h.1, wiL_good a X h.2.1, wiL_good b X h.2.2⟩, trivial⟩
  | .whl c a, X, h => by rw [wiS]; exact ⟨⟨h.1, wiL_good a _ h.2⟩, trivial⟩
theorem wiL_good {ns : List Str} {w : Int} : ∀ (l : List Stm) (X : List Str), goodL ns w l → goodL ns w (wiL l X)
  | [], X, _ => by rw [wiL]; exact trivial
  | s :: r, X, h => by rw [wiL]; exact goodL_append.mpr ⟨wiS_good s _ h.1, wiL_good r X h.2⟩
end
mutual
theorem weS_good {ns : List Str} {w : Int} : ∀ s : Stm, s.good ns w → goodL ns w (weS s)
  | .deed d, h => by rw [weS]; exact ⟨h, trivial⟩
  | .ifs c a b, h => by
    rw [weS]
    split
    · exact trivial
    · exact ⟨⟨h.1, weL_good a h.2.1, weL_good b h.2.2⟩, trivial⟩
  | .whl c a, h => by rw [weS]; exact ⟨⟨h.1, weL_good a h.2⟩, trivial⟩
theorem weL_good {ns : List Str} {w : Int} : ∀ l : List Stm, goodL ns w l → goodL ns w (weL l)
  | [], _ => by rw [weL]; exact trivial
  | s :: r, h => by rw [weL]; exact goodL_append.mpr ⟨weS_good s h.1, weL_good r h.2⟩
end
theorem afterR_good {ns : List Str} {w : Int} {ss : List Stm} (h : goodL ns w ss) : goodL ns w (afterR ss) := weL_good _ (wiL_good _ _ h)
structure Few (ns l : List Str) : Prop where
  sub : ∀ n ∈ l, n ∈ ns
  two : ∀ n, l.count n ≤ 2
theorem few_nil {ns : List Str} : Few ns [] := ⟨fun n (h : n ∈ []) => (List.not_mem_nil h).elim, fun n => by rw [List.count_nil]; exact Nat.zero_le _⟩
theorem Few.join {ns a b : List Str} (h1 : Few ns a) (h2 : Few ns b) : Few ns (joinN a b) := by
  refine ⟨fun n hn => (mem_joinN.mp hn).elim (h1.sub n) (h2.sub n), fun n => ?_⟩
  unfold joinN
  rw [List.count_append]
  have hf : (b.filter fun m => decide (m ∉ a)).count n ≤ if n ∈ a then 0 else 2 := by
    by_cases e : n ∈ a
    · rw [if_pos e, List.count_eq_zero.mpr]
      · exact Nat.le_refl _
      · intro hm
        exact absurd e (of_decide_eq_true (List.mem_filter.mp hm).2)
    · rw [if_neg e]
      exact Nat.le_trans (List.Sublist.count_le _ List.filter_sublist) (h2.two n)
  by_cases e : n ∈ a
  · rw [if_pos e] at hf
    have := h1.two n
    omega
  · rw [if_neg e] at hf
    rw [List.count_eq_zero.mpr e]
    omega
theorem Few.one {ns : List Str} {n : Str} (h : n ∈ ns) : Few ns [n] := ⟨fun m hm => by rw [List.mem_singleton.mp hm]; exact h, fun m => Nat.le_trans List.count_le_length (by simp)⟩
theorem Few.len : ∀ {ns l : List Str}, Few ns l → l.length ≤ 2 * ns.length
  | [], l, h => by
    cases l with
    | nil => exact Nat.le_refl _
    | cons n l => exact absurd (h.sub n (List.mem_cons_self ..)) (by simp)
  | n :: ns, l, h => by
    have h2 : Few ns (l.filter fun m => !(m == n)) := ⟨fun m hm => by
      obtain ⟨a, b⟩ := List.mem_filter.mp hm
      have hne : m ≠ n := by simpa using b
      rcases List.mem_cons.mp (h.sub m a) with z | z
      · exact absurd z hne
      · exact z, fun m => Nat.le_trans (List.Sublist.count_le _ List.filter_sublist) (h.two m)⟩
    have h3 := Few.len h2
    have h4 := h.two n
    have h5 : l.length = l.count n + (l.filter fun m => !(m == n)).length := by
      rw [← List.countP_eq_length_filter, List.count, List.length_eq_countP_add_countP (fun x => x == n)]
      congr 1
      refine List.countP_congr fun x _ => ?_
      simp
    rw [List.length_cons]
    omega
theorem Opd.few {ns : List Str} {w : Int} {o : Opd} (h : Opd.good ns w o) : ∀ n ∈ o.reads, n ∈ ns := by
  cases o with
  | box m => intro n hn; rw [List.mem_singleton.mp hn]; exact h
  | word i => intro n hn; cases hn
theorem Opd.readsLen (o : Opd) : o.reads.length ≤ 1 := by cases o <;> simp [Opd.reads]
theorem Deed.few {ns : List Str} {w : Int} {d : Deed} (h : Deed.good ns w d) : Few ns d.reads := by
  refine ⟨fun n hn => ?_, fun n => Nat.le_trans List.count_le_length ?_⟩
  · cases d with
    | tell a => exact Opd.few h n hn
    | copy c a => exact Opd.few h.2 n hn
    | op f c x y =>
      rcases List.mem_append.mp hn with z | z
      · exact Opd.few h.2.2.1 n z
      · exact Opd.few h.2.2.2 n z
  · cases d with
    | tell a => have := Opd.readsLen a; show a.reads.length ≤ 2; omega
    | copy c a => have := Opd.readsLen a; show a.reads.length ≤ 2; omega
    | op f c x y => have := Opd.readsLen x; have := Opd.readsLen y; show (x.reads ++ y.reads).length ≤ 2; rw [List.length_append]; omega
theorem Few.filt {ns X : List Str} (f : Str → Bool) (h : Few ns X) : Few ns (X.filter f) := ⟨fun n hn => h.sub n (List.mem_filter.mp hn).1, fun n => Nat.le_trans (List.Sublist.count_le _ List.filter_sublist) (h.two n)⟩
mutual
theorem rd_few {ns : List Str} {w : Int} : ∀ (s : Stm) (X : List Str), s.good ns w → Few ns X → Few ns (rdF s X)
  | .deed d, X, h, hX => by rw [rdF]; exact (hX.filt _).join (Deed.few h)
  | .ifs c a b, X, h, hX => by rw [rdF]; exact ((all_few a X h.2.1 hX).join (all_few b X h.2.2 hX)).join (.one h.1)
  | .whl c a, X, h, hX => by rw [rdF]; exact (hX.join (.one h.1)).join (all_few a _ h.2 (hX.join (.one h.1)))
theorem all_few {ns : List Str} {w : Int} : ∀ (l : List Stm) (X : List Str), goodL ns w l → Few ns X → Few ns (allF l X)
  | [], X, _, hX => by rw [allF]; exact hX
  | s :: r, X, h, hX => by rw [allF]; exact rd_few s _ h.1 (all_few r X h.2 hX)
end
mutual
inductive AlnS : Stm → Stm → Prop where
  | deed {d : Deed} : AlnS (.deed d) (.deed d)
  | ifs {n : Str} {a b a' b' : List Stm} : AlnL a a' → AlnL b b' → AlnS (.ifs n a b) (.ifs n a' b')
  | whl {n : Str} {a a' : List Stm} : AlnL a a' → AlnS (.whl n a) (.whl n a')
inductive AlnL : List Stm → List Stm → Prop where
  | lens {l l' : List Stm} : l.length ≠ l'.length → AlnL l l'
  | alike {l l' : List Stm} : AlnP l l' → AlnL l l'
inductive AlnP : List Stm → List Stm → Prop where
  | nil : AlnP [] []
  | cons {s s' : Stm} {l l' : List Stm} : AlnS s s' → AlnP l l' → AlnP (s :: l) (s' :: l')
end
theorem AlnL.cons {s s' : Stm} {l l' : List Stm} (h : AlnS s s') (h' : AlnL l l') : AlnL (s :: l) (s' :: l') := by
  cases h' with
  | lens n => exact .lens (by simpa using n)
  | alike p => exact .alike (.cons h p)
mutual
theorem AlnS.symm : ∀ {s s' : Stm}, AlnS s s' → AlnS s' s
  | _, _, .deed => .deed
  | _, _, .ifs ha hb => .ifs (AlnL.symm ha) (AlnL.symm hb)
  | _, _, .whl ha => .whl (AlnL.symm ha)
theorem AlnL.symm : ∀ {l l' : List Stm}, AlnL l l' → AlnL l' l
  | _, _, .lens h => .lens (Ne.symm h)
  | _, _, .alike h => .alike (AlnP.symm h)
theorem AlnP.symm : ∀ {l l' : List Stm}, AlnP l l' → AlnP l' l
  | _, _, .nil => .nil
  | _, _, .cons h t => .cons (AlnS.symm h) (AlnP.symm t)
end
theorem weS_len (s : Stm) : (weS s).length ≤ 1 := by
  cases s with
  | deed d => rw [weS]; exact Nat.le_refl _
  | ifs n a b => rw [weS]; split <;> simp
  | whl n a => rw [weS]; exact Nat.le_refl _
theorem weL_len : ∀ l : List Stm, (weL l).length ≤ l.length
  | [] => Nat.le_refl _
  | s :: r => by rw [weL, List.length_append, List.length_cons]; have := weS_len s; have := weL_len r; omega
theorem wiS_len (s : Stm) (X : List Str) : (wiS s X).length ≤ 1 := by
  cases s with
  | deed d => rw [wiS]; split <;> simp
  | ifs n a b => rw [wiS]; exact Nat.le_refl _
  | whl n a => rw [wiS]; exact Nat.le_refl _
theorem wiL_len : ∀ (l : List Stm) (X : List Str), (wiL l X).length ≤ l.length
  | [], _ => Nat.le_refl _
  | s :: r, X => by rw [wiL, List.length_append, List.length_cons]; have := wiS_len s (allF r X); have := wiL_len r X; omega
mutual
theorem aln_S : ∀ (s : Stm) (X : List Str), weL (wiS s X) = [] ∨ ∃ s', weL (wiS s X) = [s'] ∧ AlnS s s'
  | .deed d, X => by
    rw [wiS]
    split
    · exact .inr ⟨_, rfl, .deed⟩
    · exact .inl rfl
  | .ifs n a b, X => by
    have ha := aln_L a X
    have hb := aln_L b X
    rw [wiS, weL, weS]
    split
    · exact .inl rfl
    · exact .inr ⟨_, rfl, .ifs ha hb⟩
  | .whl n a, X => by
    have ha := aln_L a (rdF (.whl n a) X)
    rw [wiS]
    exact .inr ⟨_, rfl, .whl ha⟩
theorem aln_L : ∀ (l : List Stm) (X : List Str), AlnL l (weL (wiL l X))
  | [], X => by rw [wiL, weL]; exact .alike .nil
  | s :: r, X => by
    have hr := aln_L r X
    rw [wiL, weL_app]
    rcases aln_S s (allF r X) with h | ⟨s', h, hs⟩
    · rw [h]
      refine .lens ?_
      have h1 := weL_len (wiL r X)
      have h2 := wiL_len r X
      rw [List.nil_append, List.length_cons]; omega
    · rw [h]
      exact AlnL.cons hs hr
end
theorem aln_after (ss : List Stm) : AlnL ss (afterR ss) := aln_L ss []
inductive Trm : List Stm → List Stm → Prop where
  | refl {ss : List Stm} : Trm ss ss
  | step {ss cur : List Stm} : Trm ss cur → Trm ss (afterR cur)
theorem Trm.many {ss cur : List Stm} (h : Trm ss cur) : manyL cur ≤ manyL ss := by
  induction h with
  | refl => exact Nat.le_refl _
  | step _ ih => exact Nat.le_trans (afterR_many _).1 ih
theorem Trm.deep {ss cur : List Stm} (h : Trm ss cur) : deepL cur ≤ deepL ss := by
  induction h with
  | refl => exact Nat.le_refl _
  | step _ ih => exact Nat.le_trans (afterR_deep _) ih
theorem Trm.good {ns : List Str} {w : Int} {ss cur : List Stm} (h : Trm ss cur) (hg : goodL ns w ss) : goodL ns w cur := by
  induction h with
  | refl => exact hg
  | step _ ih => exact afterR_good ih
--END
section
variable {K : PySem.W.Frag} {H : Hp}
theorem all_of {n : Nat} {e : Nat → Bool} (h : ∀ j, j < n → e j = true) : (List.range n).all e = true := List.all_eq_true.mpr fun j hj => h j (List.mem_range.mp hj)
theorem dq_refl {n : Nat} {v : V} (h : flatV v = true) (e : eqV v v = true) : Dq K H n v v true := by
  have z := Dq.flat (K := K) (H := H) (n := n) h h
  rw [e] at z
  exact z
theorem dq_str {n : Nat} {s : Str} : Dq K H n (.str s) (.str s) true := dq_refl rfl (by simp [eqV])
theorem opd_flat (o : Opd) {n : Nat} : Dq K H n o.v o.v true := by
  cases o with
  | box m => exact dq_str
  | word i => exact dq_refl (v := V.int i) rfl (by simp [eqV])
theorem deed_dq {n : Nat} (d : Deed) : ∀ (j : Nat) x y, d.vs[j]? = some x → d.vs[j]? = some y → Dq K H n x y true := by
  intro j x y hx hy
  rw [hx] at hy
  cases hy
  cases d with
  | tell a =>
    match j, hx with
    | 0, hx => cases hx; exact dq_str
    | 1, hx => cases hx; exact opd_flat a
    | j + 2, hx => simp [Deed.vs] at hx
  | copy c a =>
    match j, hx with
    | 0, hx => cases hx; exact dq_str
    | 1, hx => cases hx; exact dq_str
    | 2, hx => cases hx; exact opd_flat a
    | j + 3, hx => simp [Deed.vs] at hx
  | op f c a b =>
    match j, hx with
    | 0, hx => cases hx; exact dq_str
    | 1, hx => cases hx; exact dq_str
    | 2, hx => cases hx; exact opd_flat a
    | 3, hx => cases hx; exact opd_flat b
    | j + 4, hx => simp [Deed.vs] at hx
end
end FW
namespace FX
open PySem L2 FB FS FG FO FR FW PyProof.Rows
structure Nd where
  rd : List Str
  nm : Option Str
  ah : List Int
noncomputable def Deed.nm : Deed → Option Str
  | .tell _ => none
  | .copy n _ => some n
  | .op _ n _ _ => some n
mutual
noncomputable def nodeS : Stm → Nat → Int → List Nd × Int
  | .deed d, k, b => ([⟨d.reads, Deed.nm d, [b]⟩], k)
  | .ifs c x y, k, b => ((nodesL x k b).1 ++ (nodesL y (k + manyL x) b).1 ++ [⟨[c], none, [(nodesL x k b).2, (nodesL y (k + manyL x) b).2]⟩], ((k + manyL x + manyL y : Nat) : Int))
  | .whl c a, k, b => (⟨[c], none, [(nodesL a (k + 1) k).2, b]⟩ :: (nodesL a (k + 1) k).1, k)
noncomputable def nodesL : List Stm → Nat → Int → List Nd × Int
  | [], _, b => ([], b)
  | s :: r, k, b => ((nodesL r k b).1 ++ (nodeS s (k + manyL r) (nodesL r k b).2).1, (nodeS s (k + manyL r) (nodesL r k b).2).2)
end
mutual
theorem nodeS_len : ∀ (s : Stm) (k : Nat) (b : Int), (nodeS s k b).1.length = s.many
  | .deed d, k, b => by rw [nodeS]; rfl
  | .ifs c x y, k, b => by
    rw [nodeS, List.length_append, List.length_append, nodesL_len x, nodesL_len y, Stm.many]; rfl
  | .whl c a, k, b => by rw [nodeS, List.length_cons, nodesL_len a, Stm.many]
theorem nodesL_len : ∀ (l : List Stm) (k : Nat) (b : Int), (nodesL l k b).1.length = manyL l
  | [], k, b => by rw [nodesL]; rfl
  | s :: r, k, b => by rw [nodesL, List.length_append, nodesL_len r, nodeS_len s, manyL]; omega
end
noncomputable def At {α : Type} (N : List α) (k : Nat) (l : List α) : Prop := ∀ (t : Nat) nd, l[t]? = some nd → N[k + t]? = some nd
theorem At.left {α : Type} {N : List α} {k : Nat} {a b : List α} (h : At N k (a ++ b)) : At N k a := fun t nd e => h t nd (by rw [List.getElem?_append_left (List.getElem?_eq_some_iff.mp e).1]; exact e)
theorem At.right {α : Type} {N : List α} {k : Nat} {a b : List α} (h : At N k (a ++ b)) : At N (k + a.length) b := fun t nd e => by
  have := h (a.length + t) nd (by rw [List.getElem?_append_right (by omega), Nat.add_sub_cancel_left]; exact e)
  rwa [← Nat.add_assoc] at this
noncomputable def orE (x c : Nat) : Nat := if x = 0 then c else x
theorem orE_assoc {x y z : Nat} : orE (orE x y) z = orE x (orE y z) := by unfold orE; split <;> simp_all
theorem orE_zero {c : Nat} : orE 0 c = c := rfl
theorem orE_pos {x c : Nat} (h : x ≠ 0) : orE x c = x := if_neg h
noncomputable def orAll (f : Int → Nat) : List Int → Nat
  | [] => 0
  | j :: r => orE (f j) (orAll f r)
noncomputable def stepV (n : Str) (nd : Nd) (f : Int → Nat) : Nat := if nd.nm = some n then nd.rd.count n else orE (orAll f nd.ah) (nd.rd.count n)
noncomputable def at0 (v : Nat → Nat) (j : Int) : Nat := if j < 0 then 0 else v j.toNat
noncomputable def seen (old new : Nat → Nat) (i : Nat) (j : Int) : Nat := if j < 0 then 0 else if j.toNat < i then new j.toNat else old j.toNat
structure Sys (n : Str) (N : List Nd) (v : Nat → Nat → Nat) : Prop where
  zero : ∀ i, v 0 i = 0
  step : ∀ p i nd, N[i]? = some nd → v (p + 1) i = stepV n nd (seen (v p) (v (p + 1)) i)
noncomputable def EvC (x : Nat → Nat) : Prop := ∃ c P, ∀ p, P ≤ p → x p = c
noncomputable def Thru (x e : Nat → Nat) : Prop := ∃ c P, ∀ p, P ≤ p → e p = orE (x p) c
theorem EvC.thru {x e : Nat → Nat} (h : EvC x) (t : Thru x e) : EvC e := by
  obtain ⟨c, P, h⟩ := h
  obtain ⟨d, R, t⟩ := t
  exact ⟨orE c d, max P R, fun p hp => by rw [t p (by omega), h p (by omega)]⟩
theorem Thru.trans {x y e : Nat → Nat} (h : Thru x y) (t : Thru y e) : Thru x e := by
  obtain ⟨c, P, h⟩ := h
  obtain ⟨d, R, t⟩ := t
  exact ⟨orE c d, max P R, fun p hp => by rw [t p (by omega), h p (by omega), orE_assoc]⟩
theorem at0_lt {old new : Nat → Nat} {i : Nat} {j : Int} (h : j < i) : seen old new i j = at0 new j := by
  unfold seen at0
  split
  · rfl
  · rw [if_pos (by omega)]
theorem seen_ge {old new : Nat → Nat} {i : Nat} {j : Int} (h : (i : Int) ≤ j) : seen old new i j = at0 old j := by
  unfold seen at0
  rw [if_neg (by omega), if_neg (by omega), if_neg (by omega)]
theorem whl_ev {w e x : Nat → Nat} {r : Nat} (hw : ∀ p, w (p + 1) = orE (e p) (orE (x (p + 1)) r)) (h : EvC e ∨ Thru w e) : EvC w ∨ Thru x w := by
  rcases h with ⟨c, P, h⟩ | ⟨c, P, h⟩
  · by_cases hc : c = 0
    · subst hc
      refine .inr ⟨r, P + 1, fun p hp => ?_⟩
      obtain ⟨q, rfl⟩ : ∃ q, p = q + 1 := ⟨p - 1, by omega⟩
      rw [hw, h q (by omega), orE_zero]
    · refine .inl ⟨c, P + 1, fun p hp => ?_⟩
      obtain ⟨q, rfl⟩ : ∃ q, p = q + 1 := ⟨p - 1, by omega⟩
      rw [hw, h q (by omega), orE_pos hc]
  · refine .inl ?_
    by_cases hz : ∃ q, P ≤ q ∧ w q ≠ 0
    · obtain ⟨q, hq, hn⟩ := hz
      refine ⟨w q, q, fun p hp => ?_⟩
      obtain ⟨k, rfl⟩ := Nat.exists_eq_add_of_le hp
      induction k with
      | zero => rfl
      | succ k ih =>
        have ih' := ih (by omega)
        rw [← Nat.add_assoc, hw, h _ (by omega), ih', orE_pos hn, orE_pos hn]
    · exact ⟨0, P, fun p hp => by
        by_cases e : w p = 0
        · exact e
        · exact absurd ⟨p, hp, e⟩ hz⟩
mutual
theorem nodeS_b : ∀ (s : Stm) (k : Nat) (b : Int), (k : Int) ≤ (nodeS s k b).2 ∧ (nodeS s k b).2 < (k + s.many : Nat)
  | .deed d, k, b => by rw [nodeS, Stm.many]; dsimp only; omega
  | .ifs c x y, k, b => by rw [nodeS, Stm.many]; dsimp only; omega
  | .whl c a, k, b => by rw [nodeS, Stm.many]; dsimp only; omega
theorem nodesL_b : ∀ (l : List Stm) (k : Nat) (b : Int), ((nodesL l k b).2 = b ∧ l = []) ∨ ((k : Int) ≤ (nodesL l k b).2 ∧ (nodesL l k b).2 < (k + manyL l : Nat))
  | [], k, b => by rw [nodesL]; exact .inl ⟨rfl, rfl⟩
  | s :: r, k, b => by
    have := nodeS_b s (k + manyL r) (nodesL r k b).2
    rw [nodesL, manyL]
    refine .inr ⟨?_, ?_⟩
    · dsimp only; omega
    · dsimp only; omega
end
theorem nodesL_lt {l : List Stm} {k : Nat} {b : Int} (h : b < k) : (nodesL l k b).2 < (k + manyL l : Nat) := by
  rcases nodesL_b l k b with z | z
  · rw [z.1]; omega
  · exact z.2
section
variable {n : Str} {N : List Nd} {v : Nat → Nat → Nat}
noncomputable def sq (v : Nat → Nat → Nat) (j : Int) : Nat → Nat := fun p => at0 (v (p + 1)) j
theorem if_ev {x e1 e2 e : Nat → Nat} {r : Nat} (he : ∀ p, e p = orE (e1 p) (orE (e2 p) r)) (h1 : EvC e1 ∨ Thru x e1) (h2 : EvC e2 ∨ Thru x e2) : EvC e ∨ Thru x e := by
  rcases h1 with ⟨c, P, h1⟩ | ⟨c, P, h1⟩
  · by_cases hc : c = 0
    · subst hc
      rcases h2 with ⟨d, R, h2⟩ | ⟨d, R, h2⟩
      · exact .inl ⟨orE d r, max P R, fun p hp => by rw [he, h1 p (by omega), h2 p (by omega), orE_zero]⟩
      · exact .inr ⟨orE d r, max P R, fun p hp => by rw [he, h1 p (by omega), h2 p (by omega), orE_zero, orE_assoc]⟩
    · exact .inl ⟨c, P, fun p hp => by rw [he, h1 p hp, orE_pos hc]⟩
  · rcases h2 with ⟨d, R, h2⟩ | ⟨d, R, h2⟩
    · exact .inr ⟨orE c (orE d r), max P R, fun p hp => by rw [he, h1 p (by omega), h2 p (by omega), orE_assoc]⟩
    · refine .inr ⟨orE c (orE d r), max P R, fun p hp => ?_⟩
      rw [he, h1 p (by omega), h2 p (by omega)]
      by_cases hx : x p = 0
      · rw [hx, orE_zero, orE_zero, orE_zero]
      · rw [orE_pos hx, orE_pos hx, orE_pos hx]
mutual
theorem evS (hS : Sys n N v) : ∀ (s : Stm) (k : Nat) (b : Int), b < k → At N k (nodeS s k b).1 → EvC (sq v (nodeS s k b).2) ∨ Thru (sq v b) (sq v (nodeS s k b).2)
  | .deed d, k, b, hb, hA => by
    rw [nodeS] at hA ⊢
    have e := fun p => hS.step p k _ (show N[k]? = some _ from hA 0 _ rfl)
    dsimp only
    have hk : ∀ p, sq v (k : Int) p = if Deed.nm d = some n then d.reads.count n else orE (sq v b p) (d.reads.count n) := fun p => by
      have e1 : sq v (k : Int) p = v (p + 1) k := by unfold sq at0; rw [if_neg (by omega), Int.toNat_natCast]
      rw [e1, e p]
      unfold stepV
      dsimp only [orAll]
      rw [at0_lt (by omega)]
      split
      · rfl
      · show orE (orE (at0 (v (p + 1)) b) 0) _ = _
        rw [orE_assoc, orE_zero]; rfl
    by_cases hn : Deed.nm d = some n
    · exact .inl ⟨d.reads.count n, 0, fun p _ => by rw [hk, if_pos hn]⟩
    · exact .inr ⟨d.reads.count n, 0, fun p _ => by rw [hk, if_neg hn]⟩
  | .ifs c x y, k, b, hb, hA => by
    rw [nodeS] at hA ⊢
    dsimp only at hA ⊢
    have h1 := evL hS x k b hb hA.left.left
    have hA2 := hA.left.right
    rw [nodesL_len] at hA2
    have h2 := evL hS y (k + manyL x) b (by omega) hA2
    have hA3 := hA.right
    rw [List.length_append, nodesL_len, nodesL_len, ← Nat.add_assoc] at hA3
    have e := fun p => hS.step p _ _ (hA3 0 _ rfl)
    have l1 := nodesL_lt (l := x) hb
    have l2 := nodesL_lt (l := y) (k := k + manyL x) (b := b) (by omega)
    refine if_ev (r := [c].count n) (fun p => ?_) h1 h2
    have e1 : sq v ((k + manyL x + manyL y : Nat) : Int) p = v (p + 1) (k + manyL x + manyL y) := by unfold sq at0; rw [if_neg (by omega), Int.toNat_natCast]
    rw [e1, show k + manyL x + manyL y = k + manyL x + manyL y + 0 by omega, e p]
    unfold stepV
    rw [if_neg (by intro z; cases z)]
    dsimp only [orAll]
    rw [at0_lt (by omega), at0_lt (by omega)]
    show orE (orE _ (orE _ 0)) _ = orE (sq v _ p) (orE (sq v _ p) _)
    rw [orE_assoc, orE_assoc, orE_zero]
    rfl
  | .whl c a, k, b, hb, hA => by
    rw [nodeS] at hA ⊢
    dsimp only at hA ⊢
    have hA2 : At N (k + 1) (nodesL a (k + 1) k).1 := fun t nd e => by
      have := hA (t + 1) nd (by simpa using e)
      rwa [show k + (t + 1) = k + 1 + t by omega] at this
    have h1 := evL hS a (k + 1) k (by omega) hA2
    have e := fun p => hS.step p k _ (show N[k]? = some _ from hA 0 _ rfl)
    refine whl_ev (r := [c].count n) (fun p => ?_) h1
    have e1 : sq v (k : Int) (p + 1) = v (p + 1 + 1) k := by unfold sq at0; rw [if_neg (by omega), Int.toNat_natCast]
    rw [e1, e (p + 1)]
    unfold stepV
    rw [if_neg (by intro z; cases z)]
    dsimp only [orAll]
    have hge : (k : Int) ≤ (nodesL a (k + 1) k).2 := by
      rcases nodesL_b a (k + 1) k with z | z
      · rw [z.1]; omega
      · omega
    rw [seen_ge hge, at0_lt (by omega)]
    show orE (orE _ (orE _ 0)) _ = orE (sq v _ p) (orE (sq v _ (p + 1)) _)
    rw [orE_assoc, orE_assoc, orE_zero]
    rfl
theorem evL (hS : Sys n N v) : ∀ (l : List Stm) (k : Nat) (b : Int), b < k → At N k (nodesL l k b).1 → EvC (sq v (nodesL l k b).2) ∨ Thru (sq v b) (sq v (nodesL l k b).2)
  | [], k, b, _, _ => by
    rw [nodesL]
    exact .inr ⟨0, 0, fun p _ => by unfold orE; split <;> simp_all⟩
  | s :: r, k, b, hb, hA => by
    rw [nodesL] at hA ⊢
    dsimp only at hA ⊢
    have h1 := evL hS r k b hb hA.left
    have hA2 := hA.right
    rw [nodesL_len] at hA2
    have l1 := nodesL_lt (l := r) hb
    have h2 := evS hS s (k + manyL r) _ (by omega) hA2
    rcases h2 with z | z
    · exact .inl z
    · rcases h1 with y | y
      · exact .inl (y.thru z)
      · exact .inr (y.trans z)
end
mutual
theorem allS (hS : Sys n N v) : ∀ (s : Stm) (k : Nat) (b : Int), b < k → At N k (nodeS s k b).1 → EvC (sq v b) → ∀ i, k ≤ i → i < k + s.many → EvC (sq v (i : Int))
  | .deed d, k, b, hb, hA, hx, i, h1, h2 => by
    have z := evS hS (.deed d) k b hb hA
    rw [nodeS] at z
    rw [Stm.many] at h2
    rw [show i = k by omega]
    rcases z with z | z
    · exact z
    · exact hx.thru z
  | .ifs c x y, k, b, hb, hA, hx, i, h1, h2 => by
    have z := evS hS (.ifs c x y) k b hb hA
    rw [nodeS] at z hA
    dsimp only at hA z
    rw [Stm.many] at h2
    have hA2 := hA.left.right
    rw [nodesL_len] at hA2
    by_cases c1 : i < k + manyL x
    · exact allL hS x k b hb hA.left.left hx i h1 c1
    by_cases c2 : i < k + manyL x + manyL y
    · exact allL hS y (k + manyL x) b (by omega) hA2 hx i (by omega) (by omega)
    rw [show i = k + manyL x + manyL y by omega]
    rcases z with z | z
    · exact z
    · exact hx.thru z
  | .whl c a, k, b, hb, hA, hx, i, h1, h2 => by
    have z := evS hS (.whl c a) k b hb hA
    rw [nodeS] at z hA
    dsimp only at hA z
    rw [Stm.many] at h2
    have hk : EvC (sq v (k : Int)) := by
      rcases z with z | z
      · exact z
      · exact hx.thru z
    have hA2 : At N (k + 1) (nodesL a (k + 1) k).1 := fun t nd e => by
      have := hA (t + 1) nd (by simpa using e)
      rwa [show k + (t + 1) = k + 1 + t by omega] at this
    by_cases c1 : i = k
    · rw [c1]; exact hk
    · exact allL hS a (k + 1) k (by omega) hA2 hk i (by omega) (by omega)
theorem allL (hS : Sys n N v) : ∀ (l : List Stm) (k : Nat) (b : Int), b < k → At N k (nodesL l k b).1 → EvC (sq v b) → ∀ i, k ≤ i → i < k + manyL l → EvC (sq v (i : Int))
  | [], k, b, _, _, _, i, h1, h2 => by rw [manyL] at h2; omega
  | s :: r, k, b, hb, hA, hx, i, h1, h2 => by
    have z := evL hS r k b hb (by rw [nodesL] at hA; exact hA.left)
    rw [nodesL] at hA
    dsimp only at hA
    rw [manyL] at h2
    have hA2 := hA.right
    rw [nodesL_len] at hA2
    have l1 := nodesL_lt (l := r) hb
    have hx2 : EvC (sq v (nodesL r k b).2) := by
      rcases z with z | z
      · exact z
      · exact hx.thru z
    by_cases c1 : i < k + manyL r
    · exact allL hS r k b hb hA.left hx i h1 c1
    · exact allS hS s (k + manyL r) _ (by omega) hA2 hx2 i (by omega) (by omega)
end
end
mutual
noncomputable def setS : Stm → List Str → List (List Str)
  | .deed d, X => [rdF (.deed d) X]
  | .ifs c x y, X => setL x X ++ setL y X ++ [rdF (.ifs c x y) X]
  | .whl c a, X => rdF (.whl c a) X :: setL a (rdF (.whl c a) X)
noncomputable def setL : List Stm → List Str → List (List Str)
  | [], _ => []
  | s :: r, X => setL r X ++ setS s (allF r X)
end
mutual
theorem setS_len : ∀ (s : Stm) (X : List Str), (setS s X).length = s.many
  | .deed d, X => by rw [setS]; rfl
  | .ifs c x y, X => by rw [setS, List.length_append, List.length_append, setL_len x, setL_len y, Stm.many]; rfl
  | .whl c a, X => by rw [setS, List.length_cons, setL_len a, Stm.many]
theorem setL_len : ∀ (l : List Stm) (X : List Str), (setL l X).length = manyL l
  | [], X => by rw [setL]; rfl
  | s :: r, X => by rw [setL, List.length_append, setL_len r, setS_len s, manyL]; omega
end
noncomputable def SetAt (S : List (List Str)) (b : Int) (X : List Str) : Prop := (b < 0 ∧ X = []) ∨ (0 ≤ b ∧ S[b.toNat]? = some X)
section
variable {S : List (List Str)}
mutual
theorem entS : ∀ (s : Stm) (k : Nat) (b : Int) (X : List Str), At S k (setS s X) → SetAt S (nodeS s k b).2 (rdF s X)
  | .deed d, k, b, X, h => by
    rw [setS] at h
    rw [nodeS]
    exact .inr ⟨by dsimp only; omega, by dsimp only; rw [Int.toNat_natCast]; exact h 0 _ rfl⟩
  | .ifs c x y, k, b, X, h => by
    rw [setS] at h
    rw [nodeS]
    have h3 := h.right
    rw [List.length_append, setL_len, setL_len, ← Nat.add_assoc] at h3
    exact .inr ⟨by dsimp only; omega, by dsimp only; rw [Int.toNat_natCast]; exact h3 0 _ rfl⟩
  | .whl c a, k, b, X, h => by
    rw [setS] at h
    rw [nodeS]
    exact .inr ⟨by dsimp only; omega, by dsimp only; rw [Int.toNat_natCast]; exact h 0 _ rfl⟩
theorem entL : ∀ (l : List Stm) (k : Nat) (b : Int) (X : List Str), At S k (setL l X) → SetAt S b X → SetAt S (nodesL l k b).2 (allF l X)
  | [], k, b, X, _, hb => by rw [nodesL, allF]; exact hb
  | s :: r, k, b, X, h, hb => by
    rw [setL] at h
    rw [nodesL, allF]
    have h2 := h.right
    rw [setL_len] at h2
    exact entS s _ _ _ h2
end
theorem whl_body {S : List (List Str)} {k : Nat} {c : Str} {a : List Stm} {X : List Str} (h : At S k (setS (.whl c a) X)) : At S (k + 1) (setL a (rdF (.whl c a) X)) ∧ SetAt S (k : Int) (rdF (.whl c a) X) := by
  rw [setS] at h
  refine ⟨fun t nd e => ?_, .inr ⟨by omega, by rw [Int.toNat_natCast]; exact h 0 _ rfl⟩⟩
  have := h (t + 1) nd (by simpa using e)
  rwa [show k + (t + 1) = k + 1 + t by omega] at this
noncomputable def Clo (S : List (List Str)) (nd : Nd) (Y : List Str) : Prop := (∀ n ∈ nd.rd, n ∈ Y) ∧ ∀ j ∈ nd.ah, ∃ Z, SetAt S j Z ∧ ∀ n ∈ Z, nd.nm ≠ some n → n ∈ Y
theorem nm_wr {d : Deed} {n : Str} : n ∈ d.writes ↔ Deed.nm d = some n := by
  cases d with
  | tell a => simp [Deed.writes, Deed.nm]
  | copy c a => simp [Deed.writes, Deed.nm, eq_comm]
  | op f c a b => simp [Deed.writes, Deed.nm, eq_comm]
mutual
theorem cloS : ∀ (s : Stm) (k : Nat) (b : Int) (X : List Str), At S k (setS s X) → SetAt S b X → ∀ (t : Nat) nd Y, (nodeS s k b).1[t]? = some nd → (setS s X)[t]? = some Y → Clo S nd Y
  | .deed d, k, b, X, h, hb, t, nd, Y, e1, e2 => by
    rw [nodeS] at e1
    rw [setS] at e2
    match t, e1, e2 with
    | 0, e1, e2 =>
      cases e1
      cases e2
      refine ⟨fun n hn => ?_, fun j hj => ⟨X, ?_, fun n hn hne => ?_⟩⟩
      · rw [rdF, mem_joinN]; exact .inr hn
      · rw [List.mem_singleton.mp hj]; exact hb
      · rw [rdF, mem_joinN, List.mem_filter, decide_eq_true_iff]
        exact .inl ⟨hn, fun z => hne (nm_wr.mp z)⟩
    | t + 1, e1, _ => simp at e1
  | .ifs c x y, k, b, X, h, hb, t, nd, Y, e1, e2 => by
    have h' := h
    rw [setS] at h
    have hx := h.left.left
    have hy := h.left.right
    rw [setL_len] at hy
    have ex := entL x k b X hx hb
    have ey := entL y (k + manyL x) b X hy hb
    rw [nodeS] at e1
    rw [setS] at e2
    dsimp only at e1
    by_cases c1 : t < manyL x
    · rw [List.append_assoc, List.getElem?_append_left (by rw [nodesL_len]; exact c1)] at e1
      rw [List.append_assoc, List.getElem?_append_left (by rw [setL_len]; exact c1)] at e2
      exact cloL x k b X hx hb t nd Y e1 e2
    by_cases c2 : t < manyL x + manyL y
    · rw [List.append_assoc, List.getElem?_append_right (by rw [nodesL_len]; omega), nodesL_len, List.getElem?_append_left (by rw [nodesL_len]; omega)] at e1
      rw [List.append_assoc, List.getElem?_append_right (by rw [setL_len]; omega), setL_len, List.getElem?_append_left (by rw [setL_len]; omega)] at e2
      exact cloL y (k + manyL x) b X hy hb _ nd Y e1 e2
    rw [List.getElem?_append_right (by rw [List.length_append, nodesL_len, nodesL_len]; omega), List.length_append, nodesL_len, nodesL_len] at e1
    rw [List.getElem?_append_right (by rw [List.length_append, setL_len, setL_len]; omega), List.length_append, setL_len, setL_len] at e2
    generalize t - (manyL x + manyL y) = t' at e1 e2
    match t', e1, e2 with
    | 0, e1, e2 =>
      cases e1
      cases e2
      refine ⟨fun n hn => ?_, fun j hj => ?_⟩
      · rw [rdF, mem_joinN]; exact .inr hn
      · rcases List.mem_cons.mp hj with z | z
        · rw [z]
          exact ⟨_, ex, fun n hn _ => by rw [rdF, mem_joinN, mem_joinN]; exact .inl (.inl hn)⟩
        · rw [List.mem_singleton.mp z]
          exact ⟨_, ey, fun n hn _ => by rw [rdF, mem_joinN, mem_joinN]; exact .inl (.inr hn)⟩
    | t + 1, e1, _ => simp at e1
  | .whl c a, k, b, X, h, hb, t, nd, Y, e1, e2 => by
    obtain ⟨hbd, hk⟩ := whl_body h
    have ea := entL a (k + 1) k _ hbd hk
    rw [nodeS] at e1
    rw [setS] at e2
    dsimp only at e1
    match t, e1, e2 with
    | 0, e1, e2 =>
      cases e1
      cases e2
      refine ⟨fun n hn => ?_, fun j hj => ?_⟩
      · rw [List.mem_singleton.mp hn]; exact whl_cond
      · rcases List.mem_cons.mp hj with z | z
        · rw [z]; exact ⟨_, ea, fun n hn _ => whl_fix hn⟩
        · rw [List.mem_singleton.mp z]; exact ⟨_, hb, fun n hn _ => whl_sub hn⟩
    | t + 1, e1, e2 => exact cloL a (k + 1) k _ hbd hk t nd Y (by simpa using e1) (by simpa using e2)
theorem cloL : ∀ (l : List Stm) (k : Nat) (b : Int) (X : List Str), At S k (setL l X) → SetAt S b X → ∀ (t : Nat) nd Y, (nodesL l k b).1[t]? = some nd → (setL l X)[t]? = some Y → Clo S nd Y
  | [], k, b, X, _, _, t, nd, Y, e1, _ => by rw [nodesL] at e1; simp at e1
  | s :: r, k, b, X, h, hb, t, nd, Y, e1, e2 => by
    rw [setL] at h
    have hr := h.left
    have hs := h.right
    rw [setL_len] at hs
    have er := entL r k b X hr hb
    rw [nodesL] at e1
    rw [setL] at e2
    dsimp only at e1
    by_cases c1 : t < manyL r
    · rw [List.getElem?_append_left (by rw [nodesL_len]; exact c1)] at e1
      rw [List.getElem?_append_left (by rw [setL_len]; exact c1)] at e2
      exact cloL r k b X hr hb t nd Y e1 e2
    · rw [List.getElem?_append_right (by rw [nodesL_len]; omega), nodesL_len] at e1
      rw [List.getElem?_append_right (by rw [setL_len]; omega), setL_len] at e2
      exact cloS s _ _ _ hs er _ nd Y e1 e2
end
theorem upper {n : Str} {N : List Nd} {v : Nat → Nat → Nat} (hS : Sys n N v) (hl : N.length = S.length) (hc : ∀ (t : Nat) nd Y, N[t]? = some nd → S[t]? = some Y → Clo S nd Y) : ∀ p i Y, S[i]? = some Y → v p i ≠ 0 → n ∈ Y := by
  intro p
  induction p with
  | zero => intro i Y _ h; exact absurd (hS.zero i) h
  | succ p ih =>
    intro i
    induction i using Nat.strongRecOn with
    | _ i ih2 =>
      intro Y hY hv
      have hi := (List.getElem?_eq_some_iff.mp hY).1
      obtain ⟨nd, hnd⟩ : ∃ nd, N[i]? = some nd := ⟨_, List.getElem?_eq_getElem (by omega)⟩
      obtain ⟨c1, c2⟩ := hc i nd Y hnd hY
      rw [hS.step p i nd hnd] at hv
      unfold stepV at hv
      by_cases hn : nd.nm = some n
      · rw [if_pos hn] at hv
        exact c1 n (List.count_pos_iff.mp (by omega))
      · rw [if_neg hn] at hv
        by_cases ho : orAll (seen (v p) (v (p + 1)) i) nd.ah = 0
        · rw [ho, orE_zero] at hv
          exact c1 n (List.count_pos_iff.mp (by omega))
        · have key : ∀ l : List Int, orAll (seen (v p) (v (p + 1)) i) l ≠ 0 → ∃ j ∈ l, seen (v p) (v (p + 1)) i j ≠ 0 := by
            intro l
            induction l with
            | nil => intro h; exact absurd rfl h
            | cons j r ihl =>
              intro h
              by_cases e : seen (v p) (v (p + 1)) i j = 0
              · have h2 : orE (seen (v p) (v (p + 1)) i j) (orAll (seen (v p) (v (p + 1)) i) r) ≠ 0 := h
                rw [e, orE_zero] at h2
                obtain ⟨j', h1, h2⟩ := ihl h2
                exact ⟨j', List.mem_cons_of_mem _ h1, h2⟩
              · exact ⟨j, List.mem_cons_self .., e⟩
          obtain ⟨j, hj, hs⟩ := key _ ho
          obtain ⟨Z, hZ, hsub⟩ := c2 j hj
          refine hsub n ?_ hn
          unfold seen at hs
          rcases hZ with ⟨z1, z2⟩ | ⟨z1, z2⟩
          · rw [if_pos z1] at hs; exact absurd rfl hs
          · rw [if_neg (by omega)] at hs
            split at hs
            · next hlt => exact ih2 _ hlt Z z2 hs
            · exact ih _ Z z2 hs
structure Fix (n : Str) (N : List Nd) (u : Nat → Nat) : Prop where
  eq : ∀ i nd, N[i]? = some nd → u i = stepV n nd (at0 u)
theorem at0_nat {u : Nat → Nat} {k : Nat} : at0 u (k : Int) = u k := by unfold at0; rw [if_neg (by omega), Int.toNat_natCast]
theorem orE_ne {x c : Nat} : orE x c ≠ 0 ↔ x ≠ 0 ∨ c ≠ 0 := by unfold orE; split <;> omega
mutual
theorem lowS {n : Str} {N : List Nd} {u : Nat → Nat} (hF : Fix n N u) : ∀ (s : Stm) (k : Nat) (b : Int) (X : List Str), At N k (nodeS s k b).1 → (n ∈ X → at0 u b ≠ 0) → (n ∈ rdF s X → at0 u (nodeS s k b).2 ≠ 0) ∧ ∀ (t : Nat) Y, (setS s X)[t]? = some Y → n ∈ Y → u (k + t) ≠ 0
  | .deed d, k, b, X, hA, hb => by
    have e := hF.eq k _ (show N[k]? = some _ from hA 0 _ (by rw [nodeS]; rfl))
    have key : n ∈ rdF (.deed d) X → u k ≠ 0 := fun hn => by
      rw [rdF, mem_joinN, List.mem_filter, decide_eq_true_iff] at hn
      rw [e]
      unfold stepV
      dsimp only [orAll]
      split
      · next hnm =>
        rcases hn with ⟨_, z⟩ | z
        · exact absurd (nm_wr.mpr hnm) z
        · exact Nat.ne_of_gt (List.count_pos_iff.mpr z)
      · rw [orE_ne, orE_ne]
        rcases hn with ⟨z, _⟩ | z
        · exact .inl (.inl (hb z))
        · exact .inr (Nat.ne_of_gt (List.count_pos_iff.mpr z))
    refine ⟨fun hn => by rw [nodeS]; dsimp only; rw [at0_nat]; exact key hn, fun t Y e2 hn => ?_⟩
    rw [setS] at e2
    match t, e2 with
    | 0, e2 => cases e2; exact key hn
    | t + 1, e2 => simp at e2
  | .ifs c x y, k, b, X, hA, hb => by
    have hA' := hA
    rw [nodeS] at hA
    dsimp only at hA
    have hA2 := hA.left.right
    rw [nodesL_len] at hA2
    have hA3 := hA.right
    rw [List.length_append, nodesL_len, nodesL_len, ← Nat.add_assoc] at hA3
    obtain ⟨x1, x2⟩ := lowL hF x k b X hA.left.left hb
    obtain ⟨y1, y2⟩ := lowL hF y (k + manyL x) b X hA2 hb
    have e := hF.eq (k + manyL x + manyL y) _ (show N[k + manyL x + manyL y]? = some _ from hA3 0 _ rfl)
    have key : n ∈ rdF (.ifs c x y) X → u (k + manyL x + manyL y) ≠ 0 := fun hn => by
      rw [rdF, mem_joinN, mem_joinN] at hn
      rw [e]
      unfold stepV
      rw [if_neg (by intro z; cases z)]
      dsimp only [orAll]
      rw [orE_ne, orE_ne, orE_ne]
      rcases hn with (z | z) | z
      · exact .inl (.inl (x1 z))
      · exact .inl (.inr (.inl (y1 z)))
      · exact .inr (Nat.ne_of_gt (List.count_pos_iff.mpr z))
    refine ⟨fun hn => by rw [nodeS]; dsimp only; rw [at0_nat]; exact key hn, fun t Y e2 hn => ?_⟩
    rw [setS] at e2
    by_cases c1 : t < manyL x
    · rw [List.append_assoc, List.getElem?_append_left (by rw [setL_len]; exact c1)] at e2
      exact x2 t Y e2 hn
    by_cases c2 : t < manyL x + manyL y
    · rw [List.append_assoc, List.getElem?_append_right (by rw [setL_len]; omega), setL_len, List.getElem?_append_left (by rw [setL_len]; omega)] at e2
      have := y2 _ Y e2 hn
      rwa [show k + manyL x + (t - manyL x) = k + t by omega] at this
    rw [List.getElem?_append_right (by rw [List.length_append, setL_len, setL_len]; omega), List.length_append, setL_len, setL_len] at e2
    cases ht : t - (manyL x + manyL y) with
    | zero =>
      rw [ht] at e2
      cases e2
      rw [show k + t = k + manyL x + manyL y by omega]
      exact key hn
    | succ m => rw [ht] at e2; simp at e2
  | .whl c a, k, b, X, hA, hb => by
    have hA' := hA
    rw [nodeS] at hA
    dsimp only at hA
    have hA2 : At N (k + 1) (nodesL a (k + 1) k).1 := fun t nd e => by
      have := hA (t + 1) nd (by simpa using e)
      rwa [show k + (t + 1) = k + 1 + t by omega] at this
    have e := hF.eq k _ (show N[k]? = some _ from hA 0 _ rfl)
    have key : n ∈ rdF (.whl c a) X → u k ≠ 0 := fun hn => by
      obtain ⟨z1, _⟩ := lowL hF a (k + 1) k [] hA2 (fun h => (List.not_mem_nil h).elim)
      obtain ⟨Ga, Pa, ha⟩ := all_form a
      rw [e]
      unfold stepV
      rw [if_neg (by intro z; cases z)]
      dsimp only [orAll]
      rw [orE_ne, orE_ne, orE_ne]
      rw [rdF, mem_joinN, mem_joinN, ha, mem_joinN] at hn
      have hG : Ga n → at0 u (nodesL a (k + 1) k).2 ≠ 0 := fun g => z1 ((ha [] n).mpr (.inl g))
      rcases hn with (z | z) | (z | ⟨z | z, _⟩)
      · exact .inl (.inr (.inl (hb z)))
      · exact .inr (Nat.ne_of_gt (List.count_pos_iff.mpr z))
      · exact .inl (.inl (hG z))
      · exact .inl (.inr (.inl (hb z)))
      · exact .inr (Nat.ne_of_gt (List.count_pos_iff.mpr z))
    obtain ⟨_, z2⟩ := lowL hF a (k + 1) k (rdF (.whl c a) X) hA2 (fun h => by rw [at0_nat]; exact key h)
    refine ⟨fun hn => by rw [nodeS]; dsimp only; rw [at0_nat]; exact key hn, fun t Y e2 hn => ?_⟩
    rw [setS] at e2
    match t, e2 with
    | 0, e2 => cases e2; exact key hn
    | t + 1, e2 =>
      have := z2 t Y (by simpa using e2) hn
      rwa [show k + 1 + t = k + (t + 1) by omega] at this
theorem lowL {n : Str} {N : List Nd} {u : Nat → Nat} (hF : Fix n N u) : ∀ (l : List Stm) (k : Nat) (b : Int) (X : List Str), At N k (nodesL l k b).1 → (n ∈ X → at0 u b ≠ 0) → (n ∈ allF l X → at0 u (nodesL l k b).2 ≠ 0) ∧ ∀ (t : Nat) Y, (setL l X)[t]? = some Y → n ∈ Y → u (k + t) ≠ 0
  | [], k, b, X, _, hb => by
    rw [nodesL, allF]
    exact ⟨hb, fun t Y e => by rw [setL] at e; simp at e⟩
  | s :: r, k, b, X, hA, hb => by
    have hA' := hA
    rw [nodesL] at hA
    dsimp only at hA
    have hA2 := hA.right
    rw [nodesL_len] at hA2
    obtain ⟨r1, r2⟩ := lowL hF r k b X hA.left hb
    obtain ⟨s1, s2⟩ := lowS hF s (k + manyL r) _ (allF r X) hA2 r1
    rw [nodesL, allF]
    refine ⟨s1, fun t Y e2 hn => ?_⟩
    rw [setL] at e2
    by_cases c1 : t < manyL r
    · rw [List.getElem?_append_left (by rw [setL_len]; exact c1)] at e2
      exact r2 t Y e2 hn
    · rw [List.getElem?_append_right (by rw [setL_len]; omega), setL_len] at e2
      have := s2 _ Y e2 hn
      rwa [show k + manyL r + (t - manyL r) = k + t by omega] at this
end
end
end FX
namespace FX
open PySem L2 FB FS FG FO FR FW PyProof.Rows PySem.Spec
noncomputable def leS (a b : Str) : Bool := !ltCps b.cps.toList a.cps.toList
theorem leS_iff {a b : Str} : leS a b = true ↔ a.cps.toList ≤ b.cps.toList := by
  unfold leS
  rw [ltCps_eq, Bool.not_eq_true', decide_eq_false_iff_not, List.not_lt]
theorem leS_trans (a b c : Str) (h1 : leS a b = true) (h2 : leS b c = true) : leS a c = true := leS_iff.mpr (List.le_trans (leS_iff.mp h1) (leS_iff.mp h2))
theorem leS_total (a b : Str) : (leS a b || leS b a) = true := by
  rw [Bool.or_eq_true, leS_iff, leS_iff]
  exact List.le_total _ _
theorem leS_anti {a b : Str} (h1 : leS a b = true) (h2 : leS b a = true) : a = b := by
  have e := List.le_antisymm (leS_iff.mp h1) (leS_iff.mp h2)
  obtain ⟨x⟩ := a
  obtain ⟨y⟩ := b
  have : x = y := Array.ext' e
  rw [this]
noncomputable def srt (l : List Str) : List Str := l.mergeSort leS
theorem srt_perm (l : List Str) : (srt l).Perm l := List.mergeSort_perm _ _
theorem srt_pair (l : List Str) : (srt l).Pairwise fun a b => leS a b = true := List.pairwise_mergeSort leS_trans leS_total l
theorem pair_of_sorted : ∀ {l : List Str}, sortedS l = true → l.Pairwise fun a b => leS a b = true := by
  have key : ∀ (p : Str) (l : List Str), risingS p l = true → (p :: l).Pairwise fun a b => leS a b = true := by
    intro p l
    induction l generalizing p with
    | nil => intro _; simp
    | cons x r ih =>
      intro h
      have h' : (!ltCps x.cps.toList p.cps.toList && risingS x r) = true := h
      rw [Bool.and_eq_true] at h'
      have ih' := ih x h'.2
      have hpx : leS p x = true := h'.1
      refine List.pairwise_cons.mpr ⟨fun y hy => ?_, ih'⟩
      rcases List.mem_cons.mp hy with z | z
      · rw [z]; exact hpx
      · exact leS_trans _ _ _ hpx ((List.pairwise_cons.mp ih').1 y z)
  intro l h
  cases l with
  | nil => simp
  | cons x r => exact key x r h
theorem srt_unique {l l' : List Str} (h1 : l'.Perm l) (h2 : l'.Pairwise fun a b => leS a b = true) : l' = srt l :=
  List.Perm.eq_of_pairwise (fun a b _ _ h1 h2 => leS_anti h1 h2) h2 (srt_pair l) (h1.trans (srt_perm l).symm)
theorem srt_count {n : Str} {l : List Str} : (srt l).count n = l.count n := (srt_perm l).count_eq n
noncomputable def outF (nd : Nd) (L : List (List Str)) : List Str := nd.ah.foldl (fun f j => if 0 ≤ j then joinN f (L.getD j.toNat []) else f) []
noncomputable def newF (nd : Nd) (L : List (List Str)) : List Str := srt (joinN ((outF nd L).filter fun n => !decide (nd.nm = some n)) nd.rd)
noncomputable def passN (N : List Nd) : Nat → List (List Str) → List (List Str)
  | 0, L => L
  | i + 1, L => match N[i]? with
    | some nd => (passN N i L).set i (newF nd (passN N i L))
    | none => passN N i L
noncomputable def passes (N : List Nd) : Nat → List (List Str)
  | 0 => N.map fun _ => []
  | p + 1 => passN N N.length (passes N p)
theorem passN_len {N : List Nd} {L : List (List Str)} : ∀ i, (passN N i L).length = L.length
  | 0 => rfl
  | i + 1 => by
    rw [passN]
    split
    · rw [List.length_set, passN_len i]
    · exact passN_len i
theorem passes_len {N : List Nd} : ∀ p, (passes N p).length = N.length
  | 0 => by rw [passes, List.length_map]
  | p + 1 => by rw [passes, passN_len, passes_len p]
theorem passN_get {N : List Nd} {L : List (List Str)} : ∀ (i j : Nat), i ≤ j → (passN N i L)[j]? = L[j]?
  | 0, _, _ => rfl
  | i + 1, j, h => by
    rw [passN]
    split
    · rw [List.getElem?_set_ne (by omega), passN_get i j (by omega)]
    · exact passN_get i j (by omega)
theorem passN_old {N : List Nd} {L : List (List Str)} {j : Nat} : ∀ (i : Nat), j < i → (passN N i L)[j]? = (passN N (j + 1) L)[j]?
  | 0, h => by omega
  | i + 1, h => by
    by_cases e : j = i
    · rw [e]
    · rw [← passN_old i (by omega)]
      conv => lhs; rw [passN]
      split
      · rw [List.getElem?_set_ne (by omega)]
      · rfl
theorem passN_new {N : List Nd} {L : List (List Str)} {i : Nat} {nd : Nd} (h : N[i]? = some nd) (hl : i < L.length) : (passN N (i + 1) L)[i]? = some (newF nd (passN N i L)) := by
  rw [passN, h]
  dsimp only
  rw [List.getElem?_set_self (by rw [passN_len]; exact hl)]
theorem join_count {n : Str} {a b : List Str} : (joinN a b).count n = orE (a.count n) (b.count n) := by
  unfold joinN orE
  rw [List.count_append]
  by_cases h : n ∈ a
  · have h1 : (b.filter fun m => decide (m ∉ a)).count n = 0 := List.count_eq_zero.mpr fun z => (of_decide_eq_true (List.mem_filter.mp z).2) h
    have h2 : a.count n ≠ 0 := Nat.ne_of_gt (List.count_pos_iff.mpr h)
    rw [h1, if_neg h2]; rfl
  · have h1 : a.count n = 0 := List.count_eq_zero.mpr h
    rw [h1, if_pos rfl, Nat.zero_add]
    exact List.count_filter (by simpa using h)
theorem out_count {n : Str} {L : List (List Str)} : ∀ (ah : List Int) (f : List Str), (ah.foldl (fun f j => if 0 ≤ j then joinN f (L.getD j.toNat []) else f) f).count n = orE (f.count n) (orAll (fun j => if j < 0 then 0 else (L.getD j.toNat []).count n) ah)
  | [], f => by simp [orAll, orE]
  | j :: r, f => by
    rw [List.foldl_cons, out_count r, orAll]
    by_cases h : 0 ≤ j
    · rw [if_pos h, join_count, if_neg (by omega), orE_assoc]
    · rw [if_neg h, if_pos (by omega), orE_zero]
theorem new_count {n : Str} {nd : Nd} {L : List (List Str)} : (newF nd L).count n = stepV n nd (fun j => if j < 0 then 0 else (L.getD j.toNat []).count n) := by
  unfold newF stepV
  rw [srt_count, join_count]
  by_cases h : nd.nm = some n
  · rw [if_pos h]
    have : ((outF nd L).filter fun m => !decide (nd.nm = some m)).count n = 0 := List.count_eq_zero.mpr fun z => by
      have := (List.mem_filter.mp z).2
      rw [decide_eq_true h] at this
      cases this
    rw [this, orE_zero]
  · rw [if_neg h, List.count_filter (by rw [decide_eq_false h]; rfl)]
    unfold outF
    rw [out_count, List.count_nil, orE_zero]
theorem sys_of (n : Str) (N : List Nd) : Sys n N fun p i => ((passes N p).getD i []).count n := by
  refine ⟨fun i => ?_, fun p i nd hnd => ?_⟩
  · rw [passes, List.getD_eq_getElem?_getD, List.getElem?_map]
    cases N[i]? <;> rfl
  · have hi := (List.getElem?_eq_some_iff.mp hnd).1
    have e : (passes N (p + 1))[i]? = some (newF nd (passN N i (passes N p))) := by
      rw [passes, passN_old _ (by omega), passN_new hnd (by rw [passes_len]; exact hi)]
    rw [List.getD_eq_getElem?_getD, e, Option.getD_some, new_count]
    congr 1
    funext j
    unfold seen
    split
    · rfl
    · split
      · next h1 h2 =>
        show _ = List.count n ((passes N (p + 1)).getD j.toNat [])
        rw [passes, List.getD_eq_getElem?_getD, List.getD_eq_getElem?_getD, passN_old N.length (by omega), ← passN_old i h2]
      · next h1 h2 =>
        show _ = List.count n ((passes N p).getD j.toNat [])
        rw [List.getD_eq_getElem?_getD, List.getD_eq_getElem?_getD, passN_get i _ (by omega)]
theorem ev_all {v : Nat → Nat → Nat} {m : Nat} (h : ∀ i, i < m → EvC (sq v (i : Int))) : ∃ P, ∀ p, P ≤ p → ∀ i, i < m → v (p + 1) i = v p i := by
  induction m with
  | zero => exact ⟨0, fun p _ i hi => by omega⟩
  | succ m ih =>
    obtain ⟨P, hP⟩ := ih fun i hi => h i (by omega)
    obtain ⟨c, R, hR⟩ := h m (by omega)
    refine ⟨max P (R + 1), fun p hp i hi => ?_⟩
    by_cases e : i = m
    · subst e
      have h1 := hR p (by omega)
      have h2 := hR (p - 1) (by omega)
      unfold sq at h1 h2
      rw [at0_nat] at h1 h2
      rw [h1, show p = p - 1 + 1 by omega, h2]
    · exact hP p (by omega) i (by omega)
theorem names_ev {Z : Str → Nat → Prop} (hZ : ∀ n, ∃ P, ∀ p, P ≤ p → Z n p) : ∀ ns : List Str, ∃ P, ∀ p, P ≤ p → ∀ n ∈ ns, Z n p
  | [] => ⟨0, fun p _ n hn => (List.not_mem_nil hn).elim⟩
  | m :: ns => by
    obtain ⟨P, hP⟩ := names_ev hZ ns
    obtain ⟨R, hR⟩ := hZ m
    refine ⟨max P R, fun p hp n hn => ?_⟩
    rcases List.mem_cons.mp hn with z | z
    · rw [z]; exact hR p (by omega)
    · exact hP p (by omega) n z
noncomputable def SortedL (L : List (List Str)) : Prop := ∀ l ∈ L, ∃ l', l = srt l'
theorem srt_srt (l : List Str) : srt (srt l) = srt l := (srt_unique (List.Perm.refl _) (srt_pair l)).symm
theorem sorted_eq {l l' : List Str} (h1 : ∃ k, l = srt k) (h2 : ∃ k, l' = srt k) (h : ∀ n, l.count n = l'.count n) : l = l' := by
  obtain ⟨k, rfl⟩ := h1
  obtain ⟨k', rfl⟩ := h2
  have := srt_unique (l := srt k') (List.perm_iff_count.mpr h) (srt_pair k)
  rw [this, srt_srt]
theorem passN_sorted {N : List Nd} {L : List (List Str)} (h : SortedL L) : ∀ i, SortedL (passN N i L)
  | 0 => h
  | i + 1 => by
    rw [passN]
    split
    · intro l hl
      rcases List.mem_or_eq_of_mem_set hl with z | z
      · exact passN_sorted h i l z
      · exact ⟨_, z⟩
    · exact passN_sorted h i
theorem passes_sorted {N : List Nd} : ∀ p, SortedL (passes N p)
  | 0 => by
    intro l hl
    rw [passes] at hl
    obtain ⟨_, _, rfl⟩ := List.mem_map.mp hl
    exact ⟨[], by simp [srt]⟩
  | p + 1 => passN_sorted (passes_sorted p) _
noncomputable def nodesOf (ss : List Stm) : List Nd := (nodesL ss 0 (-1)).1
theorem nodesOf_len (ss : List Stm) : (nodesOf ss).length = manyL ss := nodesL_len ss 0 (-1)
theorem at_self {α : Type} {l : List α} : At l 0 l := fun t nd e => by rw [Nat.zero_add]; exact e
theorem pass_names {N : List Nd} {ns : List Str} (h : ∀ nd ∈ N, ∀ n ∈ nd.rd, n ∈ ns) : ∀ p, ∀ l ∈ passes N p, ∀ n ∈ l, n ∈ ns := by
  have key : ∀ n, n ∉ ns → ∀ p i, ((passes N p).getD i []).count n = 0 := by
    intro n hn
    have S := sys_of n N
    have hr : ∀ nd ∈ N, nd.rd.count n = 0 := fun nd hnd => List.count_eq_zero.mpr fun z => hn (h nd hnd n z)
    intro p
    induction p with
    | zero => exact S.zero
    | succ p ih =>
      intro i
      induction i using Nat.strongRecOn with
      | _ i ih2 =>
        cases hnd : N[i]? with
        | none =>
          have : (passes N (p + 1))[i]? = none := by
            rw [List.getElem?_eq_none_iff, passes_len]; exact List.getElem?_eq_none_iff.mp hnd
          rw [List.getD_eq_getElem?_getD, this]; rfl
        | some nd =>
          have e := S.step p i nd hnd
          rw [e]
          unfold stepV
          rw [hr nd (List.mem_of_getElem? hnd)]
          split
          · rfl
          · have ho : ∀ l : List Int, orAll (seen (fun i => ((passes N p).getD i []).count n) (fun i => ((passes N (p + 1)).getD i []).count n) i) l = 0 := by
              intro l
              induction l with
              | nil => rfl
              | cons j r ihl =>
                rw [orAll, ihl]
                unfold seen
                split
                · rfl
                · split
                  · next hlt => dsimp only; rw [ih2 _ hlt]; rfl
                  · dsimp only; rw [ih]; rfl
            rw [ho]; rfl
  intro p l hl n hn
  by_cases e : n ∈ ns
  · exact e
  · obtain ⟨i, hi, rfl⟩ := List.mem_iff_getElem.mp hl
    have := key n e p i
    rw [List.getD_eq_getElem?_getD, List.getElem?_eq_getElem hi, Option.getD_some] at this
    exact absurd hn (List.count_eq_zero.mp this)
theorem passes_stop (ss : List Stm) : ∃ P, ∀ p, P ≤ p → passes (nodesOf ss) (p + 1) = passes (nodesOf ss) p := by
  have ev : ∀ n, ∃ P, ∀ p, P ≤ p → ∀ i, i < manyL ss → ((passes (nodesOf ss) (p + 1)).getD i []).count n = ((passes (nodesOf ss) p).getD i []).count n := fun n => by
    refine ev_all (v := fun p i => ((passes (nodesOf ss) p).getD i []).count n) fun i hi => ?_
    exact allL (sys_of n (nodesOf ss)) ss 0 (-1) (by omega) at_self ⟨0, 0, fun p _ => rfl⟩ i (by omega) (by omega)
  obtain ⟨P, hP⟩ := names_ev ev ((nodesOf ss).flatMap fun nd => nd.rd)
  refine ⟨P, fun p hp => ?_⟩
  apply List.ext_getElem
  · rw [passes_len, passes_len]
  · intro i h1 h2
    have hi : i < manyL ss := by rw [passes_len, nodesOf_len] at h1; exact h1
    refine sorted_eq (passes_sorted _ _ (List.getElem_mem h1)) (passes_sorted _ _ (List.getElem_mem h2)) fun n => ?_
    by_cases hn : n ∈ (nodesOf ss).flatMap fun nd => nd.rd
    · have := hP p hp n hn i hi
      rwa [List.getD_eq_getElem?_getD, List.getD_eq_getElem?_getD, List.getElem?_eq_getElem h1, List.getElem?_eq_getElem h2] at this
    · have hz : ∀ q l, l ∈ passes (nodesOf ss) q → l.count n = 0 := fun q l hl => List.count_eq_zero.mpr fun z => hn (pass_names (fun nd hnd m hm => List.mem_flatMap.mpr ⟨nd, hnd, hm⟩) q l hl n z)
      rw [hz _ _ (List.getElem_mem h1), hz _ _ (List.getElem_mem h2)]
theorem stop_mem {ss : List Stm} {p : Nat} (h : passes (nodesOf ss) (p + 1) = passes (nodesOf ss) p) {i : Nat} {Y : List Str} (hY : (setL ss [])[i]? = some Y) (n : Str) : n ∈ (passes (nodesOf ss) p).getD i [] ↔ n ∈ Y := by
  have S := sys_of n (nodesOf ss)
  rw [← List.count_pos_iff]
  constructor
  · intro hc
    refine upper (S := setL ss []) S (by rw [nodesOf_len, setL_len]) (fun t nd Y e1 e2 => ?_) p i Y hY (by omega)
    exact cloL ss 0 (-1) [] at_self (.inl ⟨by omega, rfl⟩) t nd Y e1 e2
  · intro hn
    have F : Fix n (nodesOf ss) fun i => ((passes (nodesOf ss) p).getD i []).count n := ⟨fun i nd hnd => by
      have e := S.step p i nd hnd
      rw [h] at e
      rw [e]
      congr 1
      funext j
      unfold seen at0
      split
      · rfl
      · split <;> rfl⟩
    have := (lowL F ss 0 (-1) [] at_self (fun h => (List.not_mem_nil h).elim)).2 i Y hY hn
    rw [Nat.zero_add] at this
    omega
mutual
noncomputable def idleS : Stm → List Str → Nat
  | .deed d, X => if ∀ n ∈ d.writes, n ∈ X then 0 else 1
  | .ifs _ a b, X => idleL a X + idleL b X
  | .whl n a, X => idleL a (rdF (.whl n a) X)
noncomputable def idleL : List Stm → List Str → Nat
  | [], _ => 0
  | s :: r, X => idleL r X + idleS s (allF r X)
end
noncomputable def isIdle (S : List (List Str)) (nd : Nd) : Bool := match nd.nm with
  | none => false
  | some n => !(nd.ah.any fun j => decide (0 ≤ j) && decide (n ∈ S.getD j.toNat []))
mutual
theorem cntS {S : List (List Str)} : ∀ (s : Stm) (k : Nat) (b : Int) (X : List Str), At S k (setS s X) → SetAt S b X → ((nodeS s k b).1.filter (isIdle S)).length = idleS s X
  | .deed d, k, b, X, h, hb => by
    rw [nodeS, idleS]
    have hin : ∀ n, (decide (0 ≤ b) && decide (n ∈ S.getD b.toNat [])) = decide (n ∈ X) := fun n => by
      rcases hb with ⟨z1, z2⟩ | ⟨z1, z2⟩
      · rw [decide_eq_false (show ¬ 0 ≤ b by omega), z2]; simp
      · rw [decide_eq_true z1, Bool.true_and, List.getD_eq_getElem?_getD, z2]; rfl
    cases d with
    | tell a =>
      rw [if_pos (fun n hn => by cases hn)]
      rfl
    | copy c a =>
      have e : isIdle S ⟨(Deed.copy c a).reads, Deed.nm (.copy c a), [b]⟩ = !decide (c ∈ X) := by
        show (!([b].any fun j => decide (0 ≤ j) && decide (c ∈ S.getD j.toNat []))) = _
        rw [List.any_cons, List.any_nil, Bool.or_false, hin]
      have e2 : (∀ n ∈ [c], n ∈ X) ↔ c ∈ X := by simp
      rw [List.filter_cons, e]
      by_cases hc : c ∈ X
      · rw [decide_eq_true hc]
        exact (if_pos (e2.mpr hc)).symm
      · rw [decide_eq_false hc]
        exact (if_neg (fun z => hc (e2.mp z))).symm
    | op f c x y =>
      have e : isIdle S ⟨(Deed.op f c x y).reads, Deed.nm (.op f c x y), [b]⟩ = !decide (c ∈ X) := by
        show (!([b].any fun j => decide (0 ≤ j) && decide (c ∈ S.getD j.toNat []))) = _
        rw [List.any_cons, List.any_nil, Bool.or_false, hin]
      have e2 : (∀ n ∈ [c], n ∈ X) ↔ c ∈ X := by simp
      rw [List.filter_cons, e]
      by_cases hc : c ∈ X
      · rw [decide_eq_true hc]
        exact (if_pos (e2.mpr hc)).symm
      · rw [decide_eq_false hc]
        exact (if_neg (fun z => hc (e2.mp z))).symm
  | .ifs c x y, k, b, X, h, hb => by
    rw [setS] at h
    have hy := h.left.right
    rw [setL_len] at hy
    rw [nodeS, idleS, List.filter_append, List.filter_append, List.length_append, List.length_append, cntL x k b X h.left.left hb, cntL y (k + manyL x) b X hy hb]
    rfl
  | .whl c a, k, b, X, h, hb => by
    obtain ⟨h1, h2⟩ := whl_body h
    rw [nodeS, idleS, List.filter_cons, ← cntL a (k + 1) k _ h1 h2]
    rfl
theorem cntL {S : List (List Str)} : ∀ (l : List Stm) (k : Nat) (b : Int) (X : List Str), At S k (setL l X) → SetAt S b X → ((nodesL l k b).1.filter (isIdle S)).length = idleL l X
  | [], k, b, X, _, _ => by rw [nodesL, idleL]; rfl
  | s :: r, k, b, X, h, hb => by
    rw [setL] at h
    have hs := h.right
    rw [setL_len] at hs
    rw [nodesL, idleL, List.filter_append, List.length_append, cntL r k b X h.left hb, cntS s _ _ _ hs (entL r k b X h.left hb)]
end
theorem few_perm {ns l l' : List Str} (h : Few ns l) (hp : l'.Perm l) : Few ns l' := ⟨fun n hn => h.sub n (hp.mem_iff.mp hn), fun n => by rw [hp.count_eq n]; exact h.two n⟩
theorem few_out {ns : List Str} {L : List (List Str)} (hL : ∀ l ∈ L, Few ns l) : ∀ (ah : List Int) (f : List Str), Few ns f → Few ns (ah.foldl (fun f j => if 0 ≤ j then joinN f (L.getD j.toNat []) else f) f)
  | [], f, h => h
  | j :: r, f, h => by
    rw [List.foldl_cons]
    refine few_out hL r _ ?_
    split
    · refine h.join ?_
      rw [List.getD_eq_getElem?_getD]
      cases e : L[j.toNat]? with
      | none => exact few_nil
      | some l => exact hL l (List.mem_of_getElem? e)
    · exact h
theorem few_pre {ns : List Str} {nd : Nd} {L : List (List Str)} (hL : ∀ l ∈ L, Few ns l) (hr : Few ns nd.rd) : Few ns (outF nd L) ∧ Few ns (joinN ((outF nd L).filter fun n => !decide (nd.nm = some n)) nd.rd) :=
  ⟨few_out hL _ _ few_nil, ((few_out hL _ _ few_nil).filt _).join hr⟩
theorem few_passN {ns : List Str} {N : List Nd} {L : List (List Str)} (hN : ∀ nd ∈ N, Few ns nd.rd) (hL : ∀ l ∈ L, Few ns l) : ∀ i, ∀ l ∈ passN N i L, Few ns l
  | 0 => hL
  | i + 1 => by
    rw [passN]
    split
    · next nd hnd =>
      intro l hl
      rcases List.mem_or_eq_of_mem_set hl with z | z
      · exact few_passN hN hL i l z
      · rw [z]
        exact few_perm (few_pre (few_passN hN hL i) (hN nd (List.mem_of_getElem? hnd))).2 (srt_perm _)
    · exact few_passN hN hL i
theorem few_passes {ns : List Str} {N : List Nd} (hN : ∀ nd ∈ N, Few ns nd.rd) : ∀ p, ∀ l ∈ passes N p, Few ns l
  | 0 => by
    intro l hl
    rw [passes] at hl
    obtain ⟨_, _, rfl⟩ := List.mem_map.mp hl
    exact few_nil
  | p + 1 => few_passN hN (few_passes hN p) _
mutual
theorem nodeS_rd {ns : List Str} {w : Int} : ∀ (s : Stm) (k : Nat) (b : Int), s.good ns w → ∀ nd ∈ (nodeS s k b).1, Few ns nd.rd
  | .deed d, k, b, h, nd, hn => by
    rw [nodeS] at hn
    rw [List.mem_singleton.mp hn]
    exact Deed.few h
  | .ifs c x y, k, b, h, nd, hn => by
    rw [nodeS] at hn
    rcases List.mem_append.mp hn with z | z
    · rcases List.mem_append.mp z with z | z
      · exact nodesL_rd x k b h.2.1 nd z
      · exact nodesL_rd y _ b h.2.2 nd z
    · rw [List.mem_singleton.mp z]; exact .one h.1
  | .whl c a, k, b, h, nd, hn => by
    rw [nodeS] at hn
    rcases List.mem_cons.mp hn with z | z
    · rw [z]; exact .one h.1
    · exact nodesL_rd a _ _ h.2 nd z
theorem nodesL_rd {ns : List Str} {w : Int} : ∀ (l : List Stm) (k : Nat) (b : Int), goodL ns w l → ∀ nd ∈ (nodesL l k b).1, Few ns nd.rd
  | [], k, b, _, nd, hn => by rw [nodesL] at hn; exact (List.not_mem_nil hn).elim
  | s :: r, k, b, h, nd, hn => by
    rw [nodesL] at hn
    rcases List.mem_append.mp hn with z | z
    · exact nodesL_rd r k b h.2 nd z
    · exact nodeS_rd s _ _ h.1 nd z
end
mutual
theorem nodeS_ah : ∀ (s : Stm) (k : Nat) (b : Int), b < k → ∀ nd ∈ (nodeS s k b).1, nd.ah.length ≤ 2 ∧ ∀ j ∈ nd.ah, j < (k + s.many : Nat)
  | .deed d, k, b, hb, nd, hn => by
    rw [nodeS] at hn
    rw [List.mem_singleton.mp hn, Stm.many]
    exact ⟨by simp, fun j hj => by rw [List.mem_singleton.mp hj]; omega⟩
  | .ifs c x y, k, b, hb, nd, hn => by
    rw [nodeS] at hn
    rw [Stm.many]
    have l1 := nodesL_lt (l := x) hb
    have l2 := nodesL_lt (l := y) (k := k + manyL x) (b := b) (by omega)
    rcases List.mem_append.mp hn with z | z
    · rcases List.mem_append.mp z with z | z
      · have := nodesL_ah x k b hb nd z
        exact ⟨this.1, fun j hj => by have := this.2 j hj; omega⟩
      · have := nodesL_ah y _ b (by omega) nd z
        exact ⟨this.1, fun j hj => by have := this.2 j hj; omega⟩
    · rw [List.mem_singleton.mp z]
      refine ⟨by simp, fun j hj => ?_⟩
      rcases List.mem_cons.mp hj with z | z
      · omega
      · rw [List.mem_singleton.mp z]; omega
  | .whl c a, k, b, hb, nd, hn => by
    rw [nodeS] at hn
    rw [Stm.many]
    have l1 := nodesL_lt (l := a) (k := k + 1) (b := k) (by omega)
    rcases List.mem_cons.mp hn with z | z
    · rw [z]
      refine ⟨by simp, fun j hj => ?_⟩
      rcases List.mem_cons.mp hj with z | z
      · omega
      · rw [List.mem_singleton.mp z]; omega
    · have := nodesL_ah a _ _ (by omega) nd z
      exact ⟨this.1, fun j hj => by have := this.2 j hj; omega⟩
theorem nodesL_ah : ∀ (l : List Stm) (k : Nat) (b : Int), b < k → ∀ nd ∈ (nodesL l k b).1, nd.ah.length ≤ 2 ∧ ∀ j ∈ nd.ah, j < (k + manyL l : Nat)
  | [], k, b, _, nd, hn => by rw [nodesL] at hn; exact (List.not_mem_nil hn).elim
  | s :: r, k, b, hb, nd, hn => by
    rw [nodesL] at hn
    rw [manyL]
    have l1 := nodesL_lt (l := r) hb
    rcases List.mem_append.mp hn with z | z
    · have := nodesL_ah r k b hb nd z
      exact ⟨this.1, fun j hj => by have := this.2 j hj; omega⟩
    · have := nodeS_ah s _ _ (by omega) nd z
      exact ⟨this.1, fun j hj => by have := this.2 j hj; omega⟩
end
theorem mem_foldl {n : Str} {L : List (List Str)} : ∀ (ah : List Int) (f : List Str), n ∈ ah.foldl (fun f j => if 0 ≤ j then joinN f (L.getD j.toNat []) else f) f ↔ n ∈ f ∨ ∃ j ∈ ah, 0 ≤ j ∧ n ∈ L.getD j.toNat []
  | [], f => by simp
  | j :: r, f => by
    rw [List.foldl_cons, mem_foldl r]
    by_cases h : 0 ≤ j
    · rw [if_pos h, mem_joinN]
      constructor
      · rintro ((z | z) | ⟨k, hk, z⟩)
        · exact .inl z
        · exact .inr ⟨j, List.mem_cons_self .., h, z⟩
        · exact .inr ⟨k, List.mem_cons_of_mem _ hk, z⟩
      · rintro (z | ⟨k, hk, h0, z⟩)
        · exact .inl (.inl z)
        · rcases List.mem_cons.mp hk with e | e
          · rw [e] at z; exact .inl (.inr z)
          · exact .inr ⟨k, e, h0, z⟩
    · rw [if_neg h]
      constructor
      · rintro (z | ⟨k, hk, z⟩)
        · exact .inl z
        · exact .inr ⟨k, List.mem_cons_of_mem _ hk, z⟩
      · rintro (z | ⟨k, hk, h0, z⟩)
        · exact .inl z
        · rcases List.mem_cons.mp hk with e | e
          · rw [e] at h0; exact absurd h0 h
          · exact .inr ⟨k, e, h0, z⟩
theorem isIdle_some {L : List (List Str)} {nd : Nd} {n : Str} (h : nd.nm = some n) : isIdle L nd = !decide (n ∈ outF nd L) := by
  unfold isIdle
  rw [h]
  dsimp only
  congr 1
  rw [Bool.eq_iff_iff, List.any_eq_true, decide_eq_true_iff]
  unfold outF
  rw [mem_foldl]
  constructor
  · rintro ⟨j, hj, hd⟩
    rw [Bool.and_eq_true, decide_eq_true_iff, decide_eq_true_iff] at hd
    exact .inr ⟨j, hj, hd⟩
  · rintro (z | ⟨j, hj, h0, z⟩)
    · exact (List.not_mem_nil z).elim
    · exact ⟨j, hj, by rw [decide_eq_true h0, decide_eq_true z]; rfl⟩
theorem isIdle_none {L : List (List Str)} {nd : Nd} (h : nd.nm = none) : isIdle L nd = false := by unfold isIdle; rw [h]
theorem set_self {L : List (List Str)} {i : Nat} {x : List Str} (h : L[i]? = some x) : L.set i x = L := by
  apply List.ext_getElem?
  intro j
  by_cases e : i = j
  · subst e
    rw [List.getElem?_set_self (List.getElem?_eq_some_iff.mp h).1, h]
  · rw [List.getElem?_set_ne e]
theorem pass_turn {N : List Nd} {L : List (List Str)} {i : Nat} {nd : Nd} {x : List Str} (hnd : N[i]? = some nd) (hx : L[i]? = some x) :
    passN N (i + 1) L = (passN N i L).set i (newF nd (passN N i L)) ∧ (newF nd (passN N i L) = x → passN N (i + 1) L = passN N i L) ∧ (newF nd (passN N i L) ≠ x → passN N (i + 1) L ≠ L) := by
  have e : passN N (i + 1) L = (passN N i L).set i (newF nd (passN N i L)) := by rw [passN, hnd]
  refine ⟨e, fun h => ?_, fun h z => ?_⟩
  · rw [e, h]; exact set_self (by rw [passN_get i i (Nat.le_refl _)]; exact hx)
  · have := passN_new hnd (L := L) (List.getElem?_eq_some_iff.mp hx).1
    rw [z, hx] at this
    exact h (Option.some.inj this).symm
end FX
namespace L2
open PySem PySem.Spec PyProof.Rows
section
variable {X : Cx}
theorem strs_vals : ∀ {us : List Value} {ns : List Str}, StrsAre us ns → Vals (ns.map V.str) us
  | _, _, .nil => .nil
  | _, _, .cons y t h => .cons ⟨t, rfl⟩ (strs_vals h)
noncomputable def rSortedS (K : PySem.W.Frag) : List V → Hp → VK → Prop := fun xs H Q => ∃ (a : Addr) (ns : List Str), xs = [.ref a] ∧ SqL K H a (ns.map V.str) ∧ ns.length < 64 ∧ ∀ l : Addr, H l = none → Q (.ref l) (upd H l (.lst ((FX.srt ns).map V.str)))
theorem call_sortedS : CallR X (.builtin "sorted") (rSortedS X.K) := by
  intro pins s σ H xs us Q I r h
  obtain ⟨a, ns, rfl, hq, h64, q⟩ := h
  obtain ⟨u, rfl, ru⟩ := vals1 r
  cases ru
  obtain ⟨its, rv, pl, _⟩ := I.list hq
  have hl := rv.length
  rw [List.length_map] at hl
  refine sorted_strs (vs := its) pl.isList (vals_strs rv) (by omega) fun out ns' a1 a2 a3 => ?_
  have eq := FX.srt_unique a2 (FX.pair_of_sorted a3)
  subst eq
  obtain ⟨e, he⟩ := sortedAll_at s.heap its out
  have hk : ∀ b o, s.heap.get? b = some o → (sortedAll s.heap its out).get? b = some o := fun _ _ => sortedAll_old
  refine ⟨.ref (s.heap.objs.size + 1), _, I.laid (t' := s.toks) hk (Nat.le_succ _) (show ObjOk X.prog X.w _ (sortedAll s.heap its out) _ (.lst ((FX.srt ns).map V.str)) from ⟨?_, out.toList, e, strs_vals a1, ?_⟩), rfl, q _ (I.hok.fresh (Nat.le_succ _))⟩
  · rw [List.length_map, a2.length_eq, sizeLine_eq]; omega
  · rw [Array.toArray_toList]; exact he
theorem r_sortedS {K : PySem.W.Frag} {a : Addr} {H : Hp} {Q : VK} : rSortedS K [.ref a] H Q = ∃ ns : List Str, SqL K H a (ns.map V.str) ∧ ns.length < 64 ∧ ∀ l : Addr, H l = none → Q (.ref l) (upd H l (.lst ((FX.srt ns).map V.str))) := propext ⟨by rintro ⟨_, ns, e, q⟩; cases e; exact ⟨ns, q⟩, by rintro ⟨ns, q⟩; exact ⟨a, ns, rfl, q⟩⟩
end
end L2
namespace GB
open PySem L2 FB FS FG FO FR FW FX PyProof.Rows
noncomputable def SqF (K : PySem.W.Frag) (H : Hp) : Prop := ∀ (a : Addr) (xs ys : List V), SqT K H a xs → SqT K H a ys → xs = ys
noncomputable def rNeF (K : PySem.W.Frag) (n : Nat) : R2 := fun x y H Q => ∃ b, (SqF K H → Rq K H n x y b) ∧ Q (.bl (!b)) H
theorem op_neF {X : Cx} {n : Nat} (hu : X.A.units + (n + 1) < cLine) : OpR X (compareOp .NotEq) (rNeF X.K n) := fun pins s σ H x y v u Q I rx ry ⟨b, d, q⟩ =>
  op_neD hu pins s σ H x y v u Q I rx ry ⟨b, d fun _ _ _ h h' => I.tuple_inj h h', q⟩
theorem opd_inj {o o' : Opd} (h : o.v = o'.v) : o = o' := by
  cases o <;> cases o' <;> first | (injection h with h; rw [h]) | cases h
theorem vs_inj {d d' : Deed} (h : d.vs = d'.vs) : d = d' := by
  cases d with
  | tell a =>
    cases d' with
    | tell a' =>
      obtain ⟨_, h2⟩ := List.cons.inj h
      rw [opd_inj (List.cons.inj h2).1]
    | copy n a' => exact absurd (congrArg List.length h) (by simp [Deed.vs])
    | op f n a' b' => exact absurd (congrArg List.length h) (by simp [Deed.vs])
  | copy n a =>
    cases d' with
    | tell a' => exact absurd (congrArg List.length h) (by simp [Deed.vs])
    | copy n' a' =>
      obtain ⟨_, h2⟩ := List.cons.inj h
      obtain ⟨h3, h4⟩ := List.cons.inj h2
      rw [opd_inj (List.cons.inj h4).1, V.str.inj h3]
    | op f n a' b' => exact absurd (congrArg List.length h) (by simp [Deed.vs])
  | op f n a b =>
    cases d' with
    | tell a' => exact absurd (congrArg List.length h) (by simp [Deed.vs])
    | copy n' a' => exact absurd (congrArg List.length h) (by simp [Deed.vs])
    | op f' n' a' b' =>
      obtain ⟨h1, h2⟩ := List.cons.inj h
      obtain ⟨h3, h4⟩ := List.cons.inj h2
      obtain ⟨h5, h6⟩ := List.cons.inj h4
      rw [opd_inj h5, opd_inj (List.cons.inj h6).1, V.str.inj h3, V.str.inj h1]
theorem vs_if {d : Deed} {n : Str} {a b : Addr} (h : d.vs = [.str "if", .str n, .ref a, .ref b]) : False := by
  cases d with
  | tell o => exact absurd (congrArg List.length h) (by simp [Deed.vs])
  | copy m o => exact absurd (congrArg List.length h) (by simp [Deed.vs])
  | op f m o o' =>
    have h5 := (List.cons.inj (List.cons.inj (List.cons.inj h).2).2).1
    cases o <;> cases h5
theorem vs_wh {d : Deed} {n : Str} {a : Addr} (h : d.vs = [.str "while", .str n, .ref a]) : False := by
  cases d with
  | tell o => exact absurd (congrArg List.length h) (by simp [Deed.vs])
  | op f m o o' => exact absurd (congrArg List.length h) (by simp [Deed.vs])
  | copy m o =>
    have h5 := (List.cons.inj (List.cons.inj (List.cons.inj h).2).2).1
    cases o <;> cases h5
section
variable {K : PySem.W.Frag} {H : Hp}
mutual
theorem funS (hF : SqF K H) : ∀ (s : Stm) {s' : Stm} {x : V} {f g : List Addr}, StmV K H x s f → StmV K H x s' g → s = s'
  | .deed d, s', x, f, g, h1, h2 => by
    cases h1 with
    | deed _ e1 =>
      cases h2 with
      | deed _ e2 => rw [vs_inj (hF _ _ _ e1 e2)]
      | ifs e2 => exact (vs_if (hF _ _ _ e1 e2)).elim
      | whl e2 => exact (vs_wh (hF _ _ _ e1 e2)).elim
  | .ifs n x y, s', v, f, g, h1, h2 => by
    cases h1 with
    | ifs e1 ea eb sa sb =>
      cases h2 with
      | deed _ e2 => exact (vs_if (hF _ _ _ e2 e1)).elim
      | ifs e2 ea' eb' sa' sb' =>
        have h := hF _ _ _ e1 e2
        cases h
        rw [ea] at ea'
        rw [eb] at eb'
        cases ea'
        cases eb'
        rw [funL hF x sa sa', funL hF y sb sb']
      | whl e2 => exact absurd (congrArg List.length (hF _ _ _ e1 e2)) (by simp)
  | .whl n a, s', v, f, g, h1, h2 => by
    cases h1 with
    | whl e1 ea sa =>
      cases h2 with
      | deed _ e2 => exact (vs_wh (hF _ _ _ e2 e1)).elim
      | ifs e2 => exact absurd (congrArg List.length (hF _ _ _ e1 e2)) (by simp)
      | whl e2 ea' sa' =>
        have h := hF _ _ _ e1 e2
        cases h
        rw [ea] at ea'
        cases ea'
        rw [funL hF a sa sa']
theorem funL (hF : SqF K H) : ∀ (l : List Stm) {l' : List Stm} {xs : List V} {f g : List Addr}, StmsV K H xs l f → StmsV K H xs l' g → l = l'
  | [], l', xs, f, g, h1, h2 => by
    cases h1
    cases h2
    rfl
  | s :: r, l', xs, f, g, h1, h2 => by
    cases h1 with
    | cons a1 t1 =>
      cases h2 with
      | cons a2 t2 => rw [funS hF s a1 a2, funL hF r t1 t2]
end
theorem all_iff {bs : List Bool} {n : Nat} (hl : bs.length = n) : ((List.range n).all fun j => bs.getD j true) = true ↔ ∀ b ∈ bs, b = true := by
  rw [List.all_eq_true]
  constructor
  · intro h b hb
    obtain ⟨j, hj⟩ := List.getElem?_of_mem hb
    have := h j (List.mem_range.mpr (by have := (List.getElem?_eq_some_iff.mp hj).1; omega))
    rw [List.getD_eq_getElem?_getD, hj] at this
    exact this
  · intro h j _
    rw [List.getD_eq_getElem?_getD]
    cases hj : bs[j]? with
    | none => rfl
    | some b => exact h b (List.mem_of_getElem? hj)
mutual
theorem dqS (hF : SqF K H) : ∀ {s s' : Stm}, AlnS s s' → ∀ {x y : V} {f g : List Addr} {n : Nat}, StmV K H x s f → StmV K H y s' g → 2 * s.deep + 1 ≤ n → ∃ b, Dq K H n x y b ∧ (b = true ↔ s = s')
  | _, _, .deed (d := d), _, _, _, _, n + 1, .deed (q := q) _ h1, .deed (q := q') _ h2, _ => by
    by_cases e : q = q'
    · subst e; exact ⟨true, .same, fun _ => rfl, fun _ => rfl⟩
    · refine ⟨_, .tups (fun _ => true) e h1 h2 (deed_dq d), fun _ => rfl, fun _ => ?_⟩
      rw [all_of fun _ _ => rfl]; simp
  | _, _, .ifs ha hb, _, _, _, _, n + 1, .ifs (q := q) (a := a) (b := b) h1 ea eb sa sb, .ifs (q := q') (a := a') (b := b') h2 ea' eb' sa' sb', hn => by
    rw [Stm.deep] at hn
    obtain ⟨b1, d1, t1⟩ := dqL hF ha ea ea' sa sa' (n := n) (by omega)
    obtain ⟨b2, d2, t2⟩ := dqL hF hb eb eb' sb sb' (n := n) (by omega)
    by_cases e : q = q'
    · subst e; exact ⟨true, .same, fun _ => funS hF _ (.ifs h1 ea eb sa sb) (.ifs h2 ea' eb' sa' sb'), fun _ => rfl⟩
    · refine ⟨_, .tups (fun j => match j with | 2 => b1 | 3 => b2 | _ => true) e h1 h2 (fun j x y hx hy => ?_), ?_⟩
      · match j, hx, hy with
        | 0, hx, hy => cases hx; cases hy; exact dq_str
        | 1, hx, hy => cases hx; cases hy; exact dq_str
        | 2, hx, hy => cases hx; cases hy; exact d1
        | 3, hx, hy => cases hx; cases hy; exact d2
        | j + 4, hx, _ => simp at hx
      · have z : ((List.range 4).all (fun j => match j with | 2 => b1 | 3 => b2 | _ => true) && 4 == 4) = (b1 && b2) := by cases b1 <;> cases b2 <;> rfl
        show ((List.range 4).all (fun j => match j with | 2 => b1 | 3 => b2 | _ => true) && 4 == 4) = true ↔ _
        rw [z, Bool.and_eq_true, t1, t2]
        constructor
        · rintro ⟨rfl, rfl⟩; rfl
        · intro h; cases h; exact ⟨rfl, rfl⟩
  | _, _, .whl ha, _, _, _, _, n + 1, .whl (q := q) (a := a) h1 ea sa, .whl (q := q') (a := a') h2 ea' sa', hn => by
    rw [Stm.deep] at hn
    obtain ⟨b1, d1, t1⟩ := dqL hF ha ea ea' sa sa' (n := n) (by omega)
    by_cases e : q = q'
    · subst e; exact ⟨true, .same, fun _ => funS hF _ (.whl h1 ea sa) (.whl h2 ea' sa'), fun _ => rfl⟩
    · refine ⟨_, .tups (fun j => match j with | 2 => b1 | _ => true) e h1 h2 (fun j x y hx hy => ?_), ?_⟩
      · match j, hx, hy with
        | 0, hx, hy => cases hx; cases hy; exact dq_str
        | 1, hx, hy => cases hx; cases hy; exact dq_str
        | 2, hx, hy => cases hx; cases hy; exact d1
        | j + 3, hx, _ => simp at hx
      · have z : ((List.range 3).all (fun j => match j with | 2 => b1 | _ => true) && 3 == 3) = b1 := by cases b1 <;> rfl
        show ((List.range 3).all (fun j => match j with | 2 => b1 | _ => true) && 3 == 3) = true ↔ _
        rw [z, t1]
        constructor
        · rintro rfl; rfl
        · intro h; cases h; rfl
theorem dqL (hF : SqF K H) : ∀ {l l' : List Stm}, AlnL l l' → ∀ {a a' : Addr} {xs ys : List V} {f g : List Addr} {n : Nat}, H a = some (.lst xs) → H a' = some (.lst ys) → StmsV K H xs l f → StmsV K H ys l' g → 2 * deepL l + 2 ≤ n → ∃ b, Dq K H n (.ref a) (.ref a') b ∧ (b = true ↔ l = l')
  | l, _, .lens hl, a, a', _, _, _, _, n + 1, ea, ea', sa, sa', _ => by
    by_cases e : a = a'
    · subst e
      rw [ea] at ea'
      cases ea'
      exact ⟨true, .same, fun _ => funL hF l sa sa', fun _ => rfl⟩
    · exact ⟨false, .lens e (SqL.of ea) (SqL.of ea') (by rw [sa.length, sa'.length]; exact hl), (fun h => by cases h), fun h => absurd (congrArg List.length h) hl⟩
  | l, _, .alike hp, a, a', _, _, _, _, n + 1, ea, ea', sa, sa', hn => by
    by_cases e : a = a'
    · subst e
      rw [ea] at ea'
      cases ea'
      exact ⟨true, .same, fun _ => funL hF l sa sa', fun _ => rfl⟩
    · obtain ⟨bs, hd, ht, hl, hb⟩ := dqP hF hp sa sa' (n := n) (by omega)
      exact ⟨_, .lists (fun j => bs.getD j true) e (SqL.of ea) (SqL.of ea') hl hd, (all_iff hb).trans ht⟩
theorem dqP (hF : SqF K H) : ∀ {l l' : List Stm}, AlnP l l' → ∀ {xs ys : List V} {f g : List Addr} {n : Nat}, StmsV K H xs l f → StmsV K H ys l' g → 2 * deepL l + 1 ≤ n →
    ∃ bs : List Bool, (∀ (j : Nat) x y, xs[j]? = some x → ys[j]? = some y → Dq K H n x y (bs.getD j true)) ∧ ((∀ b ∈ bs, b = true) ↔ l = l') ∧ xs.length = ys.length ∧ bs.length = xs.length
  | _, _, .nil, _, _, _, _, _, .nil, .nil, _ => ⟨[], fun j x y hx _ => by simp at hx, ⟨fun _ => rfl, fun _ b (hb : b ∈ []) => (List.not_mem_nil hb).elim⟩, rfl, rfl⟩
  | _, _, .cons hs hp, _, _, _, _, n, .cons h1 t1, .cons h2 t2, hn => by
    rw [deepL] at hn
    obtain ⟨b, d, tb⟩ := dqS hF hs h1 h2 (n := n) (by omega)
    obtain ⟨bs, hd, ht, hl, hb⟩ := dqP hF hp t1 t2 (n := n) (by omega)
    refine ⟨b :: bs, fun j x y hx hy => ?_, ?_, by rw [List.length_cons, List.length_cons, hl], by rw [List.length_cons, List.length_cons, hb]⟩
    · match j, hx, hy with
      | 0, hx, hy => cases hx; cases hy; exact d
      | j + 1, hx, hy => exact hd j x y (by simpa using hx) (by simpa using hy)
    · rw [List.forall_mem_cons, tb, ht, List.cons.injEq]
end
noncomputable def eqB (l l' : List Stm) : Bool := @decide (l = l') (Classical.propDecidable _)
theorem eqB_iff {l l' : List Stm} : eqB l l' = true ↔ l = l' := @decide_eq_true_iff _ (Classical.propDecidable _)
theorem rqF {l l' : List Stm} (h : AlnL l l') {a a' : Addr} {xs ys : List V} {f g : List Addr} {n : Nat} (ea : H a = some (.lst xs)) (ea' : H a' = some (.lst ys)) (sa : StmsV K H xs l f) (sa' : StmsV K H ys l' g) (hn : 2 * deepL l + 1 ≤ n) (hF : SqF K H) :
    Rq K H n (.ref a) (.ref a') (eqB l l') := by
  cases h with
  | lens hl =>
    rw [show eqB l l' = false from Bool.eq_false_iff.mpr fun h => hl (congrArg List.length (eqB_iff.mp h))]
    exact .lens (SqL.of ea) (SqL.of ea') (by rw [sa.length, sa'.length]; exact hl)
  | alike hp =>
    obtain ⟨bs, hd, ht, hl, hb⟩ := dqP hF hp sa sa' hn
    have z := Rq.lists (K := K) (H := H) (n := n) (fun j => bs.getD j true) (SqL.of ea) (SqL.of ea') hl hd
    have e : ((List.range xs.length).all fun j => bs.getD j true) = eqB l l' := by
      rw [Bool.eq_iff_iff, all_iff hb, ht, eqB_iff]
    rwa [e] at z
end
noncomputable def rnd : Nat → List Stm → List Stm
  | 0, ss => ss
  | n + 1, ss => afterR (rnd n ss)
theorem trm_rnd {ss cur : List Stm} (h : Trm ss cur) : ∃ n, cur = rnd n ss := by
  induction h with
  | refl => exact ⟨0, rfl⟩
  | step _ ih => obtain ⟨n, rfl⟩ := ih; exact ⟨n + 1, rfl⟩
theorem rnd_fix {ss : List Stm} {n : Nat} (h : afterR (rnd n ss) = rnd n ss) : ∀ m, rnd (n + m) ss = rnd n ss
  | 0 => rfl
  | m + 1 => by
    show afterR (rnd (n + m) ss) = _
    rw [rnd_fix h m, h]
theorem trm_one {ss c c' : List Stm} (h : Trm ss c) (h' : Trm ss c') (e : afterR c = c) (e' : afterR c' = c') : c = c' := by
  obtain ⟨n, rfl⟩ := trm_rnd h
  obtain ⟨m, rfl⟩ := trm_rnd h'
  rcases Nat.le_total n m with z | z
  · obtain ⟨k, rfl⟩ := Nat.exists_eq_add_of_le z
    exact (rnd_fix e k).symm
  · obtain ⟨k, rfl⟩ := Nat.exists_eq_add_of_le z
    exact rnd_fix e' k
mutual
noncomputable def tkS (F : List Bool) : Stm → Nat → List Stm
  | .deed d, k => if F.getD k false = true then [] else [.deed d]
  | .ifs n x y, k => if tkL F x k = [] ∧ tkL F y (k + manyL x) = [] then [] else [.ifs n (tkL F x k) (tkL F y (k + manyL x))]
  | .whl n a, k => [.whl n (tkL F a (k + 1))]
noncomputable def tkL (F : List Bool) : List Stm → Nat → List Stm
  | [], _ => []
  | s :: r, k => tkS F s (k + manyL r) ++ tkL F r k
end
noncomputable def FlagAt (F : List Bool) (S : List (List Str)) (k : Nat) (N : List Nd) : Prop := ∀ (t : Nat) nd, N[t]? = some nd → F[k + t]? = some (isIdle S nd)
theorem FlagAt.left {F : List Bool} {S : List (List Str)} {k : Nat} {a b : List Nd} (h : FlagAt F S k (a ++ b)) : FlagAt F S k a := fun t nd e => h t nd (by rw [List.getElem?_append_left (List.getElem?_eq_some_iff.mp e).1]; exact e)
theorem FlagAt.right {F : List Bool} {S : List (List Str)} {k : Nat} {a b : List Nd} (h : FlagAt F S k (a ++ b)) : FlagAt F S (k + a.length) b := fun t nd e => by
  have := h (a.length + t) nd (by rw [List.getElem?_append_right (Nat.le_add_right _ _), Nat.add_sub_cancel_left]; exact e)
  rwa [← Nat.add_assoc] at this
mutual
theorem tk_S {F : List Bool} {S : List (List Str)} : ∀ (s : Stm) (k : Nat) (b : Int) (X : List Str), At S k (setS s X) → SetAt S b X → FlagAt F S k (nodeS s k b).1 → tkS F s k = weL (wiS s X)
  | .deed d, k, b, X, h, hb, hf => by
    rw [nodeS] at hf
    have h0 := hf 0 _ rfl
    rw [Nat.add_zero] at h0
    have hin : ∀ n, (decide (0 ≤ b) && decide (n ∈ S.getD b.toNat [])) = decide (n ∈ X) := fun n => by
      rcases hb with ⟨z1, z2⟩ | ⟨z1, z2⟩
      · rw [decide_eq_false (show ¬ 0 ≤ b by omega), z2]; simp
      · rw [decide_eq_true z1, Bool.true_and, List.getD_eq_getElem?_getD, z2]; rfl
    rw [tkS, wiS, List.getD_eq_getElem?_getD, h0, Option.getD_some]
    have one : ∀ (c : Str), isIdle S ⟨d.reads, some c, [b]⟩ = !decide (c ∈ X) := fun c => by
      show (!([b].any fun j => decide (0 ≤ j) && decide (c ∈ S.getD j.toNat []))) = _
      rw [List.any_cons, List.any_nil, Bool.or_false, hin]
    cases d with
    | tell a =>
      rw [if_pos (show ∀ n ∈ (Deed.tell a).writes, n ∈ X from fun n hn => by cases hn)]
      rfl
    | copy c a =>
      rw [show Deed.nm (.copy c a) = some c from rfl, one c]
      by_cases hc : c ∈ X
      · rw [decide_eq_true hc, if_pos (show ∀ n ∈ (Deed.copy c a).writes, n ∈ X from fun n hn => by rw [List.mem_singleton.mp hn]; exact hc)]; rfl
      · rw [decide_eq_false hc, if_neg (show ¬ ∀ n ∈ (Deed.copy c a).writes, n ∈ X from fun z => hc (z c (List.mem_singleton.mpr rfl)))]; rfl
    | op f c x y =>
      rw [show Deed.nm (.op f c x y) = some c from rfl, one c]
      by_cases hc : c ∈ X
      · rw [decide_eq_true hc, if_pos (show ∀ n ∈ (Deed.op f c x y).writes, n ∈ X from fun n hn => by rw [List.mem_singleton.mp hn]; exact hc)]; rfl
      · rw [decide_eq_false hc, if_neg (show ¬ ∀ n ∈ (Deed.op f c x y).writes, n ∈ X from fun z => hc (z c (List.mem_singleton.mpr rfl)))]; rfl
  | .ifs c x y, k, b, X, h, hb, hf => by
    rw [setS] at h
    have hy := h.left.right
    rw [setL_len] at hy
    rw [nodeS] at hf
    have fy := hf.left.right
    rw [nodesL_len] at fy
    rw [tkS, wiS, weL, weS, weL, List.append_nil, tk_L x k b X h.left.left hb hf.left.left, tk_L y (k + manyL x) b X hy hb fy]
  | .whl c a, k, b, X, h, hb, hf => by
    obtain ⟨h1, h2⟩ := whl_body h
    rw [nodeS] at hf
    have f1 : FlagAt F S (k + 1) (nodesL a (k + 1) k).1 := fun t nd e => by
      have := hf (t + 1) nd (by simpa using e)
      rwa [show k + (t + 1) = k + 1 + t by omega] at this
    rw [tkS, wiS, weL, weS, weL, List.append_nil, tk_L a (k + 1) k _ h1 h2 f1]
theorem tk_L {F : List Bool} {S : List (List Str)} : ∀ (l : List Stm) (k : Nat) (b : Int) (X : List Str), At S k (setL l X) → SetAt S b X → FlagAt F S k (nodesL l k b).1 → tkL F l k = weL (wiL l X)
  | [], k, b, X, _, _, _ => by rw [tkL, wiL, weL]
  | s :: r, k, b, X, h, hb, hf => by
    rw [setL] at h
    have hs := h.right
    rw [setL_len] at hs
    rw [nodesL] at hf
    have fs := hf.right
    rw [nodesL_len] at fs
    rw [tkL, wiL, weL_app, tk_L r k b X h.left hb hf.left, tk_S s _ _ _ hs (entL r k b X h.left hb) fs]
end
theorem idle_same {ss : List Stm} {p : Nat} (h : passes (nodesOf ss) (p + 1) = passes (nodesOf ss) p) (nd : Nd) : isIdle (passes (nodesOf ss) p) nd = isIdle (setL ss []) nd := by
  unfold isIdle
  cases nd.nm with
  | none => rfl
  | some n =>
    dsimp only
    congr 1
    rw [Bool.eq_iff_iff, List.any_eq_true, List.any_eq_true]
    have key : ∀ j : Int, (decide (0 ≤ j) && decide (n ∈ (passes (nodesOf ss) p).getD j.toNat [])) = (decide (0 ≤ j) && decide (n ∈ (setL ss []).getD j.toNat [])) := fun j => by
      congr 1
      cases hY : (setL ss [])[j.toNat]? with
      | none =>
        have h1 : (passes (nodesOf ss) p)[j.toNat]? = none := by
          rw [List.getElem?_eq_none_iff, passes_len, nodesOf_len]
          rw [List.getElem?_eq_none_iff, setL_len] at hY
          exact hY
        rw [List.getD_eq_getElem?_getD, List.getD_eq_getElem?_getD, h1, hY]
      | some Y =>
        have := stop_mem h hY n
        rw [Bool.eq_iff_iff, decide_eq_true_iff, decide_eq_true_iff, this, List.getD_eq_getElem?_getD (l := setL ss []), hY]
        rfl
    constructor
    · rintro ⟨j, hj, hd⟩; exact ⟨j, hj, by rw [← key]; exact hd⟩
    · rintro ⟨j, hj, hd⟩; exact ⟨j, hj, by rw [key]; exact hd⟩
noncomputable def flagsOf (ss : List Stm) : List Bool := (nodesOf ss).map (isIdle (setL ss []))
theorem flags_len (ss : List Stm) : (flagsOf ss).length = manyL ss := by rw [flagsOf, List.length_map, nodesOf_len]
theorem flags_stop {ss : List Stm} {p : Nat} (h : passes (nodesOf ss) (p + 1) = passes (nodesOf ss) p) : (nodesOf ss).map (isIdle (passes (nodesOf ss) p)) = flagsOf ss := List.map_congr_left fun nd _ => idle_same h nd
theorem tk_after (ss : List Stm) : tkL (flagsOf ss) ss 0 = afterR ss :=
  tk_L (S := setL ss []) ss 0 (-1) [] at_self (.inl ⟨by omega, rfl⟩) fun t nd e => by
    have e : (nodesOf ss)[t]? = some nd := e
    rw [Nat.zero_add, flagsOf, List.getElem?_map, e]; rfl
end GB
namespace HT
open PySem PySem.Spec PyProof.Rows
section
variable {prog : Program} {w : World} {A : Around} {E : Value → Shared → Prop} {s : Shared}
theorem getItem_tuple_all {t sl : Addr} {items : Array Value} {vl vu : Value} {lo hi : Option Int} {Q : Value → Shared → Prop}
    (ht : IsTup s.heap t items) (hs : s.heap.IsSliceOf sl vl vu .none) (pl : IsPart vl lo) (pu : IsPart vu hi)
    (hl : sIx items.size 0 lo = 0) (hh : sIx items.size items.size hi = items.size) (h : Q (.ref t) s) :
    wpAny (model prog w) A (getItem (.ref t) (.ref sl)) Q E s := by
  have hTs : s.TypeIs (.ref sl) "slice" := by
    obtain ⟨os, hos, hcs, _⟩ := hs
    exact ⟨os, hos, hcs⟩
  unfold getItem
  try with_reducible refine wpAny_holding ?_
  try refine wpAny_bind (wpAny_pure ?_)
  refine wpAny_bind ?_
  refine wpAny_sequenceKey ht.typeIs (by decide) ?_
  refine wpAny_bind ?_
  refine wpAny_callSpecial?_slot (name := Str.ofString "__getitem__") ht.typeIs PyProof.Rows.slot_tuple_getitem ?_
  refine wpAny_call_entry PyProof.Rows.slot_tuple_getitem ht.typeIs entry_tuple_getitem ?_ (args_tuple_getitem _ _)
  show wpAny _ _ (Builtin.Tuple.tupleItemsOf (.ref t) >>= _) _ _ s
  refine wpAny_bind ?_
  refine tupleItemsOf_ ht ?_
  refine wpAny_bind ?_
  refine wpAny_typeOf hTs ?_
  rw [if_pos (by decide)]
  refine wpAny_bind ?_
  refine sliceApplied_gen hs pl pu ?_
  have yes : (((sIx items.size 0 lo : Nat) : Int) == 0 && (1 : Int) == 1 && (sIx items.size items.size hi - sIx items.size 0 lo) == items.size) = true := by
    rw [hl, hh]; simp
  show wpAny _ _ (if (((sIx items.size 0 lo : Nat) : Int) == 0 && (1 : Int) == 1 && (sIx items.size items.size hi - sIx items.size 0 lo) == items.size) = true then _ else _) _ _ s
  rw [if_pos yes]
  refine wpAny_bind ?_
  unfold Builtin.Tuple.tupleIsExact
  refine wpAny_bind ?_
  refine wpAny_typeOf ht.typeIs ?_
  refine wpAny_pure ?_
  rw [if_pos (by decide)]
  refine wpAny_bind ?_
  refine wpAny_rule ?_
  exact wpAny_pure ⟨_, rfl, wpAny_pure h⟩
end
end HT
namespace L2
open PySem PySem.Spec PyProof.Rows
section
variable {X : Cx}
noncomputable def rSlW (K : PySem.W.Frag) : V → Option Int → Option Int → Hp → VK → Prop := fun x lo hi H Q => rSlT K x lo hi H Q ∨
  ∃ a xs, x = .ref a ∧ SqT K H a xs ∧ HT.sIx xs.length 0 lo = 0 ∧ HT.sIx xs.length xs.length hi = xs.length ∧ Q (.ref a) H
theorem sl_tupW : SlR X (rSlW X.K) := by
  intro pins s σ H x v vl vu lo hi sl Q I rx hs pl pu h
  rcases h with h | ⟨a, xs, rfl, hx, h1, h2, q⟩
  · exact sl_tup pins s σ H x v vl vu lo hi sl Q I rx hs pl pu h
  · cases rx
    obtain ⟨its, r, ht, hz⟩ := I.tuple hx
    have hlen : its.toArray.size = xs.length := by rw [List.size_toArray]; exact r.length.symm
    refine ⟨"tuple", _, slot_tuple_getitem.lookup, ht.typeIs, ?_⟩
    refine HT.getItem_tuple_all ht hs pl pu (by rw [hlen]; exact h1) (by rw [hlen]; exact h2) ?_
    exact ⟨.ref a, H, I, rfl, q⟩
end
end L2
namespace L2
open PySem PySem.Spec PyProof.Rows
section
variable {X : Cx}
noncomputable def rIsiC : List V → Hp → VK → Prop := fun xs H Q => ∃ (a C dx : Addr) (fs : List (Str × V)), xs = [.ref a, .ref C] ∧ H a = some (.ins C dx fs) ∧ Q (.bl true) H
theorem call_isiC : CallR X (.builtin "isinstance") rIsiC := by
  intro pins s σ H xs us Q I r h
  obtain ⟨a, C, dx, fs, rfl, ha, q⟩ := h
  obtain ⟨u, v, rfl, ru, rv⟩ := vals2 r
  cases ru
  cases rv
  obtain ⟨_, _, _, hob, _⟩ := I.hok _ _ ha
  refine PySem.W.isi_call (K := X.K) (t := .ref C) I.kIn (fun M => (PySem.W.Looks.ld hob).andThen .now) ?_ (fun e => by cases e) ⟨.bl true, H, I, rfl, q⟩
  unfold PySem.W.isIn
  rw [show (Value.ref C == Value.ref C) = true from by simp, Bool.true_or]
end
end L2
set_option maxHeartbeats 4000000
local macro_rules | `(tactic| simp_arith [$ts,*]) => `(tactic| simp only [L2.y_v0, L2.r_g0, L2.y_v1, L2.r_g1, L2.y_v2, L2.r_g2, L2.y_v3, L2.r_g3, L2.y_v4, L2.r_g4, L2.y_v5, L2.r_g5, L2.y_v6, L2.r_g6, L2.y_v7, L2.r_g7, L2.y_v8, L2.r_g8, L2.y_v9, L2.r_g9, L2.y_v10, L2.r_g10, L2.y_v11, L2.r_g11, L2.y_v12, L2.r_g12, L2.y_v13, L2.r_g13, L2.y_v14, L2.r_g14, L2.y_v15, L2.r_g15, L2.y_v16, L2.r_g16, L2.y_v17, L2.r_g17, L2.y_v18, L2.r_g18, L2.y_v19, L2.r_g19, L2.y_v20, L2.r_g20, L2.y_v21, L2.r_g21, L2.y_v22, L2.r_g22, L2.y_v23, L2.r_g23, L2.r_c, L2.r_op, L2.r_un, L2.y_I0, L2.y_I, L2.y_U, L2.r_eqI, L2.r_eqS, L2.r_neI, L2.r_exbl, L2.r_exint, L2.r_test, L2.r_B, L2.r_and, L2.r_or, L2.r_not, L2.r_andV, L2.r_orV, L2.r_notV, L2.r_if, L2.r_next, L2.r_seq, L2.r_brk, L2.r_cont, L2.r_drop, L2.r_ret, L2.r_retN, L2.r_ifS, L2.r_asg, L2.r_CB, L2.r_nil, L2.r_cons, L2.r_call, L2.r_tup, L2.r_lst, L2.r_p0, L2.r_pS, L2.r_disp, L2.r_dget, L2.r_sl, L2.r_noPart, L2.r_part, L2.r_gNil, L2.r_gCons, L2.r_itF, L2.r_nT, L2.r_nF, L2.r_len0, L2.r_len1, L2.r_len2, L2.r_len3, L2.r_len4, L2.r_len7, L2.r_len8, L2.r_for, L2.r_iEnum, L2.r_iList, L2.r_iTup, L2.r_iRng1, L2.r_iRng2, L2.r_exI1, L2.r_exI2, L2.r_exR1, L2.r_exR, L2.r_bm, L2.r_bm0, L2.r_ixS, L2.r_ixL, L2.r_ixT, L2.r_cat, L2.r_slL, L2.r_append, L2.r_pop, L2.r_exS2, L2.r_exRl, L2.r_intB, L2.r_gTup, true_and, and_true, forall_const, Int.reduceLT, L2.r_compG, L2.r_setComp, L2.r_yes, L2.r_isi_int_str, L2.r_isi_str_str, L2.r_slT, L2.r_inR, L2.r_notInR, L2.cxOf_K, L2.wish_K, L2.blk_K, L2.r_blk1, L2.r_blk2, List.map_cons, List.map_nil, List.getElem?_cons_zero, List.getElem?_cons_succ, Option.join_some, L2.r_Vs, L2.r_dnewK, L2.r_dput, L2.r_gSub, List.set_cons_zero, List.set_cons_succ, L2.r_mid, L2.r_sfld, L2.r_gfld, L2.r_make, L2.r_iRev, L2.r_listRev, L2.r_listVals, L2.r_slRev, L2.r_dget2, $ts,*])
namespace K78
open PySem L2 PyProof.Rows FA FB FS FP FG FO FR
noncomputable def top (i : Nat) : Stmt := PySem.Challenge.pw_deedloom_k78_trimmed_programs.main.body.getD i (.Pass ⟨0, 0, 0, 0⟩)
noncomputable abbrev s_Program___init__ : Stmt := inClass (top 1) 0
theorem sc_Program___init__ : FnScope ["self", "width", "ins", "boxes", "rows"] ["self", "width", "ins", "boxes", "rows"] (defScope s_Program___init__) := ⟨rfl, rfl, rfl, by decide +kernel, rfl, by decide +kernel, by decide +kernel⟩
noncomputable abbrev s_copied : Stmt := top 2
theorem sc_copied : FnScope ["rows"] ["rows"] (defScope s_copied) := ⟨rfl, rfl, rfl, by decide +kernel, rfl, by decide +kernel, by decide +kernel⟩
noncomputable abbrev s_copied_row : Stmt := top 3
theorem sc_copied_row : FnScope ["row"] ["row"] (defScope s_copied_row) := ⟨rfl, rfl, rfl, by decide +kernel, rfl, by decide +kernel, by decide +kernel⟩
noncomputable abbrev s_operands_of : Stmt := top 5
theorem sc_operands_of : FnScope ["deed"] ["deed"] (defScope s_operands_of) := ⟨rfl, rfl, rfl, by decide +kernel, rfl, by decide +kernel, by decide +kernel⟩
noncomputable abbrev s_boxes_read : Stmt := top 6
theorem sc_boxes_read : FnScope ["deed"] ["deed"] (defScope s_boxes_read) := ⟨rfl, rfl, rfl, by decide +kernel, rfl, by decide +kernel, by decide +kernel⟩
noncomputable abbrev s_box_written : Stmt := top 7
theorem sc_box_written : FnScope ["deed"] ["deed"] (defScope s_box_written) := ⟨rfl, rfl, rfl, by decide +kernel, rfl, by decide +kernel, by decide +kernel⟩
noncomputable abbrev s_trimmed : Stmt := top 9
theorem sc_trimmed : FnScope ["program", "rows", "fewer"] ["program"] (defScope s_trimmed) := ⟨rfl, rfl, rfl, by decide +kernel, rfl, by decide +kernel, by decide +kernel⟩
noncomputable abbrev s_after_round : Stmt := top 10
theorem sc_after_round : FnScope ["rows"] ["rows"] (defScope s_after_round) := ⟨rfl, rfl, rfl, by decide +kernel, rfl, by decide +kernel, by decide +kernel⟩
noncomputable abbrev s_without_idle : Stmt := top 11
theorem sc_without_idle : FnScope ["rows", "behind", "kept", "row"] ["rows", "behind"] (defScope s_without_idle) := ⟨rfl, rfl, rfl, by decide +kernel, rfl, by decide +kernel, by decide +kernel⟩
noncomputable abbrev s_row_without_idle : Stmt := top 12
theorem sc_row_without_idle : FnScope ["row", "behind", "name"] ["row", "behind"] (defScope s_row_without_idle) := ⟨rfl, rfl, rfl, by decide +kernel, rfl, by decide +kernel, by decide +kernel⟩
noncomputable abbrev s_read_first : Stmt := top 13
theorem sc_read_first : FnScope ["row", "behind", "either", "around"] ["row", "behind"] (defScope s_read_first) := ⟨rfl, rfl, rfl, by decide +kernel, rfl, by decide +kernel, by decide +kernel⟩
noncomputable abbrev s_all_read_first : Stmt := top 14
theorem sc_all_read_first : FnScope ["rows", "behind", "row"] ["rows", "behind"] (defScope s_all_read_first) := ⟨rfl, rfl, rfl, by decide +kernel, rfl, by decide +kernel, by decide +kernel⟩
noncomputable abbrev s_joined : Stmt := top 15
theorem sc_joined : FnScope ["names", "others"] ["names", "others"] (defScope s_joined) := ⟨rfl, rfl, rfl, by decide +kernel, rfl, by decide +kernel, by decide +kernel⟩
noncomputable abbrev s_without_empty_ifs : Stmt := top 16
theorem sc_without_empty_ifs : FnScope ["rows", "kept", "row", "ones", "others"] ["rows"] (defScope s_without_empty_ifs) := ⟨rfl, rfl, rfl, by decide +kernel, rfl, by decide +kernel, by decide +kernel⟩
noncomputable abbrev s__law_mixed : Stmt := top 19
theorem sc__law_mixed : FnScope ["_law_cell", "_law_k", "_law_number"] ["_law_cell", "_law_k"] (defScope s__law_mixed) := ⟨rfl, rfl, rfl, by decide +kernel, rfl, by decide +kernel, by decide +kernel⟩
noncomputable abbrev s__law_names : Stmt := top 20
theorem sc__law_names : FnScope ["_law_cell", "_law_letters", "_law_mixed_here", "_law_size", "_law_place", "_law_names_here", "_law_k", "_law_name", "_law_j", "_law_at"] ["_law_cell"] (defScope s__law_names) := ⟨rfl, rfl, rfl, by decide +kernel, rfl, by decide +kernel, by decide +kernel⟩
noncomputable abbrev s__law_operand : Stmt := top 21
theorem sc__law_operand : FnScope ["_law_mixed_here", "_law_names_here", "_law_width"] ["_law_mixed_here", "_law_names_here", "_law_width"] (defScope s__law_operand) := ⟨rfl, rfl, rfl, by decide +kernel, rfl, by decide +kernel, by decide +kernel⟩
noncomputable abbrev s__law_deed : Stmt := top 22
theorem sc__law_deed : FnScope ["_law_mixed_here", "_law_names_here", "_law_width", "_law_one", "_law_name", "_law_op"] ["_law_mixed_here", "_law_names_here", "_law_width"] (defScope s__law_deed) := ⟨rfl, rfl, rfl, by decide +kernel, rfl, by decide +kernel, by decide +kernel⟩
noncomputable abbrev s__law_into : Stmt := top 23
theorem sc__law_into : FnScope ["_law_stack", "_law_row"] ["_law_stack", "_law_row"] (defScope s__law_into) := ⟨rfl, rfl, rfl, by decide +kernel, rfl, by decide +kernel, by decide +kernel⟩
noncomputable abbrev s__law_closed : Stmt := top 24
theorem sc__law_closed : FnScope ["_law_stack", "_law_kind", "_law_rows", "_law_name", "_law_ones"] ["_law_stack"] (defScope s__law_closed) := ⟨rfl, rfl, rfl, by decide +kernel, rfl, by decide +kernel, by decide +kernel⟩
noncomputable abbrev s__law_program : Stmt := top 25
theorem sc__law_program : FnScope ["_law_cells", "_law_names_here", "_law_width", "_law_most", "_law_stack", "_law_many", "_law_k", "_law_cell", "_law_mixed_here", "_law_way", "_law_kind", "_law_rows", "_law_name", "_law_ones"] ["_law_cells", "_law_names_here", "_law_width", "_law_most"] (defScope s__law_program) := ⟨rfl, rfl, rfl, by decide +kernel, rfl, by decide +kernel, by decide +kernel⟩
noncomputable abbrev s__law_reads : Stmt := top 26
theorem sc__law_reads : FnScope ["_law_deed_here", "_law_operands"] ["_law_deed_here"] (defScope s__law_reads) := ⟨rfl, rfl, rfl, by decide +kernel, rfl, by decide +kernel, by decide +kernel⟩
noncomputable abbrev s__law_nodes : Stmt := top 27
theorem sc__law_nodes : FnScope ["_law_rows", "_law_nodes_here", "_law_behind", "_law_row", "_law_at", "_law_body", "_law_ones", "_law_others", "_law_name"] ["_law_rows", "_law_nodes_here", "_law_behind"] (defScope s__law_nodes) := ⟨rfl, rfl, rfl, by decide +kernel, rfl, by decide +kernel, by decide +kernel⟩
noncomputable abbrev s__law_out : Stmt := top 28
theorem sc__law_out : FnScope ["_law_node", "_law_live", "_law_found", "_law_ahead"] ["_law_node", "_law_live"] (defScope s__law_out) := ⟨rfl, rfl, rfl, by decide +kernel, rfl, by decide +kernel, by decide +kernel⟩
noncomputable abbrev s__law_idle : Stmt := top 29
theorem sc__law_idle : FnScope ["_law_rows", "_law_nodes_here", "_law_node", "_law_live", "_law_turned", "_law_at", "_law_found"] ["_law_rows"] (defScope s__law_idle) := ⟨rfl, rfl, rfl, by decide +kernel, rfl, by decide +kernel, by decide +kernel⟩
noncomputable abbrev s__law_taken : Stmt := top 30
theorem sc__law_taken : FnScope ["_law_rows", "_law_idle_here", "_law_at", "_law_kept", "_law_row", "_law_ones", "_law_others"] ["_law_rows", "_law_idle_here", "_law_at"] (defScope s__law_taken) := ⟨rfl, rfl, rfl, by decide +kernel, rfl, by decide +kernel, by decide +kernel⟩
noncomputable abbrev s__law_trimmed : Stmt := top 31
theorem sc__law_trimmed : FnScope ["_law_rows", "_law_left"] ["_law_rows"] (defScope s__law_trimmed) := ⟨rfl, rfl, rfl, by decide +kernel, rfl, by decide +kernel, by decide +kernel⟩
noncomputable abbrev s__law_same_rows : Stmt := top 32
theorem sc__law_same_rows : FnScope ["_law_found", "_law_due", "_law_k", "_law_j"] ["_law_found", "_law_due"] (defScope s__law_same_rows) := ⟨rfl, rfl, rfl, by decide +kernel, rfl, by decide +kernel, by decide +kernel⟩
noncomputable abbrev s_law : Stmt := top 33
theorem sc_law : FnScope ["_law_script", "_law_cells", "_law_first", "_law_width", "_law_ins", "_law_others", "_law_rows", "_law_program_here", "_law_found"] ["_law_script"] (defScope s_law) := ⟨rfl, rfl, rfl, by decide +kernel, rfl, by decide +kernel, by decide +kernel⟩
set_option genInjectivity false in
structure Ad where
  C_Program : Addr
  f_Program___init__ : Addr
  e_Program___init__ : FuncData
  f_copied : Addr
  e_copied : FuncData
  f_copied_row : Addr
  e_copied_row : FuncData
  f_operands_of : Addr
  e_operands_of : FuncData
  f_boxes_read : Addr
  e_boxes_read : FuncData
  f_box_written : Addr
  e_box_written : FuncData
  f_trimmed : Addr
  e_trimmed : FuncData
  f_after_round : Addr
  e_after_round : FuncData
  f_without_idle : Addr
  e_without_idle : FuncData
  f_row_without_idle : Addr
  e_row_without_idle : FuncData
  f_read_first : Addr
  e_read_first : FuncData
  f_all_read_first : Addr
  e_all_read_first : FuncData
  f_joined : Addr
  e_joined : FuncData
  f_without_empty_ifs : Addr
  e_without_empty_ifs : FuncData
  f__law_mixed : Addr
  e__law_mixed : FuncData
  f__law_names : Addr
  e__law_names : FuncData
  f__law_operand : Addr
  e__law_operand : FuncData
  f__law_deed : Addr
  e__law_deed : FuncData
  f__law_into : Addr
  e__law_into : FuncData
  f__law_closed : Addr
  e__law_closed : FuncData
  f__law_program : Addr
  e__law_program : FuncData
  f__law_reads : Addr
  e__law_reads : FuncData
  f__law_nodes : Addr
  e__law_nodes : FuncData
  f__law_out : Addr
  e__law_out : FuncData
  f__law_idle : Addr
  e__law_idle : FuncData
  f__law_taken : Addr
  e__law_taken : FuncData
  f__law_trimmed : Addr
  e__law_trimmed : FuncData
  f__law_same_rows : Addr
  e__law_same_rows : FuncData
  f_law : Addr
  e_law : FuncData
structure Txt (K : PySem.W.Frag) (mg : Str → Option Value) (t : Ad) : Prop where
  c_Program : KlsAt K mg "Program" t.C_Program
  n_Program_width : NoAttr K t.C_Program "width"
  n_Program_ins : NoAttr K t.C_Program "ins"
  n_Program_boxes : NoAttr K t.C_Program "boxes"
  n_Program_rows : NoAttr K t.C_Program "rows"
  d_Program___init__ : MethAt K t.C_Program "__init__" "Program.__init__" s_Program___init__ ["self", "width", "ins", "boxes", "rows"] t.f_Program___init__ t.e_Program___init__
  d_copied : DefAt K mg "copied" s_copied ["rows"] t.f_copied t.e_copied
  d_copied_row : DefAt K mg "copied_row" s_copied_row ["row"] t.f_copied_row t.e_copied_row
  d_operands_of : DefAt K mg "operands_of" s_operands_of ["deed"] t.f_operands_of t.e_operands_of
  d_boxes_read : DefAt K mg "boxes_read" s_boxes_read ["deed"] t.f_boxes_read t.e_boxes_read
  d_box_written : DefAt K mg "box_written" s_box_written ["deed"] t.f_box_written t.e_box_written
  d_trimmed : DefAt K mg "trimmed" s_trimmed ["program"] t.f_trimmed t.e_trimmed
  d_after_round : DefAt K mg "after_round" s_after_round ["rows"] t.f_after_round t.e_after_round
  d_without_idle : DefAt K mg "without_idle" s_without_idle ["rows", "behind"] t.f_without_idle t.e_without_idle
  d_row_without_idle : DefAt K mg "row_without_idle" s_row_without_idle ["row", "behind"] t.f_row_without_idle t.e_row_without_idle
  d_read_first : DefAt K mg "read_first" s_read_first ["row", "behind"] t.f_read_first t.e_read_first
  d_all_read_first : DefAt K mg "all_read_first" s_all_read_first ["rows", "behind"] t.f_all_read_first t.e_all_read_first
  d_joined : DefAt K mg "joined" s_joined ["names", "others"] t.f_joined t.e_joined
  d_without_empty_ifs : DefAt K mg "without_empty_ifs" s_without_empty_ifs ["rows"] t.f_without_empty_ifs t.e_without_empty_ifs
  d__law_mixed : DefAt K mg "_law_mixed" s__law_mixed ["_law_cell", "_law_k"] t.f__law_mixed t.e__law_mixed
  d__law_names : DefAt K mg "_law_names" s__law_names ["_law_cell"] t.f__law_names t.e__law_names
  d__law_operand : DefAt K mg "_law_operand" s__law_operand ["_law_mixed_here", "_law_names_here", "_law_width"] t.f__law_operand t.e__law_operand
  d__law_deed : DefAt K mg "_law_deed" s__law_deed ["_law_mixed_here", "_law_names_here", "_law_width"] t.f__law_deed t.e__law_deed
  d__law_into : DefAt K mg "_law_into" s__law_into ["_law_stack", "_law_row"] t.f__law_into t.e__law_into
  d__law_closed : DefAt K mg "_law_closed" s__law_closed ["_law_stack"] t.f__law_closed t.e__law_closed
  d__law_program : DefAt K mg "_law_program" s__law_program ["_law_cells", "_law_names_here", "_law_width", "_law_most"] t.f__law_program t.e__law_program
  d__law_reads : DefAt K mg "_law_reads" s__law_reads ["_law_deed_here"] t.f__law_reads t.e__law_reads
  d__law_nodes : DefAt K mg "_law_nodes" s__law_nodes ["_law_rows", "_law_nodes_here", "_law_behind"] t.f__law_nodes t.e__law_nodes
  d__law_out : DefAt K mg "_law_out" s__law_out ["_law_node", "_law_live"] t.f__law_out t.e__law_out
  d__law_idle : DefAt K mg "_law_idle" s__law_idle ["_law_rows"] t.f__law_idle t.e__law_idle
  d__law_taken : DefAt K mg "_law_taken" s__law_taken ["_law_rows", "_law_idle_here", "_law_at"] t.f__law_taken t.e__law_taken
  d__law_trimmed : DefAt K mg "_law_trimmed" s__law_trimmed ["_law_rows"] t.f__law_trimmed t.e__law_trimmed
  d__law_same_rows : DefAt K mg "_law_same_rows" s__law_same_rows ["_law_found", "_law_due"] t.f__law_same_rows t.e__law_same_rows
  d_law : DefAt K mg "law" s_law ["_law_script"] t.f_law t.e_law
  z_range : mg "range" = none
  z_isinstance : mg "isinstance" = none
  z_int : mg "int" = none
  z_bool : mg "bool" = none
  z_enumerate : mg "enumerate" = none
  z_len : mg "len" = none
  z_str : mg "str" = none
  z_list : mg "list" = none
  z_tuple : mg "tuple" = none
  z_reversed : mg "reversed" = none
  z_sorted : mg "sorted" = none
theorem len_1 {us : List Value} (h : us.length = 1) : ∃ a0, us = [a0] := by
  rcases us with _ | ⟨a0, _ | ⟨_, _⟩⟩ <;> simp at h ⊢
theorem len_2 {us : List Value} (h : us.length = 2) : ∃ a0 a1, us = [a0, a1] := by
  rcases us with _ | ⟨a0, _ | ⟨a1, _ | ⟨_, _⟩⟩⟩ <;> simp at h ⊢
theorem len_3 {us : List Value} (h : us.length = 3) : ∃ a0 a1 a2, us = [a0, a1, a2] := by
  rcases us with _ | ⟨a0, _ | ⟨a1, _ | ⟨a2, _ | ⟨_, _⟩⟩⟩⟩ <;> simp at h ⊢
theorem len_4 {us : List Value} (h : us.length = 4) : ∃ a0 a1 a2 a3, us = [a0, a1, a2, a3] := by
  rcases us with _ | ⟨a0, _ | ⟨a1, _ | ⟨a2, _ | ⟨a3, _ | ⟨_, _⟩⟩⟩⟩⟩ <;> simp at h ⊢
theorem len_5 {us : List Value} (h : us.length = 5) : ∃ a0 a1 a2 a3 a4, us = [a0, a1, a2, a3, a4] := by
  rcases us with _ | ⟨a0, _ | ⟨a1, _ | ⟨a2, _ | ⟨a3, _ | ⟨a4, _ | ⟨_, _⟩⟩⟩⟩⟩⟩ <;> simp at h ⊢
theorem all_mk {K : PySem.W.Frag} {h : Heap} {mg : Str → Option Value} (X : K.In h) (G : h.Ns mainGlobals mg)
    {C_Program : Addr}
    (aC_Program : PySem.W.nsIn K mainGlobals "Program" = some (some (.ref C_Program)))
    (pg_Program : PySem.W.plainGet K C_Program Str.empty = true)
    (hd_Program : PySem.W.hasDictIn K C_Program = true)
    (po_Program : PySem.W.plainOver K C_Program = true)
    (sa_Program : PySem.W.findIn K (.ref C_Program) "__setattr__" = some (some (.builtin "object.__setattr__")))
    (mk_Program : PySem.W.makesIn K C_Program = true)
    (kc_Program : PySem.W.keepIn K (.ref C_Program) = true)
    (n_Program_width : PySem.W.findIn K (.ref C_Program) "width" = some none)
    (n_Program_ins : PySem.W.findIn K (.ref C_Program) "ins" = some none)
    (n_Program_boxes : PySem.W.findIn K (.ref C_Program) "boxes" = some none)
    (n_Program_rows : PySem.W.findIn K (.ref C_Program) "rows" = some none)
    {f0 : Addr} {od0 an0 : Option Addr} {sl0 : Array (Option Value)} {oc0 kV0 dc0 pm0 cd0 ct0 : Value}
    (a0 : PySem.W.findIn K (.ref C_Program) "__init__" = some (some (.ref f0))) (i0 : PySem.W.isFn K (.ref f0) = true)
    (l0 : K.lookup f0 = some ⟨oc0, od0, .func (PySem.W.fnOf "__init__" "Program.__init__" (defArgs s_Program___init__) (defBody s_Program___init__) (defScope s_Program___init__) .none kV0 dc0 pm0 an0 cd0 ct0), sl0⟩) (c0 : PySem.W.codeIn K cd0 "Program.__init__" = true) (k0 : PySem.W.keepIn K (.ref f0) = true)
    {f1 : Addr} {od1 an1 : Option Addr} {sl1 : Array (Option Value)} {oc1 kV1 dc1 pm1 cd1 ct1 : Value}
    (a1 : PySem.W.nsIn K mainGlobals "copied" = some (some (.ref f1)))
    (l1 : K.lookup f1 = some ⟨oc1, od1, .func (PySem.W.fnOf "copied" "copied" (defArgs s_copied) (defBody s_copied) (defScope s_copied) .none kV1 dc1 pm1 an1 cd1 ct1), sl1⟩) (c1 : PySem.W.codeIn K cd1 "copied" = true) (k1 : PySem.W.keepIn K (.ref f1) = true)
    {f2 : Addr} {od2 an2 : Option Addr} {sl2 : Array (Option Value)} {oc2 kV2 dc2 pm2 cd2 ct2 : Value}
    (a2 : PySem.W.nsIn K mainGlobals "copied_row" = some (some (.ref f2)))
    (l2 : K.lookup f2 = some ⟨oc2, od2, .func (PySem.W.fnOf "copied_row" "copied_row" (defArgs s_copied_row) (defBody s_copied_row) (defScope s_copied_row) .none kV2 dc2 pm2 an2 cd2 ct2), sl2⟩) (c2 : PySem.W.codeIn K cd2 "copied_row" = true) (k2 : PySem.W.keepIn K (.ref f2) = true)
    {f3 : Addr} {od3 an3 : Option Addr} {sl3 : Array (Option Value)} {oc3 kV3 dc3 pm3 cd3 ct3 : Value}
    (a3 : PySem.W.nsIn K mainGlobals "operands_of" = some (some (.ref f3)))
    (l3 : K.lookup f3 = some ⟨oc3, od3, .func (PySem.W.fnOf "operands_of" "operands_of" (defArgs s_operands_of) (defBody s_operands_of) (defScope s_operands_of) .none kV3 dc3 pm3 an3 cd3 ct3), sl3⟩) (c3 : PySem.W.codeIn K cd3 "operands_of" = true) (k3 : PySem.W.keepIn K (.ref f3) = true)
    {f4 : Addr} {od4 an4 : Option Addr} {sl4 : Array (Option Value)} {oc4 kV4 dc4 pm4 cd4 ct4 : Value}
    (a4 : PySem.W.nsIn K mainGlobals "boxes_read" = some (some (.ref f4)))
    (l4 : K.lookup f4 = some ⟨oc4, od4, .func (PySem.W.fnOf "boxes_read" "boxes_read" (defArgs s_boxes_read) (defBody s_boxes_read) (defScope s_boxes_read) .none kV4 dc4 pm4 an4 cd4 ct4), sl4⟩) (c4 : PySem.W.codeIn K cd4 "boxes_read" = true) (k4 : PySem.W.keepIn K (.ref f4) = true)
    {f5 : Addr} {od5 an5 : Option Addr} {sl5 : Array (Option Value)} {oc5 kV5 dc5 pm5 cd5 ct5 : Value}
    (a5 : PySem.W.nsIn K mainGlobals "box_written" = some (some (.ref f5)))
    (l5 : K.lookup f5 = some ⟨oc5, od5, .func (PySem.W.fnOf "box_written" "box_written" (defArgs s_box_written) (defBody s_box_written) (defScope s_box_written) .none kV5 dc5 pm5 an5 cd5 ct5), sl5⟩) (c5 : PySem.W.codeIn K cd5 "box_written" = true) (k5 : PySem.W.keepIn K (.ref f5) = true)
    {f6 : Addr} {od6 an6 : Option Addr} {sl6 : Array (Option Value)} {oc6 kV6 dc6 pm6 cd6 ct6 : Value}
    (a6 : PySem.W.nsIn K mainGlobals "trimmed" = some (some (.ref f6)))
    (l6 : K.lookup f6 = some ⟨oc6, od6, .func (PySem.W.fnOf "trimmed" "trimmed" (defArgs s_trimmed) (defBody s_trimmed) (defScope s_trimmed) .none kV6 dc6 pm6 an6 cd6 ct6), sl6⟩) (c6 : PySem.W.codeIn K cd6 "trimmed" = true) (k6 : PySem.W.keepIn K (.ref f6) = true)
    {f7 : Addr} {od7 an7 : Option Addr} {sl7 : Array (Option Value)} {oc7 kV7 dc7 pm7 cd7 ct7 : Value}
    (a7 : PySem.W.nsIn K mainGlobals "after_round" = some (some (.ref f7)))
    (l7 : K.lookup f7 = some ⟨oc7, od7, .func (PySem.W.fnOf "after_round" "after_round" (defArgs s_after_round) (defBody s_after_round) (defScope s_after_round) .none kV7 dc7 pm7 an7 cd7 ct7), sl7⟩) (c7 : PySem.W.codeIn K cd7 "after_round" = true) (k7 : PySem.W.keepIn K (.ref f7) = true)
    {f8 : Addr} {od8 an8 : Option Addr} {sl8 : Array (Option Value)} {oc8 kV8 dc8 pm8 cd8 ct8 : Value}
    (a8 : PySem.W.nsIn K mainGlobals "without_idle" = some (some (.ref f8)))
    (l8 : K.lookup f8 = some ⟨oc8, od8, .func (PySem.W.fnOf "without_idle" "without_idle" (defArgs s_without_idle) (defBody s_without_idle) (defScope s_without_idle) .none kV8 dc8 pm8 an8 cd8 ct8), sl8⟩) (c8 : PySem.W.codeIn K cd8 "without_idle" = true) (k8 : PySem.W.keepIn K (.ref f8) = true)
    {f9 : Addr} {od9 an9 : Option Addr} {sl9 : Array (Option Value)} {oc9 kV9 dc9 pm9 cd9 ct9 : Value}
    (a9 : PySem.W.nsIn K mainGlobals "row_without_idle" = some (some (.ref f9)))
    (l9 : K.lookup f9 = some ⟨oc9, od9, .func (PySem.W.fnOf "row_without_idle" "row_without_idle" (defArgs s_row_without_idle) (defBody s_row_without_idle) (defScope s_row_without_idle) .none kV9 dc9 pm9 an9 cd9 ct9), sl9⟩) (c9 : PySem.W.codeIn K cd9 "row_without_idle" = true) (k9 : PySem.W.keepIn K (.ref f9) = true)
    {f10 : Addr} {od10 an10 : Option Addr} {sl10 : Array (Option Value)} {oc10 kV10 dc10 pm10 cd10 ct10 : Value}
    (a10 : PySem.W.nsIn K mainGlobals "read_first" = some (some (.ref f10)))
    (l10 : K.lookup f10 = some ⟨oc10, od10, .func (PySem.W.fnOf "read_first" "read_first" (defArgs s_read_first) (defBody s_read_first) (defScope s_read_first) .none kV10 dc10 pm10 an10 cd10 ct10), sl10⟩) (c10 : PySem.W.codeIn K cd10 "read_first" = true) (k10 : PySem.W.keepIn K (.ref f10) = true)
    {f11 : Addr} {od11 an11 : Option Addr} {sl11 : Array (Option Value)} {oc11 kV11 dc11 pm11 cd11 ct11 : Value}
    (a11 : PySem.W.nsIn K mainGlobals "all_read_first" = some (some (.ref f11)))
    (l11 : K.lookup f11 = some ⟨oc11, od11, .func (PySem.W.fnOf "all_read_first" "all_read_first" (defArgs s_all_read_first) (defBody s_all_read_first) (defScope s_all_read_first) .none kV11 dc11 pm11 an11 cd11 ct11), sl11⟩) (c11 : PySem.W.codeIn K cd11 "all_read_first" = true) (k11 : PySem.W.keepIn K (.ref f11) = true)
    {f12 : Addr} {od12 an12 : Option Addr} {sl12 : Array (Option Value)} {oc12 kV12 dc12 pm12 cd12 ct12 : Value}
    (a12 : PySem.W.nsIn K mainGlobals "joined" = some (some (.ref f12)))
    (l12 : K.lookup f12 = some ⟨oc12, od12, .func (PySem.W.fnOf "joined" "joined" (defArgs s_joined) (defBody s_joined) (defScope s_joined) .none kV12 dc12 pm12 an12 cd12 ct12), sl12⟩) (c12 : PySem.W.codeIn K cd12 "joined" = true) (k12 : PySem.W.keepIn K (.ref f12) = true)
    {f13 : Addr} {od13 an13 : Option Addr} {sl13 : Array (Option Value)} {oc13 kV13 dc13 pm13 cd13 ct13 : Value}
    (a13 : PySem.W.nsIn K mainGlobals "without_empty_ifs" = some (some (.ref f13)))
    (l13 : K.lookup f13 = some ⟨oc13, od13, .func (PySem.W.fnOf "without_empty_ifs" "without_empty_ifs" (defArgs s_without_empty_ifs) (defBody s_without_empty_ifs) (defScope s_without_empty_ifs) .none kV13 dc13 pm13 an13 cd13 ct13), sl13⟩) (c13 : PySem.W.codeIn K cd13 "without_empty_ifs" = true) (k13 : PySem.W.keepIn K (.ref f13) = true)
    {f14 : Addr} {od14 an14 : Option Addr} {sl14 : Array (Option Value)} {oc14 kV14 dc14 pm14 cd14 ct14 : Value}
    (a14 : PySem.W.nsIn K mainGlobals "_law_mixed" = some (some (.ref f14)))
    (l14 : K.lookup f14 = some ⟨oc14, od14, .func (PySem.W.fnOf "_law_mixed" "_law_mixed" (defArgs s__law_mixed) (defBody s__law_mixed) (defScope s__law_mixed) .none kV14 dc14 pm14 an14 cd14 ct14), sl14⟩) (c14 : PySem.W.codeIn K cd14 "_law_mixed" = true) (k14 : PySem.W.keepIn K (.ref f14) = true)
    {f15 : Addr} {od15 an15 : Option Addr} {sl15 : Array (Option Value)} {oc15 kV15 dc15 pm15 cd15 ct15 : Value}
    (a15 : PySem.W.nsIn K mainGlobals "_law_names" = some (some (.ref f15)))
    (l15 : K.lookup f15 = some ⟨oc15, od15, .func (PySem.W.fnOf "_law_names" "_law_names" (defArgs s__law_names) (defBody s__law_names) (defScope s__law_names) .none kV15 dc15 pm15 an15 cd15 ct15), sl15⟩) (c15 : PySem.W.codeIn K cd15 "_law_names" = true) (k15 : PySem.W.keepIn K (.ref f15) = true)
    {f16 : Addr} {od16 an16 : Option Addr} {sl16 : Array (Option Value)} {oc16 kV16 dc16 pm16 cd16 ct16 : Value}
    (a16 : PySem.W.nsIn K mainGlobals "_law_operand" = some (some (.ref f16)))
    (l16 : K.lookup f16 = some ⟨oc16, od16, .func (PySem.W.fnOf "_law_operand" "_law_operand" (defArgs s__law_operand) (defBody s__law_operand) (defScope s__law_operand) .none kV16 dc16 pm16 an16 cd16 ct16), sl16⟩) (c16 : PySem.W.codeIn K cd16 "_law_operand" = true) (k16 : PySem.W.keepIn K (.ref f16) = true)
    {f17 : Addr} {od17 an17 : Option Addr} {sl17 : Array (Option Value)} {oc17 kV17 dc17 pm17 cd17 ct17 : Value}
    (a17 : PySem.W.nsIn K mainGlobals "_law_deed" = some (some (.ref f17)))
    (l17 : K.lookup f17 = some ⟨oc17, od17, .func (PySem.W.fnOf "_law_deed" "_law_deed" (defArgs s__law_deed) (defBody s__law_deed) (defScope s__law_deed) .none kV17 dc17 pm17 an17 cd17 ct17), sl17⟩) (c17 : PySem.W.codeIn K cd17 "_law_deed" = true) (k17 : PySem.W.keepIn K (.ref f17) = true)
    {f18 : Addr} {od18 an18 : Option Addr} {sl18 : Array (Option Value)} {oc18 kV18 dc18 pm18 cd18 ct18 : Value}
    (a18 : PySem.W.nsIn K mainGlobals "_law_into" = some (some (.ref f18)))
    (l18 : K.lookup f18 = some ⟨oc18, od18, .func (PySem.W.fnOf "_law_into" "_law_into" (defArgs s__law_into) (defBody s__law_into) (defScope s__law_into) .none kV18 dc18 pm18 an18 cd18 ct18), sl18⟩) (c18 : PySem.W.codeIn K cd18 "_law_into" = true) (k18 : PySem.W.keepIn K (.ref f18) = true)
    {f19 : Addr} {od19 an19 : Option Addr} {sl19 : Array (Option Value)} {oc19 kV19 dc19 pm19 cd19 ct19 : Value}
    (a19 : PySem.W.nsIn K mainGlobals "_law_closed" = some (some (.ref f19)))
    (l19 : K.lookup f19 = some ⟨oc19, od19, .func (PySem.W.fnOf "_law_closed" "_law_closed" (defArgs s__law_closed) (defBody s__law_closed) (defScope s__law_closed) .none kV19 dc19 pm19 an19 cd19 ct19), sl19⟩) (c19 : PySem.W.codeIn K cd19 "_law_closed" = true) (k19 : PySem.W.keepIn K (.ref f19) = true)
    {f20 : Addr} {od20 an20 : Option Addr} {sl20 : Array (Option Value)} {oc20 kV20 dc20 pm20 cd20 ct20 : Value}
    (a20 : PySem.W.nsIn K mainGlobals "_law_program" = some (some (.ref f20)))
    (l20 : K.lookup f20 = some ⟨oc20, od20, .func (PySem.W.fnOf "_law_program" "_law_program" (defArgs s__law_program) (defBody s__law_program) (defScope s__law_program) .none kV20 dc20 pm20 an20 cd20 ct20), sl20⟩) (c20 : PySem.W.codeIn K cd20 "_law_program" = true) (k20 : PySem.W.keepIn K (.ref f20) = true)
    {f21 : Addr} {od21 an21 : Option Addr} {sl21 : Array (Option Value)} {oc21 kV21 dc21 pm21 cd21 ct21 : Value}
    (a21 : PySem.W.nsIn K mainGlobals "_law_reads" = some (some (.ref f21)))
    (l21 : K.lookup f21 = some ⟨oc21, od21, .func (PySem.W.fnOf "_law_reads" "_law_reads" (defArgs s__law_reads) (defBody s__law_reads) (defScope s__law_reads) .none kV21 dc21 pm21 an21 cd21 ct21), sl21⟩) (c21 : PySem.W.codeIn K cd21 "_law_reads" = true) (k21 : PySem.W.keepIn K (.ref f21) = true)
    {f22 : Addr} {od22 an22 : Option Addr} {sl22 : Array (Option Value)} {oc22 kV22 dc22 pm22 cd22 ct22 : Value}
    (a22 : PySem.W.nsIn K mainGlobals "_law_nodes" = some (some (.ref f22)))
    (l22 : K.lookup f22 = some ⟨oc22, od22, .func (PySem.W.fnOf "_law_nodes" "_law_nodes" (defArgs s__law_nodes) (defBody s__law_nodes) (defScope s__law_nodes) .none kV22 dc22 pm22 an22 cd22 ct22), sl22⟩) (c22 : PySem.W.codeIn K cd22 "_law_nodes" = true) (k22 : PySem.W.keepIn K (.ref f22) = true)
    {f23 : Addr} {od23 an23 : Option Addr} {sl23 : Array (Option Value)} {oc23 kV23 dc23 pm23 cd23 ct23 : Value}
    (a23 : PySem.W.nsIn K mainGlobals "_law_out" = some (some (.ref f23)))
    (l23 : K.lookup f23 = some ⟨oc23, od23, .func (PySem.W.fnOf "_law_out" "_law_out" (defArgs s__law_out) (defBody s__law_out) (defScope s__law_out) .none kV23 dc23 pm23 an23 cd23 ct23), sl23⟩) (c23 : PySem.W.codeIn K cd23 "_law_out" = true) (k23 : PySem.W.keepIn K (.ref f23) = true)
    {f24 : Addr} {od24 an24 : Option Addr} {sl24 : Array (Option Value)} {oc24 kV24 dc24 pm24 cd24 ct24 : Value}
    (a24 : PySem.W.nsIn K mainGlobals "_law_idle" = some (some (.ref f24)))
    (l24 : K.lookup f24 = some ⟨oc24, od24, .func (PySem.W.fnOf "_law_idle" "_law_idle" (defArgs s__law_idle) (defBody s__law_idle) (defScope s__law_idle) .none kV24 dc24 pm24 an24 cd24 ct24), sl24⟩) (c24 : PySem.W.codeIn K cd24 "_law_idle" = true) (k24 : PySem.W.keepIn K (.ref f24) = true)
    {f25 : Addr} {od25 an25 : Option Addr} {sl25 : Array (Option Value)} {oc25 kV25 dc25 pm25 cd25 ct25 : Value}
    (a25 : PySem.W.nsIn K mainGlobals "_law_taken" = some (some (.ref f25)))
    (l25 : K.lookup f25 = some ⟨oc25, od25, .func (PySem.W.fnOf "_law_taken" "_law_taken" (defArgs s__law_taken) (defBody s__law_taken) (defScope s__law_taken) .none kV25 dc25 pm25 an25 cd25 ct25), sl25⟩) (c25 : PySem.W.codeIn K cd25 "_law_taken" = true) (k25 : PySem.W.keepIn K (.ref f25) = true)
    {f26 : Addr} {od26 an26 : Option Addr} {sl26 : Array (Option Value)} {oc26 kV26 dc26 pm26 cd26 ct26 : Value}
    (a26 : PySem.W.nsIn K mainGlobals "_law_trimmed" = some (some (.ref f26)))
    (l26 : K.lookup f26 = some ⟨oc26, od26, .func (PySem.W.fnOf "_law_trimmed" "_law_trimmed" (defArgs s__law_trimmed) (defBody s__law_trimmed) (defScope s__law_trimmed) .none kV26 dc26 pm26 an26 cd26 ct26), sl26⟩) (c26 : PySem.W.codeIn K cd26 "_law_trimmed" = true) (k26 : PySem.W.keepIn K (.ref f26) = true)
    {f27 : Addr} {od27 an27 : Option Addr} {sl27 : Array (Option Value)} {oc27 kV27 dc27 pm27 cd27 ct27 : Value}
    (a27 : PySem.W.nsIn K mainGlobals "_law_same_rows" = some (some (.ref f27)))
    (l27 : K.lookup f27 = some ⟨oc27, od27, .func (PySem.W.fnOf "_law_same_rows" "_law_same_rows" (defArgs s__law_same_rows) (defBody s__law_same_rows) (defScope s__law_same_rows) .none kV27 dc27 pm27 an27 cd27 ct27), sl27⟩) (c27 : PySem.W.codeIn K cd27 "_law_same_rows" = true) (k27 : PySem.W.keepIn K (.ref f27) = true)
    {f28 : Addr} {od28 an28 : Option Addr} {sl28 : Array (Option Value)} {oc28 kV28 dc28 pm28 cd28 ct28 : Value}
    (a28 : PySem.W.nsIn K mainGlobals "law" = some (some (.ref f28)))
    (l28 : K.lookup f28 = some ⟨oc28, od28, .func (PySem.W.fnOf "law" "law" (defArgs s_law) (defBody s_law) (defScope s_law) .none kV28 dc28 pm28 an28 cd28 ct28), sl28⟩) (c28 : PySem.W.codeIn K cd28 "law" = true) (k28 : PySem.W.keepIn K (.ref f28) = true)
    (z_range : PySem.W.nsIn K mainGlobals "range" = some none)
    (z_isinstance : PySem.W.nsIn K mainGlobals "isinstance" = some none)
    (z_int : PySem.W.nsIn K mainGlobals "int" = some none)
    (z_bool : PySem.W.nsIn K mainGlobals "bool" = some none)
    (z_enumerate : PySem.W.nsIn K mainGlobals "enumerate" = some none)
    (z_len : PySem.W.nsIn K mainGlobals "len" = some none)
    (z_str : PySem.W.nsIn K mainGlobals "str" = some none)
    (z_list : PySem.W.nsIn K mainGlobals "list" = some none)
    (z_tuple : PySem.W.nsIn K mainGlobals "tuple" = some none)
    (z_reversed : PySem.W.nsIn K mainGlobals "reversed" = some none)
    (z_sorted : PySem.W.nsIn K mainGlobals "sorted" = some none)
    : ∃ t : Ad, Txt K mg t := by
  have F0 := fun_mk (st := s_Program___init__) l0 c0 k0
  have b0 := F0.binds (ps := ["self", "width", "ins", "boxes", "rows"]) fun _ _ _ _ _ _ us hl => by obtain ⟨_, _, _, _, _, rfl⟩ := len_5 hl; rfl
  have F1 := fun_mk (st := s_copied) l1 c1 k1
  have b1 := F1.binds (ps := ["rows"]) fun _ _ _ _ _ _ us hl => by obtain ⟨_, rfl⟩ := len_1 hl; rfl
  have F2 := fun_mk (st := s_copied_row) l2 c2 k2
  have b2 := F2.binds (ps := ["row"]) fun _ _ _ _ _ _ us hl => by obtain ⟨_, rfl⟩ := len_1 hl; rfl
  have F3 := fun_mk (st := s_operands_of) l3 c3 k3
  have b3 := F3.binds (ps := ["deed"]) fun _ _ _ _ _ _ us hl => by obtain ⟨_, rfl⟩ := len_1 hl; rfl
  have F4 := fun_mk (st := s_boxes_read) l4 c4 k4
  have b4 := F4.binds (ps := ["deed"]) fun _ _ _ _ _ _ us hl => by obtain ⟨_, rfl⟩ := len_1 hl; rfl
  have F5 := fun_mk (st := s_box_written) l5 c5 k5
  have b5 := F5.binds (ps := ["deed"]) fun _ _ _ _ _ _ us hl => by obtain ⟨_, rfl⟩ := len_1 hl; rfl
  have F6 := fun_mk (st := s_trimmed) l6 c6 k6
  have b6 := F6.binds (ps := ["program"]) fun _ _ _ _ _ _ us hl => by obtain ⟨_, rfl⟩ := len_1 hl; rfl
  have F7 := fun_mk (st := s_after_round) l7 c7 k7
  have b7 := F7.binds (ps := ["rows"]) fun _ _ _ _ _ _ us hl => by obtain ⟨_, rfl⟩ := len_1 hl; rfl
  have F8 := fun_mk (st := s_without_idle) l8 c8 k8
  have b8 := F8.binds (ps := ["rows", "behind"]) fun _ _ _ _ _ _ us hl => by obtain ⟨_, _, rfl⟩ := len_2 hl; rfl
  have F9 := fun_mk (st := s_row_without_idle) l9 c9 k9
  have b9 := F9.binds (ps := ["row", "behind"]) fun _ _ _ _ _ _ us hl => by obtain ⟨_, _, rfl⟩ := len_2 hl; rfl
  have F10 := fun_mk (st := s_read_first) l10 c10 k10
  have b10 := F10.binds (ps := ["row", "behind"]) fun _ _ _ _ _ _ us hl => by obtain ⟨_, _, rfl⟩ := len_2 hl; rfl
  have F11 := fun_mk (st := s_all_read_first) l11 c11 k11
  have b11 := F11.binds (ps := ["rows", "behind"]) fun _ _ _ _ _ _ us hl => by obtain ⟨_, _, rfl⟩ := len_2 hl; rfl
  have F12 := fun_mk (st := s_joined) l12 c12 k12
  have b12 := F12.binds (ps := ["names", "others"]) fun _ _ _ _ _ _ us hl => by obtain ⟨_, _, rfl⟩ := len_2 hl; rfl
  have F13 := fun_mk (st := s_without_empty_ifs) l13 c13 k13
  have b13 := F13.binds (ps := ["rows"]) fun _ _ _ _ _ _ us hl => by obtain ⟨_, rfl⟩ := len_1 hl; rfl
  have F14 := fun_mk (st := s__law_mixed) l14 c14 k14
  have b14 := F14.binds (ps := ["_law_cell", "_law_k"]) fun _ _ _ _ _ _ us hl => by obtain ⟨_, _, rfl⟩ := len_2 hl; rfl
  have F15 := fun_mk (st := s__law_names) l15 c15 k15
  have b15 := F15.binds (ps := ["_law_cell"]) fun _ _ _ _ _ _ us hl => by obtain ⟨_, rfl⟩ := len_1 hl; rfl
  have F16 := fun_mk (st := s__law_operand) l16 c16 k16
  have b16 := F16.binds (ps := ["_law_mixed_here", "_law_names_here", "_law_width"]) fun _ _ _ _ _ _ us hl => by obtain ⟨_, _, _, rfl⟩ := len_3 hl; rfl
  have F17 := fun_mk (st := s__law_deed) l17 c17 k17
  have b17 := F17.binds (ps := ["_law_mixed_here", "_law_names_here", "_law_width"]) fun _ _ _ _ _ _ us hl => by obtain ⟨_, _, _, rfl⟩ := len_3 hl; rfl
  have F18 := fun_mk (st := s__law_into) l18 c18 k18
  have b18 := F18.binds (ps := ["_law_stack", "_law_row"]) fun _ _ _ _ _ _ us hl => by obtain ⟨_, _, rfl⟩ := len_2 hl; rfl
  have F19 := fun_mk (st := s__law_closed) l19 c19 k19
  have b19 := F19.binds (ps := ["_law_stack"]) fun _ _ _ _ _ _ us hl => by obtain ⟨_, rfl⟩ := len_1 hl; rfl
  have F20 := fun_mk (st := s__law_program) l20 c20 k20
  have b20 := F20.binds (ps := ["_law_cells", "_law_names_here", "_law_width", "_law_most"]) fun _ _ _ _ _ _ us hl => by obtain ⟨_, _, _, _, rfl⟩ := len_4 hl; rfl
  have F21 := fun_mk (st := s__law_reads) l21 c21 k21
  have b21 := F21.binds (ps := ["_law_deed_here"]) fun _ _ _ _ _ _ us hl => by obtain ⟨_, rfl⟩ := len_1 hl; rfl
  have F22 := fun_mk (st := s__law_nodes) l22 c22 k22
  have b22 := F22.binds (ps := ["_law_rows", "_law_nodes_here", "_law_behind"]) fun _ _ _ _ _ _ us hl => by obtain ⟨_, _, _, rfl⟩ := len_3 hl; rfl
  have F23 := fun_mk (st := s__law_out) l23 c23 k23
  have b23 := F23.binds (ps := ["_law_node", "_law_live"]) fun _ _ _ _ _ _ us hl => by obtain ⟨_, _, rfl⟩ := len_2 hl; rfl
  have F24 := fun_mk (st := s__law_idle) l24 c24 k24
  have b24 := F24.binds (ps := ["_law_rows"]) fun _ _ _ _ _ _ us hl => by obtain ⟨_, rfl⟩ := len_1 hl; rfl
  have F25 := fun_mk (st := s__law_taken) l25 c25 k25
  have b25 := F25.binds (ps := ["_law_rows", "_law_idle_here", "_law_at"]) fun _ _ _ _ _ _ us hl => by obtain ⟨_, _, _, rfl⟩ := len_3 hl; rfl
  have F26 := fun_mk (st := s__law_trimmed) l26 c26 k26
  have b26 := F26.binds (ps := ["_law_rows"]) fun _ _ _ _ _ _ us hl => by obtain ⟨_, rfl⟩ := len_1 hl; rfl
  have F27 := fun_mk (st := s__law_same_rows) l27 c27 k27
  have b27 := F27.binds (ps := ["_law_found", "_law_due"]) fun _ _ _ _ _ _ us hl => by obtain ⟨_, _, rfl⟩ := len_2 hl; rfl
  have F28 := fun_mk (st := s_law) l28 c28 k28
  have b28 := F28.binds (ps := ["_law_script"]) fun _ _ _ _ _ _ us hl => by obtain ⟨_, rfl⟩ := len_1 hl; rfl
  exact ⟨⟨_, _, _, _, _, _, _, _, _, _, _, _, _, _, _, _, _, _, _, _, _, _, _, _, _, _, _, _, _, _, _, _, _, _, _, _, _, _, _, _, _, _, _, _, _, _, _, _, _, _, _, _, _, _, _, _, _, _, _⟩, ⟨⟨⟨pg_Program, hd_Program, po_Program, sa_Program⟩, mk_Program, kc_Program, PySem.W.mg_of X G aC_Program⟩, n_Program_width, n_Program_ins, n_Program_boxes, n_Program_rows, ⟨F0, b0, ⟨a0, i0, k0⟩⟩, ⟨F1, b1, PySem.W.mg_of X G a1⟩, ⟨F2, b2, PySem.W.mg_of X G a2⟩, ⟨F3, b3, PySem.W.mg_of X G a3⟩, ⟨F4, b4, PySem.W.mg_of X G a4⟩, ⟨F5, b5, PySem.W.mg_of X G a5⟩, ⟨F6, b6, PySem.W.mg_of X G a6⟩, ⟨F7, b7, PySem.W.mg_of X G a7⟩, ⟨F8, b8, PySem.W.mg_of X G a8⟩, ⟨F9, b9, PySem.W.mg_of X G a9⟩, ⟨F10, b10, PySem.W.mg_of X G a10⟩, ⟨F11, b11, PySem.W.mg_of X G a11⟩, ⟨F12, b12, PySem.W.mg_of X G a12⟩, ⟨F13, b13, PySem.W.mg_of X G a13⟩, ⟨F14, b14, PySem.W.mg_of X G a14⟩, ⟨F15, b15, PySem.W.mg_of X G a15⟩, ⟨F16, b16, PySem.W.mg_of X G a16⟩, ⟨F17, b17, PySem.W.mg_of X G a17⟩, ⟨F18, b18, PySem.W.mg_of X G a18⟩, ⟨F19, b19, PySem.W.mg_of X G a19⟩, ⟨F20, b20, PySem.W.mg_of X G a20⟩, ⟨F21, b21, PySem.W.mg_of X G a21⟩, ⟨F22, b22, PySem.W.mg_of X G a22⟩, ⟨F23, b23, PySem.W.mg_of X G a23⟩, ⟨F24, b24, PySem.W.mg_of X G a24⟩, ⟨F25, b25, PySem.W.mg_of X G a25⟩, ⟨F26, b26, PySem.W.mg_of X G a26⟩, ⟨F27, b27, PySem.W.mg_of X G a27⟩, ⟨F28, b28, PySem.W.mg_of X G a28⟩, PySem.W.mg_none_of X G z_range, PySem.W.mg_none_of X G z_isinstance, PySem.W.mg_none_of X G z_int, PySem.W.mg_none_of X G z_bool, PySem.W.mg_none_of X G z_enumerate, PySem.W.mg_none_of X G z_len, PySem.W.mg_none_of X G z_str, PySem.W.mg_none_of X G z_list, PySem.W.mg_none_of X G z_tuple, PySem.W.mg_none_of X G z_reversed, PySem.W.mg_none_of X G z_sorted⟩⟩
end K78
set_option maxHeartbeats 4000000
namespace K78
open PySem L2 PyProof.Rows FA FB FS FP FG FO FR
noncomputable def Later (u : TS) (D : Ends) : L2.St → Hp → Prop := u D
theorem later {u : TS} {D : Ends} {σ : L2.St} {H : Hp} (h : u D σ H) : Later u D σ H := h
theorem r_seqL {t u : TS} {D : Ends} {σ : L2.St} {H : Hp} : tSeq t u D σ H = t { D with nx := Later u D } σ H := rfl
theorem r_midL {t u : TS} {D : Ends} {σ : L2.St} {H : Hp} : tMid t u D σ H = ∃ Mid : L2.St → Hp → Prop, t { D with nx := Mid } σ H ∧ ∀ σ' H', Mid σ' H' → Later u D σ' H' := rfl
theorem r_ifSL {c : TT} {t u : TS} {D : Ends} {σ : L2.St} {H : Hp} : tIfS c t u D σ H = c σ H fun b H1 => if b = true then Later t D σ H1 else Later u D σ H1 := rfl
end K78
set_option maxHeartbeats 4000000
namespace K78
open PySem L2 PyProof.Rows FA FB FS FP FG FO FR
section
variable {P : Program} {w : World} {K : PySem.W.Frag} {mg : Str → Option Value} {base : Heap} {t : Ad}
theorem fil_opd {o : FB.Opd} : List.map id (List.filter isStrV [o.v]) = o.reads.map V.str := by cases o <;> rfl
theorem fil_opd2 {o p : FB.Opd} : List.map id (List.filter isStrV [o.v, p.v]) = (o.reads ++ p.reads).map V.str := by cases o <;> cases p <;> rfl
theorem isi_opd {o : FB.Opd} {H : Hp} {Q : VK} (h : Q (.bl (isStrV o.v)) H) : rIsi K [o.v, .ty "str"] H Q := by
  cases o with
  | box n => exact r_isi_str_str.mpr h
  | word i => exact r_isi_int_str.mpr h
theorem op_ne_tell {f : Str} (h : f ∈ FB.opsL) : ¬ f = "tell" := by
  rintro rfl
  revert h
  decide +kernel
theorem ix0 {d : FB.Deed} {H : Hp} {a : Addr} {Z : V → Hp → Prop} (f : d.fine) (hS : SqT K H a d.vs) (h : Z (.bl d.tells) H) : ∃ xs v, SqT K H a xs ∧ atI xs 0 = some v ∧ rEq v (.str "tell") H Z := by
  cases d with
  | tell o => exact ⟨_, _, hS, rfl, rfl, h⟩
  | copy n o => exact ⟨_, _, hS, rfl, rfl, h⟩
  | op g n o p =>
    refine ⟨_, _, hS, rfl, rfl, ?_⟩
    have e : decide (V.str g = V.str "tell") = false := decide_eq_false (fun z => op_ne_tell f (V.str.inj z))
    rw [e]; exact h
end
end K78
set_option maxHeartbeats 4000000
namespace K78
open PySem L2 PyProof.Rows FA FB FS FP FG FO FR
noncomputable def opds : FB.Deed → List FB.Opd
  | .tell a => [a]
  | .copy _ a => [a]
  | .op _ _ a b => [a, b]
noncomputable def wrV (d : FB.Deed) : V := match d.writes with | [] => .non | n :: _ => .str n
noncomputable def sp_opds (K : PySem.W.Frag) : Sp := fun vs H Q _ => ∃ (a : Addr) (d : FB.Deed), vs = [.ref a] ∧ SqT K H a d.vs ∧ d.fine ∧ ∀ p, H p = none → Q (.ref p) (upd H p (.tup ((opds d).map FB.Opd.v)))
noncomputable def sp_written (K : PySem.W.Frag) : Sp := fun vs H Q _ => ∃ (a : Addr) (d : FB.Deed), vs = [.ref a] ∧ SqT K H a d.vs ∧ d.fine ∧ Q (wrV d) H
theorem opds_len {d : FB.Deed} : (opds d).length ≤ 2 := by cases d <;> simp [opds]
section
variable {P : Program} {w : World} {K : PySem.W.Frag} {mg : Str → Option Value} {base : Heap} {t : Ad}
theorem ok_opds (T : Txt K mg t) : FnOk P w K mg base CX0 1 t.f_operands_of t.e_operands_of ["deed"] (sp_opds K) := by
  refine T.d_operands_of.F.ok sc_operands_of (fun vs H Q E h => by obtain ⟨_, _, rfl, _⟩ := h; rfl) (fun cdv A outer s H vs Q E hr h => ?_)
  obtain ⟨a, d, rfl, hS, hf, q⟩ := h
  refine ⟨_,
      (XSs.h
      (xpss_one
        (xps_ret (xpe_ifExp (xpt_cmpR op_eq (xpe_ix ix_tup (yqv 0 vl) xpe_int (fun _ _ => rfl)) xpe_str (nomark _)) (xpe_slice sl_tup (yqv 0 vl) (xpo_some xpe_int) xpo_none) (xpe_slice sl_tup (yqv 0 vl) (xpo_some xpe_int) xpo_none))))), ?_⟩
  rw [show start _ [V.ref a] = [some (.ref a)] from rfl]
  simp_arith [r_listRng, r_kget1, r_iEnumT, r_extend, r_sortedS]
  refine ix0 hf hS ⟨_, rfl, ?_⟩
  cases d with
  | tell o => exact ⟨_, hS, notWhole (k := 1) (show ¬ HT.sIx 2 0 (some 1) = 0 by decide), q⟩
  | copy n o => exact ⟨_, hS, notWhole (k := 2) (show ¬ HT.sIx 3 0 (some 2) = 0 by decide), q⟩
  | op f n o o2 => exact ⟨_, hS, notWhole (k := 2) (show ¬ HT.sIx 4 0 (some 2) = 0 by decide), q⟩
theorem r_opds {a : Addr} {H : Hp} {Q : VK} {E : XK} : sp_opds K [.ref a] H Q E = ∃ d : FB.Deed, SqT K H a d.vs ∧ d.fine ∧ ∀ p, H p = none → Q (.ref p) (upd H p (.tup ((opds d).map FB.Opd.v))) := propext ⟨by rintro ⟨_, d, e, q⟩; cases e; exact ⟨d, q⟩, by rintro ⟨d, q⟩; exact ⟨a, d, rfl, q⟩⟩
theorem ok_written (T : Txt K mg t) : FnOk P w K mg base CX0 1 t.f_box_written t.e_box_written ["deed"] (sp_written K) := by
  refine T.d_box_written.F.ok sc_box_written (fun vs H Q E h => by obtain ⟨_, _, rfl, _⟩ := h; rfl) (fun cdv A outer s H vs Q E hr h => ?_)
  obtain ⟨a, d, rfl, hS, hf, q⟩ := h
  refine ⟨_,
      (XSs.h
      (xpss_one
        (xps_ret (xpe_ifExp (xpt_cmpR op_eq (xpe_ix ix_tup (yqv 0 vl) xpe_int (fun _ _ => rfl)) xpe_str (nomark _)) xpe_non (xpe_ix ix_tup (yqv 0 vl) xpe_int (fun _ _ => rfl)))))), ?_⟩
  rw [show start _ [V.ref a] = [some (.ref a)] from rfl]
  simp_arith [r_listRng, r_kget1, r_iEnumT, r_extend, r_sortedS]
  refine ix0 hf hS ⟨_, rfl, ?_⟩
  cases d with
  | tell o => exact q
  | copy n o => exact ⟨_, _, hS, rfl, q⟩
  | op f n o o2 => exact ⟨_, _, hS, rfl, q⟩
theorem r_written {a : Addr} {H : Hp} {Q : VK} {E : XK} : sp_written K [.ref a] H Q E = ∃ d : FB.Deed, SqT K H a d.vs ∧ d.fine ∧ Q (wrV d) H := propext ⟨by rintro ⟨_, d, e, q⟩; cases e; exact ⟨d, q⟩, by rintro ⟨d, q⟩; exact ⟨a, d, rfl, q⟩⟩
end
end K78
set_option maxHeartbeats 4000000
namespace K78
open PySem L2 PyProof.Rows FA FB FS FP FG FO FR
noncomputable def sp_read (K : PySem.W.Frag) : Sp := fun vs H Q _ => ∃ (a : Addr) (d : FB.Deed), vs = [.ref a] ∧ SqT K H a d.vs ∧ d.fine ∧ ∀ p H', Same H H' → H p = none → H' p = some (.lst (d.reads.map V.str)) → Q (.ref p) H'
section
variable {P : Program} {w : World} {K : PySem.W.Frag} {mg : Str → Option Value} {base : Heap} {t : Ad}
theorem opds_reads {d : FB.Deed} : List.map id (List.filter isStrV ((opds d).map FB.Opd.v)) = d.reads.map V.str := by
  cases d with
  | tell o => exact fil_opd
  | copy n o => exact fil_opd
  | op f n o o2 => exact fil_opd2
theorem ok_read (T : Txt K mg t) : FnOk P w K mg base CX0 2 t.f_boxes_read t.e_boxes_read ["deed"] (sp_read K) := by
  have G_operands_of := ok_opds (P := P) (w := w) (base := base) T
  refine T.d_boxes_read.F.ok sc_boxes_read (fun vs H Q E h => by obtain ⟨_, _, rfl, _⟩ := h; rfl) (fun cdv A outer s H vs Q E hr h => ?_)
  obtain ⟨a, d, rfl, hS, hf, q⟩ := h
  refine ⟨_,
      (XSs.h
      (xpss_one
        (xps_ret (xpe_compG (tns := ["part"]) (cns := []) (ci := []) rfl (CompSc.of (by kernel_rfl)) (xpi_tup (xqe_callD T.d_operands_of G_operands_of (hr.mono (by first | decide | omega)) (xpa_cons (yqv 0 vl) xpa_nil) gl)) (fun _ => (xpg_name (i := 1) (show List.Nodup [(".0" : Str), ("part" : Str)] by decide +kernel) rfl ll (Or.inr (by kernel_rfl)))) (fun _ => (xpf_one (xpt_val (xqe_callB call_isi gl T.z_isinstance boot_isinstance (xpa_cons (yqv 1 vl) (xpa_cons (xqe_bltn (v := .ty "str") gl T.z_str boot_str rfl) xpa_nil)))))) (fun _ => (yqv 1 vl)))))), ?_⟩
  rw [show start _ [V.ref a] = [some (.ref a)] from rfl]
  simp_arith [r_listRng, r_kget1, r_iEnumT, r_extend, r_sortedS, r_opds]
  refine ⟨d, hS, hf, fun p hp => ⟨⟨_, SqT.of upd_same⟩, fun acc hacc bk => ?_⟩⟩
  refine cg_flatT isStrV id (by rw [sizeLine_eq, List.length_map]; have := opds_len (d := d); omega) (SqT.of upd_same) hacc (fun x hm H3 Q' s3 h => ?_) (fun x hm H3 Q' s3 _ h => ?_) ?_
  · obtain ⟨o, _, rfl⟩ := List.mem_map.mp hm
    simp_arith [r_listRng, r_kget1, r_iEnumT, r_extend, r_sortedS]
    exact isi_opd ⟨_, rfl, h⟩
  · simp_arith [r_listRng, r_kget1, r_iEnumT, r_extend, r_sortedS]
    exact h
  · rw [opds_reads]
    exact q acc _ ((Same.upd hp).trans (Same.upd hacc)) ((Same.upd hp).free hacc) upd_same
theorem r_read {a : Addr} {H : Hp} {Q : VK} {E : XK} : sp_read K [.ref a] H Q E = ∃ d : FB.Deed, SqT K H a d.vs ∧ d.fine ∧ ∀ p H', Same H H' → H p = none → H' p = some (.lst (d.reads.map V.str)) → Q (.ref p) H' := propext ⟨by rintro ⟨_, d, e, q⟩; cases e; exact ⟨d, q⟩, by rintro ⟨d, q⟩; exact ⟨a, d, rfl, q⟩⟩
end
end K78
set_option maxHeartbeats 4000000
namespace K78
open PySem L2 PyProof.Rows FA FB FS FP FG FO FR
noncomputable def sp_joined (K : PySem.W.Frag) : Sp := fun vs H Q _ => ∃ (a b : Addr) (x y : List Str), vs = [.ref a, .ref b] ∧ H a = some (.lst (x.map V.str)) ∧ H b = some (.lst (y.map V.str)) ∧ x.length ≤ 1000 ∧ y.length ≤ 1000 ∧
  ∀ p H', Same H H' → H p = none → H' p = some (.lst ((FW.joinN x y).map V.str)) → Q (.ref p) H'
section
variable {P : Program} {w : World} {K : PySem.W.Frag} {mg : Str → Option Value} {base : Heap} {t : Ad}
theorem flat_strs2 {x : List Str} : (x.map V.str).all flatV = true := List.all_eq_true.mpr fun v hv => by obtain ⟨n, _, rfl⟩ := List.mem_map.mp hv; rfl
theorem ok_joined (T : Txt K mg t) : FnOk P w K mg base CX0 1 t.f_joined t.e_joined ["names", "others"] (sp_joined K) := by
  refine T.d_joined.F.ok sc_joined (fun vs H Q E h => by obtain ⟨_, _, _, _, rfl, _⟩ := h; rfl) (fun cdv A outer s H vs Q E hr h => ?_)
  obtain ⟨a, b, x, y, rfl, ha, hb, lx, ly, q⟩ := h
  refine ⟨_,
      (XSs.h
      (xpss_one
        (xps_ret (xpe_op op_cat (yqv 0 vc) (xpe_compG (tns := ["name"]) (cns := ["names"]) (ci := [0]) rfl (CompSc.of (by kernel_rfl)) (xpi_list (yqv 1 vl)) (fun _ => (xpg_name (i := 1) (show List.Nodup [(".0" : Str), ("name" : Str), ("names" : Str)] by decide +kernel) rfl ll (Or.inr (by kernel_rfl)))) (fun _ => (xpf_one (xpt_cmpR op_notIn_seq (yqv 1 vl) (yqv 2 vc) rfl))) (fun _ => (yqv 1 vl))))))), ?_⟩
  rw [show start _ [V.ref a, V.ref b] = [some (.ref a), some (.ref b)] from rfl]
  simp_arith [r_listRng, r_kget1, r_iEnumT, r_extend, r_sortedS]
  refine ⟨⟨_, SqL.of hb⟩, fun acc hacc bk => ?_⟩
  refine cg_sameL (fun v => !inV v (x.map V.str)) id (by rw [sizeLine_eq, List.length_map]; omega) (SqL.of hb) hacc (fun v hv H1 Q' s1 h => ?_) (fun v hv H1 Q' s1 _ h => ?_) (fun H1 s1 h1 => ?_)
  · obtain ⟨n, _, rfl⟩ := List.mem_map.mp hv
    simp_arith [r_listRng, r_kget1, r_iEnumT, r_extend, r_sortedS]
    exact ⟨_, .inl (SqL.of (s1 _ _ ha)), rfl, flat_strs2, h H1 (Same.refl _)⟩
  · simp_arith [r_listRng, r_kget1, r_iEnumT, r_extend, r_sortedS]
    exact h H1 (Same.refl _)
  · have e : ((y.map V.str).filter fun v => !inV v (x.map V.str)).map id = (y.filter fun n => decide (n ∉ x)).map V.str := by
      rw [List.map_id, List.filter_map]
      congr 1
      refine List.filter_congr fun n _ => ?_
      show (!inV (V.str n) (x.map V.str)) = _
      rw [inV_str]
      simp
    rw [e] at h1
    have l2 : (y.filter fun n => decide (n ∉ x)).length ≤ y.length := List.length_filter_le _ _
    refine ⟨_, _, s1 _ _ ha, h1, by rw [sizeLine_eq, List.length_map, List.length_map]; omega, fun p hp => q p _ (s1.updN hp) (s1.free hp) ?_⟩
    rw [upd_same]
    unfold FW.joinN
    rw [List.map_append]
theorem r_joined {a b : Addr} {H : Hp} {Q : VK} {E : XK} : sp_joined K [.ref a, .ref b] H Q E = ∃ (x y : List Str), H a = some (.lst (x.map V.str)) ∧ H b = some (.lst (y.map V.str)) ∧ x.length ≤ 1000 ∧ y.length ≤ 1000 ∧
  ∀ p H', Same H H' → H p = none → H' p = some (.lst ((FW.joinN x y).map V.str)) → Q (.ref p) H' := propext ⟨by rintro ⟨_, _, x, y, e, q⟩; cases e; exact ⟨x, y, q⟩, by rintro ⟨x, y, q⟩; exact ⟨a, b, x, y, rfl, q⟩⟩
end
end K78
set_option maxHeartbeats 4000000
namespace K78
open PySem L2 PyProof.Rows FA FB FS FP FG FO FR
noncomputable def bd_rd (K : PySem.W.Frag) (d : Nat) (ns : List Str) (wd : Int) (x : V) (b : Addr) (H : Hp) (Q : VK) : Prop := ∃ (s : Stm) (f : List Addr) (X : List Str), StmV K H x s f ∧ s.deep < d ∧ s.good ns wd ∧ ns.length ≤ 400 ∧ s.many ≤ 1000 ∧ H b = some (.lst (X.map V.str)) ∧ FW.Few ns X ∧
  ∀ p H', Same H H' → H p = none → H' p = some (.lst ((FW.rdF s X).map V.str)) → Q (.ref p) H'
noncomputable def sp_rd (K : PySem.W.Frag) (d : Nat) (ns : List Str) (wd : Int) : Sp := fun vs H Q _ => ∃ (x : V) (b : Addr), vs = [x, .ref b] ∧ bd_rd K d ns wd x b H Q
noncomputable def bd_all (K : PySem.W.Frag) (d : Nat) (ns : List Str) (wd : Int) (a b : Addr) (H : Hp) (Q : VK) : Prop := ∃ (xs : List V) (ss : List Stm) (f : List Addr) (X : List Str), H a = some (.lst xs) ∧ StmsV K H xs ss f ∧ deepL ss < d ∧ goodL ns wd ss ∧ ns.length ≤ 400 ∧ manyL ss ≤ 1000 ∧ H b = some (.lst (X.map V.str)) ∧ FW.Few ns X ∧
  ∀ p H', Same H H' → H' p = some (.lst ((FW.allF ss X).map V.str)) → Q (.ref p) H'
noncomputable def sp_all (K : PySem.W.Frag) (d : Nat) (ns : List Str) (wd : Int) : Sp := fun vs H Q _ => ∃ (a b : Addr), vs = [.ref a, .ref b] ∧ bd_all K d ns wd a b H Q
section
variable {P : Program} {w : World} {K : PySem.W.Frag} {mg : Str → Option Value} {base : Heap} {t : Ad}
theorem r_rd {d : Nat} {ns : List Str} {wd : Int} {x : V} {b : Addr} {H : Hp} {Q : VK} {E : XK} : sp_rd K d ns wd [x, .ref b] H Q E = bd_rd K d ns wd x b H Q := propext ⟨by rintro ⟨_, _, e, q⟩; cases e; exact q, fun q => ⟨x, b, rfl, q⟩⟩
theorem r_allF {d : Nat} {ns : List Str} {wd : Int} {a b : Addr} {H : Hp} {Q : VK} {E : XK} : sp_all K d ns wd [.ref a, .ref b] H Q E = bd_all K d ns wd a b H Q := propext ⟨by rintro ⟨_, _, e, q⟩; cases e; exact q, fun q => ⟨a, b, rfl, q⟩⟩
theorem few_len {ns X : List Str} (h : FW.Few ns X) (hn : ns.length ≤ 400) : X.length ≤ 1000 := by have := h.len; omega
theorem drop_cons {ss : List Stm} {i : Nat} {s : Stm} (h : ss.reverse[i]? = some s) : ss.drop (ss.length - (i + 1)) = s :: ss.drop (ss.length - i) := by
  obtain ⟨hi, e⟩ := List.getElem?_eq_some_iff.mp h
  rw [List.length_reverse] at hi
  rw [List.getElem_reverse] at e
  have h1 : ss.length - (i + 1) < ss.length := by omega
  rw [List.drop_eq_getElem_cons h1, show ss.length - (i + 1) + 1 = ss.length - i by omega]
  congr 1
  rw [← e]
  congr 1
  omega
theorem stms_rev {H : Hp} {xs : List V} {ss : List Stm} {f : List Addr} {i : Nat} {x : V} (h : StmsV K H xs ss f) (hx : xs.reverse[i]? = some x) : ∃ s g, ss.reverse[i]? = some s ∧ s ∈ ss ∧ StmV K H x s g ∧ ∀ c ∈ g, c ∈ f := by
  have lx := h.length
  obtain ⟨hi, e⟩ := List.getElem?_eq_some_iff.mp hx
  rw [List.length_reverse] at hi
  rw [List.getElem_reverse] at e
  obtain ⟨s, g, h1, h2, h3⟩ := h.get (i := xs.length - 1 - i) (x := x) (by rw [List.getElem?_eq_getElem (by omega), e])
  refine ⟨s, g, ?_, List.mem_of_getElem? h1, h2, h3⟩
  rw [List.getElem?_reverse (by omega), ← lx]
  exact h1
theorem good_mem {ns : List Str} {wd : Int} : ∀ {ss : List Stm} {s : Stm}, goodL ns wd ss → s ∈ ss → s.good ns wd
  | _ :: _, _, h, hm => by
    rcases List.mem_cons.mp hm with z | z
    · subst z; exact h.1
    · exact good_mem h.2 z
theorem good_drop {ns : List Str} {wd : Int} {ss : List Stm} (n : Nat) (h : goodL ns wd ss) : goodL ns wd (ss.drop n) := by
  have e : ss = ss.take n ++ ss.drop n := (List.take_append_drop ..).symm
  rw [e] at h
  exact (goodL_append.mp h).2
theorem all_step (T : Txt K mg t) (d : Nat) (ns : List Str) (wd : Int) (G_read_first : FnOk P w K mg base CX0 (2 * d + 3) t.f_read_first t.e_read_first ["row", "behind"] (sp_rd K d ns wd)) : FnOk P w K mg base CX0 (2 * d + 4) t.f_all_read_first t.e_all_read_first ["rows", "behind"] (sp_all K d ns wd) := by
  refine T.d_all_read_first.F.ok sc_all_read_first (fun vs H Q E h => by obtain ⟨_, _, rfl, _⟩ := h; rfl) (fun cdv A outer s H vs Q E hr h => ?_)
  obtain ⟨a, b, rfl, xs, ss, f, X, ha, hx, hd, hg, hn, hm, hb, hX, q⟩ := h
  have lx := hx.length
  refine ⟨_,
      (XSs.h
      (xpss_cons
        (xps_for PassesOwn.never rfl (xpi_rev T.z_reversed (xpa_cons (yqv 0 vl) xpa_nil) gl) (xpg_name (i := 2) sc_all_read_first.nd rfl ll)
          (xpss_one
            (xps_set (i := 1) sc_all_read_first.nd rfl ll (xqe_callD T.d_read_first G_read_first (hr.mono (by first | decide | omega)) (xpa_cons (yqv 2 vl) (xpa_cons (yqv 1 vl) xpa_nil)) gl))))
      (xpss_one
        (xps_ret (yqv 1 vl))))), ?_⟩
  rw [show start _ [V.ref a, V.ref b] = [some (.ref a), some (.ref b), none] from rfl]
  simp_arith [r_listRng, r_kget1, r_iEnumT, r_extend, r_sortedS, r_rd]
  refine ⟨xs, SqL.of ha, ?_⟩
  refine fw_rev (fun i σ H' => Same H H' ∧ ∃ b' o, σ = [some (.ref a), some (.ref b'), o] ∧ H' b' = some (.lst ((FW.allF (ss.drop (ss.length - i)) X).map V.str))) ⟨Same.refl H, b, _, rfl, by rw [Nat.sub_zero, List.drop_length]; exact hb⟩ (fun i σ H' _ h => SqL.of (h.1 _ _ ha)) ?_ ?_
  · rintro i x σ H1 hxi ⟨s1, b', o, rfl, e1⟩
    simp_arith [r_listRng, r_kget1, r_iEnumT, r_extend, r_sortedS, r_rd]
    obtain ⟨st, g, hst, hms, hv, _⟩ := stms_rev hx hxi
    have hdm := deepL_mem hms
    refine ⟨st, g, _, hv.same s1, by omega, good_mem hg hms, hn, by have := many_mem hms; omega, e1, FW.all_few _ _ (good_drop _ hg) hX, fun p H2 s2 _ hp => ?_⟩
    refine ⟨s1.trans s2, p, _, rfl, ?_⟩
    rw [drop_cons hst, FW.allF]
    exact hp
  · rintro σ H1 ⟨s1, b', o, rfl, e1⟩
    simp_arith [r_listRng, r_kget1, r_iEnumT, r_extend, r_sortedS]
    rw [lx, Nat.sub_self, List.drop_zero] at e1
    exact q b' H1 s1 e1
theorem scal_wr {n : Str} {dd : Deed} : scal (V.str n) (wrV dd) = true := by cases dd <;> rfl
theorem not_wr {n : Str} {dd : Deed} : (!decide (V.str n = wrV dd)) = decide (n ∉ dd.writes) := by
  cases dd with
  | tell a => rw [decide_eq_false (by intro z; cases z)]; simp [Deed.writes]
  | copy c a =>
    show (!decide (V.str n = V.str c)) = decide (n ∉ [c])
    by_cases e : n = c
    · subst e; simp
    · rw [decide_eq_false (fun z => e (V.str.inj z)), decide_eq_true (by simpa using e)]; rfl
  | op f c a b =>
    show (!decide (V.str n = V.str c)) = decide (n ∉ [c])
    by_cases e : n = c
    · subst e; simp
    · rw [decide_eq_false (fun z => e (V.str.inj z)), decide_eq_true (by simpa using e)]; rfl
theorem reads_len (dd : Deed) : dd.reads.length ≤ 2 := by
  cases dd with
  | tell a => have := FW.Opd.readsLen a; show a.reads.length ≤ 2; omega
  | copy c a => have := FW.Opd.readsLen a; show a.reads.length ≤ 2; omega
  | op f c x y => have := FW.Opd.readsLen x; have := FW.Opd.readsLen y; show (x.reads ++ y.reads).length ≤ 2; rw [List.length_append]; omega
theorem rd_step (T : Txt K mg t) (d : Nat) (ns : List Str) (wd : Int) (G_all_read_first : FnOk P w K mg base CX0 (2 * d + 4) t.f_all_read_first t.e_all_read_first ["rows", "behind"] (sp_all K d ns wd)) : FnOk P w K mg base CX0 (2 * (d + 1) + 3) t.f_read_first t.e_read_first ["row", "behind"] (sp_rd K (d + 1) ns wd) := by
  have G_joined := ok_joined (P := P) (w := w) (base := base) T
  have G_boxes_read := ok_read (P := P) (w := w) (base := base) T
  have G_box_written := ok_written (P := P) (w := w) (base := base) T
  refine T.d_read_first.F.ok sc_read_first (fun vs H Q E h => by obtain ⟨_, _, rfl, _⟩ := h; rfl) (fun cdv A outer s H vs Q E hr h => ?_)
  obtain ⟨x, b, rfl, st, f, X, hx, hd, hg, hn, hm, hb, hX, q⟩ := h
  refine ⟨_,
      (XSs.h
      (xpss_cons
        (xps_if (xpt_cmpR op_eq (xpe_ix ix_tup (yqv 0 vc) xpe_int (fun _ _ => rfl)) xpe_str (nomark _))
          (xpss_cons
            (xps_set (i := 2) sc_read_first.nd rfl ll (xqe_callD T.d_joined G_joined (hr.mono (by first | decide | omega)) (xpa_cons (xqe_callD T.d_all_read_first G_all_read_first (hr.mono (by first | decide | omega)) (xpa_cons (xpe_ix ix_tup (yqv 0 vc) xpe_int (fun _ _ => rfl)) (xpa_cons (yqv 1 vl) xpa_nil)) gl) (xpa_cons (xqe_callD T.d_all_read_first G_all_read_first (hr.mono (by first | decide | omega)) (xpa_cons (xpe_ix ix_tup (yqv 0 vc) xpe_int (fun _ _ => rfl)) (xpa_cons (yqv 1 vl) xpa_nil)) gl) xpa_nil)) gl))
          (xpss_one
            (xps_ret (xqe_callD T.d_joined G_joined (hr.mono (by first | decide | omega)) (xpa_cons (yqv 2 vl) (xpa_cons (xpe_lst (xpa_cons (xpe_ix ix_tup (yqv 0 vc) xpe_int (fun _ _ => rfl)) xpa_nil)) xpa_nil)) gl))))
          xpss_nil)
      (xpss_cons
        (xps_if (xpt_cmpR op_eq (xpe_ix ix_tup (yqv 0 vc) xpe_int (fun _ _ => rfl)) xpe_str (nomark _))
          (xpss_cons
            (xps_set (i := 3) sc_read_first.nd rfl ll (xqe_callD T.d_joined G_joined (hr.mono (by first | decide | omega)) (xpa_cons (yqv 1 vl) (xpa_cons (xpe_lst (xpa_cons (xpe_ix ix_tup (yqv 0 vc) xpe_int (fun _ _ => rfl)) xpa_nil)) xpa_nil)) gl))
          (xpss_one
            (xps_ret (xqe_callD T.d_joined G_joined (hr.mono (by first | decide | omega)) (xpa_cons (yqv 3 vl) (xpa_cons (xqe_callD T.d_all_read_first G_all_read_first (hr.mono (by first | decide | omega)) (xpa_cons (xpe_ix ix_tup (yqv 0 vc) xpe_int (fun _ _ => rfl)) (xpa_cons (yqv 3 vl) xpa_nil)) gl) xpa_nil)) gl))))
          xpss_nil)
      (xpss_one
        (xps_ret (xqe_callD T.d_joined G_joined (hr.mono (by first | decide | omega)) (xpa_cons (xpe_compG (tns := ["name"]) (cns := ["row"]) (ci := [0]) rfl (CompSc.of (by kernel_rfl)) (xpi_list (yqv 1 vl)) (fun _ => (xpg_name (i := 1) (show List.Nodup [(".0" : Str), ("name" : Str), ("row" : Str)] by decide +kernel) rfl ll (Or.inr (by kernel_rfl)))) (fun _ => (xpf_one (xpt_cmpR op_ne (yqv 1 vl) (xqe_callD T.d_box_written G_box_written (hr.mono (by first | decide | omega)) (xpa_cons (yqv 2 vc) xpa_nil) gl) (nomark _)))) (fun _ => (yqv 1 vl))) (xpa_cons (xqe_callD T.d_boxes_read G_boxes_read (hr.mono (by first | decide | omega)) (xpa_cons (yqv 0 vc) xpa_nil) gl) xpa_nil)) gl)))))), ?_⟩
  rw [show start _ [x, V.ref b] = [some x, some (.ref b), none, none] from rfl]
  have lX := few_len hX hn
  cases hx with
  | @deed q0 dd hf hq =>
    simp_arith [r_listRng, r_kget1, r_iEnumT, r_extend, r_sortedS, r_allF, r_joined, r_read, r_written]
    refine deed0 hf hq (by decide +kernel) (by decide +kernel) (by decide +kernel) ⟨_, rfl, ?_⟩
    rw [if_neg Bool.false_ne_true]
    refine deed0 hf hq (by decide +kernel) (by decide +kernel) (by decide +kernel) ⟨_, rfl, ?_⟩
    rw [if_neg Bool.false_ne_true]
    refine ⟨⟨_, SqL.of hb⟩, fun acc hacc bk => ?_⟩
    refine cg_sameL (fun v => !decide (v = wrV dd)) id (by rw [sizeLine_eq, List.length_map]; omega) (SqL.of hb) hacc (fun v hv H1 Q' s1 h => ?_) (fun v hv H1 Q' s1 _ h => ?_) (fun H1 s1 h1 => ?_)
    · obtain ⟨n, _, rfl⟩ := List.mem_map.mp hv
      simp_arith [r_listRng, r_kget1, r_iEnumT, r_extend, r_sortedS, r_written]
      exact ⟨dd, s1.seqT hq, hf, scal_wr, _, rfl, h H1 (Same.refl _)⟩
    · simp_arith [r_listRng, r_kget1, r_iEnumT, r_extend, r_sortedS]
      exact h H1 (Same.refl _)
    · have e : ((X.map V.str).filter fun v => !decide (v = wrV dd)).map id = (X.filter fun n => decide (n ∉ dd.writes)).map V.str := by
        rw [List.map_id, List.filter_map]
        congr 1
        refine List.filter_congr fun n _ => ?_
        exact not_wr
      rw [e] at h1
      have lf : (X.filter fun n => decide (n ∉ dd.writes)).length ≤ X.length := List.length_filter_le _ _
      refine ⟨dd, s1.seqT hq, hf, fun p H2 s2 hp hp2 => ⟨_, _, s2 _ _ h1, hp2, by omega, by have := reads_len dd; omega, fun p3 H3 s3 hp3 e3 => ?_⟩⟩
      refine q p3 H3 ((s1.trans s2).trans s3) ((s1.trans s2).free hp3) ?_
      rw [FW.rdF]
      exact e3
  | @ifs q0 a c n xs ys ones others f g hq ha hc h1 h2 =>
    simp only [Stm.deep, Stm.many] at hd hm
    obtain ⟨gn, ga, gc⟩ := hg
    simp_arith [r_listRng, r_kget1, r_iEnumT, r_extend, r_sortedS, r_allF, r_joined]
    refine ⟨_, _, hq, rfl, ?_⟩
    simp_arith [r_listRng, r_kget1, r_iEnumT, r_extend, r_sortedS, r_allF, r_joined]
    refine ite_dec (fun _ => ⟨_, _, hq, rfl, ?_⟩) (fun z => absurd trivial z)
    simp_arith [r_listRng, r_kget1, r_iEnumT, r_extend, r_sortedS, r_allF, r_joined]
    refine ⟨xs, ones, _, X, ha, h1, by omega, ga, hn, by omega, hb, hX, fun p1 H1 s1 e1 => ⟨_, _, s1.seqT hq, rfl, ?_⟩⟩
    simp_arith [r_listRng, r_kget1, r_iEnumT, r_extend, r_sortedS, r_allF, r_joined]
    refine ⟨ys, others, _, X, s1 _ _ hc, h2.same s1, by omega, gc, hn, by omega, s1 _ _ hb, hX, fun p2 H2 s2 e2 => ?_⟩
    have fa := FW.all_few _ _ ga hX
    have fc := FW.all_few _ _ gc hX
    simp_arith [r_listRng, r_kget1, r_iEnumT, r_extend, r_sortedS, r_allF, r_joined]
    refine ⟨_, _, s2 _ _ e1, e2, few_len fa hn, few_len fc hn, fun p3 H3 s3 hp3 e3 => ⟨_, _, ((s1.trans s2).trans s3).seqT hq, rfl, fun p4 hp4 => ?_⟩⟩
    have s4 := Same.upd (o := .lst [V.str n]) hp4
    refine ⟨_, [n], s4 _ _ e3, upd_same, few_len (fa.join fc) hn, by simp, fun p5 H5 s5 hp5 e5 => ?_⟩
    refine q p5 H5 ((((s1.trans s2).trans s3).trans s4).trans s5) ((((s1.trans s2).trans s3).trans s4).free hp5) ?_
    rw [FW.rdF]
    exact e5
  | @whl q0 a n xs rows f hq ha h1 =>
    simp only [Stm.deep, Stm.many] at hd hm
    obtain ⟨gn, ga⟩ := hg
    simp_arith [r_listRng, r_kget1, r_iEnumT, r_extend, r_sortedS, r_allF, r_joined]
    refine ⟨_, _, hq, rfl, ?_⟩
    simp_arith [r_listRng, r_kget1, r_iEnumT, r_extend, r_sortedS, r_allF, r_joined]
    refine ite_dec (fun z => absurd z (by decide +kernel)) (fun _ => ⟨_, _, hq, rfl, ?_⟩)
    simp_arith [r_listRng, r_kget1, r_iEnumT, r_extend, r_sortedS, r_allF, r_joined]
    refine ite_dec (fun _ => ⟨_, _, hq, rfl, fun p1 hp1 => ?_⟩) (fun z => absurd trivial z)
    have s1 := Same.upd (o := .lst [V.str n]) hp1
    refine ⟨X, [n], s1 _ _ hb, upd_same, lX, by simp, fun p2 H2 s2 hp2 e2 => ⟨_, _, (s1.trans s2).seqT hq, rfl, ?_⟩⟩
    simp_arith [r_listRng, r_kget1, r_iEnumT, r_extend, r_sortedS, r_allF, r_joined]
    have fX := hX.join (.one gn)
    refine ⟨xs, rows, _, _, s2 _ _ (s1 _ _ ha), (h1.same s1).same s2, by omega, ga, hn, by omega, e2, fX, fun p3 H3 s3 e3 => ?_⟩
    simp_arith [r_listRng, r_kget1, r_iEnumT, r_extend, r_sortedS, r_allF, r_joined]
    refine ⟨_, _, s3 _ _ e2, e3, few_len fX hn, few_len (FW.all_few _ _ ga fX) hn, fun p5 H5 s5 hp5 e5 => ?_⟩
    refine q p5 H5 (((s1.trans s2).trans s3).trans s5) (((s1.trans s2).trans s3).free hp5) ?_
    rw [FW.rdF]
    exact e5
theorem ok_reads_all (T : Txt K mg t) (ns : List Str) (wd : Int) : ∀ d, FnOk P w K mg base CX0 (2 * d + 3) t.f_read_first t.e_read_first ["row", "behind"] (sp_rd K d ns wd) ∧ FnOk P w K mg base CX0 (2 * d + 4) t.f_all_read_first t.e_all_read_first ["rows", "behind"] (sp_all K d ns wd)
  | 0 => by
    have z : FnOk P w K mg base CX0 (2 * 0 + 3) t.f_read_first t.e_read_first ["row", "behind"] (sp_rd K 0 ns wd) := ⟨fun vs H Q E h => by obtain ⟨_, _, _, _, _, _, _, h, _⟩ := h; omega, fun _ _ _ _ _ _ _ _ _ _ _ _ _ h => by obtain ⟨_, _, _, _, _, _, _, h, _⟩ := h; omega⟩
    exact ⟨z, all_step T 0 ns wd z⟩
  | d + 1 => by
    have z := rd_step T d ns wd (ok_reads_all T ns wd d).2
    exact ⟨z, all_step T (d + 1) ns wd z⟩
end
end K78
set_option maxHeartbeats 4000000
namespace K78
open PySem L2 PyProof.Rows FA FB FS FP FG FO FR
noncomputable def bd_wir (K : PySem.W.Frag) (d : Nat) (ns : List Str) (wd : Int) (x : V) (b : Addr) (H : Hp) (Q : VK) : Prop := ∃ (s : Stm) (f : List Addr) (X : List Str), StmV K H x s f ∧ s.deep < d ∧ s.good ns wd ∧ ns.length ≤ 400 ∧ s.many ≤ 1000 ∧ H b = some (.lst (X.map V.str)) ∧ FW.Few ns X ∧
  ∀ p ys g H', Same H H' → H p = none → H' p = some (.lst ys) → StmsV K H' ys (FW.wiS s X) g → (∀ c ∈ g, c ∈ f ∨ H c = none) → Q (.ref p) H'
noncomputable def sp_wir (K : PySem.W.Frag) (d : Nat) (ns : List Str) (wd : Int) : Sp := fun vs H Q _ => ∃ (x : V) (b : Addr), vs = [x, .ref b] ∧ bd_wir K d ns wd x b H Q
noncomputable def bd_wi (K : PySem.W.Frag) (d : Nat) (ns : List Str) (wd : Int) (a b : Addr) (H : Hp) (Q : VK) : Prop := ∃ (xs : List V) (ss : List Stm) (f : List Addr) (X : List Str), H a = some (.lst xs) ∧ StmsV K H xs ss f ∧ deepL ss < d ∧ goodL ns wd ss ∧ ns.length ≤ 400 ∧ manyL ss ≤ 1000 ∧ H b = some (.lst (X.map V.str)) ∧ FW.Few ns X ∧
  ∀ p ys g H', Same H H' → H p = none → H' p = some (.lst ys) → StmsV K H' ys (FW.wiL ss X) g → (∀ c ∈ g, c ∈ f ∨ H c = none) → Q (.ref p) H'
noncomputable def sp_wi (K : PySem.W.Frag) (d : Nat) (ns : List Str) (wd : Int) : Sp := fun vs H Q _ => ∃ (a b : Addr), vs = [.ref a, .ref b] ∧ bd_wi K d ns wd a b H Q
section
variable {P : Program} {w : World} {K : PySem.W.Frag} {mg : Str → Option Value} {base : Heap} {t : Ad}
theorem r_wir {d : Nat} {ns : List Str} {wd : Int} {x : V} {b : Addr} {H : Hp} {Q : VK} {E : XK} : sp_wir K d ns wd [x, .ref b] H Q E = bd_wir K d ns wd x b H Q := propext ⟨by rintro ⟨_, _, e, q⟩; cases e; exact q, fun q => ⟨x, b, rfl, q⟩⟩
theorem r_wi {d : Nat} {ns : List Str} {wd : Int} {a b : Addr} {H : Hp} {Q : VK} {E : XK} : sp_wi K d ns wd [.ref a, .ref b] H Q E = bd_wi K d ns wd a b H Q := propext ⟨by rintro ⟨_, _, e, q⟩; cases e; exact q, fun q => ⟨a, b, rfl, q⟩⟩
theorem stms_app {H : Hp} {ys : List V} {ts : List Stm} {g : List Addr} (hy : StmsV K H ys ts g) : ∀ {xs : List V} {ss : List Stm} {f : List Addr}, StmsV K H xs ss f → StmsV K H (xs ++ ys) (ss ++ ts) (f ++ g)
  | _, _, _, .nil => hy
  | _, _, _, .cons h1 h2 => by rw [List.append_assoc]; exact .cons h1 (stms_app hy h2)
theorem rev_le1 {α : Type} {l : List α} (h : l.length ≤ 1) : l.reverse = l := by
  match l, h with
  | [], _ => rfl
  | [_], _ => rfl
theorem wi_step (T : Txt K mg t) (d : Nat) (ns : List Str) (wd : Int) (G_row_without_idle : FnOk P w K mg base CX0 (2 * d + 6) t.f_row_without_idle t.e_row_without_idle ["row", "behind"] (sp_wir K d ns wd)) : FnOk P w K mg base CX0 (2 * d + 7) t.f_without_idle t.e_without_idle ["rows", "behind"] (sp_wi K d ns wd) := by
  have G_read_first := (ok_reads_all (P := P) (w := w) (base := base) T ns wd d).1
  refine T.d_without_idle.F.ok sc_without_idle (fun vs H Q E h => by obtain ⟨_, _, rfl, _⟩ := h; rfl) (fun cdv A outer s H vs Q E hr h => ?_)
  obtain ⟨a, b, rfl, xs, ss, f, X, ha, hx, hd, hg, hn, hm, hb, hX, q⟩ := h
  have lx := hx.length
  have lm := len_many ss
  refine ⟨_,
      (XSs.h
      (xpss_cons
        (xps_set (i := 2) sc_without_idle.nd rfl ll (xpe_lst xpa_nil))
      (xpss_cons
        (xps_for PassesOwn.never rfl (xpi_rev T.z_reversed (xpa_cons (yqv 0 vl) xpa_nil) gl) (xpg_name (i := 3) sc_without_idle.nd rfl ll)
          (xpss_cons
            (xps_expr (xpe_bm PySem.F.plainAttrs_list PySem.F.slot_list_extend PySem.F.type_list_extend mt_extend (yqv 2 vl) (xpa_cons (xqe_callD T.d_row_without_idle G_row_without_idle (hr.mono (by first | decide | omega)) (xpa_cons (yqv 3 vl) (xpa_cons (yqv 1 vl) xpa_nil)) gl) xpa_nil)))
          (xpss_one
            (xps_set (i := 1) sc_without_idle.nd rfl ll (xqe_callD T.d_read_first G_read_first (hr.mono (by first | decide | omega)) (xpa_cons (yqv 3 vl) (xpa_cons (yqv 1 vl) xpa_nil)) gl)))))
      (xpss_one
        (xps_ret (xpe_listRev rfl T.z_list T.z_reversed (xpa_cons (yqv 2 vl) xpa_nil) gl gl)))))), ?_⟩
  rw [show start _ [V.ref a, V.ref b] = [some (.ref a), some (.ref b), none, none] from rfl]
  simp_arith [r_listRng, r_kget1, r_iEnumT, r_extend, r_sortedS, r_rd, r_wir]
  intro k hk
  refine ⟨xs, (Same.upd hk).seq (SqL.of ha), ?_⟩
  refine fw_rev (fun i σ H' => Same H H' ∧ ∃ b' o, σ = [some (.ref a), some (.ref b'), some (.ref k), o] ∧ H' b' = some (.lst ((FW.allF (ss.drop (ss.length - i)) X).map V.str)) ∧ b' ≠ k ∧
    ∃ ys g, H' k = some (.lst ys) ∧ ys.length ≤ i ∧ StmsV K H' ys.reverse (FW.wiL (ss.drop (ss.length - i)) X) g ∧ k ∉ g ∧ ∀ c ∈ g, c ∈ f ∨ H c = none) ⟨Same.upd hk, b, _, rfl, ?_, ne_of_none hb hk, [], [], upd_same, Nat.le_refl _, ?_, by simp, by simp⟩ (fun i σ H' _ h => SqL.of (h.1 _ _ ha)) ?_ ?_
  · rw [Nat.sub_zero, List.drop_length]; exact (Same.upd hk) _ _ hb
  · rw [Nat.sub_zero, List.drop_length]; exact .nil
  · rintro i x σ H1 hxi ⟨s1, b', o, rfl, e1, nb, ys, g, e2, ly, hy, ng, fg⟩
    simp_arith [r_listRng, r_kget1, r_iEnumT, r_extend, r_sortedS, r_rd, r_wir]
    obtain ⟨st, g', hst, hms, hv, hsub⟩ := stms_rev hx hxi
    have hdm := deepL_mem hms
    have hmm := many_mem hms
    have hi : i < xs.length := by have := (List.getElem?_eq_some_iff.mp hxi).1; rwa [List.length_reverse] at this
    have fX := FW.all_few _ _ (good_drop (ss.length - i) hg) hX
    refine ⟨.inl ⟨rfl, _, SqL.of e2⟩, st, g', _, hv.same s1, by omega, good_mem hg hms, hn, by omega, e1, fX, fun p ys2 g2 H2 s2 hp e3 hy2 f2 => ?_⟩
    have l2 : ys2.length ≤ 1 := by rw [hy2.length]; exact FW.wiS_len _ _
    have kg' : k ∉ g' := fun z => by obtain ⟨zs, hz⟩ := hv.tracked k z; rw [hk] at hz; cases hz
    have kg2 : k ∉ g2 := fun z => by
      rcases f2 k z with h | h
      · exact kg' h
      · rw [e2] at h; cases h
    have e4 := s2 _ _ e2
    simp_arith [r_listRng, r_kget1, r_iEnumT, r_extend, r_sortedS, r_rd]
    refine ⟨ys, ys2, e4, e3, by rw [sizeLine_eq]; omega, ?_⟩
    have s3 : Same H (upd H2 k (.lst (ys ++ ys2))) := (s1.trans s2).updM hk
    have t3 : TSame H2 (upd H2 k (.lst (ys ++ ys2))) := TSame.updL e4
    refine ⟨st, g', _, hv.same s3, by omega, good_mem hg hms, hn, by omega, by rw [upd_ne nb]; exact s2 _ _ e1, fX, fun p5 H5 s5 hp5 e5 => ?_⟩
    have e6 : H5 k = some (.lst (ys ++ ys2)) := s5 _ _ upd_same
    have nb5 : p5 ≠ k := fun z => by rw [z, upd_same] at hp5; cases hp5
    have h6 := stms_app ((hy.same s2).keep t3 (Kept.upd ng)) (hy2.keep t3 (Kept.upd kg2))
    refine ⟨s3.trans s5, p5, _, rfl, ?_, nb5, ys ++ ys2, g2 ++ g, e6, by rw [List.length_append]; omega, ?_, ?_, ?_⟩
    · rw [drop_cons hst, FW.allF]; exact e5
    · rw [drop_cons hst, FW.wiL, List.reverse_append, rev_le1 l2]
      exact h6.same s5
    · intro z
      rcases List.mem_append.mp z with z | z
      · exact kg2 z
      · exact ng z
    · intro c hc
      rcases List.mem_append.mp hc with z | z
      · rcases f2 c z with h | h
        · exact .inl (hsub c h)
        · exact .inr (s1.free h)
      · exact fg c z
  · rintro σ H1 ⟨s1, b', o, rfl, e1, nb, ys, g, e2, ly, hy, ng, fg⟩
    rw [lx, Nat.sub_self, List.drop_zero] at hy
    simp_arith [r_listRng, r_kget1, r_iEnumT, r_extend, r_sortedS]
    exact ⟨ys, SqL.of e2, fun l hl => q l ys.reverse g _ (s1.updN hl) (s1.free hl) upd_same (hy.same (Same.upd hl)) fg⟩
theorem wr_cases (dd : Deed) : (dd.writes = [] ∧ wrV dd = .non) ∨ ∃ c, dd.writes = [c] ∧ wrV dd = .str c := by
  cases dd with
  | tell a => exact .inl ⟨rfl, rfl⟩
  | copy c a => exact .inr ⟨c, rfl, rfl⟩
  | op f c a b => exact .inr ⟨c, rfl, rfl⟩
theorem wir_step (T : Txt K mg t) (d : Nat) (ns : List Str) (wd : Int) (G_without_idle : FnOk P w K mg base CX0 (2 * d + 7) t.f_without_idle t.e_without_idle ["rows", "behind"] (sp_wi K d ns wd)) : FnOk P w K mg base CX0 (2 * (d + 1) + 6) t.f_row_without_idle t.e_row_without_idle ["row", "behind"] (sp_wir K (d + 1) ns wd) := by
  have G_read_first := (ok_reads_all (P := P) (w := w) (base := base) T ns wd (d + 1)).1
  have G_box_written := ok_written (P := P) (w := w) (base := base) T
  refine T.d_row_without_idle.F.ok sc_row_without_idle (fun vs H Q E h => by obtain ⟨_, _, rfl, _⟩ := h; rfl) (fun cdv A outer s H vs Q E hr h => ?_)
  obtain ⟨x, b, rfl, st, f, X, hx, hd, hg, hn, hm, hb, hX, q⟩ := h
  refine ⟨_,
      (XSs.h
      (xpss_cons
        (xps_if (xpt_cmpR op_eq (xpe_ix ix_tup (yqv 0 vl) xpe_int (fun _ _ => rfl)) xpe_str (nomark _))
          (xpss_one
            (xps_ret (xpe_lst (xpa_cons (xpe_tup (xpa_cons xpe_str (xpa_cons (xpe_ix ix_tup (yqv 0 vl) xpe_int (fun _ _ => rfl)) (xpa_cons (xqe_callD T.d_without_idle G_without_idle (hr.mono (by first | decide | omega)) (xpa_cons (xpe_ix ix_tup (yqv 0 vl) xpe_int (fun _ _ => rfl)) (xpa_cons (yqv 1 vl) xpa_nil)) gl) (xpa_cons (xqe_callD T.d_without_idle G_without_idle (hr.mono (by first | decide | omega)) (xpa_cons (xpe_ix ix_tup (yqv 0 vl) xpe_int (fun _ _ => rfl)) (xpa_cons (yqv 1 vl) xpa_nil)) gl) xpa_nil))))) xpa_nil))))
          xpss_nil)
      (xpss_cons
        (xps_if (xpt_cmpR op_eq (xpe_ix ix_tup (yqv 0 vl) xpe_int (fun _ _ => rfl)) xpe_str (nomark _))
          (xpss_one
            (xps_ret (xpe_lst (xpa_cons (xpe_tup (xpa_cons xpe_str (xpa_cons (xpe_ix ix_tup (yqv 0 vl) xpe_int (fun _ _ => rfl)) (xpa_cons (xqe_callD T.d_without_idle G_without_idle (hr.mono (by first | decide | omega)) (xpa_cons (xpe_ix ix_tup (yqv 0 vl) xpe_int (fun _ _ => rfl)) (xpa_cons (xqe_callD T.d_read_first G_read_first (hr.mono (by first | decide | omega)) (xpa_cons (yqv 0 vl) (xpa_cons (yqv 1 vl) xpa_nil)) gl) xpa_nil)) gl) xpa_nil)))) xpa_nil))))
          xpss_nil)
      (xpss_cons
        (xps_set (i := 2) sc_row_without_idle.nd rfl ll (xqe_callD T.d_box_written G_box_written (hr.mono (by first | decide | omega)) (xpa_cons (yqv 0 vl) xpa_nil) gl))
      (xpss_one
        (xps_ret (xpe_ifExp (xPW_pt (xpw_or (xpt_cmpR op_isN (yqv 2 vl) xpe_non (nomark _)) (xpw_or1 (xpt_cmpR op_in_seq (yqv 2 vl) (yqv 1 vl) rfl)))) (xpe_lst (xpa_cons (yqv 0 vl) xpa_nil)) (xpe_lst xpa_nil)))))))), ?_⟩
  rw [show start _ [x, V.ref b] = [some x, some (.ref b), none] from rfl]
  have lX := few_len hX hn
  cases hx with
  | @deed q0 dd hf hq =>
    simp_arith [r_listRng, r_kget1, r_iEnumT, r_extend, r_sortedS, r_wi, r_written]
    refine deed0 hf hq (by decide +kernel) (by decide +kernel) (by decide +kernel) ⟨_, rfl, ?_⟩
    rw [if_neg Bool.false_ne_true]
    refine deed0 hf hq (by decide +kernel) (by decide +kernel) (by decide +kernel) ⟨_, rfl, ?_⟩
    rw [if_neg Bool.false_ne_true]
    refine ⟨dd, hq, hf, ?_⟩
    have keep : FW.wiS (.deed dd) X = [.deed dd] → ∀ p, H p = none → Q (V.ref p) (upd H p (HO.lst [V.ref q0])) := fun e p hp =>
      q p [.ref q0] ([] ++ []) _ (Same.upd hp) hp upd_same (by rw [e]; exact .cons (.deed hf ((Same.upd hp).seqT hq)) .nil) (by simp)
    have drop : FW.wiS (.deed dd) X = [] → ∀ p, H p = none → Q (V.ref p) (upd H p (HO.lst [])) := fun e p hp =>
      q p [] [] _ (Same.upd hp) hp upd_same (by rw [e]; exact .nil) (by simp)
    rcases wr_cases dd with ⟨e1, e2⟩ | ⟨c, e1, e2⟩
    · rw [e2, decide_eq_true rfl, if_pos rfl, if_pos trivial]
      exact keep (by rw [FW.wiS, if_pos (by rw [e1]; simp)])
    · rw [e2, decide_eq_false (by intro z; cases z), if_neg Bool.false_ne_true]
      refine ⟨_, .inl (SqL.of hb), rfl, flat_strs2, ?_⟩
      rw [inV_str]
      refine ite_dec (fun h => keep ?_) (fun h => drop ?_)
      · rw [FW.wiS, if_pos (by rw [e1]; simpa using h)]
      · rw [FW.wiS, if_neg (by rw [e1]; simpa using h)]
  | @ifs q0 a c n xs ys ones others f g hq ha hc h1 h2 =>
    simp only [Stm.deep, Stm.many] at hd hm
    obtain ⟨gn, ga, gc⟩ := hg
    simp_arith [r_listRng, r_kget1, r_iEnumT, r_extend, r_sortedS, r_wi, r_written]
    refine ⟨_, _, hq, rfl, ?_⟩
    simp_arith [r_listRng, r_kget1, r_iEnumT, r_extend, r_sortedS, r_wi, r_written]
    refine ite_dec (fun _ => ⟨_, _, hq, rfl, _, _, hq, rfl, ?_⟩) (fun z => absurd trivial z)
    simp_arith [r_listRng, r_kget1, r_iEnumT, r_extend, r_sortedS, r_wi]
    refine ⟨xs, ones, f, X, ha, h1, by omega, ga, hn, by omega, hb, hX, fun p1 ys1 g1 H1 s1 hp1 e1 k1 f1 => ⟨_, _, s1.seqT hq, rfl, ?_⟩⟩
    simp_arith [r_listRng, r_kget1, r_iEnumT, r_extend, r_sortedS, r_wi]
    refine ⟨ys, others, g, X, s1 _ _ hc, h2.same s1, by omega, gc, hn, by omega, s1 _ _ hb, hX, fun p2 ys2 g2 H2 s2 hp2 e2 k2 f2 p3 hp3 p4 hp4 => ?_⟩
    have s3 := Same.upd (o := .tup [V.str "if", V.str n, V.ref p1, V.ref p2]) hp3
    have s4 := Same.upd (o := .lst [V.ref p3]) hp4
    have s14 := ((s1.trans s2).trans s3).trans s4
    refine q p4 _ ((p1 :: p2 :: (g1 ++ g2)) ++ []) _ s14 (((s1.trans s2).trans s3).free hp4) upd_same ?_ ?_
    · rw [FW.wiS]
      exact .cons (.ifs (SqT.of (s4 _ _ upd_same)) (s4 _ _ (s3 _ _ (s2 _ _ e1))) (s4 _ _ (s3 _ _ e2)) (((k1.same s2).same s3).same s4) ((k2.same s3).same s4)) .nil
    · intro z hz
      rw [List.append_nil] at hz
      rcases List.mem_cons.mp hz with h | hz
      · rw [h]; exact .inr hp1
      rcases List.mem_cons.mp hz with h | hz
      · rw [h]; exact .inr (s1.free hp2)
      rcases List.mem_append.mp hz with h | h
      · rcases f1 z h with h | h
        · exact .inl (List.mem_cons_of_mem _ (List.mem_cons_of_mem _ (List.mem_append_left _ h)))
        · exact .inr h
      · rcases f2 z h with h | h
        · exact .inl (List.mem_cons_of_mem _ (List.mem_cons_of_mem _ (List.mem_append_right _ h)))
        · exact .inr (s1.free h)
  | @whl q0 a n xs rows f hq ha h1 =>
    have hg0 := hg
    have hxx : StmV K H (.ref q0) (.whl n rows) (a :: f) := .whl hq ha h1
    have hd0 := hd
    have hm0 := hm
    simp only [Stm.deep, Stm.many] at hd hm
    obtain ⟨gn, ga⟩ := hg
    simp_arith [r_listRng, r_kget1, r_iEnumT, r_extend, r_sortedS, r_wi, r_rd]
    refine ⟨_, _, hq, rfl, ?_⟩
    simp_arith [r_listRng, r_kget1, r_iEnumT, r_extend, r_sortedS, r_wi, r_rd]
    refine ite_dec (fun z => absurd z (by decide +kernel)) (fun _ => ⟨_, _, hq, rfl, ?_⟩)
    simp_arith [r_listRng, r_kget1, r_iEnumT, r_extend, r_sortedS, r_wi, r_rd]
    refine ite_dec (fun _ => ⟨_, _, hq, rfl, _, _, hq, rfl, ?_⟩) (fun z => absurd trivial z)
    refine ⟨_, _, X, hxx, hd0, hg0, hn, hm0, hb, hX, fun p1 H1 s1 hp1 e1 => ?_⟩
    have fX := FW.rd_few _ _ hg0 hX
    simp_arith [r_listRng, r_kget1, r_iEnumT, r_extend, r_sortedS, r_wi]
    refine ⟨xs, rows, f, _, s1 _ _ ha, h1.same s1, by omega, ga, hn, by omega, e1, fX, fun p2 ys2 g2 H2 s2 hp2 e2 k2 f2 p3 hp3 p4 hp4 => ?_⟩
    have s3 := Same.upd (o := .tup [V.str "while", V.str n, V.ref p2]) hp3
    have s4 := Same.upd (o := .lst [V.ref p3]) hp4
    have s14 := ((s1.trans s2).trans s3).trans s4
    refine q p4 _ ((p2 :: g2) ++ []) _ s14 (((s1.trans s2).trans s3).free hp4) upd_same ?_ ?_
    · rw [FW.wiS]
      exact .cons (.whl (SqT.of (s4 _ _ upd_same)) (s4 _ _ (s3 _ _ e2)) ((k2.same s3).same s4)) .nil
    · intro z hz
      rw [List.append_nil] at hz
      rcases List.mem_cons.mp hz with h | hz
      · rw [h]; exact .inr (s1.free hp2)
      rcases f2 z hz with h | h
      · exact .inl (List.mem_cons_of_mem _ h)
      · exact .inr (s1.free h)
theorem ok_wis (T : Txt K mg t) (ns : List Str) (wd : Int) : ∀ d, FnOk P w K mg base CX0 (2 * d + 6) t.f_row_without_idle t.e_row_without_idle ["row", "behind"] (sp_wir K d ns wd) ∧ FnOk P w K mg base CX0 (2 * d + 7) t.f_without_idle t.e_without_idle ["rows", "behind"] (sp_wi K d ns wd)
  | 0 => by
    have z : FnOk P w K mg base CX0 (2 * 0 + 6) t.f_row_without_idle t.e_row_without_idle ["row", "behind"] (sp_wir K 0 ns wd) := ⟨fun vs H Q E h => by obtain ⟨_, _, _, _, _, _, _, h, _⟩ := h; omega, fun _ _ _ _ _ _ _ _ _ _ _ _ _ h => by obtain ⟨_, _, _, _, _, _, _, h, _⟩ := h; omega⟩
    exact ⟨z, wi_step T 0 ns wd z⟩
  | d + 1 => by
    have z := wir_step T d ns wd (ok_wis T ns wd d).2
    exact ⟨z, wi_step T (d + 1) ns wd z⟩
end
end K78
set_option maxHeartbeats 4000000
namespace K78
open PySem L2 PyProof.Rows FA FB FS FP FG FO FR
noncomputable def bd_we (K : PySem.W.Frag) (d : Nat) (a : Addr) (H : Hp) (Q : VK) : Prop := ∃ (xs : List V) (ss : List Stm) (f : List Addr), H a = some (.lst xs) ∧ StmsV K H xs ss f ∧ deepL ss < d ∧ manyL ss ≤ 1000 ∧
  ∀ p ys g H', Same H H' → H p = none → H' p = some (.lst ys) → StmsV K H' ys (FW.weL ss) g → (∀ c ∈ g, c ∈ f ∨ H c = none) → Q (.ref p) H'
theorem mk_we {K : PySem.W.Frag} {d : Nat} {a : Addr} {H : Hp} {Q : VK}  (xs : List V) (ss : List Stm) (f : List Addr) (h_0 : H a = some (.lst xs)) (h_1 : StmsV K H xs ss f) (h_2 : deepL ss < d) (h_3 : manyL ss ≤ 1000) (h_4 : ∀ p ys g H', Same H H' → H p = none → H' p = some (.lst ys) → StmsV K H' ys (FW.weL ss) g → (∀ c ∈ g, c ∈ f ∨ H c = none) → Q (.ref p) H') : bd_we K d a H Q := ⟨xs, ss, f, h_0, h_1, h_2, h_3, h_4⟩
noncomputable def sp_we (K : PySem.W.Frag) (d : Nat) : Sp := fun vs H Q _ => ∃ a : Addr, vs = [.ref a] ∧ bd_we K d a H Q
section
variable {P : Program} {w : World} {K : PySem.W.Frag} {mg : Str → Option Value} {base : Heap} {t : Ad}
theorem r_we {d : Nat} {a : Addr} {H : Hp} {Q : VK} {E : XK} : sp_we K d [.ref a] H Q E = bd_we K d a H Q := propext ⟨by rintro ⟨_, e, q⟩; cases e; exact q, fun q => ⟨a, rfl, q⟩⟩
noncomputable def WeI (K : PySem.W.Frag) (H : Hp) (f : List Addr) (ss : List Stm) (k : Addr) (i : Nat) (H' : Hp) : Prop := Same H H' ∧ ∃ ys g, H' k = some (.lst ys) ∧ ys.length ≤ i ∧ StmsV K H' ys (FW.weL (ss.take i)) g ∧ k ∉ g ∧ ∀ c ∈ g, c ∈ f ∨ H c = none
theorem we_take {ss : List Stm} {i : Nat} {s : Stm} (h : ss[i]? = some s) : FW.weL (ss.take (i + 1)) = FW.weL (ss.take i) ++ FW.weS s := by
  obtain ⟨hi, e⟩ := List.getElem?_eq_some_iff.mp h
  rw [List.take_succ_eq_append_getElem hi, e, FW.weL_app, FW.weL, FW.weL, List.append_nil]
theorem WeI.gone {H H1 H2 : Hp} {f : List Addr} {ss : List Stm} {k : Addr} {i : Nat} {s : Stm} (h : WeI K H f ss k i H1) (hs : ss[i]? = some s) (he : FW.weS s = []) (sm : Same H1 H2) : WeI K H f ss k (i + 1) H2 := by
  obtain ⟨s1, ys, g, e, ly, hy, ng, fg⟩ := h
  refine ⟨s1.trans sm, ys, g, sm _ _ e, by omega, ?_, ng, fg⟩
  rw [we_take hs, he, List.append_nil]
  exact hy.same sm
theorem WeI.one {H H1 H2 : Hp} {f g2 : List Addr} {ss : List Stm} {k : Addr} {i : Nat} {s s' : Stm} {x : V} (h : WeI K H f ss k i H1) (hk : H k = none) (hs : ss[i]? = some s) (he : FW.weS s = [s']) (sm : Same H1 H2) (hx : StmV K H2 x s' g2) (f2 : ∀ c ∈ g2, c ∈ f ∨ H1 c = none) (kf : k ∉ f) (hi : i < 1000) :
    ∃ ys, H2 k = some (.lst ys) ∧ ys.length < sizeLine ∧ WeI K H f ss k (i + 1) (upd H2 k (.lst (ys ++ [x]))) := by
  obtain ⟨s1, ys, g, e, ly, hy, ng, fg⟩ := h
  have e2 := sm _ _ e
  have kg2 : k ∉ g2 := fun z => by
    rcases f2 k z with h | h
    · exact kf h
    · rw [e] at h; cases h
  have tt : TSame H2 (upd H2 k (.lst (ys ++ [x]))) := TSame.updL e2
  refine ⟨ys, e2, by rw [sizeLine_eq]; omega, (s1.trans sm).updM hk, ys ++ [x], g ++ g2, upd_same, by rw [List.length_append, List.length_singleton]; omega, ?_, ?_, ?_⟩
  · rw [we_take hs, he]
    exact ((hy.same sm).keep tt (Kept.upd ng)).snoc (hx.keep tt (Kept.upd kg2))
  · intro z
    rcases List.mem_append.mp z with z | z
    · exact ng z
    · exact kg2 z
  · intro c hc
    rcases List.mem_append.mp hc with z | z
    · exact fg c z
    · rcases f2 c z with h | h
      · exact .inl h
      · exact .inr (s1.free h)
theorem we_step (T : Txt K mg t) (d : Nat) (G_without_empty_ifs : FnOk P w K mg base CX0 (d + 1) t.f_without_empty_ifs t.e_without_empty_ifs ["rows"] (sp_we K d)) : FnOk P w K mg base CX0 (d + 2) t.f_without_empty_ifs t.e_without_empty_ifs ["rows"] (sp_we K (d + 1)) := by
  refine T.d_without_empty_ifs.F.ok sc_without_empty_ifs (fun vs H Q E h => by obtain ⟨_, rfl, _⟩ := h; rfl) (fun cdv A outer s H vs Q E hr h => ?_)
  obtain ⟨a, rfl, xs, ss, f, ha, hx, hd, hm, q⟩ := h
  have lx := hx.length
  have lm := len_many ss
  refine ⟨_,
      (XSs.h
      (xpss_cons
        (xps_set (i := 1) sc_without_empty_ifs.nd rfl ll (xpe_lst xpa_nil))
      (xpss_cons
        (xps_for PassesOwn.never rfl (xpi_list (yqv 0 vl)) (xpg_name (i := 2) sc_without_empty_ifs.nd rfl ll)
          (xpss_one
            (xps_if (xpt_cmpR op_eq (xpe_ix ix_tup (yqv 2 vl) xpe_int (fun _ _ => rfl)) xpe_str (nomark _))
              (xpss_cons
                (xps_set (i := 3) sc_without_empty_ifs.nd rfl ll (xqe_callD T.d_without_empty_ifs G_without_empty_ifs (hr.mono (by first | decide | omega)) (xpa_cons (xpe_ix ix_tup (yqv 2 vl) xpe_int (fun _ _ => rfl)) xpa_nil) gl))
              (xpss_cons
                (xps_set (i := 4) sc_without_empty_ifs.nd rfl ll (xqe_callD T.d_without_empty_ifs G_without_empty_ifs (hr.mono (by first | decide | omega)) (xpa_cons (xpe_ix ix_tup (yqv 2 vl) xpe_int (fun _ _ => rfl)) xpa_nil) gl))
              (xpss_one
                (xps_if (xPW_pt (xpw_or (xpt_truth (yqv 3 vl) (fun _ => rfl)) (xpw_or1 (xpt_truth (yqv 4 vl) (fun _ => rfl)))))
                  (xpss_one
                    (xps_expr (xpe_bm PySem.F.plainAttrs_list PySem.F.slot_list_append PySem.F.type_list_append mt_append (yqv 1 vl) (xpa_cons (xpe_tup (xpa_cons xpe_str (xpa_cons (xpe_ix ix_tup (yqv 2 vl) xpe_int (fun _ _ => rfl)) (xpa_cons (yqv 3 vl) (xpa_cons (yqv 4 vl) xpa_nil))))) xpa_nil))))
                  xpss_nil))))
              (xpss_one
                (xps_if (xpt_cmpR op_eq (xpe_ix ix_tup (yqv 2 vl) xpe_int (fun _ _ => rfl)) xpe_str (nomark _))
                  (xpss_one
                    (xps_expr (xpe_bm PySem.F.plainAttrs_list PySem.F.slot_list_append PySem.F.type_list_append mt_append (yqv 1 vl) (xpa_cons (xpe_tup (xpa_cons xpe_str (xpa_cons (xpe_ix ix_tup (yqv 2 vl) xpe_int (fun _ _ => rfl)) (xpa_cons (xqe_callD T.d_without_empty_ifs G_without_empty_ifs (hr.mono (by first | decide | omega)) (xpa_cons (xpe_ix ix_tup (yqv 2 vl) xpe_int (fun _ _ => rfl)) xpa_nil) gl) xpa_nil)))) xpa_nil))))
                  (xpss_one
                    (xps_expr (xpe_bm PySem.F.plainAttrs_list PySem.F.slot_list_append PySem.F.type_list_append mt_append (yqv 1 vl) (xpa_cons (yqv 2 vl) xpa_nil)))))))))
      (xpss_one
        (xps_ret (yqv 1 vl)))))), ?_⟩
  rw [show start _ [V.ref a] = [some (.ref a), none, none, none, none] from rfl]
  simp only [y_v0, r_g0, y_v1, r_g1, y_v2, r_g2, y_v3, r_g3, y_v4, r_g4, y_v5, r_g5, y_v6, r_g6, y_v7, r_g7, y_v8, r_g8, y_v9, r_g9, y_v10, r_g10, y_v11, r_g11, y_v12, r_g12, y_v13, r_g13, y_v14, r_g14, y_v15, r_g15, r_c, r_op, r_un, y_I0, y_I, y_U, r_eqI, r_eqS, r_neI, r_exbl, r_exint, r_test, r_B, r_and, r_or, r_not, r_andV, r_orV, r_notV, r_if, r_next, r_seqL, r_brk, r_cont, r_drop, r_ret, r_retN, r_ifSL, r_asg, r_CB, r_nil, r_cons, r_call, r_tup, r_lst, r_p0, r_pS, r_disp, r_dget, r_sl, r_noPart, r_part, r_gNil, r_gCons, r_itF, r_nT, r_nF, r_len0, r_len1, r_len2, r_len3, r_len4, r_len7, r_len8, r_for, r_iEnum, r_iList, r_iTup, r_iRng1, r_iRng2, r_exI1, r_exI2, r_exR1, r_exR, r_bm, r_bm0, r_ixS, r_ixL, r_ixT, r_cat, r_slL, r_append, r_pop, r_exS2, r_exRl, r_intB, r_gTup, true_and, and_true, forall_const, Int.reduceLT, r_compG, r_setComp, r_yes, r_isi_int_str, r_isi_str_str, r_slT, r_inR, r_notInR, cxOf_K, wish_K, blk_K, r_blk1, r_blk2, List.map_cons, List.map_nil, List.getElem?_cons_zero, List.getElem?_cons_succ, Option.join_some, r_Vs, r_dnewK, r_dput, r_gSub, List.set_cons_zero, List.set_cons_succ, r_midL, r_sfld, r_gfld, r_make, r_iRev, r_listRev, r_listVals, r_slRev, r_dget2, r_listRng, r_kget1, r_iEnumT, r_extend, r_sortedS]
  intro k hk
  have kf : k ∉ f := fun z => by obtain ⟨zs, hz⟩ := hx.tracked k z; rw [hk] at hz; cases hz
  refine later ?_
  simp only [y_v0, r_g0, y_v1, r_g1, y_v2, r_g2, y_v3, r_g3, y_v4, r_g4, y_v5, r_g5, y_v6, r_g6, y_v7, r_g7, y_v8, r_g8, y_v9, r_g9, y_v10, r_g10, y_v11, r_g11, y_v12, r_g12, y_v13, r_g13, y_v14, r_g14, y_v15, r_g15, r_c, r_op, r_un, y_I0, y_I, y_U, r_eqI, r_eqS, r_neI, r_exbl, r_exint, r_test, r_B, r_and, r_or, r_not, r_andV, r_orV, r_notV, r_if, r_next, r_seqL, r_brk, r_cont, r_drop, r_ret, r_retN, r_ifSL, r_asg, r_CB, r_nil, r_cons, r_call, r_tup, r_lst, r_p0, r_pS, r_disp, r_dget, r_sl, r_noPart, r_part, r_gNil, r_gCons, r_itF, r_nT, r_nF, r_len0, r_len1, r_len2, r_len3, r_len4, r_len7, r_len8, r_for, r_iEnum, r_iList, r_iTup, r_iRng1, r_iRng2, r_exI1, r_exI2, r_exR1, r_exR, r_bm, r_bm0, r_ixS, r_ixL, r_ixT, r_cat, r_slL, r_append, r_pop, r_exS2, r_exRl, r_intB, r_gTup, true_and, and_true, forall_const, Int.reduceLT, r_compG, r_setComp, r_yes, r_isi_int_str, r_isi_str_str, r_slT, r_inR, r_notInR, cxOf_K, wish_K, blk_K, r_blk1, r_blk2, List.map_cons, List.map_nil, List.getElem?_cons_zero, List.getElem?_cons_succ, Option.join_some, r_Vs, r_dnewK, r_dput, r_gSub, List.set_cons_zero, List.set_cons_succ, r_midL, r_sfld, r_gfld, r_make, r_iRev, r_listRev, r_listVals, r_slRev, r_dget2, r_listRng, r_kget1, r_iEnumT, r_extend, r_sortedS]
  refine ⟨⟨_, (Same.upd hk).seq (SqL.of ha)⟩, ?_⟩
  refine fw_list (xs := xs) (fun i σ H' => WeI K H f ss k i H' ∧ ∃ o2 o3 o4, σ = [some (.ref a), some (.ref k), o2, o3, o4]) ⟨⟨Same.upd hk, [], [], upd_same, Nat.le_refl _, .nil, by simp, by simp⟩, _, _, _, rfl⟩ (fun i σ H' _ h => SqL.of (h.1.1 _ _ ha)) ?_ ?_
  · rintro i x σ H1 hxi ⟨hW, o2, o3, o4, rfl⟩
    have s1 := hW.1
    obtain ⟨st, g', hst, hv, hsub⟩ := hx.get hxi
    have hms := List.mem_of_getElem? hst
    have hdm := deepL_mem hms
    have hmm := many_mem hms
    have hi : i < 1000 := by have := (List.getElem?_eq_some_iff.mp hxi).1; omega
    have hv1 := hv.same s1
    cases hv1 with
    | @deed q0 dd hf hq =>
      simp only [y_v0, r_g0, y_v1, r_g1, y_v2, r_g2, y_v3, r_g3, y_v4, r_g4, y_v5, r_g5, y_v6, r_g6, y_v7, r_g7, y_v8, r_g8, y_v9, r_g9, y_v10, r_g10, y_v11, r_g11, y_v12, r_g12, y_v13, r_g13, y_v14, r_g14, y_v15, r_g15, r_c, r_op, r_un, y_I0, y_I, y_U, r_eqI, r_eqS, r_neI, r_exbl, r_exint, r_test, r_B, r_and, r_or, r_not, r_andV, r_orV, r_notV, r_if, r_next, r_seqL, r_brk, r_cont, r_drop, r_ret, r_retN, r_ifSL, r_asg, r_CB, r_nil, r_cons, r_call, r_tup, r_lst, r_p0, r_pS, r_disp, r_dget, r_sl, r_noPart, r_part, r_gNil, r_gCons, r_itF, r_nT, r_nF, r_len0, r_len1, r_len2, r_len3, r_len4, r_len7, r_len8, r_for, r_iEnum, r_iList, r_iTup, r_iRng1, r_iRng2, r_exI1, r_exI2, r_exR1, r_exR, r_bm, r_bm0, r_ixS, r_ixL, r_ixT, r_cat, r_slL, r_append, r_pop, r_exS2, r_exRl, r_intB, r_gTup, true_and, and_true, forall_const, Int.reduceLT, r_compG, r_setComp, r_yes, r_isi_int_str, r_isi_str_str, r_slT, r_inR, r_notInR, cxOf_K, wish_K, blk_K, r_blk1, r_blk2, List.map_cons, List.map_nil, List.getElem?_cons_zero, List.getElem?_cons_succ, Option.join_some, r_Vs, r_dnewK, r_dput, r_gSub, List.set_cons_zero, List.set_cons_succ, r_midL, r_sfld, r_gfld, r_make, r_iRev, r_listRev, r_listVals, r_slRev, r_dget2, r_listRng, r_kget1, r_iEnumT, r_extend, r_sortedS]
      refine deed0 hf hq (by decide +kernel) (by decide +kernel) (by decide +kernel) ⟨_, rfl, ?_⟩
      rw [if_neg Bool.false_ne_true]
      refine later ?_
      simp only [y_v0, r_g0, y_v1, r_g1, y_v2, r_g2, y_v3, r_g3, y_v4, r_g4, y_v5, r_g5, y_v6, r_g6, y_v7, r_g7, y_v8, r_g8, y_v9, r_g9, y_v10, r_g10, y_v11, r_g11, y_v12, r_g12, y_v13, r_g13, y_v14, r_g14, y_v15, r_g15, r_c, r_op, r_un, y_I0, y_I, y_U, r_eqI, r_eqS, r_neI, r_exbl, r_exint, r_test, r_B, r_and, r_or, r_not, r_andV, r_orV, r_notV, r_if, r_next, r_seqL, r_brk, r_cont, r_drop, r_ret, r_retN, r_ifSL, r_asg, r_CB, r_nil, r_cons, r_call, r_tup, r_lst, r_p0, r_pS, r_disp, r_dget, r_sl, r_noPart, r_part, r_gNil, r_gCons, r_itF, r_nT, r_nF, r_len0, r_len1, r_len2, r_len3, r_len4, r_len7, r_len8, r_for, r_iEnum, r_iList, r_iTup, r_iRng1, r_iRng2, r_exI1, r_exI2, r_exR1, r_exR, r_bm, r_bm0, r_ixS, r_ixL, r_ixT, r_cat, r_slL, r_append, r_pop, r_exS2, r_exRl, r_intB, r_gTup, true_and, and_true, forall_const, Int.reduceLT, r_compG, r_setComp, r_yes, r_isi_int_str, r_isi_str_str, r_slT, r_inR, r_notInR, cxOf_K, wish_K, blk_K, r_blk1, r_blk2, List.map_cons, List.map_nil, List.getElem?_cons_zero, List.getElem?_cons_succ, Option.join_some, r_Vs, r_dnewK, r_dput, r_gSub, List.set_cons_zero, List.set_cons_succ, r_midL, r_sfld, r_gfld, r_make, r_iRev, r_listRev, r_listVals, r_slRev, r_dget2, r_listRng, r_kget1, r_iEnumT, r_extend, r_sortedS]
      refine deed0 hf hq (by decide +kernel) (by decide +kernel) (by decide +kernel) ⟨_, rfl, ?_⟩
      rw [if_neg Bool.false_ne_true]
      refine later ?_
      simp only [y_v0, r_g0, y_v1, r_g1, y_v2, r_g2, y_v3, r_g3, y_v4, r_g4, y_v5, r_g5, y_v6, r_g6, y_v7, r_g7, y_v8, r_g8, y_v9, r_g9, y_v10, r_g10, y_v11, r_g11, y_v12, r_g12, y_v13, r_g13, y_v14, r_g14, y_v15, r_g15, r_c, r_op, r_un, y_I0, y_I, y_U, r_eqI, r_eqS, r_neI, r_exbl, r_exint, r_test, r_B, r_and, r_or, r_not, r_andV, r_orV, r_notV, r_if, r_next, r_seqL, r_brk, r_cont, r_drop, r_ret, r_retN, r_ifSL, r_asg, r_CB, r_nil, r_cons, r_call, r_tup, r_lst, r_p0, r_pS, r_disp, r_dget, r_sl, r_noPart, r_part, r_gNil, r_gCons, r_itF, r_nT, r_nF, r_len0, r_len1, r_len2, r_len3, r_len4, r_len7, r_len8, r_for, r_iEnum, r_iList, r_iTup, r_iRng1, r_iRng2, r_exI1, r_exI2, r_exR1, r_exR, r_bm, r_bm0, r_ixS, r_ixL, r_ixT, r_cat, r_slL, r_append, r_pop, r_exS2, r_exRl, r_intB, r_gTup, true_and, and_true, forall_const, Int.reduceLT, r_compG, r_setComp, r_yes, r_isi_int_str, r_isi_str_str, r_slT, r_inR, r_notInR, cxOf_K, wish_K, blk_K, r_blk1, r_blk2, List.map_cons, List.map_nil, List.getElem?_cons_zero, List.getElem?_cons_succ, Option.join_some, r_Vs, r_dnewK, r_dput, r_gSub, List.set_cons_zero, List.set_cons_succ, r_midL, r_sfld, r_gfld, r_make, r_iRev, r_listRev, r_listVals, r_slRev, r_dget2, r_listRng, r_kget1, r_iEnumT, r_extend, r_sortedS]
      obtain ⟨ys, e2, l2, hW2⟩ := hW.one hk hst (by rw [FW.weS]) (Same.refl _) (.deed hf hq) (by simp) kf hi
      exact ⟨.inl ⟨rfl, _, SqL.of e2⟩, ys, e2, l2, hW2, _, _, _, rfl⟩
    | @ifs q0 a1 c1 n xs1 ys1 ones others f1 g1 hq ha1 hc1 h1 h2 =>
      simp only [Stm.deep, Stm.many] at hdm hmm
      simp only [y_v0, r_g0, y_v1, r_g1, y_v2, r_g2, y_v3, r_g3, y_v4, r_g4, y_v5, r_g5, y_v6, r_g6, y_v7, r_g7, y_v8, r_g8, y_v9, r_g9, y_v10, r_g10, y_v11, r_g11, y_v12, r_g12, y_v13, r_g13, y_v14, r_g14, y_v15, r_g15, r_c, r_op, r_un, y_I0, y_I, y_U, r_eqI, r_eqS, r_neI, r_exbl, r_exint, r_test, r_B, r_and, r_or, r_not, r_andV, r_orV, r_notV, r_if, r_next, r_seqL, r_brk, r_cont, r_drop, r_ret, r_retN, r_ifSL, r_asg, r_CB, r_nil, r_cons, r_call, r_tup, r_lst, r_p0, r_pS, r_disp, r_dget, r_sl, r_noPart, r_part, r_gNil, r_gCons, r_itF, r_nT, r_nF, r_len0, r_len1, r_len2, r_len3, r_len4, r_len7, r_len8, r_for, r_iEnum, r_iList, r_iTup, r_iRng1, r_iRng2, r_exI1, r_exI2, r_exR1, r_exR, r_bm, r_bm0, r_ixS, r_ixL, r_ixT, r_cat, r_slL, r_append, r_pop, r_exS2, r_exRl, r_intB, r_gTup, true_and, and_true, forall_const, Int.reduceLT, r_compG, r_setComp, r_yes, r_isi_int_str, r_isi_str_str, r_slT, r_inR, r_notInR, cxOf_K, wish_K, blk_K, r_blk1, r_blk2, List.map_cons, List.map_nil, List.getElem?_cons_zero, List.getElem?_cons_succ, Option.join_some, r_Vs, r_dnewK, r_dput, r_gSub, List.set_cons_zero, List.set_cons_succ, r_midL, r_sfld, r_gfld, r_make, r_iRev, r_listRev, r_listVals, r_slRev, r_dget2, r_listRng, r_kget1, r_iEnumT, r_extend, r_sortedS]
      refine ⟨_, _, hq, rfl, ?_⟩
      simp only [y_v0, r_g0, y_v1, r_g1, y_v2, r_g2, y_v3, r_g3, y_v4, r_g4, y_v5, r_g5, y_v6, r_g6, y_v7, r_g7, y_v8, r_g8, y_v9, r_g9, y_v10, r_g10, y_v11, r_g11, y_v12, r_g12, y_v13, r_g13, y_v14, r_g14, y_v15, r_g15, r_c, r_op, r_un, y_I0, y_I, y_U, r_eqI, r_eqS, r_neI, r_exbl, r_exint, r_test, r_B, r_and, r_or, r_not, r_andV, r_orV, r_notV, r_if, r_next, r_seqL, r_brk, r_cont, r_drop, r_ret, r_retN, r_ifSL, r_asg, r_CB, r_nil, r_cons, r_call, r_tup, r_lst, r_p0, r_pS, r_disp, r_dget, r_sl, r_noPart, r_part, r_gNil, r_gCons, r_itF, r_nT, r_nF, r_len0, r_len1, r_len2, r_len3, r_len4, r_len7, r_len8, r_for, r_iEnum, r_iList, r_iTup, r_iRng1, r_iRng2, r_exI1, r_exI2, r_exR1, r_exR, r_bm, r_bm0, r_ixS, r_ixL, r_ixT, r_cat, r_slL, r_append, r_pop, r_exS2, r_exRl, r_intB, r_gTup, true_and, and_true, forall_const, Int.reduceLT, r_compG, r_setComp, r_yes, r_isi_int_str, r_isi_str_str, r_slT, r_inR, r_notInR, cxOf_K, wish_K, blk_K, r_blk1, r_blk2, List.map_cons, List.map_nil, List.getElem?_cons_zero, List.getElem?_cons_succ, Option.join_some, r_Vs, r_dnewK, r_dput, r_gSub, List.set_cons_zero, List.set_cons_succ, r_midL, r_sfld, r_gfld, r_make, r_iRev, r_listRev, r_listVals, r_slRev, r_dget2, r_listRng, r_kget1, r_iEnumT, r_extend, r_sortedS]
      refine ite_dec (fun _ => later ?_) (fun z => absurd trivial z)
      simp only [y_v0, r_g0, y_v1, r_g1, y_v2, r_g2, y_v3, r_g3, y_v4, r_g4, y_v5, r_g5, y_v6, r_g6, y_v7, r_g7, y_v8, r_g8, y_v9, r_g9, y_v10, r_g10, y_v11, r_g11, y_v12, r_g12, y_v13, r_g13, y_v14, r_g14, y_v15, r_g15, r_c, r_op, r_un, y_I0, y_I, y_U, r_eqI, r_eqS, r_neI, r_exbl, r_exint, r_test, r_B, r_and, r_or, r_not, r_andV, r_orV, r_notV, r_if, r_next, r_seqL, r_brk, r_cont, r_drop, r_ret, r_retN, r_ifSL, r_asg, r_CB, r_nil, r_cons, r_call, r_tup, r_lst, r_p0, r_pS, r_disp, r_dget, r_sl, r_noPart, r_part, r_gNil, r_gCons, r_itF, r_nT, r_nF, r_len0, r_len1, r_len2, r_len3, r_len4, r_len7, r_len8, r_for, r_iEnum, r_iList, r_iTup, r_iRng1, r_iRng2, r_exI1, r_exI2, r_exR1, r_exR, r_bm, r_bm0, r_ixS, r_ixL, r_ixT, r_cat, r_slL, r_append, r_pop, r_exS2, r_exRl, r_intB, r_gTup, true_and, and_true, forall_const, Int.reduceLT, r_compG, r_setComp, r_yes, r_isi_int_str, r_isi_str_str, r_slT, r_inR, r_notInR, cxOf_K, wish_K, blk_K, r_blk1, r_blk2, List.map_cons, List.map_nil, List.getElem?_cons_zero, List.getElem?_cons_succ, Option.join_some, r_Vs, r_dnewK, r_dput, r_gSub, List.set_cons_zero, List.set_cons_succ, r_midL, r_sfld, r_gfld, r_make, r_iRev, r_listRev, r_listVals, r_slRev, r_dget2, r_listRng, r_kget1, r_iEnumT, r_extend, r_sortedS]
      refine ⟨_, _, hq, rfl, ?_⟩
      rw [r_we]
      refine (mk_we (xs1) (ones) (_) (ha1) (h1) (by omega) (by omega) (fun p1 zs1 k1 H2 s2 hp1 e1 v1 fr1 => later ?_))
      simp only [y_v0, r_g0, y_v1, r_g1, y_v2, r_g2, y_v3, r_g3, y_v4, r_g4, y_v5, r_g5, y_v6, r_g6, y_v7, r_g7, y_v8, r_g8, y_v9, r_g9, y_v10, r_g10, y_v11, r_g11, y_v12, r_g12, y_v13, r_g13, y_v14, r_g14, y_v15, r_g15, r_c, r_op, r_un, y_I0, y_I, y_U, r_eqI, r_eqS, r_neI, r_exbl, r_exint, r_test, r_B, r_and, r_or, r_not, r_andV, r_orV, r_notV, r_if, r_next, r_seqL, r_brk, r_cont, r_drop, r_ret, r_retN, r_ifSL, r_asg, r_CB, r_nil, r_cons, r_call, r_tup, r_lst, r_p0, r_pS, r_disp, r_dget, r_sl, r_noPart, r_part, r_gNil, r_gCons, r_itF, r_nT, r_nF, r_len0, r_len1, r_len2, r_len3, r_len4, r_len7, r_len8, r_for, r_iEnum, r_iList, r_iTup, r_iRng1, r_iRng2, r_exI1, r_exI2, r_exR1, r_exR, r_bm, r_bm0, r_ixS, r_ixL, r_ixT, r_cat, r_slL, r_append, r_pop, r_exS2, r_exRl, r_intB, r_gTup, true_and, and_true, forall_const, Int.reduceLT, r_compG, r_setComp, r_yes, r_isi_int_str, r_isi_str_str, r_slT, r_inR, r_notInR, cxOf_K, wish_K, blk_K, r_blk1, r_blk2, List.map_cons, List.map_nil, List.getElem?_cons_zero, List.getElem?_cons_succ, Option.join_some, r_Vs, r_dnewK, r_dput, r_gSub, List.set_cons_zero, List.set_cons_succ, r_midL, r_sfld, r_gfld, r_make, r_iRev, r_listRev, r_listVals, r_slRev, r_dget2, r_listRng, r_kget1, r_iEnumT, r_extend, r_sortedS]
      refine ⟨_, _, s2.seqT hq, rfl, ?_⟩
      rw [r_we]
      refine (mk_we (ys1) (others) (_) (s2 _ _ hc1) (h2.same s2) (by omega) (by omega) (fun p2 zs2 k2 H3 s3 hp2 e2 v2 fr2 => later ?_))
      simp only [y_v0, r_g0, y_v1, r_g1, y_v2, r_g2, y_v3, r_g3, y_v4, r_g4, y_v5, r_g5, y_v6, r_g6, y_v7, r_g7, y_v8, r_g8, y_v9, r_g9, y_v10, r_g10, y_v11, r_g11, y_v12, r_g12, y_v13, r_g13, y_v14, r_g14, y_v15, r_g15, r_c, r_op, r_un, y_I0, y_I, y_U, r_eqI, r_eqS, r_neI, r_exbl, r_exint, r_test, r_B, r_and, r_or, r_not, r_andV, r_orV, r_notV, r_if, r_next, r_seqL, r_brk, r_cont, r_drop, r_ret, r_retN, r_ifSL, r_asg, r_CB, r_nil, r_cons, r_call, r_tup, r_lst, r_p0, r_pS, r_disp, r_dget, r_sl, r_noPart, r_part, r_gNil, r_gCons, r_itF, r_nT, r_nF, r_len0, r_len1, r_len2, r_len3, r_len4, r_len7, r_len8, r_for, r_iEnum, r_iList, r_iTup, r_iRng1, r_iRng2, r_exI1, r_exI2, r_exR1, r_exR, r_bm, r_bm0, r_ixS, r_ixL, r_ixT, r_cat, r_slL, r_append, r_pop, r_exS2, r_exRl, r_intB, r_gTup, true_and, and_true, forall_const, Int.reduceLT, r_compG, r_setComp, r_yes, r_isi_int_str, r_isi_str_str, r_slT, r_inR, r_notInR, cxOf_K, wish_K, blk_K, r_blk1, r_blk2, List.map_cons, List.map_nil, List.getElem?_cons_zero, List.getElem?_cons_succ, Option.join_some, r_Vs, r_dnewK, r_dput, r_gSub, List.set_cons_zero, List.set_cons_succ, r_midL, r_sfld, r_gfld, r_make, r_iRev, r_listRev, r_listVals, r_slRev, r_dget2, r_listRng, r_kget1, r_iEnumT, r_extend, r_sortedS]
      have app : FW.weS (.ifs n ones others) = [.ifs n (FW.weL ones) (FW.weL others)] → tyV K "list" (V.ref k) H3 ∧ ∃ xs v, SqT K H3 q0 xs ∧ atI xs 1 = some v ∧ ∀ (p : Addr), H3 p = none →
          ∃ xs, upd H3 p (HO.tup [V.str (Str.ofString "if"), v, V.ref p1, V.ref p2]) k = some (HO.lst xs) ∧ xs.length < sizeLine ∧
            WeI K H f ss k (i + 1) (upd (upd H3 p (HO.tup [V.str (Str.ofString "if"), v, V.ref p1, V.ref p2])) k (HO.lst (xs ++ [V.ref p]))) ∧
              ∃ o2 o3 o4, [some (V.ref a), some (V.ref k), some (V.ref q0), some (V.ref p1), some (V.ref p2)] = [some (V.ref a), some (V.ref k), o2, o3, o4] := fun he => by
        obtain ⟨ys0, g0, ek, _⟩ := hW.2
        have s13 := s2.trans s3
        refine ⟨.inl ⟨rfl, _, SqL.of (s13 _ _ ek)⟩, _, V.str n, s13.seqT hq, rfl, fun p hp => ?_⟩
        have s4 := Same.upd (o := .tup [V.str "if", V.str n, V.ref p1, V.ref p2]) hp
        have hfr : ∀ z ∈ p1 :: p2 :: (k1 ++ k2), z ∈ f ∨ H1 z = none := fun z hz => by
          rcases List.mem_cons.mp hz with h | hz
          · rw [h]; exact .inr hp1
          rcases List.mem_cons.mp hz with h | hz
          · rw [h]; exact .inr (s2.free hp2)
          rcases List.mem_append.mp hz with h | h
          · rcases fr1 z h with h | h
            · exact .inl (hsub z (List.mem_cons_of_mem _ (List.mem_cons_of_mem _ (List.mem_append_left _ h))))
            · exact .inr h
          · rcases fr2 z h with h | h
            · exact .inl (hsub z (List.mem_cons_of_mem _ (List.mem_cons_of_mem _ (List.mem_append_right _ h))))
            · exact .inr (s2.free h)
        obtain ⟨ys, e5, l5, hW2⟩ := hW.one hk hst he (s13.trans s4) (.ifs (SqT.of upd_same) (s4 _ _ (s3 _ _ e1)) (s4 _ _ e2) ((v1.same s3).same s4) (v2.same s4)) hfr kf hi
        exact ⟨ys, e5, l5, hW2, _, _, _, rfl⟩
      have l1 := v1.length
      have l2 := v2.length
      refine ⟨_, .inl ⟨_, SqL.of (s3 _ _ e1), rfl⟩, ?_⟩
      cases hz1 : zs1.isEmpty with
      | false =>
        rw [Bool.not_false, if_pos rfl, if_pos trivial]
        refine later ?_
        simp only [y_v0, r_g0, y_v1, r_g1, y_v2, r_g2, y_v3, r_g3, y_v4, r_g4, y_v5, r_g5, y_v6, r_g6, y_v7, r_g7, y_v8, r_g8, y_v9, r_g9, y_v10, r_g10, y_v11, r_g11, y_v12, r_g12, y_v13, r_g13, y_v14, r_g14, y_v15, r_g15, r_c, r_op, r_un, y_I0, y_I, y_U, r_eqI, r_eqS, r_neI, r_exbl, r_exint, r_test, r_B, r_and, r_or, r_not, r_andV, r_orV, r_notV, r_if, r_next, r_seqL, r_brk, r_cont, r_drop, r_ret, r_retN, r_ifSL, r_asg, r_CB, r_nil, r_cons, r_call, r_tup, r_lst, r_p0, r_pS, r_disp, r_dget, r_sl, r_noPart, r_part, r_gNil, r_gCons, r_itF, r_nT, r_nF, r_len0, r_len1, r_len2, r_len3, r_len4, r_len7, r_len8, r_for, r_iEnum, r_iList, r_iTup, r_iRng1, r_iRng2, r_exI1, r_exI2, r_exR1, r_exR, r_bm, r_bm0, r_ixS, r_ixL, r_ixT, r_cat, r_slL, r_append, r_pop, r_exS2, r_exRl, r_intB, r_gTup, true_and, and_true, forall_const, Int.reduceLT, r_compG, r_setComp, r_yes, r_isi_int_str, r_isi_str_str, r_slT, r_inR, r_notInR, cxOf_K, wish_K, blk_K, r_blk1, r_blk2, List.map_cons, List.map_nil, List.getElem?_cons_zero, List.getElem?_cons_succ, Option.join_some, r_Vs, r_dnewK, r_dput, r_gSub, List.set_cons_zero, List.set_cons_succ, r_midL, r_sfld, r_gfld, r_make, r_iRev, r_listRev, r_listVals, r_slRev, r_dget2, r_listRng, r_kget1, r_iEnumT, r_extend, r_sortedS]
        refine app ?_
        rw [FW.weS, if_neg]
        rintro ⟨z, _⟩
        rw [z] at l1
        rw [List.length_eq_zero_iff.mp l1] at hz1
        cases hz1
      | true =>
        rw [Bool.not_true, if_neg Bool.false_ne_true]
        refine ⟨_, .inl ⟨_, SqL.of e2, rfl⟩, ?_⟩
        cases hz2 : zs2.isEmpty with
        | false =>
          rw [Bool.not_false, if_pos rfl]
          refine later ?_
          simp only [y_v0, r_g0, y_v1, r_g1, y_v2, r_g2, y_v3, r_g3, y_v4, r_g4, y_v5, r_g5, y_v6, r_g6, y_v7, r_g7, y_v8, r_g8, y_v9, r_g9, y_v10, r_g10, y_v11, r_g11, y_v12, r_g12, y_v13, r_g13, y_v14, r_g14, y_v15, r_g15, r_c, r_op, r_un, y_I0, y_I, y_U, r_eqI, r_eqS, r_neI, r_exbl, r_exint, r_test, r_B, r_and, r_or, r_not, r_andV, r_orV, r_notV, r_if, r_next, r_seqL, r_brk, r_cont, r_drop, r_ret, r_retN, r_ifSL, r_asg, r_CB, r_nil, r_cons, r_call, r_tup, r_lst, r_p0, r_pS, r_disp, r_dget, r_sl, r_noPart, r_part, r_gNil, r_gCons, r_itF, r_nT, r_nF, r_len0, r_len1, r_len2, r_len3, r_len4, r_len7, r_len8, r_for, r_iEnum, r_iList, r_iTup, r_iRng1, r_iRng2, r_exI1, r_exI2, r_exR1, r_exR, r_bm, r_bm0, r_ixS, r_ixL, r_ixT, r_cat, r_slL, r_append, r_pop, r_exS2, r_exRl, r_intB, r_gTup, true_and, and_true, forall_const, Int.reduceLT, r_compG, r_setComp, r_yes, r_isi_int_str, r_isi_str_str, r_slT, r_inR, r_notInR, cxOf_K, wish_K, blk_K, r_blk1, r_blk2, List.map_cons, List.map_nil, List.getElem?_cons_zero, List.getElem?_cons_succ, Option.join_some, r_Vs, r_dnewK, r_dput, r_gSub, List.set_cons_zero, List.set_cons_succ, r_midL, r_sfld, r_gfld, r_make, r_iRev, r_listRev, r_listVals, r_slRev, r_dget2, r_listRng, r_kget1, r_iEnumT, r_extend, r_sortedS]
          refine app ?_
          rw [FW.weS, if_neg]
          rintro ⟨_, z⟩
          rw [z] at l2
          rw [List.length_eq_zero_iff.mp l2] at hz2
          cases hz2
        | true =>
          rw [Bool.not_true, if_neg Bool.false_ne_true]
          refine later ?_
          simp only [y_v0, r_g0, y_v1, r_g1, y_v2, r_g2, y_v3, r_g3, y_v4, r_g4, y_v5, r_g5, y_v6, r_g6, y_v7, r_g7, y_v8, r_g8, y_v9, r_g9, y_v10, r_g10, y_v11, r_g11, y_v12, r_g12, y_v13, r_g13, y_v14, r_g14, y_v15, r_g15, r_c, r_op, r_un, y_I0, y_I, y_U, r_eqI, r_eqS, r_neI, r_exbl, r_exint, r_test, r_B, r_and, r_or, r_not, r_andV, r_orV, r_notV, r_if, r_next, r_seqL, r_brk, r_cont, r_drop, r_ret, r_retN, r_ifSL, r_asg, r_CB, r_nil, r_cons, r_call, r_tup, r_lst, r_p0, r_pS, r_disp, r_dget, r_sl, r_noPart, r_part, r_gNil, r_gCons, r_itF, r_nT, r_nF, r_len0, r_len1, r_len2, r_len3, r_len4, r_len7, r_len8, r_for, r_iEnum, r_iList, r_iTup, r_iRng1, r_iRng2, r_exI1, r_exI2, r_exR1, r_exR, r_bm, r_bm0, r_ixS, r_ixL, r_ixT, r_cat, r_slL, r_append, r_pop, r_exS2, r_exRl, r_intB, r_gTup, true_and, and_true, forall_const, Int.reduceLT, r_compG, r_setComp, r_yes, r_isi_int_str, r_isi_str_str, r_slT, r_inR, r_notInR, cxOf_K, wish_K, blk_K, r_blk1, r_blk2, List.map_cons, List.map_nil, List.getElem?_cons_zero, List.getElem?_cons_succ, Option.join_some, r_Vs, r_dnewK, r_dput, r_gSub, List.set_cons_zero, List.set_cons_succ, r_midL, r_sfld, r_gfld, r_make, r_iRev, r_listRev, r_listVals, r_slRev, r_dget2, r_listRng, r_kget1, r_iEnumT, r_extend, r_sortedS]
          refine ⟨hW.gone hst ?_ (s2.trans s3), _, _, _, rfl⟩
          rw [FW.weS, if_pos]
          rw [List.isEmpty_iff.mp hz1] at l1
          rw [List.isEmpty_iff.mp hz2] at l2
          exact ⟨List.length_eq_zero_iff.mp l1.symm, List.length_eq_zero_iff.mp l2.symm⟩
    | @whl q0 a1 n xs1 rows f1 hq ha1 h1 =>
      simp only [Stm.deep, Stm.many] at hdm hmm
      simp only [y_v0, r_g0, y_v1, r_g1, y_v2, r_g2, y_v3, r_g3, y_v4, r_g4, y_v5, r_g5, y_v6, r_g6, y_v7, r_g7, y_v8, r_g8, y_v9, r_g9, y_v10, r_g10, y_v11, r_g11, y_v12, r_g12, y_v13, r_g13, y_v14, r_g14, y_v15, r_g15, r_c, r_op, r_un, y_I0, y_I, y_U, r_eqI, r_eqS, r_neI, r_exbl, r_exint, r_test, r_B, r_and, r_or, r_not, r_andV, r_orV, r_notV, r_if, r_next, r_seqL, r_brk, r_cont, r_drop, r_ret, r_retN, r_ifSL, r_asg, r_CB, r_nil, r_cons, r_call, r_tup, r_lst, r_p0, r_pS, r_disp, r_dget, r_sl, r_noPart, r_part, r_gNil, r_gCons, r_itF, r_nT, r_nF, r_len0, r_len1, r_len2, r_len3, r_len4, r_len7, r_len8, r_for, r_iEnum, r_iList, r_iTup, r_iRng1, r_iRng2, r_exI1, r_exI2, r_exR1, r_exR, r_bm, r_bm0, r_ixS, r_ixL, r_ixT, r_cat, r_slL, r_append, r_pop, r_exS2, r_exRl, r_intB, r_gTup, true_and, and_true, forall_const, Int.reduceLT, r_compG, r_setComp, r_yes, r_isi_int_str, r_isi_str_str, r_slT, r_inR, r_notInR, cxOf_K, wish_K, blk_K, r_blk1, r_blk2, List.map_cons, List.map_nil, List.getElem?_cons_zero, List.getElem?_cons_succ, Option.join_some, r_Vs, r_dnewK, r_dput, r_gSub, List.set_cons_zero, List.set_cons_succ, r_midL, r_sfld, r_gfld, r_make, r_iRev, r_listRev, r_listVals, r_slRev, r_dget2, r_listRng, r_kget1, r_iEnumT, r_extend, r_sortedS]
      refine ⟨_, _, hq, rfl, ?_⟩
      simp only [y_v0, r_g0, y_v1, r_g1, y_v2, r_g2, y_v3, r_g3, y_v4, r_g4, y_v5, r_g5, y_v6, r_g6, y_v7, r_g7, y_v8, r_g8, y_v9, r_g9, y_v10, r_g10, y_v11, r_g11, y_v12, r_g12, y_v13, r_g13, y_v14, r_g14, y_v15, r_g15, r_c, r_op, r_un, y_I0, y_I, y_U, r_eqI, r_eqS, r_neI, r_exbl, r_exint, r_test, r_B, r_and, r_or, r_not, r_andV, r_orV, r_notV, r_if, r_next, r_seqL, r_brk, r_cont, r_drop, r_ret, r_retN, r_ifSL, r_asg, r_CB, r_nil, r_cons, r_call, r_tup, r_lst, r_p0, r_pS, r_disp, r_dget, r_sl, r_noPart, r_part, r_gNil, r_gCons, r_itF, r_nT, r_nF, r_len0, r_len1, r_len2, r_len3, r_len4, r_len7, r_len8, r_for, r_iEnum, r_iList, r_iTup, r_iRng1, r_iRng2, r_exI1, r_exI2, r_exR1, r_exR, r_bm, r_bm0, r_ixS, r_ixL, r_ixT, r_cat, r_slL, r_append, r_pop, r_exS2, r_exRl, r_intB, r_gTup, true_and, and_true, forall_const, Int.reduceLT, r_compG, r_setComp, r_yes, r_isi_int_str, r_isi_str_str, r_slT, r_inR, r_notInR, cxOf_K, wish_K, blk_K, r_blk1, r_blk2, List.map_cons, List.map_nil, List.getElem?_cons_zero, List.getElem?_cons_succ, Option.join_some, r_Vs, r_dnewK, r_dput, r_gSub, List.set_cons_zero, List.set_cons_succ, r_midL, r_sfld, r_gfld, r_make, r_iRev, r_listRev, r_listVals, r_slRev, r_dget2, r_listRng, r_kget1, r_iEnumT, r_extend, r_sortedS]
      refine ite_dec (fun z => absurd z (by decide +kernel)) (fun _ => later ?_)
      simp only [y_v0, r_g0, y_v1, r_g1, y_v2, r_g2, y_v3, r_g3, y_v4, r_g4, y_v5, r_g5, y_v6, r_g6, y_v7, r_g7, y_v8, r_g8, y_v9, r_g9, y_v10, r_g10, y_v11, r_g11, y_v12, r_g12, y_v13, r_g13, y_v14, r_g14, y_v15, r_g15, r_c, r_op, r_un, y_I0, y_I, y_U, r_eqI, r_eqS, r_neI, r_exbl, r_exint, r_test, r_B, r_and, r_or, r_not, r_andV, r_orV, r_notV, r_if, r_next, r_seqL, r_brk, r_cont, r_drop, r_ret, r_retN, r_ifSL, r_asg, r_CB, r_nil, r_cons, r_call, r_tup, r_lst, r_p0, r_pS, r_disp, r_dget, r_sl, r_noPart, r_part, r_gNil, r_gCons, r_itF, r_nT, r_nF, r_len0, r_len1, r_len2, r_len3, r_len4, r_len7, r_len8, r_for, r_iEnum, r_iList, r_iTup, r_iRng1, r_iRng2, r_exI1, r_exI2, r_exR1, r_exR, r_bm, r_bm0, r_ixS, r_ixL, r_ixT, r_cat, r_slL, r_append, r_pop, r_exS2, r_exRl, r_intB, r_gTup, true_and, and_true, forall_const, Int.reduceLT, r_compG, r_setComp, r_yes, r_isi_int_str, r_isi_str_str, r_slT, r_inR, r_notInR, cxOf_K, wish_K, blk_K, r_blk1, r_blk2, List.map_cons, List.map_nil, List.getElem?_cons_zero, List.getElem?_cons_succ, Option.join_some, r_Vs, r_dnewK, r_dput, r_gSub, List.set_cons_zero, List.set_cons_succ, r_midL, r_sfld, r_gfld, r_make, r_iRev, r_listRev, r_listVals, r_slRev, r_dget2, r_listRng, r_kget1, r_iEnumT, r_extend, r_sortedS]
      refine ⟨_, _, hq, rfl, ?_⟩
      simp only [y_v0, r_g0, y_v1, r_g1, y_v2, r_g2, y_v3, r_g3, y_v4, r_g4, y_v5, r_g5, y_v6, r_g6, y_v7, r_g7, y_v8, r_g8, y_v9, r_g9, y_v10, r_g10, y_v11, r_g11, y_v12, r_g12, y_v13, r_g13, y_v14, r_g14, y_v15, r_g15, r_c, r_op, r_un, y_I0, y_I, y_U, r_eqI, r_eqS, r_neI, r_exbl, r_exint, r_test, r_B, r_and, r_or, r_not, r_andV, r_orV, r_notV, r_if, r_next, r_seqL, r_brk, r_cont, r_drop, r_ret, r_retN, r_ifSL, r_asg, r_CB, r_nil, r_cons, r_call, r_tup, r_lst, r_p0, r_pS, r_disp, r_dget, r_sl, r_noPart, r_part, r_gNil, r_gCons, r_itF, r_nT, r_nF, r_len0, r_len1, r_len2, r_len3, r_len4, r_len7, r_len8, r_for, r_iEnum, r_iList, r_iTup, r_iRng1, r_iRng2, r_exI1, r_exI2, r_exR1, r_exR, r_bm, r_bm0, r_ixS, r_ixL, r_ixT, r_cat, r_slL, r_append, r_pop, r_exS2, r_exRl, r_intB, r_gTup, true_and, and_true, forall_const, Int.reduceLT, r_compG, r_setComp, r_yes, r_isi_int_str, r_isi_str_str, r_slT, r_inR, r_notInR, cxOf_K, wish_K, blk_K, r_blk1, r_blk2, List.map_cons, List.map_nil, List.getElem?_cons_zero, List.getElem?_cons_succ, Option.join_some, r_Vs, r_dnewK, r_dput, r_gSub, List.set_cons_zero, List.set_cons_succ, r_midL, r_sfld, r_gfld, r_make, r_iRev, r_listRev, r_listVals, r_slRev, r_dget2, r_listRng, r_kget1, r_iEnumT, r_extend, r_sortedS]
      obtain ⟨ys0, g0, ek, _⟩ := hW.2
      refine ite_dec (fun _ => later ?_) (fun z => absurd trivial z)
      simp only [y_v0, r_g0, y_v1, r_g1, y_v2, r_g2, y_v3, r_g3, y_v4, r_g4, y_v5, r_g5, y_v6, r_g6, y_v7, r_g7, y_v8, r_g8, y_v9, r_g9, y_v10, r_g10, y_v11, r_g11, y_v12, r_g12, y_v13, r_g13, y_v14, r_g14, y_v15, r_g15, r_c, r_op, r_un, y_I0, y_I, y_U, r_eqI, r_eqS, r_neI, r_exbl, r_exint, r_test, r_B, r_and, r_or, r_not, r_andV, r_orV, r_notV, r_if, r_next, r_seqL, r_brk, r_cont, r_drop, r_ret, r_retN, r_ifSL, r_asg, r_CB, r_nil, r_cons, r_call, r_tup, r_lst, r_p0, r_pS, r_disp, r_dget, r_sl, r_noPart, r_part, r_gNil, r_gCons, r_itF, r_nT, r_nF, r_len0, r_len1, r_len2, r_len3, r_len4, r_len7, r_len8, r_for, r_iEnum, r_iList, r_iTup, r_iRng1, r_iRng2, r_exI1, r_exI2, r_exR1, r_exR, r_bm, r_bm0, r_ixS, r_ixL, r_ixT, r_cat, r_slL, r_append, r_pop, r_exS2, r_exRl, r_intB, r_gTup, true_and, and_true, forall_const, Int.reduceLT, r_compG, r_setComp, r_yes, r_isi_int_str, r_isi_str_str, r_slT, r_inR, r_notInR, cxOf_K, wish_K, blk_K, r_blk1, r_blk2, List.map_cons, List.map_nil, List.getElem?_cons_zero, List.getElem?_cons_succ, Option.join_some, r_Vs, r_dnewK, r_dput, r_gSub, List.set_cons_zero, List.set_cons_succ, r_midL, r_sfld, r_gfld, r_make, r_iRev, r_listRev, r_listVals, r_slRev, r_dget2, r_listRng, r_kget1, r_iEnumT, r_extend, r_sortedS]
      refine ⟨.inl ⟨rfl, _, SqL.of ek⟩, _, V.str n, hq, rfl, _, _, hq, rfl, ?_⟩
      rw [r_we]
      refine (mk_we (xs1) (rows) (_) (ha1) (h1) (by omega) (by omega) (fun p1 zs1 k1 H2 s2 hp1 e1 v1 fr1 p hp => ?_))
      have s4 := Same.upd (o := .tup [V.str "while", V.str n, V.ref p1]) hp
      have hfr : ∀ z ∈ p1 :: k1, z ∈ f ∨ H1 z = none := fun z hz => by
        rcases List.mem_cons.mp hz with h | hz
        · rw [h]; exact .inr hp1
        rcases fr1 z hz with h | h
        · exact .inl (hsub z (List.mem_cons_of_mem _ h))
        · exact .inr h
      obtain ⟨ys, e5, l5, hW2⟩ := hW.one hk hst (by rw [FW.weS]) (s2.trans s4) (.whl (SqT.of upd_same) (s4 _ _ e1) (v1.same s4)) hfr kf hi
      exact ⟨ys, e5, l5, hW2, _, _, _, rfl⟩
  · rintro σ H1 ⟨⟨s1, ys, g, e, ly, hy, ng, fg⟩, o2, o3, o4, rfl⟩
    refine later ?_
    simp only [y_v0, r_g0, y_v1, r_g1, y_v2, r_g2, y_v3, r_g3, y_v4, r_g4, y_v5, r_g5, y_v6, r_g6, y_v7, r_g7, y_v8, r_g8, y_v9, r_g9, y_v10, r_g10, y_v11, r_g11, y_v12, r_g12, y_v13, r_g13, y_v14, r_g14, y_v15, r_g15, r_c, r_op, r_un, y_I0, y_I, y_U, r_eqI, r_eqS, r_neI, r_exbl, r_exint, r_test, r_B, r_and, r_or, r_not, r_andV, r_orV, r_notV, r_if, r_next, r_seqL, r_brk, r_cont, r_drop, r_ret, r_retN, r_ifSL, r_asg, r_CB, r_nil, r_cons, r_call, r_tup, r_lst, r_p0, r_pS, r_disp, r_dget, r_sl, r_noPart, r_part, r_gNil, r_gCons, r_itF, r_nT, r_nF, r_len0, r_len1, r_len2, r_len3, r_len4, r_len7, r_len8, r_for, r_iEnum, r_iList, r_iTup, r_iRng1, r_iRng2, r_exI1, r_exI2, r_exR1, r_exR, r_bm, r_bm0, r_ixS, r_ixL, r_ixT, r_cat, r_slL, r_append, r_pop, r_exS2, r_exRl, r_intB, r_gTup, true_and, and_true, forall_const, Int.reduceLT, r_compG, r_setComp, r_yes, r_isi_int_str, r_isi_str_str, r_slT, r_inR, r_notInR, cxOf_K, wish_K, blk_K, r_blk1, r_blk2, List.map_cons, List.map_nil, List.getElem?_cons_zero, List.getElem?_cons_succ, Option.join_some, r_Vs, r_dnewK, r_dput, r_gSub, List.set_cons_zero, List.set_cons_succ, r_midL, r_sfld, r_gfld, r_make, r_iRev, r_listRev, r_listVals, r_slRev, r_dget2, r_listRng, r_kget1, r_iEnumT, r_extend, r_sortedS]
    rw [lx, List.take_length] at hy
    exact q k ys g H1 s1 hk e hy fg
theorem ok_we (T : Txt K mg t) : ∀ d, FnOk P w K mg base CX0 (d + 1) t.f_without_empty_ifs t.e_without_empty_ifs ["rows"] (sp_we K d)
  | 0 => ⟨fun vs H Q E h => by obtain ⟨_, _, _, _, _, _, _, h, _⟩ := h; omega, fun _ _ _ _ _ _ _ _ _ _ _ _ _ h => by obtain ⟨_, _, _, _, _, _, _, h, _⟩ := h; omega⟩
  | d + 1 => we_step T d (ok_we T d)
end
end K78
set_option maxHeartbeats 4000000
namespace K78
open PySem L2 PyProof.Rows FA FB FS FP FG FO FR
noncomputable def sp_copied (K : PySem.W.Frag) (d : Nat) : Sp := fun vs H Q _ => ∃ (a : Addr) (xs : List V) (ss : List Stm) (f : List Addr), vs = [.ref a] ∧ H a = some (.lst xs) ∧ StmsV K H xs ss f ∧ deepL ss < d ∧ manyL ss ≤ 1000 ∧
  ∀ p ys g H', Same H H' → H' p = some (.lst ys) → StmsV K H' ys ss g → (p :: g).Nodup → (∀ c ∈ p :: g, H c = none) → Q (.ref p) H'
noncomputable def sp_crow (K : PySem.W.Frag) (d : Nat) : Sp := fun vs H Q _ => ∃ (x : V) (s : Stm) (f : List Addr), vs = [x] ∧ StmV K H x s f ∧ s.deep < d ∧ s.many ≤ 1000 ∧
  ∀ y g H', Same H H' → StmV K H' y s g → g.Nodup → (∀ c ∈ g, H c = none) → Q y H'
section
variable {P : Program} {w : World} {K : PySem.W.Frag} {mg : Str → Option Value} {base : Heap} {t : Ad}
theorem r_crow {d : Nat} {x : V} {H : Hp} {Q : VK} {E : XK} : sp_crow K d [x] H Q E = ∃ (s : Stm) (f : List Addr), StmV K H x s f ∧ s.deep < d ∧ s.many ≤ 1000 ∧ ∀ y g H', Same H H' → StmV K H' y s g → g.Nodup → (∀ c ∈ g, H c = none) → Q y H' :=
  propext ⟨by rintro ⟨_, s, f, e, q⟩; cases e; exact ⟨s, f, q⟩, by rintro ⟨s, f, q⟩; exact ⟨x, s, f, rfl, q⟩⟩
theorem r_copied {d : Nat} {a : Addr} {H : Hp} {Q : VK} {E : XK} : sp_copied K d [.ref a] H Q E = ∃ (xs : List V) (ss : List Stm) (f : List Addr), H a = some (.lst xs) ∧ StmsV K H xs ss f ∧ deepL ss < d ∧ manyL ss ≤ 1000 ∧
  ∀ p ys g H', Same H H' → H' p = some (.lst ys) → StmsV K H' ys ss g → (p :: g).Nodup → (∀ c ∈ p :: g, H c = none) → Q (.ref p) H' :=
  propext ⟨by rintro ⟨_, xs, ss, f, e, q⟩; cases e; exact ⟨xs, ss, f, q⟩, by rintro ⟨xs, ss, f, q⟩; exact ⟨a, xs, ss, f, rfl, q⟩⟩
theorem copied_step (T : Txt K mg t) (d : Nat) (G_copied_row : FnOk P w K mg base CX0 (2 * d + 1) t.f_copied_row t.e_copied_row ["row"] (sp_crow K d)) : FnOk P w K mg base CX0 (2 * d + 2) t.f_copied t.e_copied ["rows"] (sp_copied K d) := by
  refine T.d_copied.F.ok sc_copied (fun vs H Q E h => by obtain ⟨_, _, _, _, rfl, _⟩ := h; rfl) (fun cdv A outer s H vs Q E hr h => ?_)
  obtain ⟨a, xs, ss, f, rfl, ha, hx, hd, hl, q⟩ := h
  refine ⟨_,
      (XSs.h
      (xpss_one
        (xps_ret (xpe_compG (tns := ["row"]) (cns := []) (ci := []) rfl (CompSc.of (by kernel_rfl)) (xpi_list (yqv 0 vl)) (fun _ => (xpg_name (i := 1) (show List.Nodup [(".0" : Str), ("row" : Str)] by decide +kernel) rfl ll (Or.inr (by kernel_rfl)))) (fun _ => xpf_nil) (fun _ => (xqe_callD T.d_copied_row G_copied_row (hr.mono (by first | decide | omega)) (xpa_cons (yqv 1 vl) xpa_nil) gl)))))), ?_⟩
  rw [show start _ [V.ref a] = [some (.ref a)] from rfl]
  simp_arith [r_listRng, r_kget1, r_iEnumT, r_extend, r_sortedS, r_crow]
  refine ⟨⟨_, SqL.of ha⟩, fun acc hacc bk => ?_⟩
  have lx := hx.length
  have lm := len_many ss
  refine cg_list (xs := xs) (fun i ys H' => Same H H' ∧ H' acc = some (.lst ys) ∧ ys.length = i ∧ ∃ g, StmsV K H' ys (ss.take i) g ∧ (acc :: g).Nodup ∧ ∀ c ∈ acc :: g, H c = none) ?_ ?_ ?_ ?_
  · exact ⟨Same.upd hacc, upd_same, rfl, [], .nil, by simp, fun c hc => by rw [List.mem_singleton.mp hc]; exact hacc⟩
  · intro i ys H' _ h; exact SqL.of (h.1 _ _ ha)
  · rintro i x ys H' os hxi ho ⟨sm, hacc2, ly, g, hg, nd, fr⟩
    match os, ho with
    | [o], _ =>
      simp_arith [r_listRng, r_kget1, r_iEnumT, r_extend, r_sortedS, r_crow]
      refine ⟨⟨[some x], rfl, rfl⟩, ?_⟩
      rw [if_pos trivial]
      obtain ⟨s, f', hs, hsv, _⟩ := hx.get hxi
      have hi : i < ss.length := (List.getElem?_eq_some_iff.mp hs).1
      have hse : ss[i] = s := (List.getElem?_eq_some_iff.mp hs).2
      have hds := deepL_mem (List.mem_of_getElem? hs)
      refine ⟨s, f', hsv.same sm, by omega, by have := many_mem (List.mem_of_getElem? hs); omega, fun y g2 H2 s2 hy nd2 fr2 => ?_⟩
      have na : acc ∉ g := (List.nodup_cons.mp nd).1
      have na2 : acc ∉ g2 := fun z => by rw [fr2 acc z] at hacc2; cases hacc2
      have tt : TSame H2 (upd H2 acc (.lst (ys ++ [y]))) := TSame.updL (s2 _ _ hacc2)
      refine ⟨s2 _ _ hacc2, by rw [sizeLine_eq]; omega, (sm.trans s2).updM hacc, upd_same, by simp [ly], g ++ g2, ?_, ?_, fun c hc => ?_⟩
      · rw [List.take_succ_eq_append_getElem hi, hse]
        exact ((hg.same s2).keep tt (Kept.upd na)).snoc (hy.keep tt (Kept.upd na2))
      · refine List.nodup_cons.mpr ⟨fun z => (List.mem_append.mp z).elim na na2, nodup_app (List.nodup_cons.mp nd).2 nd2 fun c h1 h2 => ?_⟩
        obtain ⟨zs, hz⟩ := hg.tracked c h1
        rw [fr2 c h2] at hz; cases hz
      · rcases List.mem_cons.mp hc with z | z
        · rw [z]; exact hacc
        · rcases List.mem_append.mp z with z | z
          · exact fr c (List.mem_cons_of_mem _ z)
          · exact sm.free (fr2 c z)
  · rintro ys H' ⟨sm, hacc2, ly, g, hg, nd, fr⟩
    rw [lx, List.take_length] at hg
    exact q acc ys g H' sm hacc2 hg nd fr
theorem crow_step (T : Txt K mg t) (d : Nat) (G_copied : FnOk P w K mg base CX0 (2 * d + 2) t.f_copied t.e_copied ["rows"] (sp_copied K d)) : FnOk P w K mg base CX0 (2 * (d + 1) + 1) t.f_copied_row t.e_copied_row ["row"] (sp_crow K (d + 1)) := by
  refine T.d_copied_row.F.ok sc_copied_row (fun vs H Q E h => by obtain ⟨_, _, _, rfl, _⟩ := h; rfl) (fun cdv A outer s H vs Q E hr h => ?_)
  obtain ⟨x, s, f, rfl, hx, hd, hm, q⟩ := h
  refine ⟨_,
      (XSs.h
      (xpss_cons
        (xps_if (xpt_cmpR op_eq (xpe_ix ix_tup (yqv 0 vl) xpe_int (fun _ _ => rfl)) xpe_str (nomark _))
          (xpss_one
            (xps_ret (xpe_tup (xpa_cons xpe_str (xpa_cons (xpe_ix ix_tup (yqv 0 vl) xpe_int (fun _ _ => rfl)) (xpa_cons (xqe_callD T.d_copied G_copied (hr.mono (by first | decide | omega)) (xpa_cons (xpe_ix ix_tup (yqv 0 vl) xpe_int (fun _ _ => rfl)) xpa_nil) gl) (xpa_cons (xqe_callD T.d_copied G_copied (hr.mono (by first | decide | omega)) (xpa_cons (xpe_ix ix_tup (yqv 0 vl) xpe_int (fun _ _ => rfl)) xpa_nil) gl) xpa_nil)))))))
          xpss_nil)
      (xpss_cons
        (xps_if (xpt_cmpR op_eq (xpe_ix ix_tup (yqv 0 vl) xpe_int (fun _ _ => rfl)) xpe_str (nomark _))
          (xpss_one
            (xps_ret (xpe_tup (xpa_cons xpe_str (xpa_cons (xpe_ix ix_tup (yqv 0 vl) xpe_int (fun _ _ => rfl)) (xpa_cons (xqe_callD T.d_copied G_copied (hr.mono (by first | decide | omega)) (xpa_cons (xpe_ix ix_tup (yqv 0 vl) xpe_int (fun _ _ => rfl)) xpa_nil) gl) xpa_nil))))))
          xpss_nil)
      (xpss_one
        (xps_ret (yqv 0 vl)))))), ?_⟩
  rw [show start _ [x] = [some x] from rfl]
  cases hx with
  | @deed q0 dd hf hq =>
    simp_arith [r_listRng, r_kget1, r_iEnumT, r_extend, r_sortedS, r_copied]
    refine deed0 hf hq (by decide +kernel) (by decide +kernel) (by decide +kernel) ⟨_, rfl, ?_⟩
    rw [if_neg Bool.false_ne_true]
    refine deed0 hf hq (by decide +kernel) (by decide +kernel) (by decide +kernel) ⟨_, rfl, ?_⟩
    rw [if_neg Bool.false_ne_true]
    exact q _ [] H (Same.refl H) (.deed hf hq) (by simp) (fun c hc => by cases hc)
  | @ifs q0 a b n xs ys ones others f g hq ha hb h1 h2 =>
    simp only [Stm.deep, Stm.many] at hd hm
    simp_arith [r_listRng, r_kget1, r_iEnumT, r_extend, r_sortedS, r_copied]
    refine ⟨_, _, hq, rfl, ?_⟩
    simp_arith [r_listRng, r_kget1, r_iEnumT, r_extend, r_sortedS, r_copied]
    refine ite_dec (fun _ => ⟨_, _, hq, rfl, _, _, hq, rfl, ?_⟩) (fun z => absurd trivial z)
    simp_arith [r_listRng, r_kget1, r_iEnumT, r_extend, r_sortedS, r_copied]
    refine ⟨xs, ones, f, ha, h1, by omega, by omega, fun p1 zs1 g1 H1 s1 e1 k1 nd1 fr1 => ⟨_, _, s1.seqT hq, rfl, ?_⟩⟩
    simp_arith [r_listRng, r_kget1, r_iEnumT, r_extend, r_sortedS, r_copied]
    refine ⟨ys, others, g, s1 _ _ hb, h2.same s1, by omega, by omega, fun p2 zs2 g2 H2 s2 e2 k2 nd2 fr2 p3 hp3 => ?_⟩
    have s3 := Same.upd (o := .tup [V.str "if", V.str n, V.ref p1, V.ref p2]) hp3
    have s12 := s1.trans s2
    refine q _ (p1 :: p2 :: (g1 ++ g2)) _ (s12.trans s3) (.ifs (SqT.of upd_same) (s3 _ _ (s2 _ _ e1)) (s3 _ _ e2) ((k1.same s2).same s3) (k2.same s3)) ?_ (fun c hc => ?_)
    · have dj : ∀ c ∈ p1 :: g1, c ∉ p2 :: g2 := fun c h1 h2 => by
        have ex : ∃ u, H1 c = some u := by
          rcases List.mem_cons.mp h1 with z | z
          · exact ⟨_, by rw [z]; exact e1⟩
          · obtain ⟨u, hu⟩ := k1.tracked c z; exact ⟨_, hu⟩
        obtain ⟨u, hu⟩ := ex
        rw [fr2 c h2] at hu; cases hu
      have n5 := nodup_app nd1 nd2 dj
      refine (List.Perm.nodup_iff ?_).mp n5
      rw [List.cons_append]
      exact .cons _ List.perm_middle
    · rcases List.mem_cons.mp hc with z | z
      · rw [z]; exact fr1 p1 (by simp)
      rcases List.mem_cons.mp z with z | z
      · rw [z]; exact s1.free (fr2 p2 (by simp))
      rcases List.mem_append.mp z with z | z
      · exact fr1 c (List.mem_cons_of_mem _ z)
      · exact s1.free (fr2 c (List.mem_cons_of_mem _ z))
  | @whl q0 a n xs rows f hq ha h1 =>
    simp only [Stm.deep, Stm.many] at hd hm
    simp_arith [r_listRng, r_kget1, r_iEnumT, r_extend, r_sortedS, r_copied]
    refine ⟨_, _, hq, rfl, ?_⟩
    simp_arith [r_listRng, r_kget1, r_iEnumT, r_extend, r_sortedS, r_copied]
    refine ite_dec (fun z => absurd z (by decide +kernel)) (fun _ => ⟨_, _, hq, rfl, ?_⟩)
    simp_arith [r_listRng, r_kget1, r_iEnumT, r_extend, r_sortedS, r_copied]
    refine ite_dec (fun _ => ⟨_, _, hq, rfl, _, _, hq, rfl, ?_⟩) (fun z => absurd trivial z)
    simp_arith [r_listRng, r_kget1, r_iEnumT, r_extend, r_sortedS, r_copied]
    refine ⟨xs, rows, f, ha, h1, by omega, by omega, fun p1 zs1 g1 H1 s1 e1 k1 nd1 fr1 p3 hp3 => ?_⟩
    have s3 := Same.upd (o := .tup [V.str "while", V.str n, V.ref p1]) hp3
    exact q _ (p1 :: g1) _ (s1.trans s3) (.whl (SqT.of upd_same) (s3 _ _ e1) (k1.same s3)) nd1 fr1
theorem ok_copies (T : Txt K mg t) : ∀ d, FnOk P w K mg base CX0 (2 * d + 1) t.f_copied_row t.e_copied_row ["row"] (sp_crow K d) ∧ FnOk P w K mg base CX0 (2 * d + 2) t.f_copied t.e_copied ["rows"] (sp_copied K d)
  | 0 => by
    have h0 : FnOk P w K mg base CX0 (2 * 0 + 1) t.f_copied_row t.e_copied_row ["row"] (sp_crow K 0) := ⟨fun vs H Q E h => by obtain ⟨_, _, _, _, _, h, _⟩ := h; omega, fun _ _ _ _ _ _ _ _ _ _ _ _ _ h => by obtain ⟨_, _, _, _, _, h, _⟩ := h; omega⟩
    exact ⟨h0, copied_step T 0 h0⟩
  | d + 1 => by
    have h1 := crow_step T d (ok_copies T d).2
    exact ⟨h1, copied_step T (d + 1) h1⟩
end
end K78
set_option maxHeartbeats 4000000
namespace K78
open PySem L2 PyProof.Rows FA FB FS FP FG FO FR
noncomputable def bd_init (K : PySem.W.Frag) (C : Addr) (d : Nat) (p : Addr) (a0 : Addr) (b0 : Addr) (r0 : Addr) (wd : Int) (H : Hp) (Q : VK) : Prop := ∃ (dx : Addr) (ins : List Str) (oth : List Str) (xs : List V) (ss : List Stm) (f : List Addr), H p = some (.ins C dx []) ∧
  H a0 = some (.lst (ins.map V.str)) ∧ H b0 = some (.lst (oth.map V.str)) ∧ H r0 = some (.lst xs) ∧ StmsV K H xs ss f ∧ deepL ss < d ∧ manyL ss ≤ 1000 ∧ ins.length ≤ 1000 ∧ oth.length ≤ 1000 ∧
  ∀ a b r ys g H', SameX p H H' → ProgAt K C H' p wd ins oth ss a b r ys g → (a :: b :: r :: g).Nodup → (∀ c ∈ a :: b :: r :: g, H c = none) → Q .non H'
noncomputable def sp_init (K : PySem.W.Frag) (C : Addr) (d : Nat) : Sp := fun vs H Q _ => ∃ (p : Addr) (a0 : Addr) (b0 : Addr) (r0 : Addr) (wd : Int), vs = [.ref p, .int wd, .ref a0, .ref b0, .ref r0] ∧ bd_init K C d p a0 b0 r0 wd H Q
section
variable {P : Program} {w : World} {K : PySem.W.Frag} {mg : Str → Option Value} {base : Heap} {t : Ad}
theorem ok_init (T : Txt K mg t) (d : Nat) : FnOk P w K mg base CX0 (2 * d + 3) t.f_Program___init__ t.e_Program___init__ ["self", "width", "ins", "boxes", "rows"] (sp_init K t.C_Program d) := by
  have G_copied := (ok_copies (P := P) (w := w) (base := base) T d).2
  refine T.d_Program___init__.F.ok sc_Program___init__ (fun vs H Q E h => by obtain ⟨_, _, _, _, _, rfl, _⟩ := h; rfl) (fun cdv A outer s H vs Q E hr h => ?_)
  obtain ⟨p, a0, b0, r0, wd, rfl, dx, ins, oth, xs, ss, f, hp, ha, hb, hr0, hx, hd, hm, hi, ho, q⟩ := h
  refine ⟨_,
      (XSs.h
      (xpss_cons
        (xps_fld (yqv 0 vl) (yqv 1 vl) rfl)
      (xpss_cons
        (xps_fld (yqv 0 vl) (xqe_callTy call_list_of gl T.z_list boot_list (xpa_cons (yqv 2 vl) xpa_nil)) rfl)
      (xpss_cons
        (xps_fld (yqv 0 vl) (xpe_op op_cat (xqe_callTy call_list_of gl T.z_list boot_list (xpa_cons (yqv 2 vl) xpa_nil)) (xqe_callTy call_list_of gl T.z_list boot_list (xpa_cons (yqv 3 vl) xpa_nil))) rfl)
      (xpss_one
        (xps_fld (yqv 0 vl) (xqe_callD T.d_copied G_copied (hr.mono (by first | decide | omega)) (xpa_cons (yqv 4 vl) xpa_nil) gl) rfl)))))), ?_⟩
  rw [show start _ [V.ref p, V.int wd, V.ref a0, V.ref b0, V.ref r0] = [some (.ref p), some (.int wd), some (.ref a0), some (.ref b0), some (.ref r0)] from rfl]
  simp_arith [r_listRng, r_kget1, r_iEnumT, r_extend, r_sortedS, r_copied]
  have na : a0 ≠ p := ne_of ha hp (by intro z; cases z)
  have nb : b0 ≠ p := ne_of hb hp (by intro z; cases z)
  have nr : r0 ≠ p := ne_of hr0 hp (by intro z; cases z)
  -- self.width = width
  refine fput hp T.c_Program.cl T.n_Program_width (by simp) ?_
  rw [putF_new (by rfl), List.nil_append]
  obtain ⟨H1, hH1⟩ : ∃ H1, H1 = upd H p (.ins t.C_Program dx [("width", V.int wd)]) := ⟨_, rfl⟩
  rw [← hH1]
  have e1 : H1 p = some (.ins t.C_Program dx [("width", V.int wd)]) := by rw [hH1]; exact upd_same
  have s1 : SameX p H H1 := by rw [hH1]; exact SameX.upd
  have t1 : TSame H H1 := by rw [hH1]; exact TSame.updI hp
  -- self.ins = list(ins)
  simp_arith [r_listRng, r_kget1, r_iEnumT, r_extend, r_sortedS, r_copied]
  refine ⟨_, .inl (SqL.of (s1 _ _ ha na)), fun l1 hl1 => ?_⟩
  have np1 : p ≠ l1 := ne_of_none e1 hl1
  refine fput (by rw [upd_ne np1]; exact e1) T.c_Program.cl T.n_Program_ins (by simp) ?_
  rw [putF_new (by kernel_rfl)]
  obtain ⟨H2, hH2⟩ : ∃ H2, H2 = upd (upd H1 l1 (.lst (ins.map V.str))) p (.ins t.C_Program dx ([(("width" : Str), V.int wd)] ++ [(("ins" : Str), V.ref l1)])) := ⟨_, rfl⟩
  rw [← hH2]
  have e2 : H2 p = some (.ins t.C_Program dx ([(("width" : Str), V.int wd)] ++ [(("ins" : Str), V.ref l1)])) := by rw [hH2]; exact upd_same
  have s2 : SameX p H1 H2 := by rw [hH2]; exact (SameX.of (Same.upd hl1)).trans SameX.upd
  have k2 : H2 l1 = some (.lst (ins.map V.str)) := by rw [hH2, upd_ne np1.symm]; exact upd_same
  have t2 : TSame H1 H2 := by rw [hH2]; exact (Same.upd hl1).ts.trans (TSame.updI (by rw [upd_ne np1]; exact e1))
  have s02 := s1.trans s2
  -- self.boxes = list(ins) + list(boxes)
  simp_arith [r_listRng, r_kget1, r_iEnumT, r_extend, r_sortedS, r_copied]
  refine ⟨_, .inl (SqL.of (s02 _ _ ha na)), fun l2 hl2 => ?_⟩
  have s3 := Same.upd (o := .lst (ins.map V.str)) hl2
  refine ⟨_, .inl (SqL.of (s3 _ _ (s02 _ _ hb nb))), fun l3 hl3 => ?_⟩
  have s4 := s3.trans (Same.upd (o := .lst (oth.map V.str)) hl3)
  refine ⟨_, _, (by rw [upd_ne (ne_of_none upd_same hl3)]; exact upd_same), upd_same, (by rw [sizeLine_eq]; simp only [List.length_map]; omega), fun l4 hl4 => ?_⟩
  have s5 := s4.trans (Same.upd (o := .lst (ins.map V.str ++ oth.map V.str)) hl4)
  refine fput (s5 _ _ e2) T.c_Program.cl T.n_Program_boxes (by simp) ?_
  rw [putF_new (by kernel_rfl)]
  have np4 : p ≠ l4 := ne_of_none (s4 _ _ e2) hl4
  obtain ⟨H3, hH3⟩ : ∃ H3, H3 = upd (upd (upd (upd H2 l2 (.lst (ins.map V.str))) l3 (.lst (oth.map V.str))) l4 (.lst (ins.map V.str ++ oth.map V.str))) p (.ins t.C_Program dx ([(("width" : Str), V.int wd)] ++ [(("ins" : Str), V.ref l1)] ++ [(("boxes" : Str), V.ref l4)])) := ⟨_, rfl⟩
  rw [← hH3]
  have e3 : H3 p = some (.ins t.C_Program dx ([(("width" : Str), V.int wd)] ++ [(("ins" : Str), V.ref l1)] ++ [(("boxes" : Str), V.ref l4)])) := by rw [hH3]; exact upd_same
  have s23 : SameX p H2 H3 := by rw [hH3]; exact (SameX.of s5).trans SameX.upd
  have k4 : H3 l4 = some (.lst (ins.map V.str ++ oth.map V.str)) := by rw [hH3, upd_ne np4.symm]; exact upd_same
  have t3 : TSame H2 H3 := by rw [hH3]; exact s5.ts.trans (TSame.updI (s5 _ _ e2))
  have s03 := s02.trans s23
  -- self.rows = copied(rows)
  simp_arith [r_listRng, r_kget1, r_iEnumT, r_extend, r_sortedS, r_copied]
  have pf : p ∉ f := fun z => by obtain ⟨zs, hz⟩ := hx.tracked p z; rw [hp] at hz; cases hz
  refine ⟨xs, ss, f, s03 _ _ hr0 nr, hx.keep ((t1.trans t2).trans t3) (fun c hc o e => s03 c o e (fun z => pf (by rw [← z]; exact hc))), hd, hm, fun r ys g H4 s34 e4 k5 nd fr => ?_⟩
  refine fput (s34 _ _ e3) T.c_Program.cl T.n_Program_rows (by simp) ?_
  rw [putF_new (by kernel_rfl)]
  have pg : p ∉ r :: g := fun z => by rw [fr p z] at e3; cases e3
  have npr : r ≠ p := fun z => pg (by rw [z]; exact List.mem_cons_self)
  have nl1 : l1 ≠ p := np1.symm
  have nl4 : l4 ≠ p := np4.symm
  have n14 : l1 ≠ l4 := ne_of_none (s4 _ _ k2) hl4
  have f1 : H l1 = none := s1.free e1 hl1
  have f4 : H l4 = none := s02.free e2 (s4.free hl4)
  have k3 : H3 l1 = some (.lst (ins.map V.str)) := s23 _ _ k2 nl1
  refine q l1 l4 r ys g _ (s03.trans ((SameX.of s34).trans SameX.upd)) ⟨⟨dx, upd_same⟩, ?_, ?_, ?_, ?_⟩ ?_ ?_
  · rw [upd_ne nl1]; exact s34 _ _ k3
  · rw [upd_ne nl4, List.map_append]; exact s34 _ _ k4
  · rw [upd_ne npr]; exact e4
  · exact k5.keep (TSame.updI (s34 _ _ e3)) (Kept.upd fun z => pg (List.mem_cons_of_mem _ z))
  · have a1 : l1 ∉ r :: g := fun z => by rw [fr l1 z] at k3; cases k3
    have a4 : l4 ∉ r :: g := fun z => by rw [fr l4 z] at k4; cases k4
    refine List.nodup_cons.mpr ⟨fun z => ?_, List.nodup_cons.mpr ⟨a4, nd⟩⟩
    rcases List.mem_cons.mp z with z | z
    · exact n14 z
    · exact a1 z
  · intro c hc
    rcases List.mem_cons.mp hc with z | hc
    · rw [z]; exact f1
    rcases List.mem_cons.mp hc with z | hc
    · rw [z]; exact f4
    exact s03.free e3 (fr c hc)
end
end K78
set_option maxHeartbeats 4000000
namespace K78
open PySem L2 PyProof.Rows FA FB FS FP FG FO FR
noncomputable def bd_after (K : PySem.W.Frag) (d : Nat) (ns : List Str) (wd : Int) (a : Addr) (H : Hp) (Q : VK) : Prop := ∃ (xs : List V) (ss : List Stm) (f : List Addr), H a = some (.lst xs) ∧ StmsV K H xs ss f ∧ deepL ss < d ∧ goodL ns wd ss ∧ ns.length ≤ 400 ∧ manyL ss ≤ 1000 ∧
  ∀ p ys g H', Same H H' → H' p = some (.lst ys) → StmsV K H' ys (FW.afterR ss) g → Q (.ref p) H'
noncomputable def sp_after (K : PySem.W.Frag) (d : Nat) (ns : List Str) (wd : Int) : Sp := fun vs H Q _ => ∃ a : Addr, vs = [.ref a] ∧ bd_after K d ns wd a H Q
noncomputable def bd_trim (K : PySem.W.Frag) (C : Addr) (d : Nat) (p : Addr) (H : Hp) (Q : VK) : Prop := ∃ (wd : Int) (ins oth : List Str) (ss : List Stm) (a b r : Addr) (xs : List V) (f : List Addr), ProgAt K C H p wd ins oth ss a b r xs f ∧ deepL ss < d ∧ goodL (ins ++ oth) wd ss ∧ ins.length ≤ 100 ∧ oth.length ≤ 100 ∧ manyL ss ≤ 1000 ∧
  ∀ p' a' b' r' cur ys g H', Same H H' → ProgAt K C H' p' wd ins oth cur a' b' r' ys g → FW.Trm ss cur → FW.afterR cur = cur → Q (.ref p') H'
theorem mk_trim {K : PySem.W.Frag} {C : Addr} {d : Nat} {p : Addr} {H : Hp} {Q : VK}  (wd : Int) (ins oth : List Str) (ss : List Stm) (a b r : Addr) (xs : List V) (f : List Addr) (h_0 : ProgAt K C H p wd ins oth ss a b r xs f) (h_1 : deepL ss < d) (h_2 : goodL (ins ++ oth) wd ss) (h_3 : ins.length ≤ 100) (h_4 : oth.length ≤ 100) (h_5 : manyL ss ≤ 1000) (h_6 : ∀ p' a' b' r' cur ys g H', Same H H' → ProgAt K C H' p' wd ins oth cur a' b' r' ys g → FW.Trm ss cur → FW.afterR cur = cur → Q (.ref p') H') : bd_trim K C d p H Q := ⟨wd, ins, oth, ss, a, b, r, xs, f, h_0, h_1, h_2, h_3, h_4, h_5, h_6⟩
noncomputable def sp_trim (K : PySem.W.Frag) (C : Addr) (d : Nat) : Sp := fun vs H Q _ => ∃ p : Addr, vs = [.ref p] ∧ bd_trim K C d p H Q
section
variable {P : Program} {w : World} {K : PySem.W.Frag} {mg : Str → Option Value} {base : Heap} {t : Ad}
theorem r_after {d : Nat} {ns : List Str} {wd : Int} {a : Addr} {H : Hp} {Q : VK} {E : XK} : sp_after K d ns wd [.ref a] H Q E = bd_after K d ns wd a H Q := propext ⟨by rintro ⟨_, e, q⟩; cases e; exact q, fun q => ⟨a, rfl, q⟩⟩
theorem r_trim {C : Addr} {d : Nat} {p : Addr} {H : Hp} {Q : VK} {E : XK} : sp_trim K C d [.ref p] H Q E = bd_trim K C d p H Q := propext ⟨by rintro ⟨_, e, q⟩; cases e; exact q, fun q => ⟨p, rfl, q⟩⟩
theorem r_init {C p a0 b0 r0 : Addr} {d : Nat} {wd : Int} {H : Hp} {Q : VK} {E : XK} : sp_init K C d [.ref p, .int wd, .ref a0, .ref b0, .ref r0] H Q E = bd_init K C d p a0 b0 r0 wd H Q := propext ⟨by rintro ⟨_, _, _, _, _, e, q⟩; cases e; exact q, fun q => ⟨_, _, _, _, _, rfl, q⟩⟩
theorem ok_after (T : Txt K mg t) (d : Nat) (ns : List Str) (wd : Int) : FnOk P w K mg base CX0 (2 * d + 8) t.f_after_round t.e_after_round ["rows"] (sp_after K d ns wd) := by
  have G_without_idle := (ok_wis (P := P) (w := w) (base := base) T ns wd d).2
  have G_without_empty_ifs := ok_we (P := P) (w := w) (base := base) T d
  refine T.d_after_round.F.ok sc_after_round (fun vs H Q E h => by obtain ⟨_, rfl, _⟩ := h; rfl) (fun cdv A outer s H vs Q E hr h => ?_)
  obtain ⟨a, rfl, xs, ss, f, ha, hx, hd, hg, hn, hm, q⟩ := h
  refine ⟨_,
      (XSs.h
      (xpss_one
        (xps_ret (xqe_callD T.d_without_empty_ifs G_without_empty_ifs (hr.mono (by first | decide | omega)) (xpa_cons (xqe_callD T.d_without_idle G_without_idle (hr.mono (by first | decide | omega)) (xpa_cons (yqv 0 vl) (xpa_cons (xpe_lst xpa_nil) xpa_nil)) gl) xpa_nil) gl)))), ?_⟩
  rw [show start _ [V.ref a] = [some (.ref a)] from rfl]
  simp_arith [r_listRng, r_kget1, r_iEnumT, r_extend, r_sortedS, r_wi, r_we]
  intro p0 hp0
  have s0 := Same.upd (o := .lst []) hp0
  refine ⟨xs, ss, f, [], s0 _ _ ha, hx.same s0, hd, hg, hn, hm, upd_same, FW.few_nil, fun p1 ys1 g1 H1 s1 hp1 e1 v1 f1 => ?_⟩
  simp_arith [r_listRng, r_kget1, r_iEnumT, r_extend, r_sortedS, r_we]
  have d1 := FW.wiL_deep ss []
  have m1 := (FW.wiL_many ss []).1
  exact ⟨ys1, _, g1, e1, v1, by omega, by omega, fun p2 ys2 g2 H2 s2 hp2 e2 v2 f2 => q p2 ys2 g2 H2 ((s0.trans s1).trans s2) e2 v2⟩
theorem ok_trim (T : Txt K mg t) (d : Nat) (hd18 : d ≤ 18) : FnOk P w K mg base CX0 (2 * d + 9) t.f_trimmed t.e_trimmed ["program"] (sp_trim K t.C_Program d) := by
  have G_Program___init__ := ok_init (P := P) (w := w) (base := base) T d
  refine T.d_trimmed.F.ok sc_trimmed (fun vs H Q E h => by obtain ⟨_, rfl, _⟩ := h; rfl) (fun cdv A outer s H vs Q E hr h => ?_)
  obtain ⟨p, rfl, wd, ins, oth, ss, a, b, r, xs, f, hP, hd, hg, li, lo, hm, q⟩ := h
  have G_after_round := ok_after (P := P) (w := w) (base := base) T d (ins ++ oth) wd
  have hn : (ins ++ oth).length ≤ 400 := by rw [List.length_append]; omega
  obtain ⟨dx, hob⟩ := hP.ob
  refine ⟨_,
      (XSs.h
      (xpss_cons
        (xps_set (i := 1) sc_trimmed.nd rfl ll (xpe_fld (yqv 0 vl) rfl))
      (xpss_cons
        (xps_set (i := 2) sc_trimmed.nd rfl ll (xqe_callD T.d_after_round G_after_round (hr.mono (by first | decide | omega)) (xpa_cons (yqv 1 vl) xpa_nil) gl))
      (xpss_cons
        (xps_while PassesOwn.never (xpt_cmpR (GB.op_neF (n := 40) (hu_n (by decide) hr)) (yqv 2 vl) (yqv 1 vl) (nomark _))
          (xpss_cons
            (xps_set (i := 1) sc_trimmed.nd rfl ll (yqv 2 vl))
          (xpss_one
            (xps_set (i := 2) sc_trimmed.nd rfl ll (xqe_callD T.d_after_round G_after_round (hr.mono (by first | decide | omega)) (xpa_cons (yqv 1 vl) xpa_nil) gl)))))
      (xpss_one
        (xps_ret (xqe_makeD T.c_Program T.d_Program___init__ G_Program___init__ (hr.mono (by first | decide | omega)) (xpa_cons (xpe_fld (yqv 0 vl) rfl) (xpa_cons (xpe_fld (yqv 0 vl) rfl) (xpa_cons (xpe_slice sl_list (xpe_fld (yqv 0 vl) rfl) (xpo_some (xqe_callB call_len_seq gl T.z_len PySem.boot_len (xpa_cons (xpe_fld (yqv 0 vl) rfl) xpa_nil))) xpo_none) (xpa_cons (yqv 1 vl) xpa_nil)))) gl))))))), ?_⟩
  rw [show start _ [V.ref p] = [some (.ref p), none, none] from rfl]
  simp_arith [r_listRng, r_kget1, r_iEnumT, r_extend, r_sortedS, r_after, r_init]
  refine fget hob T.c_Program.cl T.n_Program_rows rfl ?_
  simp_arith [r_listRng, r_kget1, r_iEnumT, r_extend, r_sortedS, r_after, r_init]
  refine ⟨xs, ss, f, hP.rs, hP.st, hd, hg, hn, hm, fun p1 ys1 g1 H1 s1 e1 v1 => ?_⟩
  refine ⟨fun m σ H' => ∃ (ra fa : Addr) (cur : List Stm) (zs ws : List V) (f g : List Addr), m = manyL cur ∧ σ = [some (.ref p), some (.ref ra), some (.ref fa)] ∧ Same H H' ∧ H' ra = some (.lst zs) ∧ StmsV K H' zs cur f ∧ H' fa = some (.lst ws) ∧ StmsV K H' ws (FW.afterR cur) g ∧ FW.Trm ss cur,
    ⟨_, r, p1, ss, xs, ys1, f, g1, rfl, rfl, s1, s1 _ _ hP.rs, hP.st.same s1, e1, v1, .refl⟩, ?_⟩
  rintro m σ H2 ⟨ra, fa, cur, zs, ws, f2, g2, rfl, rfl, s2, ea, va, eb, vb, ht⟩
  simp_arith [r_listRng, r_kget1, r_iEnumT, r_extend, r_sortedS, r_after, r_init]
  have dc := ht.deep
  have da := FW.afterR_deep cur
  have mc := ht.many
  have hq := fun hF => GB.rqF (K := K) (H := H2) (n := 40) (FW.aln_after cur).symm eb ea vb va (by omega) hF
  have hqt := GB.eqB_iff (l := FW.afterR cur) (l' := cur)
  generalize GB.eqB (FW.afterR cur) cur = bq at hq hqt
  refine ⟨bq, hq, _, rfl, ?_⟩
  cases bq with
  | false =>
    rw [Bool.not_false, if_pos rfl]
    have hlt : manyL (FW.afterR cur) < manyL cur := by
      have := FW.afterR_many cur
      rcases Nat.lt_or_ge (manyL (FW.afterR cur)) (manyL cur) with z | z
      · exact z
      · exact absurd (hqt.mpr (this.2 (by omega))) Bool.false_ne_true
    refine ⟨fun σ' H' => ∃ (ra fa : Addr) (zs ws : List V) (f g : List Addr), σ' = [some (.ref p), some (.ref ra), some (.ref fa)] ∧ Same H H' ∧ H' ra = some (.lst zs) ∧ StmsV K H' zs (FW.afterR cur) f ∧ H' fa = some (.lst ws) ∧ StmsV K H' ws (FW.afterR (FW.afterR cur)) g, ?_, ?_⟩
    · rintro σ' H' ⟨ra, fa, zs, ws, f, g, rfl, h1, h2, h3, h4, h5⟩
      exact ⟨_, hlt, ra, fa, _, zs, ws, f, g, rfl, rfl, h1, h2, h3, h4, h5, .step ht⟩
    · refine ⟨ws, _, g2, eb, vb, by omega, FW.afterR_good (ht.good hg), hn, by omega, fun p3 ys3 g3 H3 s3 e3 v3 => ?_⟩
      exact ⟨fa, p3, ws, ys3, g2, g3, rfl, s2.trans s3, s3 _ _ eb, vb.same s3, e3, v3⟩
  | true =>
    rw [Bool.not_true, if_neg Bool.false_ne_true]
    have hP2 := hP.same s2
    obtain ⟨dx2, hob2⟩ := hP2.ob
    refine fget hob2 T.c_Program.cl T.n_Program_width rfl ?_
    refine fget hob2 T.c_Program.cl T.n_Program_ins rfl ?_
    refine fget hob2 T.c_Program.cl T.n_Program_boxes rfl ?_
    refine fget hob2 T.c_Program.cl T.n_Program_ins rfl ?_
    simp_arith [r_listRng, r_kget1, r_iEnumT, r_extend, r_sortedS, r_after, r_init]
    refine ⟨_, .inl (SqL.of hP2.ia), _, SqL.of hP2.bx, fun pb hpb => ?_⟩
    rw [show cutV ((ins ++ oth).map V.str) (some (((ins.map V.str).length : Nat) : Int)) none = oth.map V.str by
      rw [cutV_from (by omega), Int.toNat_natCast, List.map_append, List.drop_left]]
    have s3 := Same.upd (o := .lst (oth.map V.str)) hpb
    intro pp dx3 hpp hdx hne
    simp only [r_init]
    have s4 : Same H2 (upd (upd (upd H2 pb (.lst (oth.map V.str))) dx3 (.own pp)) pp (.ins t.C_Program dx3 [])) := s3.trans ((Same.upd hdx).updM hpp)
    have e4 : (upd (upd (upd H2 pb (.lst (oth.map V.str))) dx3 (.own pp)) pp (.ins t.C_Program dx3 [])) pb = some (.lst (oth.map V.str)) := ((Same.upd hdx).updM hpp) _ _ upd_same
    refine ⟨dx3, ins, oth, zs, cur, f2, upd_same, s4 _ _ hP2.ia, e4, s4 _ _ ea, va.same s4, by omega, by omega, by omega, by omega, fun a' b' r' ys g H7 sx hP7 _ _ => ⟨rfl, ?_⟩⟩
    have hpp2 : H2 pp = none := s3.free hpp
    have s7 : Same H2 H7 := fun c' o' e => sx c' o' (s4 _ _ e) (ne_of_none e hpp2)
    exact q pp a' b' r' cur ys g H7 (s2.trans s7) hP7 ht (hqt.mp rfl)
end
end K78
set_option maxHeartbeats 4000000
namespace K78
open PySem L2 PyProof.Rows FA FB FS FP FG FO FR
noncomputable def sp_reads (K : PySem.W.Frag) : Sp := fun vs H Q _ => ∃ (a : Addr) (d : FB.Deed), vs = [.ref a] ∧ SqT K H a d.vs ∧ d.fine ∧ ∀ p H', Same H H' → H p = none → H' p = some (.lst (d.reads.map V.str)) → Q (.ref p) H'
section
variable {P : Program} {w : World} {K : PySem.W.Frag} {mg : Str → Option Value} {base : Heap} {t : Ad}
theorem ok_reads (T : Txt K mg t) : FnOk P w K mg base CX0 1 t.f__law_reads t.e__law_reads ["_law_deed_here"] (sp_reads K) := by
  refine T.d__law_reads.F.ok sc__law_reads (fun vs H Q E h => by obtain ⟨_, _, rfl, _⟩ := h; rfl) (fun cdv A outer s H vs Q E hr h => ?_)
  obtain ⟨a, d, rfl, hS, hf, q⟩ := h
  refine ⟨_,
      (XSs.h
      (xpss_cons
        (xps_set (i := 1) sc__law_reads.nd rfl ll (xpe_slice sl_tup (yqv 0 vl) (xpo_some xpe_int) xpo_none))
      (xpss_cons
        (xps_if (xpt_cmpR op_eq (xpe_ix ix_tup (yqv 0 vl) xpe_int (fun _ _ => rfl)) xpe_str (nomark _))
          (xpss_one
            (xps_set (i := 1) sc__law_reads.nd rfl ll (xpe_slice sl_tup (yqv 0 vl) (xpo_some xpe_int) xpo_none)))
          xpss_nil)
      (xpss_one
        (xps_ret (xpe_compG (tns := ["_law_one"]) (cns := []) (ci := []) rfl (CompSc.of (by kernel_rfl)) (xpi_tup (yqv 1 vl)) (fun _ => (xpg_name (i := 1) (show List.Nodup [(".0" : Str), ("_law_one" : Str)] by decide +kernel) rfl ll (Or.inr (by kernel_rfl)))) (fun _ => (xpf_one (xpt_val (xqe_callB call_isi gl T.z_isinstance boot_isinstance (xpa_cons (yqv 1 vl) (xpa_cons (xqe_bltn (v := .ty "str") gl T.z_str boot_str rfl) xpa_nil)))))) (fun _ => (yqv 1 vl)))))))), ?_⟩
  rw [show start _ [V.ref a] = [some (.ref a), none] from rfl]
  simp_arith [r_listRng, r_kget1, r_iEnumT, r_extend, r_sortedS]
  have fin : ∀ (zs : List V) (p acc : Addr) (bk : Bk) (H2 : Hp), Same H H2 → H2 p = some (.tup zs) → H2 acc = none → zs.length ≤ 2 → (∀ x ∈ zs, ∃ o : FB.Opd, x = o.v) → List.map id (List.filter isStrV zs) = d.reads.map V.str →
      CompGW (Itt K p) (gName 1) (tB (tCB (rIsi K) (tCons (yVar 1) (tCons (tC (V.ty "str")) tNil)))) (yVar 1) 1 [] [some (V.ref a), some (V.ref p)] acc (fun H' => Q (V.ref acc) H') (upd H2 acc (HO.lst [])) := by
    intro zs p acc bk H2 sm hp hacc hl hz he
    refine cg_flatT isStrV id (by rw [sizeLine_eq]; omega) (SqT.of hp) hacc (fun x hm H3 Q' s3 h => ?_) (fun x hm H3 Q' s3 _ h => ?_) ?_
    · obtain ⟨o, rfl⟩ := hz x hm
      simp_arith [r_listRng, r_kget1, r_iEnumT, r_extend, r_sortedS]
      exact isi_opd ⟨_, rfl, h⟩
    · simp_arith [r_listRng, r_kget1, r_iEnumT, r_extend, r_sortedS]
      exact h
    · rw [he]
      exact q acc _ (sm.trans (Same.upd hacc)) (sm.free hacc) upd_same
  cases d with
  | tell o =>
    refine ⟨_, hS, notWhole (k := 2) (show ¬ HT.sIx 2 0 (some 2) = 0 by decide), fun p hp => ⟨_, _, (Same.upd hp).seqT hS, rfl, ?_⟩⟩
    simp_arith [r_listRng, r_kget1, r_iEnumT, r_extend, r_sortedS]
    refine ite_dec (fun _ => ⟨_, (Same.upd hp).seqT hS, notWhole (k := 1) (show ¬ HT.sIx 2 0 (some 1) = 0 by decide), fun p2 hp2 => ⟨⟨_, SqT.of upd_same⟩, fun acc hacc bk => ?_⟩⟩) (fun e => absurd trivial e)
    exact fin [o.v] p2 acc bk _ ((Same.upd hp).trans (Same.upd hp2)) upd_same hacc (by simp) (fun x hm => ⟨o, List.mem_singleton.mp hm⟩) fil_opd
  | copy n o =>
    refine ⟨_, hS, notWhole (k := 2) (show ¬ HT.sIx 3 0 (some 2) = 0 by decide), fun p hp => ⟨_, _, (Same.upd hp).seqT hS, rfl, ?_⟩⟩
    simp_arith [r_listRng, r_kget1, r_iEnumT, r_extend, r_sortedS]
    refine ite_dec (fun e => absurd e (by decide +kernel)) (fun _ => ⟨⟨_, SqT.of upd_same⟩, fun acc hacc bk => ?_⟩)
    exact fin [o.v] p acc bk _ (Same.upd hp) upd_same hacc (by simp) (fun x hm => ⟨o, List.mem_singleton.mp hm⟩) fil_opd
  | op f n o o2 =>
    refine ⟨_, hS, notWhole (k := 2) (show ¬ HT.sIx 4 0 (some 2) = 0 by decide), fun p hp => ⟨_, _, (Same.upd hp).seqT hS, rfl, ?_⟩⟩
    simp_arith [r_listRng, r_kget1, r_iEnumT, r_extend, r_sortedS]
    refine ite_dec (fun e => absurd e (op_ne_tell hf)) (fun _ => ⟨⟨_, SqT.of upd_same⟩, fun acc hacc bk => ?_⟩)
    exact fin [o.v, o2.v] p acc bk _ (Same.upd hp) upd_same hacc (by simp) (fun x hm => by rcases List.mem_cons.mp hm with z | z; exact ⟨o, z⟩; exact ⟨o2, List.mem_singleton.mp z⟩) fil_opd2
theorem r_reads {a : Addr} {H : Hp} {Q : VK} {E : XK} : sp_reads K [.ref a] H Q E = ∃ d : FB.Deed, SqT K H a d.vs ∧ d.fine ∧ ∀ p H', Same H H' → H p = none → H' p = some (.lst (d.reads.map V.str)) → Q (.ref p) H' := propext ⟨by rintro ⟨_, d, e, q⟩; cases e; exact ⟨d, q⟩, by rintro ⟨d, q⟩; exact ⟨a, d, rfl, q⟩⟩
end
end K78
set_option maxHeartbeats 4000000
namespace K78
open PySem L2 PyProof.Rows FA FB FS FP FG FO FR
noncomputable def nmV : Option Str → V
  | none => .non
  | some n => .str n
noncomputable def NdV (K : PySem.W.Frag) (H : Hp) (nl : Addr) (x : V) (nd : FX.Nd) : Prop := ∃ q a b, x = .ref q ∧ SqT K H q [.ref a, nmV nd.nm, .ref b] ∧ H a = some (.lst (nd.rd.map V.str)) ∧ H b = some (.lst (nd.ah.map V.int)) ∧ a ≠ nl ∧ b ≠ nl
theorem SameX.tsL {p : Addr} {H H' : Hp} {ys : List V} (s : SameX p H H') (h : H p = some (.lst ys)) : TSame H H' :=
  ⟨fun c xs e => s c _ e (fun z => by rw [z, h] at e; cases e), fun c o u e => s c _ e (fun z => by rw [z, h] at e; cases e)⟩
theorem NdV.sx {K : PySem.W.Frag} {H H' : Hp} {nl : Addr} {x : V} {nd : FX.Nd} {ys : List V} (h : NdV K H nl x nd) (s : SameX nl H H') (hn : H nl = some (.lst ys)) : NdV K H' nl x nd := by
  obtain ⟨q, a, b, e, h1, h2, h3, h4, h5⟩ := h
  exact ⟨q, a, b, e, (SameX.tsL s hn).seqT h1, s _ _ h2 h4, s _ _ h3 h5, h4, h5⟩
theorem StmsV.sx {K : PySem.W.Frag} {H H' : Hp} {nl : Addr} {xs ys : List V} {ss : List Stm} {f : List Addr} (h : StmsV K H xs ss f) (s : SameX nl H H') (hn : H nl = some (.lst ys)) (hf : nl ∉ f) : StmsV K H' xs ss f :=
  h.keep (SameX.tsL s hn) fun a ha o e => s a o e (fun z => hf (z ▸ ha))
theorem StmV.sx {K : PySem.W.Frag} {H H' : Hp} {nl : Addr} {x : V} {ys : List V} {st : Stm} {f : List Addr} (h : StmV K H x st f) (s : SameX nl H H') (hn : H nl = some (.lst ys)) (hf : nl ∉ f) : StmV K H' x st f :=
  h.keep (SameX.tsL s hn) fun a ha o e => s a o e (fun z => hf (z ▸ ha))
noncomputable def bd_nodes (K : PySem.W.Frag) (d : Nat) (a nl : Addr) (b : Int) (H : Hp) (Q : VK) : Prop := ∃ (xs ys : List V) (ss : List Stm) (f : List Addr), H a = some (.lst xs) ∧ StmsV K H xs ss f ∧ deepL ss < d ∧ manyL ss ≤ 1000 ∧ a ≠ nl ∧ nl ∉ f ∧ H nl = some (.lst ys) ∧ ys.length + manyL ss ≤ 1000 ∧
  ∀ zs H', SameX nl H H' → H' nl = some (.lst (ys ++ zs)) → Paired (NdV K H' nl) zs (FX.nodesL ss ys.length b).1 → Q (.int (FX.nodesL ss ys.length b).2) H'
theorem mk_nodes {K : PySem.W.Frag} {d : Nat} {a nl : Addr} {b : Int} {H : Hp} {Q : VK}  (xs ys : List V) (ss : List Stm) (f : List Addr) (h_0 : H a = some (.lst xs)) (h_1 : StmsV K H xs ss f) (h_2 : deepL ss < d) (h_3 : manyL ss ≤ 1000) (h_4 : a ≠ nl) (h_5 : nl ∉ f) (h_6 : H nl = some (.lst ys)) (h_7 : ys.length + manyL ss ≤ 1000) (h_8 : ∀ zs H', SameX nl H H' → H' nl = some (.lst (ys ++ zs)) → Paired (NdV K H' nl) zs (FX.nodesL ss ys.length b).1 → Q (.int (FX.nodesL ss ys.length b).2) H') : bd_nodes K d a nl b H Q := ⟨xs, ys, ss, f, h_0, h_1, h_2, h_3, h_4, h_5, h_6, h_7, h_8⟩
noncomputable def sp_nodes (K : PySem.W.Frag) (d : Nat) : Sp := fun vs H Q _ => ∃ (a nl : Addr) (b : Int), vs = [.ref a, .ref nl, .int b] ∧ bd_nodes K d a nl b H Q
section
variable {P : Program} {w : World} {K : PySem.W.Frag} {mg : Str → Option Value} {base : Heap} {t : Ad}
theorem r_nodes {d : Nat} {a nl : Addr} {b : Int} {H : Hp} {Q : VK} {E : XK} : sp_nodes K d [.ref a, .ref nl, .int b] H Q E = bd_nodes K d a nl b H Q := propext ⟨by rintro ⟨_, _, _, e, q⟩; cases e; exact q, fun q => ⟨a, nl, b, rfl, q⟩⟩
theorem NdV.mk' {G : Hp} {nl q a b : Addr} {nd : FX.Nd} {o : HO} (hq : G q = some (.tup [.ref a, nmV nd.nm, .ref b])) (ha : G a = some (.lst (nd.rd.map V.str))) (hb : G b = some (.lst (nd.ah.map V.int))) (n1 : q ≠ nl) (n2 : a ≠ nl) (n3 : b ≠ nl) : NdV K (upd G nl o) nl (.ref q) nd :=
  ⟨q, a, b, rfl, SqT.of (by rw [upd_ne n1]; exact hq), by rw [upd_ne n2]; exact ha, by rw [upd_ne n3]; exact hb, n2, n3⟩
theorem nodes_step (T : Txt K mg t) (d : Nat) (G__law_nodes : FnOk P w K mg base CX0 (d + 2) t.f__law_nodes t.e__law_nodes ["_law_rows", "_law_nodes_here", "_law_behind"] (sp_nodes K d)) : FnOk P w K mg base CX0 (d + 3) t.f__law_nodes t.e__law_nodes ["_law_rows", "_law_nodes_here", "_law_behind"] (sp_nodes K (d + 1)) := by
  have G__law_reads := ok_reads (P := P) (w := w) (base := base) T
  refine T.d__law_nodes.F.ok sc__law_nodes (fun vs H Q E h => by obtain ⟨_, _, _, rfl, _⟩ := h; rfl) (fun cdv A outer s H vs Q E hr h => ?_)
  obtain ⟨a, nl, b, rfl, xs, ys, ss, f, ha, hx, hd, hm, hanl, hfnl, hnl, hlen, q⟩ := h
  have lx := hx.length
  refine ⟨_,
      (XSs.h
      (xpss_cons
        (xps_for PassesOwn.never rfl (xpi_list (xpe_slRev (yqv 0 vl) (xpe_un yun_neg xpe_int))) (xpg_name (i := 3) sc__law_nodes.nd rfl ll)
          (xpss_one
            (xps_if (xpt_cmpR op_eq (xpe_ix ix_tup (yqv 3 vl) xpe_int (fun _ _ => rfl)) xpe_str (nomark _))
              (xpss_cons
                (xps_set (i := 4) sc__law_nodes.nd rfl ll (xqe_callB call_len_seq gl T.z_len PySem.boot_len (xpa_cons (yqv 1 vl) xpa_nil)))
              (xpss_cons
                (xps_expr (xpe_bm PySem.F.plainAttrs_list PySem.F.slot_list_append PySem.F.type_list_append mt_append (yqv 1 vl) (xpa_cons xpe_non xpa_nil)))
              (xpss_cons
                (xps_set (i := 5) sc__law_nodes.nd rfl ll (xqe_callD T.d__law_nodes G__law_nodes (hr.mono (by first | decide | omega)) (xpa_cons (xpe_ix ix_tup (yqv 3 vl) xpe_int (fun _ _ => rfl)) (xpa_cons (yqv 1 vl) (xpa_cons (yqv 4 vl) xpa_nil))) gl))
              (xpss_cons
                (xps_asg (xpe_tup (xpa_cons (xpe_lst (xpa_cons (xpe_ix ix_tup (yqv 3 vl) xpe_int (fun _ _ => rfl)) xpa_nil)) (xpa_cons xpe_non (xpa_cons (xpe_lst (xpa_cons (yqv 5 vl) (xpa_cons (yqv 2 vl) xpa_nil))) xpa_nil)))) (xpg_sub (yqv 1 vl) (yqv 4 vl) set_list))
              (xpss_one
                (xps_set (i := 2) sc__law_nodes.nd rfl ll (yqv 4 vl)))))))
              (xpss_one
                (xps_if (xpt_cmpR op_eq (xpe_ix ix_tup (yqv 3 vl) xpe_int (fun _ _ => rfl)) xpe_str (nomark _))
                  (xpss_cons
                    (xps_set (i := 6) sc__law_nodes.nd rfl ll (xqe_callD T.d__law_nodes G__law_nodes (hr.mono (by first | decide | omega)) (xpa_cons (xpe_ix ix_tup (yqv 3 vl) xpe_int (fun _ _ => rfl)) (xpa_cons (yqv 1 vl) (xpa_cons (yqv 2 vl) xpa_nil))) gl))
                  (xpss_cons
                    (xps_set (i := 7) sc__law_nodes.nd rfl ll (xqe_callD T.d__law_nodes G__law_nodes (hr.mono (by first | decide | omega)) (xpa_cons (xpe_ix ix_tup (yqv 3 vl) xpe_int (fun _ _ => rfl)) (xpa_cons (yqv 1 vl) (xpa_cons (yqv 2 vl) xpa_nil))) gl))
                  (xpss_cons
                    (xps_expr (xpe_bm PySem.F.plainAttrs_list PySem.F.slot_list_append PySem.F.type_list_append mt_append (yqv 1 vl) (xpa_cons (xpe_tup (xpa_cons (xpe_lst (xpa_cons (xpe_ix ix_tup (yqv 3 vl) xpe_int (fun _ _ => rfl)) xpa_nil)) (xpa_cons xpe_non (xpa_cons (xpe_lst (xpa_cons (yqv 6 vl) (xpa_cons (yqv 7 vl) xpa_nil))) xpa_nil)))) xpa_nil)))
                  (xpss_one
                    (xps_set (i := 2) sc__law_nodes.nd rfl ll (xpe_op yop_sub (xqe_callB call_len_seq gl T.z_len PySem.boot_len (xpa_cons (yqv 1 vl) xpa_nil)) xpe_int))))))
                  (xpss_cons
                    (xps_set (i := 8) sc__law_nodes.nd rfl ll xpe_non)
                  (xpss_mid
                    (xps_if (xpt_cmpR op_ne (xpe_ix ix_tup (yqv 3 vl) xpe_int (fun _ _ => rfl)) xpe_str (nomark _))
                      (xpss_one
                        (xps_set (i := 8) sc__law_nodes.nd rfl ll (xpe_ix ix_tup (yqv 3 vl) xpe_int (fun _ _ => rfl))))
                      xpss_nil)
                  (xpss_cons
                    (xps_expr (xpe_bm PySem.F.plainAttrs_list PySem.F.slot_list_append PySem.F.type_list_append mt_append (yqv 1 vl) (xpa_cons (xpe_tup (xpa_cons (xqe_callD T.d__law_reads G__law_reads (hr.mono (by first | decide | omega)) (xpa_cons (yqv 3 vl) xpa_nil) gl) (xpa_cons (yqv 8 vl) (xpa_cons (xpe_lst (xpa_cons (yqv 2 vl) xpa_nil)) xpa_nil)))) xpa_nil)))
                  (xpss_one
                    (xps_set (i := 2) sc__law_nodes.nd rfl ll (xpe_op yop_sub (xqe_callB call_len_seq gl T.z_len PySem.boot_len (xpa_cons (yqv 1 vl) xpa_nil)) xpe_int)))))))))))
      (xpss_one
        (xps_ret (yqv 2 vl))))), ?_⟩
  rw [show start _ [V.ref a, V.ref nl, V.int b] = [some (.ref a), some (.ref nl), some (.int b), none, none, none, none, none, none] from rfl]
  simp_arith [r_listRng, r_kget1, r_iEnumT, r_extend, r_sortedS, r_nodes, r_reads]
  refine ⟨a, xs, rfl, SqL.of ha, fun l hl => ?_⟩
  have t0 := Same.upd (o := .lst xs.reverse) hl
  have hln : l ≠ nl := fun z => by rw [z, hnl] at hl; cases hl
  refine ⟨⟨_, SqL.of upd_same⟩, ?_⟩
  refine fw_list (xs := xs.reverse) (fun i σ H' => SameX nl H H' ∧ H' l = some (.lst xs.reverse) ∧ ∃ zs o3 o4 o5 o6 o7 o8, H' nl = some (.lst (ys ++ zs)) ∧ Paired (NdV K H' nl) zs (FX.nodesL (ss.drop (ss.length - i)) ys.length b).1 ∧ σ = [some (.ref a), some (.ref nl), some (.int (FX.nodesL (ss.drop (ss.length - i)) ys.length b).2), o3, o4, o5, o6, o7, o8])
    ⟨SameX.of t0, upd_same, [], none, none, none, none, none, none, ?_, ?_, ?_⟩ (fun i σ H' _ h => SqL.of h.2.1) ?_ ?_
  · rw [List.append_nil]; exact t0 _ _ hnl
  · rw [Nat.sub_zero, List.drop_length, FX.nodesL]; exact .nil
  · rw [Nat.sub_zero, List.drop_length, FX.nodesL]
  · rintro i x σ H1 hxi ⟨s1, hl1, zs, o3, o4, o5, o6, o7, o8, hz, hzp, rfl⟩
    obtain ⟨st, g', hst, hms, hv, hsub⟩ := stms_rev hx hxi
    have hdm := deepL_mem hms
    have hmd : st.many + manyL (ss.drop (ss.length - i)) ≤ manyL ss := by
      have e := congrArg manyL (drop_cons hst)
      rw [manyL] at e
      have e2 : manyL ss = manyL (ss.take (ss.length - (i + 1))) + manyL (ss.drop (ss.length - (i + 1))) := by rw [← manyL_append, List.take_append_drop]
      omega
    have lz : zs.length = manyL (ss.drop (ss.length - i)) := by rw [hzp.length, FX.nodesL_len]
    have hnf : nl ∉ g' := fun z => hfnl (hsub nl z)
    rw [drop_cons hst]
    generalize hr0 : ss.drop (ss.length - i) = r at hmd lz hzp ⊢
    rw [FX.nodesL]
    dsimp only
    generalize he0 : (FX.nodesL r ys.length b).2 = e0
    have fin : ∀ (H'' : Hp) (ws : List V) (o3 o4 o5 o6 o7 o8 : Option V), SameX nl H1 H'' → H'' nl = some (.lst (ys ++ zs ++ ws)) → Paired (NdV K H'' nl) ws (FX.nodeS st (ys.length + manyL r) e0).1 →
        SameX nl H H'' ∧ H'' l = some (.lst xs.reverse) ∧ ∃ zs o3' o4' o5' o6' o7' o8', H'' nl = some (.lst (ys ++ zs)) ∧ Paired (NdV K H'' nl) zs ((FX.nodesL r ys.length b).1 ++ (FX.nodeS st (ys.length + manyL r) e0).1) ∧ [some (V.ref a), some (.ref nl), some (.int (FX.nodeS st (ys.length + manyL r) e0).2), o3, o4, o5, o6, o7, o8] = [some (.ref a), some (.ref nl), some (.int (FX.nodeS st (ys.length + manyL r) e0).2), o3', o4', o5', o6', o7', o8'] :=
      fun H'' ws o3 o4 o5 o6 o7 o8 sx hn hp => ⟨s1.trans sx, sx _ _ hl1 hln, zs ++ ws, _, _, _, _, _, _, by rw [← List.append_assoc]; exact hn, FL.Paired.cat (FL.Paired.imp hzp fun y _ nd _ z => z.sx sx hz) hp, rfl⟩
    have hv1 := StmV.sx hv s1 hnl hnf
    cases hv1 with
    | @deed q0 dd hf hq =>
      simp_arith [r_listRng, r_kget1, r_iEnumT, r_extend, r_sortedS, r_nodes, r_reads]
      refine deed0 hf hq (by decide +kernel) (by decide +kernel) (by decide +kernel) ⟨_, rfl, ?_⟩
      rw [if_neg Bool.false_ne_true]
      refine deed0 hf hq (by decide +kernel) (by decide +kernel) (by decide +kernel) ⟨_, rfl, ?_⟩
      rw [if_neg Bool.false_ne_true]
      refine ⟨fun σ' H' => H' = H1 ∧ ∃ o3, σ' = [some (.ref a), some (.ref nl), some (.int e0), o3, o4, o5, o6, o7, some (nmV (FX.Deed.nm dd))] ∧ o3 = some (.ref q0), ?_, ?_⟩
      · cases dd with
        | tell o =>
          refine ⟨_, _, hq, rfl, rfl, _, rfl, ?_⟩
          rw [decide_eq_true rfl, Bool.not_true, if_neg Bool.false_ne_true]
          exact ⟨rfl, _, rfl, rfl⟩
        | copy c o =>
          refine ⟨_, _, hq, rfl, rfl, _, rfl, ?_⟩
          rw [decide_eq_false (by intro z; exact absurd (V.str.inj z) (by decide +kernel)), Bool.not_false, if_pos rfl]
          exact ⟨_, _, hq, rfl, rfl, _, rfl, rfl⟩
        | op fn c o o2 =>
          refine ⟨_, _, hq, rfl, rfl, _, rfl, ?_⟩
          rw [decide_eq_false (by intro z; exact op_ne_tell hf (V.str.inj z)), Bool.not_false, if_pos rfl]
          exact ⟨_, _, hq, rfl, rfl, _, rfl, rfl⟩
      rintro σ' Hx ⟨rfl, _, rfl, rfl⟩
      simp_arith [r_listRng, r_kget1, r_iEnumT, r_extend, r_sortedS, r_reads]
      refine ⟨.inl ⟨rfl, _, SqL.of hz⟩, _, hq, hf, fun p H2 s2 hp hp2 p1 hp1 p2 hp22 => ?_⟩
      have t1 := Same.upd (o := .lst [V.int e0]) hp1
      have t2 := Same.upd (o := .tup [V.ref p, nmV (FX.Deed.nm dd), V.ref p1]) hp22
      have s14 := (s2.trans t1).trans t2
      refine ⟨_, s14 _ _ hz, by rw [sizeLine_eq, List.length_append]; omega, _, .inl (SqL.of upd_same), ?_⟩
      rw [show (((ys ++ zs ++ [V.ref p2]).length : Nat) : Int) - 1 = (FX.nodeS (.deed dd) (ys.length + manyL r) e0).2 by rw [FX.nodeS, List.length_append, List.length_append, List.length_singleton]; dsimp only; omega]
      refine fin _ [V.ref p2] _ _ _ _ _ _ ((SameX.of s14).trans SameX.upd) upd_same ?_
      rw [FX.nodeS]
      exact .cons (NdV.mk' upd_same (t2 _ _ (t1 _ _ hp2)) (t2 _ _ upd_same) (ne_of_none ((s2.trans t1) _ _ hz) hp22).symm (ne_of_none hz hp).symm (ne_of_none (s2 _ _ hz) hp1).symm) .nil
    | @ifs q0 a1 c1 n xs1 ys1 ones others f1 g1 hq ha1 hc1 h1 h2 =>
      simp only [Stm.deep, Stm.many] at hdm hmd
      simp_arith [r_listRng, r_kget1, r_iEnumT, r_extend, r_sortedS, r_nodes, r_reads]
      refine ⟨_, _, hq, rfl, ?_⟩
      simp_arith [r_listRng, r_kget1, r_iEnumT, r_extend, r_sortedS, r_nodes, r_reads]
      refine ite_dec (fun z => absurd z (by decide +kernel)) (fun _ => ⟨_, _, hq, rfl, ?_⟩)
      simp_arith [r_listRng, r_kget1, r_iEnumT, r_extend, r_sortedS, r_nodes, r_reads]
      refine ite_dec (fun _ => ⟨_, _, hq, rfl, ?_⟩) (fun z => absurd trivial z)
      simp_arith [r_listRng, r_kget1, r_iEnumT, r_extend, r_sortedS, r_nodes, r_reads]
      have na1 : a1 ≠ nl := fun z => hnf (by rw [← z]; simp)
      have nc1 : c1 ≠ nl := fun z => hnf (by rw [← z]; simp)
      have nf1 : nl ∉ f1 := fun z => hnf (by simp [z])
      have ng1 : nl ∉ g1 := fun z => hnf (by simp [z])
      refine (mk_nodes (xs1) (ys ++ zs) (ones) (f1) (ha1) (h1) (by omega) (by omega) (na1) (nf1) (hz) (by rw [List.length_append]; omega) (fun zs1 H2 sx2 hn2 hp2 => ⟨_, _, (SameX.tsL sx2 hz).seqT hq, rfl, ?_⟩))
      simp_arith [r_listRng, r_kget1, r_iEnumT, r_extend, r_sortedS, r_nodes, r_reads]
      have lz1 : zs1.length = manyL ones := by rw [hp2.length, FX.nodesL_len]
      refine (mk_nodes (ys1) (ys ++ zs ++ zs1) (others) (g1) (sx2 _ _ hc1 nc1) (StmsV.sx h2 sx2 hz ng1) (by omega) (by omega) (nc1) (ng1) (hn2) (by rw [List.length_append, List.length_append]; omega) (fun zs2 H3 sx3 hn3 hp3 => ?_))
      have lz2 : zs2.length = manyL others := by rw [hp3.length, FX.nodesL_len]
      refine ⟨.inl ⟨rfl, _, SqL.of hn3⟩, _, _, (SameX.tsL sx3 hn2).seqT ((SameX.tsL sx2 hz).seqT hq), rfl, fun p hp p1 hp1 p2 hp22 => ?_⟩
      have lk : (ys ++ zs).length = ys.length + manyL r := by rw [List.length_append, lz]
      have lk2 : (ys ++ zs ++ zs1).length = ys.length + manyL r + manyL ones := by rw [List.length_append, lk, lz1]
      rw [lk] at hp2
      rw [lk2] at hp3
      rw [lk, lk2] at hp22 ⊢
      have t1 := Same.upd (o := .lst [V.str n]) hp
      have t2 := Same.upd (o := .lst [V.int (FX.nodesL ones (ys.length + manyL r) e0).2, V.int (FX.nodesL others (ys.length + manyL r + manyL ones) e0).2]) hp1
      have t3 := Same.upd (o := .tup [V.ref p, V.non, V.ref p1]) hp22
      have s34 := (t1.trans t2).trans t3
      have sx4 : SameX nl H3 _ := (SameX.of s34).trans (SameX.upd (o := .lst (ys ++ zs ++ zs1 ++ zs2 ++ [V.ref p2])))
      refine ⟨_, s34 _ _ hn3, by rw [sizeLine_eq, List.length_append, lk2]; omega, _, .inl (SqL.of upd_same), ?_⟩
      rw [show (((ys ++ zs ++ zs1 ++ zs2 ++ [V.ref p2]).length : Nat) : Int) - 1 = (FX.nodeS (.ifs n ones others) (ys.length + manyL r) e0).2 by rw [FX.nodeS, List.length_append, List.length_append, lk2, List.length_singleton, lz2]; dsimp only; omega]
      refine fin _ (zs1 ++ zs2 ++ [V.ref p2]) _ _ _ _ _ _ ((sx2.trans sx3).trans sx4) (by rw [upd_same]; simp [List.append_assoc]) ?_
      rw [FX.nodeS]
      exact FL.Paired.cat (FL.Paired.cat (FL.Paired.imp hp2 fun y _ nd _ z => z.sx (sx3.trans sx4) hn2) (FL.Paired.imp hp3 fun y _ nd _ z => z.sx sx4 hn3))
        (.cons (NdV.mk' upd_same (t3 _ _ (t2 _ _ upd_same)) (t3 _ _ upd_same) (ne_of_none ((t1.trans t2) _ _ hn3) hp22).symm (ne_of_none hn3 hp).symm (ne_of_none (t1 _ _ hn3) hp1).symm) .nil)
    | @whl q0 a1 n xs1 rows f1 hq ha1 h1 =>
      simp only [Stm.deep, Stm.many] at hdm hmd
      simp_arith [r_listRng, r_kget1, r_iEnumT, r_extend, r_sortedS, r_nodes, r_reads]
      refine ⟨_, _, hq, rfl, ?_⟩
      simp_arith [r_listRng, r_kget1, r_iEnumT, r_extend, r_sortedS, r_nodes, r_reads]
      have na1 : a1 ≠ nl := fun z => hnf (by rw [← z]; simp)
      have nf1 : nl ∉ f1 := fun z => hnf (by simp [z])
      refine ite_dec (fun _ => ⟨_, .inl (SqL.of hz), .inl ⟨rfl, _, SqL.of hz⟩, _, hz, by rw [sizeLine_eq, List.length_append]; omega, ?_⟩) (fun z => absurd trivial z)
      have sx2 : SameX nl H1 (upd H1 nl (.lst (ys ++ zs ++ [V.non]))) := SameX.upd
      refine ⟨_, _, (SameX.tsL sx2 hz).seqT hq, rfl, ?_⟩
      simp_arith [r_listRng, r_kget1, r_iEnumT, r_extend, r_sortedS, r_nodes, r_reads]
      refine (mk_nodes (xs1) (ys ++ zs ++ [V.non]) (rows) (f1) (sx2 _ _ ha1 na1) (StmsV.sx h1 sx2 hz nf1) (by omega) (by omega) (na1) (nf1) (upd_same) (by rw [List.length_append, List.length_append, List.length_singleton]; omega) (fun zs1 H2 sx3 hn2 hp2 => ?_))
      have lz1 : zs1.length = manyL rows := by rw [hp2.length, FX.nodesL_len]
      have lk : (ys ++ zs).length = ys.length + manyL r := by rw [List.length_append, lz]
      have lk2 : (ys ++ zs ++ [V.non]).length = ys.length + manyL r + 1 := by rw [List.length_append, lk, List.length_singleton]
      rw [lk2, lk] at hp2
      have sx23 := sx2.trans sx3
      refine ⟨_, _, (SameX.tsL sx23 hz).seqT hq, rfl, fun p hp p1 hp1 p2 hp22 => ?_⟩
      rw [lk2, lk] at hp22 ⊢
      have t1 := Same.upd (o := .lst [V.str n]) hp
      have t2 := Same.upd (o := .lst [V.int (FX.nodesL rows (ys.length + manyL r + 1) ((ys.length + manyL r : Nat) : Int)).2, V.int e0]) hp1
      have t3 := Same.upd (o := .tup [V.ref p, V.non, V.ref p1]) hp22
      have s34 := (t1.trans t2).trans t3
      have eset : (ys ++ zs ++ [V.non] ++ zs1).set (ys.length + manyL r) (V.ref p2) = ys ++ zs ++ (V.ref p2 :: zs1) := by
        rw [← lk, List.append_assoc, List.set_append_right _ _ (Nat.le_refl _), Nat.sub_self]
        rfl
      have sx4 : SameX nl H2 _ := (SameX.of s34).trans (SameX.upd (o := .lst (ys ++ zs ++ (V.ref p2 :: zs1))))
      refine ⟨nl, _, _, ys.length + manyL r, rfl, rfl, s34 _ _ hn2, FL.ixN_nat (by rw [List.length_append, lk2]; omega), ?_⟩
      rw [eset]
      rw [show some (V.int ((ys.length + manyL r : Nat) : Int)) = some (V.int (FX.nodeS (.whl n rows) (ys.length + manyL r) e0).2) by rw [FX.nodeS]]
      refine fin _ (V.ref p2 :: zs1) _ _ _ _ _ _ (sx23.trans sx4) upd_same ?_
      rw [FX.nodeS]
      exact .cons (NdV.mk' upd_same (t3 _ _ (t2 _ _ upd_same)) (t3 _ _ upd_same) (ne_of_none ((t1.trans t2) _ _ hn2) hp22).symm (ne_of_none hn2 hp).symm (ne_of_none (t1 _ _ hn2) hp1).symm) (FL.Paired.imp hp2 fun y _ nd _ z => z.sx sx4 hn2)
  · rintro σ H1 ⟨s1, hl1, zs, o3, o4, o5, o6, o7, o8, hz, hzp, rfl⟩
    rw [List.length_reverse, lx, Nat.sub_self, List.drop_zero] at hzp ⊢
    simp_arith [r_listRng, r_kget1, r_iEnumT, r_extend, r_sortedS]
    exact q zs H1 s1 hz hzp
theorem ok_nodes (T : Txt K mg t) : ∀ d, FnOk P w K mg base CX0 (d + 2) t.f__law_nodes t.e__law_nodes ["_law_rows", "_law_nodes_here", "_law_behind"] (sp_nodes K d)
  | 0 => ⟨fun vs H Q E h => by obtain ⟨_, _, _, _, _, _, _, _, _, _, h, _⟩ := h; omega, fun _ _ _ _ _ _ _ _ _ _ _ _ _ h => by obtain ⟨_, _, _, _, _, _, _, _, _, _, h, _⟩ := h; omega⟩
  | d + 1 => nodes_step T d (ok_nodes T d)
end
end K78
set_option maxHeartbeats 4000000
namespace K78
open PySem L2 PyProof.Rows FA FB FS FP FG FO FR
noncomputable def LiveV (H : Hp) (lv : Addr) (L : List (List Str)) : Prop := ∃ ps : List Addr, H lv = some (.lst (ps.map V.ref)) ∧ Paired (fun p (l : List Str) => H p = some (.lst (l.map V.str))) ps L
theorem NdV.same {K : PySem.W.Frag} {H H' : Hp} {nl : Addr} {x : V} {nd : FX.Nd} (h : NdV K H nl x nd) (s : Same H H') : NdV K H' nl x nd := by
  obtain ⟨q, a, b, e, h1, h2, h3, h4, h5⟩ := h
  exact ⟨q, a, b, e, s.seqT h1, s _ _ h2, s _ _ h3, h4, h5⟩
noncomputable def bd_lout (K : PySem.W.Frag) (x : V) (lv : Addr) (H : Hp) (Q : VK) : Prop := ∃ (nl : Addr) (nd : FX.Nd) (L : List (List Str)), NdV K H nl x nd ∧ LiveV H lv L ∧ (∀ j ∈ nd.ah, j < (L.length : Int)) ∧ (∀ l ∈ L, l.length ≤ 200) ∧ nd.ah.length ≤ 2 ∧
  ∀ p H', Same H H' → H' p = some (.lst ((FX.outF nd L).map V.str)) → Q (.ref p) H'
noncomputable def sp_lout (K : PySem.W.Frag) : Sp := fun vs H Q _ => ∃ (x : V) (lv : Addr), vs = [x, .ref lv] ∧ bd_lout K x lv H Q
section
variable {P : Program} {w : World} {K : PySem.W.Frag} {mg : Str → Option Value} {base : Heap} {t : Ad}
theorem r_lout {x : V} {lv : Addr} {H : Hp} {Q : VK} {E : XK} : sp_lout K [x, .ref lv] H Q E = bd_lout K x lv H Q := propext ⟨by rintro ⟨_, _, e, q⟩; cases e; exact q, fun q => ⟨x, lv, rfl, q⟩⟩
noncomputable def outT (nd : FX.Nd) (L : List (List Str)) (i : Nat) : List Str := (nd.ah.take i).foldl (fun f j => if 0 ≤ j then FW.joinN f (L.getD j.toNat []) else f) []
theorem outT_succ {nd : FX.Nd} {L : List (List Str)} {i : Nat} {j : Int} (h : nd.ah[i]? = some j) : outT nd L (i + 1) = if 0 ≤ j then FW.joinN (outT nd L i) (L.getD j.toNat []) else outT nd L i := by
  obtain ⟨hi, e⟩ := List.getElem?_eq_some_iff.mp h
  unfold outT
  rw [List.take_succ_eq_append_getElem hi, e, List.foldl_append]
  rfl
theorem join_filt {x y : List Str} : ((y.map V.str).filter fun v => !inV v (x.map V.str)).map id = (y.filter fun n => decide (n ∉ x)).map V.str := by
  rw [List.map_id, List.filter_map]
  congr 1
  refine List.filter_congr fun n _ => ?_
  show (!inV (V.str n) (x.map V.str)) = _
  rw [inV_str]
  simp
theorem ok_lout (T : Txt K mg t) : FnOk P w K mg base CX0 1 t.f__law_out t.e__law_out ["_law_node", "_law_live"] (sp_lout K) := by
  refine T.d__law_out.F.ok sc__law_out (fun vs H Q E h => by obtain ⟨_, _, rfl, _⟩ := h; rfl) (fun cdv A outer s H vs Q E hr h => ?_)
  obtain ⟨x, lv, rfl, nl, nd, L, hN, hL, hj, hl, h2, q⟩ := h
  obtain ⟨qn, an, bn, rfl, hq, ha, hb, _, _⟩ := hN
  obtain ⟨ps, hlv, hps⟩ := hL
  have lp := hps.length
  refine ⟨_,
      (XSs.h
      (xpss_cons
        (xps_set (i := 2) sc__law_out.nd rfl lc (xpe_lst xpa_nil))
      (xpss_cons
        (xps_for PassesOwn.never rfl (xpi_list (xpe_ix ix_tup (yqv 0 vl) xpe_int (fun _ _ => rfl))) (xpg_name (i := 3) sc__law_out.nd rfl ll)
          (xpss_one
            (xps_if (xpt_cmpR yop_ge (yqv 3 vl) xpe_int (nomark _))
              (xpss_one
                (xps_set (i := 2) sc__law_out.nd rfl lc (xpe_op op_cat (yqv 2 vc) (xpe_compG (tns := ["_law_name"]) (cns := ["_law_found"]) (ci := [2]) rfl (CompSc.of (by kernel_rfl)) (xpi_list (xpe_ix ix_list (yqv 1 vl) (yqv 3 vl) (fun _ _ => rfl))) (fun _ => (xpg_name (i := 1) (show List.Nodup [(".0" : Str), ("_law_name" : Str), ("_law_found" : Str)] by decide +kernel) rfl ll (Or.inr (by kernel_rfl)))) (fun _ => (xpf_one (xpt_cmpR op_notIn_seq (yqv 1 vl) (yqv 2 vc) rfl))) (fun _ => (yqv 1 vl))))))
              xpss_nil)))
      (xpss_one
        (xps_ret (yqv 2 vc)))))), ?_⟩
  rw [show start _ [V.ref qn, V.ref lv] = [some (.ref qn), some (.ref lv), none, none] from rfl]
  simp_arith [r_listRng, r_kget1, r_iEnumT, r_extend, r_sortedS]
  intro p0 hp0
  have s0 := Same.upd (o := .lst []) hp0
  refine ⟨_, _, s0.seqT hq, rfl, bn, rfl, ⟨_, SqL.of (s0 _ _ hb)⟩, ?_⟩
  refine fw_list (xs := nd.ah.map V.int) (fun i σ H' => Same H H' ∧ ∃ f o3, H' f = some (.lst ((outT nd L i).map V.str)) ∧ (outT nd L i).length ≤ 200 * i ∧ σ = [some (.ref qn), some (.ref lv), some (.ref f), o3]) ⟨s0, p0, _, upd_same, Nat.le_refl _, rfl⟩ (fun i σ H' _ h => SqL.of (h.1 _ _ hb)) ?_ ?_
  · rintro i x σ H1 hxi ⟨s1, f, o3, hf, lf, rfl⟩
    rw [List.getElem?_map] at hxi
    obtain ⟨j, hji, rfl⟩ := Option.map_eq_some_iff.mp hxi
    have hi2 : i < 2 := by have := (List.getElem?_eq_some_iff.mp hji).1; omega
    have hjl := hj j (List.mem_of_getElem? hji)
    simp_arith [r_listRng, r_kget1, r_iEnumT, r_extend, r_sortedS]
    rw [outT_succ hji]
    refine ite_dec (fun h0 => ?_) (fun h0 => ?_)
    · rw [if_pos h0]
      obtain ⟨m, rfl⟩ : ∃ m : Nat, j = (m : Int) := ⟨j.toNat, by omega⟩
      obtain ⟨p, hp⟩ : ∃ p, ps[m]? = some p := ⟨_, List.getElem?_eq_getElem (by omega)⟩
      obtain ⟨l, hlm, hpl⟩ := Paired.get hps hp
      have ll := hl l (List.mem_of_getElem? hlm)
      rw [Int.toNat_natCast, List.getD_eq_getElem?_getD, hlm, Option.getD_some]
      refine ⟨_, _, SqL.of (s1 _ _ hlv), atI_nat (by rw [List.getElem?_map, hp]; rfl), p, rfl, ⟨_, SqL.of (s1 _ _ hpl)⟩, fun acc hacc bk => ?_⟩
      refine cg_sameL (fun v => !inV v ((outT nd L i).map V.str)) id (by rw [sizeLine_eq, List.length_map]; omega) (SqL.of (s1 _ _ hpl)) hacc (fun v hv H2 Q' s2 h => ?_) (fun v hv H2 Q' s2 _ h => ?_) (fun H2 s2 h1 => ?_)
      · obtain ⟨n, _, rfl⟩ := List.mem_map.mp hv
        simp_arith [r_listRng, r_kget1, r_iEnumT, r_extend, r_sortedS]
        exact ⟨_, .inl (SqL.of (s2 _ _ hf)), rfl, flat_strs2, h H2 (Same.refl _)⟩
      · simp_arith [r_listRng, r_kget1, r_iEnumT, r_extend, r_sortedS]
        exact h H2 (Same.refl _)
      · rw [join_filt] at h1
        have l2 : (l.filter fun n => decide (n ∉ outT nd L i)).length ≤ l.length := List.length_filter_le _ _
        refine ⟨_, _, s2 _ _ hf, h1, by rw [sizeLine_eq, List.length_map, List.length_map]; omega, fun p2 hp2 => ⟨(s1.trans s2).updN hp2, p2, _, ?_, ?_, rfl⟩⟩
        · rw [upd_same]
          unfold FW.joinN
          rw [List.map_append]
        · unfold FW.joinN
          rw [List.length_append]; omega
    · rw [if_neg h0]
      exact ⟨s1, f, _, hf, by omega, rfl⟩
  · rintro σ H1 ⟨s1, f, o3, hf, lf, rfl⟩
    simp_arith [r_listRng, r_kget1, r_iEnumT, r_extend, r_sortedS]
    refine q f H1 s1 ?_
    rw [List.length_map] at hf
    unfold outT at hf
    rw [List.take_length] at hf
    exact hf
end
end K78
set_option maxHeartbeats 4000000
namespace K78
open PySem L2 PyProof.Rows FA FB FS FP FG FO FR
noncomputable def LiveW (H : Hp) (lv : Addr) (L : List (List Str)) : Prop := ∃ ps : List Addr, H lv = some (.lst (ps.map V.ref)) ∧ Paired (fun p (l : List Str) => H p = some (.lst (l.map V.str))) ps L ∧ lv ∉ ps
theorem LiveW.v {H : Hp} {lv : Addr} {L : List (List Str)} (h : LiveW H lv L) : LiveV H lv L := let ⟨ps, e, q, _⟩ := h; ⟨ps, e, q⟩
theorem LiveW.same {H H' : Hp} {lv : Addr} {L : List (List Str)} (h : LiveW H lv L) (s : Same H H') : LiveW H' lv L := by
  obtain ⟨ps, e, q, n⟩ := h
  exact ⟨ps, s _ _ e, FL.Paired.imp q fun p _ l _ z => s _ _ z, n⟩
theorem LiveW.put {H : Hp} {lv r : Addr} {L : List (List Str)} {l : List Str} (i : Nat) (h : LiveW H lv L) (hr : H r = some (.lst (l.map V.str))) (hn : r ≠ lv) : ∃ xs, H lv = some (.lst xs) ∧ xs.length = L.length ∧ LiveW (upd H lv (.lst (xs.set i (.ref r)))) lv (L.set i l) := by
  obtain ⟨ps, e, q, n⟩ := h
  refine ⟨_, e, by rw [List.length_map]; exact q.length, ps.set i r, by rw [upd_same, List.map_set], FL.Paired.put (by rw [upd_ne hn]; exact hr) i (FL.Paired.imp q fun p hp l _ z => ?_), fun z => ?_⟩
  · rw [upd_ne (show p ≠ lv from fun y => n (y ▸ hp))]; exact z
  · rcases List.mem_or_eq_of_mem_set z with y | y
    · exact n y
    · exact hn y.symm
theorem rq_strs {K : PySem.W.Frag} {H : Hp} {n : Nat} {a b : Addr} {xs ys : List Str} (ha : SqL K H a (xs.map V.str)) (hb : SqL K H b (ys.map V.str)) : Rq K H n (.ref a) (.ref b) (decide (xs = ys)) := by
  by_cases hl : xs.length = ys.length
  · have z := Rq.lists (n := n) (fun j => decide (xs[j]? = ys[j]?)) ha hb (by rw [List.length_map, List.length_map]; exact hl) fun j x y hx hy => by
      rw [List.getElem?_map] at hx hy
      obtain ⟨i, hi, rfl⟩ := Option.map_eq_some_iff.mp hx
      obtain ⟨k, hk, rfl⟩ := Option.map_eq_some_iff.mp hy
      have e : decide (xs[j]? = ys[j]?) = eqV (.str i) (.str k) := by
        rw [hi, hk]
        show decide (some i = some k) = (i == k)
        rw [Bool.eq_iff_iff, decide_eq_true_iff]
        simp
      rw [e]
      exact .flat rfl rfl
    have ez : ((List.range xs.length).all fun j => decide (xs[j]? = ys[j]?)) = decide (xs = ys) := by
      rw [Bool.eq_iff_iff, List.all_eq_true, decide_eq_true_iff]
      constructor
      · intro h
        apply List.ext_getElem?
        intro j
        by_cases hj : j < xs.length
        · exact of_decide_eq_true (h j (List.mem_range.mpr hj))
        · rw [List.getElem?_eq_none (by omega), List.getElem?_eq_none (by omega)]
      · rintro rfl j _
        exact decide_eq_true rfl
    rw [List.length_map, ez] at z
    exact z
  · rw [decide_eq_false (fun e => hl (congrArg List.length e))]
    exact .lens ha hb (by rw [List.length_map, List.length_map]; exact hl)
theorem scal_nm {n : Str} {o : Option Str} : scal (V.str n) (nmV o) = true := by cases o <;> rfl
theorem ne_nm {n : Str} {o : Option Str} : (!decide (V.str n = nmV o)) = !decide (o = some n) := by
  cases o with
  | none => rw [decide_eq_false (by intro z; cases z), decide_eq_false (by intro z; cases z)]
  | some m =>
    by_cases e : m = n
    · subst e
      rw [decide_eq_true rfl, decide_eq_true (show V.str m = nmV (some m) from rfl)]
    · rw [decide_eq_false (fun z => e (Option.some.inj z)), decide_eq_false (show ¬ V.str n = nmV (some m) from fun z => e (V.str.inj z).symm)]
noncomputable def bd_lidle (K : PySem.W.Frag) (d : Nat) (a : Addr) (H : Hp) (Q : VK) : Prop := ∃ (ns : List Str) (wd : Int) (xs : List V) (ss : List Stm) (f : List Addr), H a = some (.lst xs) ∧ StmsV K H xs ss f ∧ deepL ss < d ∧ manyL ss ≤ 500 ∧ goodL ns wd ss ∧ ns.length ≤ 25 ∧
  ∀ p H', Same H H' → H p = none → H' p = some (.lst ((GB.flagsOf ss).map V.bl)) → Q (.ref p) H'
theorem mk_lidle {K : PySem.W.Frag} {d : Nat} {a : Addr} {H : Hp} {Q : VK}  (ns : List Str) (wd : Int) (xs : List V) (ss : List Stm) (f : List Addr) (h_0 : H a = some (.lst xs)) (h_1 : StmsV K H xs ss f) (h_2 : deepL ss < d) (h_3 : manyL ss ≤ 500) (h_4 : goodL ns wd ss) (h_5 : ns.length ≤ 25) (h_6 : ∀ p H', Same H H' → H p = none → H' p = some (.lst ((GB.flagsOf ss).map V.bl)) → Q (.ref p) H') : bd_lidle K d a H Q := ⟨ns, wd, xs, ss, f, h_0, h_1, h_2, h_3, h_4, h_5, h_6⟩
noncomputable def sp_lidle (K : PySem.W.Frag) (d : Nat) : Sp := fun vs H Q _ => ∃ a : Addr, vs = [.ref a] ∧ bd_lidle K d a H Q
section
variable {P : Program} {w : World} {K : PySem.W.Frag} {mg : Str → Option Value} {base : Heap} {t : Ad}
theorem r_lidle {d : Nat} {a : Addr} {H : Hp} {Q : VK} {E : XK} : sp_lidle K d [.ref a] H Q E = bd_lidle K d a H Q := propext ⟨by rintro ⟨_, e, q⟩; cases e; exact q, fun q => ⟨a, rfl, q⟩⟩
theorem ok_lidle (T : Txt K mg t) (d : Nat) : FnOk P w K mg base CX0 (d + 3) t.f__law_idle t.e__law_idle ["_law_rows"] (sp_lidle K d) := by
  have G__law_nodes := ok_nodes (P := P) (w := w) (base := base) T d
  have G__law_out := ok_lout (P := P) (w := w) (base := base) T
  refine T.d__law_idle.F.ok sc__law_idle (fun vs H Q E h => by obtain ⟨_, rfl, _⟩ := h; rfl) (fun cdv A outer s H vs Q E hr h => ?_)
  obtain ⟨a, rfl, ns, wd, xs, ss, f, ha, hx, hd, hm, hg, hns, q⟩ := h
  refine ⟨_,
      (XSs.h
      (xpss_cons
        (xps_set (i := 1) sc__law_idle.nd rfl ll (xpe_lst xpa_nil))
      (xpss_cons
        (xps_expr (xqe_callD T.d__law_nodes G__law_nodes (hr.mono (by first | decide | omega)) (xpa_cons (yqv 0 vl) (xpa_cons (yqv 1 vl) (xpa_cons (xpe_un yun_neg xpe_int) xpa_nil))) gl))
      (xpss_cons
        (xps_set (i := 3) sc__law_idle.nd rfl lc (xpe_compG (tns := ["_law_node"]) (cns := []) (ci := []) rfl (CompSc.of (by kernel_rfl)) (xpi_list (yqv 1 vl)) (fun _ => (xpg_name (i := 1) (show List.Nodup [(".0" : Str), ("_law_node" : Str)] by decide +kernel) rfl ll (Or.inr (by kernel_rfl)))) (fun _ => xpf_nil) (fun _ => (xpe_lst xpa_nil))))
      (xpss_cons
        (xps_set (i := 4) sc__law_idle.nd rfl ll xpe_bl)
      (xpss_cons
        (xps_while PassesOwn.never (xpt_val (yqv 4 vl))
          (xpss_cons
            (xps_set (i := 4) sc__law_idle.nd rfl ll xpe_bl)
          (xpss_one
            (xps_for PassesOwn.never rfl (xpi_enum T.z_enumerate (xpa_cons (yqv 1 vl) xpa_nil) gl) (xpg_tup rfl (xpgs_cons (xpg_name (i := 5) sc__law_idle.nd rfl ll) (xpgs_cons (xpg_name (i := 2) sc__law_idle.nd rfl lc) xpgs_nil)))
              (xpss_cons
                (xps_set (i := 6) sc__law_idle.nd rfl lc (xpe_compG (tns := ["_law_name"]) (cns := ["_law_node"]) (ci := [2]) rfl (CompSc.of (by kernel_rfl)) (xpi_list (xqe_callD T.d__law_out G__law_out (hr.mono (by first | decide | omega)) (xpa_cons (yqv 2 vc) (xpa_cons (yqv 3 vc) xpa_nil)) gl)) (fun _ => (xpg_name (i := 1) (show List.Nodup [(".0" : Str), ("_law_name" : Str), ("_law_node" : Str)] by decide +kernel) rfl ll (Or.inr (by kernel_rfl)))) (fun _ => (xpf_one (xpt_cmpR op_ne (yqv 1 vl) (xpe_ix ix_tup (yqv 2 vc) xpe_int (fun _ _ => rfl)) (nomark _)))) (fun _ => (yqv 1 vl))))
              (xpss_cons
                (xps_set (i := 6) sc__law_idle.nd rfl lc (xqe_callB call_sortedS gl T.z_sorted boot_sorted (xpa_cons (xpe_op op_cat (yqv 6 vc) (xpe_compG (tns := ["_law_name"]) (cns := ["_law_found"]) (ci := [6]) rfl (CompSc.of (by kernel_rfl)) (xpi_list (xpe_ix ix_tup (yqv 2 vc) xpe_int (fun _ _ => rfl))) (fun _ => (xpg_name (i := 1) (show List.Nodup [(".0" : Str), ("_law_name" : Str), ("_law_found" : Str)] by decide +kernel) rfl ll (Or.inr (by kernel_rfl)))) (fun _ => (xpf_one (xpt_cmpR op_notIn_seq (yqv 1 vl) (yqv 2 vc) rfl))) (fun _ => (yqv 1 vl)))) xpa_nil)))
              (xpss_one
                (xps_if (xpt_cmpR (op_neD (n := 0) (hu_n (by decide) hr)) (yqv 6 vc) (xpe_ix ix_list (yqv 3 vc) (yqv 5 vl) (fun _ _ => rfl)) (nomark _))
                  (xpss_cons
                    (xps_asg (yqv 6 vc) (xpg_sub (yqv 3 vc) (yqv 5 vl) set_list))
                  (xpss_one
                    (xps_set (i := 4) sc__law_idle.nd rfl ll xpe_bl)))
                  xpss_nil))))))))
      (xpss_one
        (xps_ret (xpe_compG (tns := ["_law_node"]) (cns := ["_law_live"]) (ci := [3]) rfl (CompSc.of (by kernel_rfl)) (xpi_list (yqv 1 vl)) (fun _ => (xpg_name (i := 1) (show List.Nodup [(".0" : Str), ("_law_node" : Str), ("_law_live" : Str)] by decide +kernel) rfl ll (Or.inr (by kernel_rfl)))) (fun _ => xpf_nil) (fun _ => (xpe_and (xpe_cmpR op_notN (xpe_ix ix_tup (yqv 1 vl) xpe_int (fun _ _ => rfl)) xpe_non (nomark _)) (xpe_one (xpe_cmpR op_notIn_seq (xpe_ix ix_tup (yqv 1 vl) xpe_int (fun _ _ => rfl)) (xqe_callD T.d__law_out G__law_out (hr.mono (by first | decide | omega)) (xpa_cons (yqv 1 vl) (xpa_cons (yqv 2 vc) xpa_nil)) gl) rfl))))))))))))), ?_⟩
  rw [show start _ [V.ref a] = [some (.ref a), none, none, none, none, none, none] from rfl]
  simp_arith [r_listRng, r_kget1, r_iEnumT, r_extend, r_sortedS, r_nodes, r_lout]
  intro nl hnl
  have t1 := Same.upd (o := .lst []) hnl
  have kf : nl ∉ f := fun z => by obtain ⟨zs, hz⟩ := hx.tracked nl z; rw [hnl] at hz; cases hz
  refine ⟨xs, [], ss, f, t1 _ _ ha, hx.same t1, hd, by omega, ne_of_none ha hnl, kf, upd_same, by simp; omega, fun zs H2 sx2 hn2 hp2 => ?_⟩
  rw [List.nil_append] at hn2
  have s2 : Same H H2 := fun c o e => sx2 c o (t1 _ _ e) (ne_of_none e hnl)
  have hp2' : Paired (NdV K H2 nl) zs (FX.nodesOf ss) := hp2
  have lz : zs.length = manyL ss := by rw [hp2'.length, FX.nodesOf_len]
  refine ⟨⟨_, SqL.of hn2⟩, fun lv hlv bk => ?_⟩
  refine cg_list (xs := zs) (fun i ys H' => FL.NewB H2 H' lv ys (List.replicate i [])) (FL.NewB.nil hlv) (fun i ys H' _ h => SqL.of (h.1 _ _ hn2)) ?_ ?_
  · rintro i x ys H' os hxi ho hN
    match os, ho with
    | [o], _ =>
      simp_arith [r_listRng, r_kget1, r_iEnumT, r_extend, r_sortedS]
      refine ⟨⟨[some x], rfl, rfl⟩, ?_⟩
      rw [if_pos trivial]
      intro r hr
      obtain ⟨z1, z2⟩ := hN.snoc (b := []) (Same.upd (o := .lst []) hr) hr upd_same
      have hi := (List.getElem?_eq_some_iff.mp hxi).1
      have hl := hN.len
      rw [List.length_replicate] at hl
      refine ⟨z1, by rw [sizeLine_eq]; omega, ?_⟩
      rw [List.replicate_succ']
      exact z2
  intro ys H3 hN3
  have s3 := s2.trans hN3.1
  have hL0 : LiveW H3 lv (FX.passes (FX.nodesOf ss) 0) := by
    obtain ⟨_, _, e, ps, rfl, pr, nd, _⟩ := hN3
    refine ⟨ps, e, ?_, (List.nodup_cons.mp nd).1⟩
    have er : FX.passes (FX.nodesOf ss) 0 = List.replicate zs.length [] := by
      rw [FX.passes, List.map_const', FX.nodesOf_len, lz]
    rw [er]
    refine FL.Paired.of_get (by rw [pr.length, List.length_replicate, List.length_replicate]) fun i p l h1 h2 => ?_
    obtain ⟨b, hb, hF⟩ := Paired.get pr h1
    have hi : i < zs.length := by
      have h5 := (List.getElem?_eq_some_iff.mp h1).1
      have h6 := pr.length
      rw [List.length_replicate] at h6
      omega
    rw [List.getElem?_replicate, if_pos hi] at hb h2
    cases hb
    cases h2
    exact hF
  obtain ⟨Pm, hPm⟩ := FX.passes_stop ss
  have hrdA : ∀ nd ∈ FX.nodesOf ss, FW.Few ns nd.rd := FX.nodesL_rd ss 0 (-1) hg
  have hfew := FX.few_passes hrdA
  refine ⟨fun m σ H' => Same H2 H' ∧ ∃ (p : Nat) (tb : Bool) (o2 o5 o6 : Option V), LiveW H' lv (FX.passes (FX.nodesOf ss) p) ∧ σ = [some (.ref a), some (.ref nl), o2, some (.ref lv), some (.bl tb), o5, o6] ∧ m = (if tb = true then Pm + 2 - p else 0) ∧ (tb = true → p ≤ Pm) ∧ (tb = false → FX.passes (FX.nodesOf ss) (p + 1) = FX.passes (FX.nodesOf ss) p),
    ⟨_, hN3.1, 0, true, _, _, _, hL0, rfl, rfl, fun _ => Nat.zero_le _, fun z => by cases z⟩, ?_⟩
  rintro m σ H4 ⟨s4, p, tb, o2, o5, o6, hL4, rfl, rfl, htb, hfb⟩
  simp_arith [r_listRng, r_kget1, r_iEnumT, r_extend, r_sortedS, r_lout]
  have hn4 := s4 _ _ hn2
  cases tb with
  | true =>
    rw [if_pos rfl]
    refine ⟨fun σ' H' => Same H2 H' ∧ ∃ o2 o5 o6, LiveW H' lv (FX.passes (FX.nodesOf ss) (p + 1)) ∧ σ' = [some (.ref a), some (.ref nl), o2, some (.ref lv), some (.bl (decide (FX.passes (FX.nodesOf ss) (p + 1) ≠ FX.passes (FX.nodesOf ss) p))), o5, o6], ?_, ⟨_, SqL.of hn4⟩, ?_⟩
    · rintro σ' H' ⟨s5, o2, o5, o6, hL5, rfl⟩
      have hp := htb rfl
      by_cases e : FX.passes (FX.nodesOf ss) (p + 1) = FX.passes (FX.nodesOf ss) p
      · refine ⟨0, by rw [if_pos rfl]; omega, s5, p + 1, false, o2, o5, o6, hL5, ?_, rfl, fun z => (by cases z), fun _ => ?_⟩
        · rw [decide_eq_false (fun z => z e)]
        · show FX.passN _ _ (FX.passes (FX.nodesOf ss) (p + 1)) = _
          rw [e]
          exact e
      · refine ⟨Pm + 2 - (p + 1), by rw [if_pos rfl]; omega, s5, p + 1, true, o2, o5, o6, hL5, ?_, rfl, fun _ => ?_, fun z => (by cases z)⟩
        · rw [decide_eq_true e]
        · rcases Nat.lt_or_ge p Pm with z | z
          · exact z
          · exact absurd (hPm p z) e
    · refine fw_enum (xs := zs) (fun i σ' H' => Same H2 H' ∧ ∃ o2 o5 o6, LiveW H' lv (FX.passN (FX.nodesOf ss) i (FX.passes (FX.nodesOf ss) p)) ∧ σ' = [some (.ref a), some (.ref nl), o2, some (.ref lv), some (.bl (decide (FX.passN (FX.nodesOf ss) i (FX.passes (FX.nodesOf ss) p) ≠ FX.passes (FX.nodesOf ss) p))), o5, o6])
        ⟨s4, o2, o5, o6, hL4, by rw [FX.passN, decide_eq_false (fun z => z rfl)]⟩ (fun i σ' H' _ h => SqL.of (h.1 _ _ hn2)) ?_ ?_
      · rintro i x σ' H5 pq hxi hpq ⟨s5, o2, o5, o6, hL5, rfl⟩
        obtain ⟨nd, hnd, hv0⟩ := Paired.get hp2' hxi
        have hi : i < zs.length := (List.getElem?_eq_some_iff.mp hxi).1
        have t6 := Same.upd (o := .tup [V.int i, x]) hpq
        have s6 := s5.trans t6
        have hv6 := hv0.same s6
        have hL6 := hL5.same t6
        simp_arith [r_listRng, r_kget1, r_iEnumT, r_extend, r_sortedS, r_lout]
        refine ⟨_, SqT.of upd_same, rfl, ?_⟩
        simp_arith [r_listRng, r_kget1, r_iEnumT, r_extend, r_sortedS, r_lout]
        have hmem := List.mem_of_getElem? hnd
        have hah := FX.nodesL_ah ss 0 (-1) (by omega) nd hmem
        have hrd := FX.nodesL_rd ss 0 (-1) hg nd hmem
        have hfw := FX.few_passN hrdA (hfew p) i
        have hLl : (FX.passN (FX.nodesOf ss) i (FX.passes (FX.nodesOf ss) p)).length = manyL ss := by rw [FX.passN_len, FX.passes_len, FX.nodesOf_len]
        obtain ⟨lx, hlx⟩ : ∃ lx, (FX.passes (FX.nodesOf ss) p)[i]? = some lx := ⟨_, List.getElem?_eq_getElem (by rw [FX.passes_len, FX.nodesOf_len]; omega)⟩
        obtain ⟨pt1, pt2, pt3⟩ := FX.pass_turn hnd hlx
        have hfp := FX.few_pre hfw hrd
        generalize hLi : FX.passN (FX.nodesOf ss) i (FX.passes (FX.nodesOf ss) p) = Li at *
        have hfo := (FX.few_pre hfw hrd).1.len
        have hf2 := (FX.few_pre hfw hrd).2.len
        have hr2 := hrd.len
        obtain ⟨qn, an, bn, ex, hq6, ha6, hb6, _, _⟩ := id hv6
        subst ex
        refine ⟨nl, nd, Li, hv6, hL6.v, fun j hj => by have := hah.2 j hj; omega, fun l hl => by have := (hfw l hl).len; omega, hah.1, fun p1 H7 s7 hp1 => ⟨p1, rfl, ⟨_, SqL.of hp1⟩, fun acc hacc bk => ?_⟩⟩
        have hL7 := hL6.same s7
        refine cg_sameL (fun v => !decide (v = nmV nd.nm)) id (by rw [sizeLine_eq, List.length_map]; omega) (SqL.of hp1) hacc (fun v hv H8 Q' s8 h => ?_) (fun v hv H8 Q' s8 _ h => ?_) (fun H8 s8 h1 => ?_)
        · obtain ⟨n, _, rfl⟩ := List.mem_map.mp hv
          simp_arith [r_listRng, r_kget1, r_iEnumT, r_extend, r_sortedS]
          exact ⟨_, _, (s7.trans s8).seqT hq6, rfl, scal_nm, _, rfl, h H8 (Same.refl _)⟩
        · simp_arith [r_listRng, r_kget1, r_iEnumT, r_extend, r_sortedS]
          exact h H8 (Same.refl _)
        have ef : (((FX.outF nd Li).map V.str).filter fun v => !decide (v = nmV nd.nm)).map id = ((FX.outF nd Li).filter fun n => !decide (nd.nm = some n)).map V.str := by
          rw [List.map_id, List.filter_map]
          congr 1
          exact List.filter_congr fun n _ => ne_nm
        rw [ef] at h1
        have lF : ((FX.outF nd Li).filter fun n => !decide (nd.nm = some n)).length ≤ (FX.outF nd Li).length := List.length_filter_le _ _
        generalize hF1 : (FX.outF nd Li).filter (fun n => !decide (nd.nm = some n)) = F1 at *
        have enew : FX.newF nd Li = FX.srt (FW.joinN F1 nd.rd) := by unfold FX.newF; rw [hF1]
        have s78 := s7.trans s8
        have hL8 := hL7.same s8
        simp_arith [r_listRng, r_kget1, r_iEnumT, r_extend, r_sortedS]
        refine ⟨_, _, s78.seqT hq6, rfl, an, rfl, ⟨_, SqL.of (s78 _ _ ha6)⟩, fun acc2 hacc2 bk2 => ?_⟩
        refine cg_sameL (fun v => !inV v (F1.map V.str)) id (by rw [sizeLine_eq, List.length_map]; omega) (SqL.of (s78 _ _ ha6)) hacc2 (fun v hv H9 Q' s9 h => ?_) (fun v hv H9 Q' s9 _ h => ?_) (fun H9 s9 h2 => ?_)
        · obtain ⟨n, _, rfl⟩ := List.mem_map.mp hv
          simp_arith [r_listRng, r_kget1, r_iEnumT, r_extend, r_sortedS]
          exact ⟨_, .inl (SqL.of (s9 _ _ h1)), rfl, flat_strs2, h H9 (Same.refl _)⟩
        · simp_arith [r_listRng, r_kget1, r_iEnumT, r_extend, r_sortedS]
          exact h H9 (Same.refl _)
        rw [join_filt] at h2
        have l2 : (nd.rd.filter fun n => decide (n ∉ F1)).length ≤ nd.rd.length := List.length_filter_le _ _
        refine ⟨_, _, s9 _ _ h1, h2, by rw [sizeLine_eq, List.length_map, List.length_map]; omega, fun pz hpz => ?_⟩
        have ej : F1.map V.str ++ (nd.rd.filter fun n => decide (n ∉ F1)).map V.str = (FW.joinN F1 nd.rd).map V.str := by unfold FW.joinN; rw [List.map_append]
        rw [ej]
        have tz := Same.upd (o := .lst ((FW.joinN F1 nd.rd).map V.str)) hpz
        refine ⟨_, SqL.of upd_same, by omega, fun l hl => ?_⟩
        have tl := Same.upd (o := .lst ((FX.srt (FW.joinN F1 nd.rd)).map V.str)) hl
        have hLz := ((hL8.same s9).same tz).same tl
        have sA : Same H2 _ := ((((s6.trans s78).trans s9).trans tz).trans tl)
        rw [← enew] at tl hLz sA ⊢
        have hl0 : l ≠ lv := fun z => by
          obtain ⟨ps, e, _⟩ := (hL8.same s9).same tz
          rw [z, e] at hl
          cases hl
        obtain ⟨ps, elv, pr, nlv⟩ := id hLz
        have hpi : ∃ pi, ps[i]? = some pi := ⟨_, List.getElem?_eq_getElem (by rw [pr.length, hLl]; omega)⟩
        obtain ⟨pi, hpi⟩ := hpi
        obtain ⟨l0, hl0', hpl⟩ := Paired.get pr hpi
        have el0 : l0 = lx := by
          have := FX.passN_get (N := FX.nodesOf ss) (L := FX.passes (FX.nodesOf ss) p) i i (Nat.le_refl _)
          rw [hLi, hl0', hlx] at this
          exact Option.some.inj this
        subst el0
        refine ⟨_, _, SqL.of elv, atI_nat (by rw [List.getElem?_map, hpi]; rfl), _, rq_strs (SqL.of upd_same) (SqL.of hpl), _, rfl, ?_⟩
        by_cases hnew : FX.newF nd Li = l0
        · rw [decide_eq_true hnew, Bool.not_true, if_neg Bool.false_ne_true]
          refine ⟨sA, some (.ref qn), some (.int i), some (.ref l), ?_, ?_⟩
          · rw [pt2 hnew]; exact hLz
          · rw [pt2 hnew]
        · rw [decide_eq_false hnew, Bool.not_false, if_pos rfl]
          obtain ⟨xs', e', lx', hput⟩ := hLz.put i upd_same hl0
          refine ⟨lv, _, _, i, rfl, rfl, e', FL.ixN_nat (by rw [lx', hLl]; omega), sA.updM hlv, some (.ref qn), some (.int i), some (.ref l), ?_, ?_⟩
          · rw [pt1]; exact hput
          · rw [decide_eq_true (pt3 hnew)]
      · rintro σ' H5 ⟨s5, o2, o5, o6, hL5, rfl⟩
        rw [lz, ← FX.nodesOf_len] at hL5 ⊢
        exact ⟨s5, _, _, _, hL5, rfl⟩
  | false =>
    rw [if_neg Bool.false_ne_true]
    have hstop := hfb rfl
    refine ⟨⟨_, SqL.of hn4⟩, fun acc hacc bk => ?_⟩
    generalize hLp : FX.passes (FX.nodesOf ss) p = Lp at *
    have hLl : Lp.length = manyL ss := by rw [← hLp, FX.passes_len, FX.nodesOf_len]
    refine cg_list (xs := zs) (fun i ys H' => Same H4 H' ∧ H' acc = some (.lst ys) ∧ ys = ((FX.nodesOf ss).take i).map fun nd => V.bl (FX.isIdle Lp nd)) ⟨Same.upd hacc, upd_same, by simp⟩ (fun i ys H' _ h => SqL.of (h.1 _ _ hn4)) ?_ ?_
    · rintro i x ys H5 os hxi ho ⟨s5, e5, rfl⟩
      match os, ho with
      | [o], _ =>
        obtain ⟨nd, hnd, hv0⟩ := Paired.get hp2' hxi
        have hi : i < zs.length := (List.getElem?_eq_some_iff.mp hxi).1
        have hv5 := hv0.same (s4.trans s5)
        have hmem := List.mem_of_getElem? hnd
        have hah := FX.nodesL_ah ss 0 (-1) (by omega) nd hmem
        have hfw : ∀ l ∈ Lp, FW.Few ns l := by rw [← hLp]; exact hfew p
        obtain ⟨qn, an, bn, ex, hq5, ha5, hb5, _, _⟩ := id hv5
        subst ex
        have lt : (((FX.nodesOf ss).take i).map fun nd => V.bl (FX.isIdle Lp nd)).length < sizeLine := by rw [List.length_map, List.length_take, sizeLine_eq]; omega
        have etk : ((FX.nodesOf ss).take (i + 1)).map (fun nd => V.bl (FX.isIdle Lp nd)) = ((FX.nodesOf ss).take i).map (fun nd => V.bl (FX.isIdle Lp nd)) ++ [V.bl (FX.isIdle Lp nd)] := by
          obtain ⟨h1, e⟩ := List.getElem?_eq_some_iff.mp hnd
          rw [List.take_succ_eq_append_getElem h1, e, List.map_append]; rfl
        simp_arith [r_listRng, r_kget1, r_iEnumT, r_extend, r_sortedS, r_lout]
        refine ⟨⟨[some (.ref qn)], rfl, rfl⟩, ?_⟩
        rw [etk, if_pos trivial]
        refine ⟨_, _, hq5, rfl, ?_⟩
        cases hnm : nd.nm with
        | none =>
          rw [show nmV none = V.non from rfl, decide_eq_true rfl, Bool.not_true, if_neg Bool.false_ne_true, FX.isIdle_none hnm]
          exact ⟨e5, lt, s5.updM hacc, upd_same, rfl⟩
        | some n =>
          rw [hnm] at hq5
          rw [decide_eq_false (by intro z; cases z), Bool.not_false, if_pos rfl]
          refine ⟨_, _, hq5, rfl, nl, nd, Lp, hv5, (hL4.same s5).v, fun j hj => by have := hah.2 j hj; omega, fun l hl => by have := (hfw l hl).len; omega, hah.1, fun p1 H6 s6 hp1 => ?_⟩
          simp_arith [r_listRng, r_kget1, r_iEnumT, r_extend, r_sortedS]
          refine ⟨_, .inl (SqL.of hp1), rfl, flat_strs2, ?_⟩
          rw [show inV (nmV (some n)) ((FX.outF nd Lp).map V.str) = decide (n ∈ FX.outF nd Lp) from inV_str, ← FX.isIdle_some hnm]
          exact ⟨s6 _ _ e5, lt, (s5.trans s6).updM hacc, upd_same, rfl⟩
    · rintro ys H5 ⟨s5, e5, rfl⟩
      rw [lz, ← FX.nodesOf_len, List.take_length] at e5
      have ef : (FX.nodesOf ss).map (fun nd => V.bl (FX.isIdle Lp nd)) = (GB.flagsOf ss).map V.bl := by
        rw [← GB.flags_stop (ss := ss) (p := p) (by rw [hLp]; exact hstop), hLp, List.map_map]; rfl
      rw [ef] at e5
      exact q acc H5 ((s2.trans s4).trans s5) ((s2.trans s4).free hacc) e5
end
end K78
set_option maxHeartbeats 4000000
namespace K78
open PySem L2 PyProof.Rows FA FB FS FP FG FO FR
noncomputable def bd_tk (K : PySem.W.Frag) (d : Nat) (a fa at_ : Addr) (H : Hp) (Q : VK) : Prop := ∃ (xs : List V) (ss : List Stm) (f : List Addr) (F : List Bool) (zs : List V), H a = some (.lst xs) ∧ StmsV K H xs ss f ∧ deepL ss < d ∧ H fa = some (.lst (F.map V.bl)) ∧ fa ≠ at_ ∧ a ≠ at_ ∧ at_ ∉ f ∧ H at_ = some (.lst zs) ∧ zs.length + manyL ss ≤ F.length ∧ F.length ≤ 1000 ∧
  ∀ p ys g zs' H', SameX at_ H H' → H p = none → H' p = some (.lst ys) → StmsV K H' ys (GB.tkL F ss zs.length) g → (∀ c ∈ g, H c = none) → H' at_ = some (.lst zs') → zs'.length = zs.length + manyL ss → Q (.ref p) H'
theorem mk_tk {K : PySem.W.Frag} {d : Nat} {a fa at_ : Addr} {H : Hp} {Q : VK}  (xs : List V) (ss : List Stm) (f : List Addr) (F : List Bool) (zs : List V) (h_0 : H a = some (.lst xs)) (h_1 : StmsV K H xs ss f) (h_2 : deepL ss < d) (h_3 : H fa = some (.lst (F.map V.bl))) (h_4 : fa ≠ at_) (h_5 : a ≠ at_) (h_6 : at_ ∉ f) (h_7 : H at_ = some (.lst zs)) (h_8 : zs.length + manyL ss ≤ F.length) (h_9 : F.length ≤ 1000) (h_10 : ∀ p ys g zs' H', SameX at_ H H' → H p = none → H' p = some (.lst ys) → StmsV K H' ys (GB.tkL F ss zs.length) g → (∀ c ∈ g, H c = none) → H' at_ = some (.lst zs') → zs'.length = zs.length + manyL ss → Q (.ref p) H') : bd_tk K d a fa at_ H Q := ⟨xs, ss, f, F, zs, h_0, h_1, h_2, h_3, h_4, h_5, h_6, h_7, h_8, h_9, h_10⟩
noncomputable def sp_tk (K : PySem.W.Frag) (d : Nat) : Sp := fun vs H Q _ => ∃ a fa at_ : Addr, vs = [.ref a, .ref fa, .ref at_] ∧ bd_tk K d a fa at_ H Q
section
variable {P : Program} {w : World} {K : PySem.W.Frag} {mg : Str → Option Value} {base : Heap} {t : Ad}
theorem r_tk {d : Nat} {a fa at_ : Addr} {H : Hp} {Q : VK} {E : XK} : sp_tk K d [.ref a, .ref fa, .ref at_] H Q E = bd_tk K d a fa at_ H Q := propext ⟨by rintro ⟨_, _, _, e, q⟩; cases e; exact q, fun q => ⟨_, _, _, rfl, q⟩⟩
noncomputable def TkI (K : PySem.W.Frag) (H : Hp) (at_ : Addr) (F : List Bool) (r : List Stm) (k0 : Nat) (k : Addr) (i : Nat) (H' : Hp) : Prop := SameX at_ H H' ∧ ∃ ys g zs, H' k = some (.lst ys) ∧ ys.length ≤ i ∧ StmsV K H' ys.reverse (GB.tkL F r k0) g ∧ k ∉ g ∧ (∀ c ∈ g, H c = none) ∧ H' at_ = some (.lst zs) ∧ zs.length = k0 + manyL r
theorem TkI.gone {H H1 H2 : Hp} {at_ k : Addr} {F : List Bool} {r : List Stm} {k0 i : Nat} {s : Stm} {z0 zs : List V} (h : TkI K H at_ F r k0 k i H1) (h0 : H at_ = some (.lst z0)) (hk : k ≠ at_) (he : GB.tkS F s (k0 + manyL r) = []) (sm : SameX at_ H1 H2) (ez : H2 at_ = some (.lst zs)) (lz : zs.length = k0 + manyL r + s.many) : TkI K H at_ F (s :: r) k0 k (i + 1) H2 := by
  obtain ⟨s1, ys, g, z1, e, ly, hy, ng, fg, e1, _⟩ := h
  have na : at_ ∉ g := fun z => by rw [fg _ z] at h0; cases h0
  refine ⟨s1.trans sm, ys, g, zs, sm _ _ e hk, by omega, ?_, ng, fg, ez, by rw [manyL, lz]; omega⟩
  rw [GB.tkL, he, List.nil_append]
  exact StmsV.sx hy sm e1 na
theorem TkI.one {H H1 H2 : Hp} {at_ k : Addr} {F : List Bool} {r : List Stm} {k0 i : Nat} {s s' : Stm} {z0 zs : List V} {x : V} {g2 : List Addr} (h : TkI K H at_ F r k0 k i H1) (h0 : H at_ = some (.lst z0)) (hk0 : H k = none) (hk : k ≠ at_) (he : GB.tkS F s (k0 + manyL r) = [s']) (sm : SameX at_ H1 H2) (ez : H2 at_ = some (.lst zs)) (lz : zs.length = k0 + manyL r + s.many) (hx : StmV K H2 x s' g2) (f2 : ∀ c ∈ g2, H1 c = none) (hi : i < 1000) :
    ∃ ys, H2 k = some (.lst ys) ∧ ys.length < sizeLine ∧ TkI K H at_ F (s :: r) k0 k (i + 1) (upd H2 k (.lst (ys ++ [x]))) := by
  obtain ⟨s1, ys, g, z1, e, ly, hy, ng, fg, e1, _⟩ := h
  have e2 := sm _ _ e hk
  have na : at_ ∉ g := fun z => by rw [fg _ z] at h0; cases h0
  have kg2 : k ∉ g2 := fun z => by rw [f2 k z] at e; cases e
  have tt : TSame H2 (upd H2 k (.lst (ys ++ [x]))) := TSame.updL e2
  have sx : SameX at_ H (upd H2 k (.lst (ys ++ [x]))) := fun c o hc hn => by
    rw [upd_ne (ne_of_none hc hk0)]
    exact sm _ _ (s1 _ _ hc hn) hn
  refine ⟨ys, e2, by rw [sizeLine_eq]; omega, sx, ys ++ [x], g2 ++ g, zs, upd_same, by rw [List.length_append, List.length_singleton]; omega, ?_, ?_, ?_, by rw [upd_ne hk.symm]; exact ez, by rw [manyL, lz]; omega⟩
  · rw [GB.tkL, he, List.reverse_append]
    exact .cons (hx.keep tt (Kept.upd kg2)) ((StmsV.sx hy sm e1 na).keep tt (Kept.upd ng))
  · intro z
    rcases List.mem_append.mp z with z | z
    · exact kg2 z
    · exact ng z
  · intro c hc
    rcases List.mem_append.mp hc with z | z
    · exact s1.free e1 (f2 c z)
    · exact fg c z
theorem tk_step (T : Txt K mg t) (d : Nat) (G__law_taken : FnOk P w K mg base CX0 (d + 1) t.f__law_taken t.e__law_taken ["_law_rows", "_law_idle_here", "_law_at"] (sp_tk K d)) : FnOk P w K mg base CX0 (d + 2) t.f__law_taken t.e__law_taken ["_law_rows", "_law_idle_here", "_law_at"] (sp_tk K (d + 1)) := by
  refine T.d__law_taken.F.ok sc__law_taken (fun vs H Q E h => by obtain ⟨_, _, _, rfl, _⟩ := h; rfl) (fun cdv A outer s H vs Q E hr h => ?_)
  obtain ⟨a, fa, at_, rfl, xs, ss, f, F, z0, ha, hx, hd, hfa, nfa, naa, naf, hat, hlen, hF, q⟩ := h
  have lx := hx.length
  have lm := len_many ss
  refine ⟨_,
      (XSs.h
      (xpss_cons
        (xps_set (i := 3) sc__law_taken.nd rfl ll (xpe_lst xpa_nil))
      (xpss_cons
        (xps_for PassesOwn.never rfl (xpi_list (xpe_slRev (yqv 0 vl) (xpe_un yun_neg xpe_int))) (xpg_name (i := 4) sc__law_taken.nd rfl ll)
          (xpss_one
            (xps_if (xpt_cmpR op_eq (xpe_ix ix_tup (yqv 4 vl) xpe_int (fun _ _ => rfl)) xpe_str (nomark _))
              (xpss_cons
                (xps_expr (xpe_bm PySem.F.plainAttrs_list PySem.F.slot_list_append PySem.F.type_list_append mt_append (yqv 2 vl) (xpa_cons xpe_int xpa_nil)))
              (xpss_one
                (xps_expr (xpe_bm PySem.F.plainAttrs_list PySem.F.slot_list_append PySem.F.type_list_append mt_append (yqv 3 vl) (xpa_cons (xpe_tup (xpa_cons xpe_str (xpa_cons (xpe_ix ix_tup (yqv 4 vl) xpe_int (fun _ _ => rfl)) (xpa_cons (xqe_callD T.d__law_taken G__law_taken (hr.mono (by first | decide | omega)) (xpa_cons (xpe_ix ix_tup (yqv 4 vl) xpe_int (fun _ _ => rfl)) (xpa_cons (yqv 1 vl) (xpa_cons (yqv 2 vl) xpa_nil))) gl) xpa_nil)))) xpa_nil)))))
              (xpss_one
                (xps_if (xpt_cmpR op_eq (xpe_ix ix_tup (yqv 4 vl) xpe_int (fun _ _ => rfl)) xpe_str (nomark _))
                  (xpss_cons
                    (xps_set (i := 5) sc__law_taken.nd rfl ll (xqe_callD T.d__law_taken G__law_taken (hr.mono (by first | decide | omega)) (xpa_cons (xpe_ix ix_tup (yqv 4 vl) xpe_int (fun _ _ => rfl)) (xpa_cons (yqv 1 vl) (xpa_cons (yqv 2 vl) xpa_nil))) gl))
                  (xpss_cons
                    (xps_set (i := 6) sc__law_taken.nd rfl ll (xqe_callD T.d__law_taken G__law_taken (hr.mono (by first | decide | omega)) (xpa_cons (xpe_ix ix_tup (yqv 4 vl) xpe_int (fun _ _ => rfl)) (xpa_cons (yqv 1 vl) (xpa_cons (yqv 2 vl) xpa_nil))) gl))
                  (xpss_cons
                    (xps_expr (xpe_bm PySem.F.plainAttrs_list PySem.F.slot_list_append PySem.F.type_list_append mt_append (yqv 2 vl) (xpa_cons xpe_int xpa_nil)))
                  (xpss_one
                    (xps_if (xpt_cmpR yop_gt (xpe_op yop_add (xqe_callB call_len_seq gl T.z_len PySem.boot_len (xpa_cons (yqv 5 vl) xpa_nil)) (xqe_callB call_len_seq gl T.z_len PySem.boot_len (xpa_cons (yqv 6 vl) xpa_nil))) xpe_int (nomark _))
                      (xpss_one
                        (xps_expr (xpe_bm PySem.F.plainAttrs_list PySem.F.slot_list_append PySem.F.type_list_append mt_append (yqv 3 vl) (xpa_cons (xpe_tup (xpa_cons xpe_str (xpa_cons (xpe_ix ix_tup (yqv 4 vl) xpe_int (fun _ _ => rfl)) (xpa_cons (yqv 5 vl) (xpa_cons (yqv 6 vl) xpa_nil))))) xpa_nil))))
                      xpss_nil)))))
                  (xpss_cons
                    (xps_expr (xpe_bm PySem.F.plainAttrs_list PySem.F.slot_list_append PySem.F.type_list_append mt_append (yqv 2 vl) (xpa_cons xpe_int xpa_nil)))
                  (xpss_one
                    (xps_if (xpt_not (xpt_val (xpe_ix ix_list (yqv 1 vl) (xpe_op yop_sub (xqe_callB call_len_seq gl T.z_len PySem.boot_len (xpa_cons (yqv 2 vl) xpa_nil)) xpe_int) (fun _ _ => rfl))))
                      (xpss_one
                        (xps_expr (xpe_bm PySem.F.plainAttrs_list PySem.F.slot_list_append PySem.F.type_list_append mt_append (yqv 3 vl) (xpa_cons (yqv 4 vl) xpa_nil))))
                      xpss_nil))))))))
      (xpss_one
        (xps_ret (xpe_slRev (yqv 3 vl) (xpe_un yun_neg xpe_int))))))), ?_⟩
  rw [show start _ [V.ref a, V.ref fa, V.ref at_] = [some (.ref a), some (.ref fa), some (.ref at_), none, none, none, none] from rfl]
  simp_arith [r_listRng, r_kget1, r_iEnumT, r_extend, r_sortedS, r_tk]
  intro k hk
  have t1 := Same.upd (o := .lst []) hk
  have nka : k ≠ at_ := (ne_of_none hat hk).symm
  refine ⟨a, xs, rfl, SqL.of (t1 _ _ ha), fun l hl => ?_⟩
  have t2 := Same.upd (o := .lst xs.reverse) hl
  have nla : l ≠ at_ := (ne_of_none (t1 _ _ hat) hl).symm
  have nlk : l ≠ k := (ne_of_none upd_same hl).symm
  have hl0 := t1.free hl
  refine ⟨⟨_, SqL.of upd_same⟩, ?_⟩
  refine fw_list (xs := xs.reverse) (fun i σ H' => TkI K H at_ F (ss.drop (ss.length - i)) z0.length k i H' ∧ H' l = some (.lst xs.reverse) ∧ ∃ o4 o5 o6, σ = [some (.ref a), some (.ref fa), some (.ref at_), some (.ref k), o4, o5, o6])
    ⟨⟨SameX.of (t1.trans t2), [], [], z0, t2 _ _ upd_same, Nat.le_refl _, ?_, by simp, by simp, t2 _ _ (t1 _ _ hat), ?_⟩, upd_same, _, _, _, rfl⟩ (fun i σ H' _ h => SqL.of h.2.1) ?_ ?_
  · rw [Nat.sub_zero, List.drop_length, GB.tkL]; exact .nil
  · rw [Nat.sub_zero, List.drop_length]; rfl
  · rintro i x σ H1 hxi ⟨hI, hl1, o4, o5, o6, rfl⟩
    obtain ⟨st, g', hst, hms, hv, hsub⟩ := stms_rev hx hxi
    have hdm := deepL_mem hms
    have hmd : st.many + manyL (ss.drop (ss.length - i)) ≤ manyL ss := by
      have e := congrArg manyL (drop_cons hst)
      rw [manyL] at e
      have e2 : manyL ss = manyL (ss.take (ss.length - (i + 1))) + manyL (ss.drop (ss.length - (i + 1))) := by rw [← manyL_append, List.take_append_drop]
      omega
    have hi : i < 1000 := by have := (List.getElem?_eq_some_iff.mp hxi).1; rw [List.length_reverse] at this; omega
    have hnf : at_ ∉ g' := fun z => naf (hsub at_ z)
    rw [drop_cons hst]
    generalize ss.drop (ss.length - i) = r at hmd hI ⊢
    have s1 := hI.1
    obtain ⟨ys0, g0, z1, ek1, ly1, _, _, _, ez1, lz1⟩ := id hI.2
    have hfa1 := s1 _ _ hfa nfa
    have hv1 := StmV.sx hv s1 hat hnf
    cases hv1 with
    | @deed q0 dd hf hq =>
      rw [Stm.many] at hmd
      simp only [y_v0, r_g0, y_v1, r_g1, y_v2, r_g2, y_v3, r_g3, y_v4, r_g4, y_v5, r_g5, y_v6, r_g6, y_v7, r_g7, y_v8, r_g8, y_v9, r_g9, y_v10, r_g10, y_v11, r_g11, y_v12, r_g12, y_v13, r_g13, y_v14, r_g14, y_v15, r_g15, r_c, r_op, r_un, y_I0, y_I, y_U, r_eqI, r_eqS, r_neI, r_exbl, r_exint, r_test, r_B, r_and, r_or, r_not, r_andV, r_orV, r_notV, r_if, r_next, r_seqL, r_brk, r_cont, r_drop, r_ret, r_retN, r_ifSL, r_asg, r_CB, r_nil, r_cons, r_call, r_tup, r_lst, r_p0, r_pS, r_disp, r_dget, r_sl, r_noPart, r_part, r_gNil, r_gCons, r_itF, r_nT, r_nF, r_len0, r_len1, r_len2, r_len3, r_len4, r_len7, r_len8, r_for, r_iEnum, r_iList, r_iTup, r_iRng1, r_iRng2, r_exI1, r_exI2, r_exR1, r_exR, r_bm, r_bm0, r_ixS, r_ixL, r_ixT, r_cat, r_slL, r_append, r_pop, r_exS2, r_exRl, r_intB, r_gTup, true_and, and_true, forall_const, Int.reduceLT, r_compG, r_setComp, r_yes, r_isi_int_str, r_isi_str_str, r_slT, r_inR, r_notInR, cxOf_K, wish_K, blk_K, r_blk1, r_blk2, List.map_cons, List.map_nil, List.getElem?_cons_zero, List.getElem?_cons_succ, Option.join_some, r_Vs, r_dnewK, r_dput, r_gSub, List.set_cons_zero, List.set_cons_succ, r_midL, r_sfld, r_gfld, r_make, r_iRev, r_listRev, r_listVals, r_slRev, r_dget2, r_listRng, r_kget1, r_iEnumT, r_extend, r_sortedS]
      refine deed0 hf hq (by decide +kernel) (by decide +kernel) (by decide +kernel) ⟨_, rfl, ?_⟩
      rw [if_neg Bool.false_ne_true]
      refine later ?_
      simp only [y_v0, r_g0, y_v1, r_g1, y_v2, r_g2, y_v3, r_g3, y_v4, r_g4, y_v5, r_g5, y_v6, r_g6, y_v7, r_g7, y_v8, r_g8, y_v9, r_g9, y_v10, r_g10, y_v11, r_g11, y_v12, r_g12, y_v13, r_g13, y_v14, r_g14, y_v15, r_g15, r_c, r_op, r_un, y_I0, y_I, y_U, r_eqI, r_eqS, r_neI, r_exbl, r_exint, r_test, r_B, r_and, r_or, r_not, r_andV, r_orV, r_notV, r_if, r_next, r_seqL, r_brk, r_cont, r_drop, r_ret, r_retN, r_ifSL, r_asg, r_CB, r_nil, r_cons, r_call, r_tup, r_lst, r_p0, r_pS, r_disp, r_dget, r_sl, r_noPart, r_part, r_gNil, r_gCons, r_itF, r_nT, r_nF, r_len0, r_len1, r_len2, r_len3, r_len4, r_len7, r_len8, r_for, r_iEnum, r_iList, r_iTup, r_iRng1, r_iRng2, r_exI1, r_exI2, r_exR1, r_exR, r_bm, r_bm0, r_ixS, r_ixL, r_ixT, r_cat, r_slL, r_append, r_pop, r_exS2, r_exRl, r_intB, r_gTup, true_and, and_true, forall_const, Int.reduceLT, r_compG, r_setComp, r_yes, r_isi_int_str, r_isi_str_str, r_slT, r_inR, r_notInR, cxOf_K, wish_K, blk_K, r_blk1, r_blk2, List.map_cons, List.map_nil, List.getElem?_cons_zero, List.getElem?_cons_succ, Option.join_some, r_Vs, r_dnewK, r_dput, r_gSub, List.set_cons_zero, List.set_cons_succ, r_midL, r_sfld, r_gfld, r_make, r_iRev, r_listRev, r_listVals, r_slRev, r_dget2, r_listRng, r_kget1, r_iEnumT, r_extend, r_sortedS]
      refine deed0 hf hq (by decide +kernel) (by decide +kernel) (by decide +kernel) ⟨_, rfl, ?_⟩
      rw [if_neg Bool.false_ne_true]
      refine later ?_
      simp only [y_v0, r_g0, y_v1, r_g1, y_v2, r_g2, y_v3, r_g3, y_v4, r_g4, y_v5, r_g5, y_v6, r_g6, y_v7, r_g7, y_v8, r_g8, y_v9, r_g9, y_v10, r_g10, y_v11, r_g11, y_v12, r_g12, y_v13, r_g13, y_v14, r_g14, y_v15, r_g15, r_c, r_op, r_un, y_I0, y_I, y_U, r_eqI, r_eqS, r_neI, r_exbl, r_exint, r_test, r_B, r_and, r_or, r_not, r_andV, r_orV, r_notV, r_if, r_next, r_seqL, r_brk, r_cont, r_drop, r_ret, r_retN, r_ifSL, r_asg, r_CB, r_nil, r_cons, r_call, r_tup, r_lst, r_p0, r_pS, r_disp, r_dget, r_sl, r_noPart, r_part, r_gNil, r_gCons, r_itF, r_nT, r_nF, r_len0, r_len1, r_len2, r_len3, r_len4, r_len7, r_len8, r_for, r_iEnum, r_iList, r_iTup, r_iRng1, r_iRng2, r_exI1, r_exI2, r_exR1, r_exR, r_bm, r_bm0, r_ixS, r_ixL, r_ixT, r_cat, r_slL, r_append, r_pop, r_exS2, r_exRl, r_intB, r_gTup, true_and, and_true, forall_const, Int.reduceLT, r_compG, r_setComp, r_yes, r_isi_int_str, r_isi_str_str, r_slT, r_inR, r_notInR, cxOf_K, wish_K, blk_K, r_blk1, r_blk2, List.map_cons, List.map_nil, List.getElem?_cons_zero, List.getElem?_cons_succ, Option.join_some, r_Vs, r_dnewK, r_dput, r_gSub, List.set_cons_zero, List.set_cons_succ, r_midL, r_sfld, r_gfld, r_make, r_iRev, r_listRev, r_listVals, r_slRev, r_dget2, r_listRng, r_kget1, r_iEnumT, r_extend, r_sortedS]
      refine ⟨.inl ⟨rfl, _, SqL.of ez1⟩, _, ez1, by rw [sizeLine_eq]; omega, ?_⟩
      have sx2 : SameX at_ H1 (upd H1 at_ (.lst (z1 ++ [V.int 0]))) := SameX.upd
      have ez2 : upd H1 at_ (.lst (z1 ++ [V.int 0])) at_ = some (.lst (z1 ++ [V.int 0])) := upd_same
      generalize upd H1 at_ (.lst (z1 ++ [V.int 0])) = H2 at sx2 ez2 ⊢
      have lz2 : (z1 ++ [V.int 0]).length = z0.length + manyL r + 1 := by rw [List.length_append, List.length_singleton, lz1]
      obtain ⟨b, hb⟩ : ∃ b, F[z0.length + manyL r]? = some b := ⟨_, List.getElem?_eq_getElem (by omega)⟩
      have hix : atI (F.map V.bl) (((z1 ++ [V.int 0]).length : Int) - 1) = some (.bl b) := by
        rw [lz2, show ((z0.length + manyL r + 1 : Nat) : Int) - 1 = ((z0.length + manyL r : Nat) : Int) by omega]
        exact atI_nat (by rw [List.getElem?_map, hb]; rfl)
      refine later ?_
      simp only [y_v0, r_g0, y_v1, r_g1, y_v2, r_g2, y_v3, r_g3, y_v4, r_g4, y_v5, r_g5, y_v6, r_g6, y_v7, r_g7, y_v8, r_g8, y_v9, r_g9, y_v10, r_g10, y_v11, r_g11, y_v12, r_g12, y_v13, r_g13, y_v14, r_g14, y_v15, r_g15, r_c, r_op, r_un, y_I0, y_I, y_U, r_eqI, r_eqS, r_neI, r_exbl, r_exint, r_test, r_B, r_and, r_or, r_not, r_andV, r_orV, r_notV, r_if, r_next, r_seqL, r_brk, r_cont, r_drop, r_ret, r_retN, r_ifSL, r_asg, r_CB, r_nil, r_cons, r_call, r_tup, r_lst, r_p0, r_pS, r_disp, r_dget, r_sl, r_noPart, r_part, r_gNil, r_gCons, r_itF, r_nT, r_nF, r_len0, r_len1, r_len2, r_len3, r_len4, r_len7, r_len8, r_for, r_iEnum, r_iList, r_iTup, r_iRng1, r_iRng2, r_exI1, r_exI2, r_exR1, r_exR, r_bm, r_bm0, r_ixS, r_ixL, r_ixT, r_cat, r_slL, r_append, r_pop, r_exS2, r_exRl, r_intB, r_gTup, true_and, and_true, forall_const, Int.reduceLT, r_compG, r_setComp, r_yes, r_isi_int_str, r_isi_str_str, r_slT, r_inR, r_notInR, cxOf_K, wish_K, blk_K, r_blk1, r_blk2, List.map_cons, List.map_nil, List.getElem?_cons_zero, List.getElem?_cons_succ, Option.join_some, r_Vs, r_dnewK, r_dput, r_gSub, List.set_cons_zero, List.set_cons_succ, r_midL, r_sfld, r_gfld, r_make, r_iRev, r_listRev, r_listVals, r_slRev, r_dget2, r_listRng, r_kget1, r_iEnumT, r_extend, r_sortedS]
      refine ⟨_, .inl (SqL.of ez2), _, _, SqL.of (sx2 _ _ hfa1 nfa), hix, b, rfl, ?_⟩
      have hgd : F.getD (z0.length + manyL r) false = b := by rw [List.getD_eq_getElem?_getD, hb]; rfl
      cases b with
      | true =>
        rw [if_neg (by decide)]
        refine later ?_
        simp only [y_v0, r_g0, y_v1, r_g1, y_v2, r_g2, y_v3, r_g3, y_v4, r_g4, y_v5, r_g5, y_v6, r_g6, y_v7, r_g7, y_v8, r_g8, y_v9, r_g9, y_v10, r_g10, y_v11, r_g11, y_v12, r_g12, y_v13, r_g13, y_v14, r_g14, y_v15, r_g15, r_c, r_op, r_un, y_I0, y_I, y_U, r_eqI, r_eqS, r_neI, r_exbl, r_exint, r_test, r_B, r_and, r_or, r_not, r_andV, r_orV, r_notV, r_if, r_next, r_seqL, r_brk, r_cont, r_drop, r_ret, r_retN, r_ifSL, r_asg, r_CB, r_nil, r_cons, r_call, r_tup, r_lst, r_p0, r_pS, r_disp, r_dget, r_sl, r_noPart, r_part, r_gNil, r_gCons, r_itF, r_nT, r_nF, r_len0, r_len1, r_len2, r_len3, r_len4, r_len7, r_len8, r_for, r_iEnum, r_iList, r_iTup, r_iRng1, r_iRng2, r_exI1, r_exI2, r_exR1, r_exR, r_bm, r_bm0, r_ixS, r_ixL, r_ixT, r_cat, r_slL, r_append, r_pop, r_exS2, r_exRl, r_intB, r_gTup, true_and, and_true, forall_const, Int.reduceLT, r_compG, r_setComp, r_yes, r_isi_int_str, r_isi_str_str, r_slT, r_inR, r_notInR, cxOf_K, wish_K, blk_K, r_blk1, r_blk2, List.map_cons, List.map_nil, List.getElem?_cons_zero, List.getElem?_cons_succ, Option.join_some, r_Vs, r_dnewK, r_dput, r_gSub, List.set_cons_zero, List.set_cons_succ, r_midL, r_sfld, r_gfld, r_make, r_iRev, r_listRev, r_listVals, r_slRev, r_dget2, r_listRng, r_kget1, r_iEnumT, r_extend, r_sortedS]
        exact ⟨hI.gone hat nka (by rw [GB.tkS, hgd, if_pos rfl]) sx2 ez2 (by rw [lz2, Stm.many]), sx2 _ _ hl1 nla, _, _, _, rfl⟩
      | false =>
        rw [if_pos (by decide)]
        refine later ?_
        simp only [y_v0, r_g0, y_v1, r_g1, y_v2, r_g2, y_v3, r_g3, y_v4, r_g4, y_v5, r_g5, y_v6, r_g6, y_v7, r_g7, y_v8, r_g8, y_v9, r_g9, y_v10, r_g10, y_v11, r_g11, y_v12, r_g12, y_v13, r_g13, y_v14, r_g14, y_v15, r_g15, r_c, r_op, r_un, y_I0, y_I, y_U, r_eqI, r_eqS, r_neI, r_exbl, r_exint, r_test, r_B, r_and, r_or, r_not, r_andV, r_orV, r_notV, r_if, r_next, r_seqL, r_brk, r_cont, r_drop, r_ret, r_retN, r_ifSL, r_asg, r_CB, r_nil, r_cons, r_call, r_tup, r_lst, r_p0, r_pS, r_disp, r_dget, r_sl, r_noPart, r_part, r_gNil, r_gCons, r_itF, r_nT, r_nF, r_len0, r_len1, r_len2, r_len3, r_len4, r_len7, r_len8, r_for, r_iEnum, r_iList, r_iTup, r_iRng1, r_iRng2, r_exI1, r_exI2, r_exR1, r_exR, r_bm, r_bm0, r_ixS, r_ixL, r_ixT, r_cat, r_slL, r_append, r_pop, r_exS2, r_exRl, r_intB, r_gTup, true_and, and_true, forall_const, Int.reduceLT, r_compG, r_setComp, r_yes, r_isi_int_str, r_isi_str_str, r_slT, r_inR, r_notInR, cxOf_K, wish_K, blk_K, r_blk1, r_blk2, List.map_cons, List.map_nil, List.getElem?_cons_zero, List.getElem?_cons_succ, Option.join_some, r_Vs, r_dnewK, r_dput, r_gSub, List.set_cons_zero, List.set_cons_succ, r_midL, r_sfld, r_gfld, r_make, r_iRev, r_listRev, r_listVals, r_slRev, r_dget2, r_listRng, r_kget1, r_iEnumT, r_extend, r_sortedS]
        obtain ⟨ys, e2, l2, hI2⟩ := hI.one hat hk nka (s := .deed dd) (by rw [GB.tkS, hgd, if_neg (by decide)]) sx2 ez2 (by rw [lz2, Stm.many]) (.deed hf ((SameX.tsL sx2 ez1).seqT hq)) (by simp) hi
        exact ⟨.inl ⟨rfl, _, SqL.of e2⟩, ys, e2, l2, hI2, by rw [upd_ne nlk]; exact sx2 _ _ hl1 nla, _, _, _, rfl⟩
    | @ifs q0 a1 c1 n xs1 ys1 ones others f1 g1 hq ha1 hc1 h1 h2 =>
      simp only [Stm.deep, Stm.many] at hdm hmd
      simp only [y_v0, r_g0, y_v1, r_g1, y_v2, r_g2, y_v3, r_g3, y_v4, r_g4, y_v5, r_g5, y_v6, r_g6, y_v7, r_g7, y_v8, r_g8, y_v9, r_g9, y_v10, r_g10, y_v11, r_g11, y_v12, r_g12, y_v13, r_g13, y_v14, r_g14, y_v15, r_g15, r_c, r_op, r_un, y_I0, y_I, y_U, r_eqI, r_eqS, r_neI, r_exbl, r_exint, r_test, r_B, r_and, r_or, r_not, r_andV, r_orV, r_notV, r_if, r_next, r_seqL, r_brk, r_cont, r_drop, r_ret, r_retN, r_ifSL, r_asg, r_CB, r_nil, r_cons, r_call, r_tup, r_lst, r_p0, r_pS, r_disp, r_dget, r_sl, r_noPart, r_part, r_gNil, r_gCons, r_itF, r_nT, r_nF, r_len0, r_len1, r_len2, r_len3, r_len4, r_len7, r_len8, r_for, r_iEnum, r_iList, r_iTup, r_iRng1, r_iRng2, r_exI1, r_exI2, r_exR1, r_exR, r_bm, r_bm0, r_ixS, r_ixL, r_ixT, r_cat, r_slL, r_append, r_pop, r_exS2, r_exRl, r_intB, r_gTup, true_and, and_true, forall_const, Int.reduceLT, r_compG, r_setComp, r_yes, r_isi_int_str, r_isi_str_str, r_slT, r_inR, r_notInR, cxOf_K, wish_K, blk_K, r_blk1, r_blk2, List.map_cons, List.map_nil, List.getElem?_cons_zero, List.getElem?_cons_succ, Option.join_some, r_Vs, r_dnewK, r_dput, r_gSub, List.set_cons_zero, List.set_cons_succ, r_midL, r_sfld, r_gfld, r_make, r_iRev, r_listRev, r_listVals, r_slRev, r_dget2, r_listRng, r_kget1, r_iEnumT, r_extend, r_sortedS]
      refine ⟨_, _, hq, rfl, ?_⟩
      simp only [y_v0, r_g0, y_v1, r_g1, y_v2, r_g2, y_v3, r_g3, y_v4, r_g4, y_v5, r_g5, y_v6, r_g6, y_v7, r_g7, y_v8, r_g8, y_v9, r_g9, y_v10, r_g10, y_v11, r_g11, y_v12, r_g12, y_v13, r_g13, y_v14, r_g14, y_v15, r_g15, r_c, r_op, r_un, y_I0, y_I, y_U, r_eqI, r_eqS, r_neI, r_exbl, r_exint, r_test, r_B, r_and, r_or, r_not, r_andV, r_orV, r_notV, r_if, r_next, r_seqL, r_brk, r_cont, r_drop, r_ret, r_retN, r_ifSL, r_asg, r_CB, r_nil, r_cons, r_call, r_tup, r_lst, r_p0, r_pS, r_disp, r_dget, r_sl, r_noPart, r_part, r_gNil, r_gCons, r_itF, r_nT, r_nF, r_len0, r_len1, r_len2, r_len3, r_len4, r_len7, r_len8, r_for, r_iEnum, r_iList, r_iTup, r_iRng1, r_iRng2, r_exI1, r_exI2, r_exR1, r_exR, r_bm, r_bm0, r_ixS, r_ixL, r_ixT, r_cat, r_slL, r_append, r_pop, r_exS2, r_exRl, r_intB, r_gTup, true_and, and_true, forall_const, Int.reduceLT, r_compG, r_setComp, r_yes, r_isi_int_str, r_isi_str_str, r_slT, r_inR, r_notInR, cxOf_K, wish_K, blk_K, r_blk1, r_blk2, List.map_cons, List.map_nil, List.getElem?_cons_zero, List.getElem?_cons_succ, Option.join_some, r_Vs, r_dnewK, r_dput, r_gSub, List.set_cons_zero, List.set_cons_succ, r_midL, r_sfld, r_gfld, r_make, r_iRev, r_listRev, r_listVals, r_slRev, r_dget2, r_listRng, r_kget1, r_iEnumT, r_extend, r_sortedS]
      refine ite_dec (fun z => absurd z (by decide +kernel)) (fun _ => later ?_)
      simp only [y_v0, r_g0, y_v1, r_g1, y_v2, r_g2, y_v3, r_g3, y_v4, r_g4, y_v5, r_g5, y_v6, r_g6, y_v7, r_g7, y_v8, r_g8, y_v9, r_g9, y_v10, r_g10, y_v11, r_g11, y_v12, r_g12, y_v13, r_g13, y_v14, r_g14, y_v15, r_g15, r_c, r_op, r_un, y_I0, y_I, y_U, r_eqI, r_eqS, r_neI, r_exbl, r_exint, r_test, r_B, r_and, r_or, r_not, r_andV, r_orV, r_notV, r_if, r_next, r_seqL, r_brk, r_cont, r_drop, r_ret, r_retN, r_ifSL, r_asg, r_CB, r_nil, r_cons, r_call, r_tup, r_lst, r_p0, r_pS, r_disp, r_dget, r_sl, r_noPart, r_part, r_gNil, r_gCons, r_itF, r_nT, r_nF, r_len0, r_len1, r_len2, r_len3, r_len4, r_len7, r_len8, r_for, r_iEnum, r_iList, r_iTup, r_iRng1, r_iRng2, r_exI1, r_exI2, r_exR1, r_exR, r_bm, r_bm0, r_ixS, r_ixL, r_ixT, r_cat, r_slL, r_append, r_pop, r_exS2, r_exRl, r_intB, r_gTup, true_and, and_true, forall_const, Int.reduceLT, r_compG, r_setComp, r_yes, r_isi_int_str, r_isi_str_str, r_slT, r_inR, r_notInR, cxOf_K, wish_K, blk_K, r_blk1, r_blk2, List.map_cons, List.map_nil, List.getElem?_cons_zero, List.getElem?_cons_succ, Option.join_some, r_Vs, r_dnewK, r_dput, r_gSub, List.set_cons_zero, List.set_cons_succ, r_midL, r_sfld, r_gfld, r_make, r_iRev, r_listRev, r_listVals, r_slRev, r_dget2, r_listRng, r_kget1, r_iEnumT, r_extend, r_sortedS]
      refine ⟨_, _, hq, rfl, ?_⟩
      simp only [y_v0, r_g0, y_v1, r_g1, y_v2, r_g2, y_v3, r_g3, y_v4, r_g4, y_v5, r_g5, y_v6, r_g6, y_v7, r_g7, y_v8, r_g8, y_v9, r_g9, y_v10, r_g10, y_v11, r_g11, y_v12, r_g12, y_v13, r_g13, y_v14, r_g14, y_v15, r_g15, r_c, r_op, r_un, y_I0, y_I, y_U, r_eqI, r_eqS, r_neI, r_exbl, r_exint, r_test, r_B, r_and, r_or, r_not, r_andV, r_orV, r_notV, r_if, r_next, r_seqL, r_brk, r_cont, r_drop, r_ret, r_retN, r_ifSL, r_asg, r_CB, r_nil, r_cons, r_call, r_tup, r_lst, r_p0, r_pS, r_disp, r_dget, r_sl, r_noPart, r_part, r_gNil, r_gCons, r_itF, r_nT, r_nF, r_len0, r_len1, r_len2, r_len3, r_len4, r_len7, r_len8, r_for, r_iEnum, r_iList, r_iTup, r_iRng1, r_iRng2, r_exI1, r_exI2, r_exR1, r_exR, r_bm, r_bm0, r_ixS, r_ixL, r_ixT, r_cat, r_slL, r_append, r_pop, r_exS2, r_exRl, r_intB, r_gTup, true_and, and_true, forall_const, Int.reduceLT, r_compG, r_setComp, r_yes, r_isi_int_str, r_isi_str_str, r_slT, r_inR, r_notInR, cxOf_K, wish_K, blk_K, r_blk1, r_blk2, List.map_cons, List.map_nil, List.getElem?_cons_zero, List.getElem?_cons_succ, Option.join_some, r_Vs, r_dnewK, r_dput, r_gSub, List.set_cons_zero, List.set_cons_succ, r_midL, r_sfld, r_gfld, r_make, r_iRev, r_listRev, r_listVals, r_slRev, r_dget2, r_listRng, r_kget1, r_iEnumT, r_extend, r_sortedS]
      refine ite_dec (fun _ => later ?_) (fun z => absurd trivial z)
      simp only [y_v0, r_g0, y_v1, r_g1, y_v2, r_g2, y_v3, r_g3, y_v4, r_g4, y_v5, r_g5, y_v6, r_g6, y_v7, r_g7, y_v8, r_g8, y_v9, r_g9, y_v10, r_g10, y_v11, r_g11, y_v12, r_g12, y_v13, r_g13, y_v14, r_g14, y_v15, r_g15, r_c, r_op, r_un, y_I0, y_I, y_U, r_eqI, r_eqS, r_neI, r_exbl, r_exint, r_test, r_B, r_and, r_or, r_not, r_andV, r_orV, r_notV, r_if, r_next, r_seqL, r_brk, r_cont, r_drop, r_ret, r_retN, r_ifSL, r_asg, r_CB, r_nil, r_cons, r_call, r_tup, r_lst, r_p0, r_pS, r_disp, r_dget, r_sl, r_noPart, r_part, r_gNil, r_gCons, r_itF, r_nT, r_nF, r_len0, r_len1, r_len2, r_len3, r_len4, r_len7, r_len8, r_for, r_iEnum, r_iList, r_iTup, r_iRng1, r_iRng2, r_exI1, r_exI2, r_exR1, r_exR, r_bm, r_bm0, r_ixS, r_ixL, r_ixT, r_cat, r_slL, r_append, r_pop, r_exS2, r_exRl, r_intB, r_gTup, true_and, and_true, forall_const, Int.reduceLT, r_compG, r_setComp, r_yes, r_isi_int_str, r_isi_str_str, r_slT, r_inR, r_notInR, cxOf_K, wish_K, blk_K, r_blk1, r_blk2, List.map_cons, List.map_nil, List.getElem?_cons_zero, List.getElem?_cons_succ, Option.join_some, r_Vs, r_dnewK, r_dput, r_gSub, List.set_cons_zero, List.set_cons_succ, r_midL, r_sfld, r_gfld, r_make, r_iRev, r_listRev, r_listVals, r_slRev, r_dget2, r_listRng, r_kget1, r_iEnumT, r_extend, r_sortedS]
      refine ⟨_, _, hq, rfl, ?_⟩
      rw [r_tk]
      have na1 : a1 ≠ at_ := fun z => hnf (by rw [← z]; simp)
      have nc1 : c1 ≠ at_ := fun z => hnf (by rw [← z]; simp)
      have nf1 : at_ ∉ f1 := fun z => hnf (by simp [z])
      have ng1 : at_ ∉ g1 := fun z => hnf (by simp [z])
      refine (mk_tk (xs1) (ones) (f1) (F) (z1) (ha1) (h1) (by omega) (hfa1) (nfa) (na1) (nf1) (ez1) (by omega) (hF) (fun p1 w1 k1 z2 H2 sx2 hp1 e1 v1 fr1 ez2 lz2 => ?_))
      refine later ?_
      simp only [y_v0, r_g0, y_v1, r_g1, y_v2, r_g2, y_v3, r_g3, y_v4, r_g4, y_v5, r_g5, y_v6, r_g6, y_v7, r_g7, y_v8, r_g8, y_v9, r_g9, y_v10, r_g10, y_v11, r_g11, y_v12, r_g12, y_v13, r_g13, y_v14, r_g14, y_v15, r_g15, r_c, r_op, r_un, y_I0, y_I, y_U, r_eqI, r_eqS, r_neI, r_exbl, r_exint, r_test, r_B, r_and, r_or, r_not, r_andV, r_orV, r_notV, r_if, r_next, r_seqL, r_brk, r_cont, r_drop, r_ret, r_retN, r_ifSL, r_asg, r_CB, r_nil, r_cons, r_call, r_tup, r_lst, r_p0, r_pS, r_disp, r_dget, r_sl, r_noPart, r_part, r_gNil, r_gCons, r_itF, r_nT, r_nF, r_len0, r_len1, r_len2, r_len3, r_len4, r_len7, r_len8, r_for, r_iEnum, r_iList, r_iTup, r_iRng1, r_iRng2, r_exI1, r_exI2, r_exR1, r_exR, r_bm, r_bm0, r_ixS, r_ixL, r_ixT, r_cat, r_slL, r_append, r_pop, r_exS2, r_exRl, r_intB, r_gTup, true_and, and_true, forall_const, Int.reduceLT, r_compG, r_setComp, r_yes, r_isi_int_str, r_isi_str_str, r_slT, r_inR, r_notInR, cxOf_K, wish_K, blk_K, r_blk1, r_blk2, List.map_cons, List.map_nil, List.getElem?_cons_zero, List.getElem?_cons_succ, Option.join_some, r_Vs, r_dnewK, r_dput, r_gSub, List.set_cons_zero, List.set_cons_succ, r_midL, r_sfld, r_gfld, r_make, r_iRev, r_listRev, r_listVals, r_slRev, r_dget2, r_listRng, r_kget1, r_iEnumT, r_extend, r_sortedS]
      refine ⟨_, _, (SameX.tsL sx2 ez1).seqT hq, rfl, ?_⟩
      rw [r_tk]
      refine (mk_tk (ys1) (others) (g1) (F) (z2) (sx2 _ _ hc1 nc1) (StmsV.sx h2 sx2 ez1 ng1) (by omega) (sx2 _ _ hfa1 nfa) (nfa) (nc1) (ng1) (ez2) (by omega) (hF) (fun p2 w2 k2 z3 H3 sx3 hp2 e2 v2 fr2 ez3 lz3 => ?_))
      refine later ?_
      simp only [y_v0, r_g0, y_v1, r_g1, y_v2, r_g2, y_v3, r_g3, y_v4, r_g4, y_v5, r_g5, y_v6, r_g6, y_v7, r_g7, y_v8, r_g8, y_v9, r_g9, y_v10, r_g10, y_v11, r_g11, y_v12, r_g12, y_v13, r_g13, y_v14, r_g14, y_v15, r_g15, r_c, r_op, r_un, y_I0, y_I, y_U, r_eqI, r_eqS, r_neI, r_exbl, r_exint, r_test, r_B, r_and, r_or, r_not, r_andV, r_orV, r_notV, r_if, r_next, r_seqL, r_brk, r_cont, r_drop, r_ret, r_retN, r_ifSL, r_asg, r_CB, r_nil, r_cons, r_call, r_tup, r_lst, r_p0, r_pS, r_disp, r_dget, r_sl, r_noPart, r_part, r_gNil, r_gCons, r_itF, r_nT, r_nF, r_len0, r_len1, r_len2, r_len3, r_len4, r_len7, r_len8, r_for, r_iEnum, r_iList, r_iTup, r_iRng1, r_iRng2, r_exI1, r_exI2, r_exR1, r_exR, r_bm, r_bm0, r_ixS, r_ixL, r_ixT, r_cat, r_slL, r_append, r_pop, r_exS2, r_exRl, r_intB, r_gTup, true_and, and_true, forall_const, Int.reduceLT, r_compG, r_setComp, r_yes, r_isi_int_str, r_isi_str_str, r_slT, r_inR, r_notInR, cxOf_K, wish_K, blk_K, r_blk1, r_blk2, List.map_cons, List.map_nil, List.getElem?_cons_zero, List.getElem?_cons_succ, Option.join_some, r_Vs, r_dnewK, r_dput, r_gSub, List.set_cons_zero, List.set_cons_succ, r_midL, r_sfld, r_gfld, r_make, r_iRev, r_listRev, r_listVals, r_slRev, r_dget2, r_listRng, r_kget1, r_iEnumT, r_extend, r_sortedS]
      refine ⟨.inl ⟨rfl, _, SqL.of ez3⟩, _, ez3, by rw [sizeLine_eq]; omega, ?_⟩
      have sx4 : SameX at_ H3 (upd H3 at_ (.lst (z3 ++ [V.int 0]))) := SameX.upd
      have ez4 : upd H3 at_ (.lst (z3 ++ [V.int 0])) at_ = some (.lst (z3 ++ [V.int 0])) := upd_same
      generalize upd H3 at_ (.lst (z3 ++ [V.int 0])) = H4 at sx4 ez4 ⊢
      have np1 : p1 ≠ at_ := (ne_of_none ez1 hp1).symm
      have np2 : p2 ≠ at_ := (ne_of_none ez2 hp2).symm
      have nk1 : at_ ∉ k1 := fun z => by rw [fr1 _ z] at ez1; cases ez1
      have nk2 : at_ ∉ k2 := fun z => by rw [fr2 _ z] at ez2; cases ez2
      have sx34 := sx3.trans sx4
      have e1' := sx34 _ _ e1 np1
      have e2' := sx4 _ _ e2 np2
      have v1' := StmsV.sx v1 sx34 ez2 nk1
      have v2' := StmsV.sx v2 sx4 ez3 nk2
      have sx14 := sx2.trans sx34
      have hq4 := (SameX.tsL sx14 ez1).seqT hq
      have lz4 : (z3 ++ [V.int 0]).length = z0.length + manyL r + (Stm.ifs n ones others).many := by rw [List.length_append, List.length_singleton, Stm.many]; omega
      have l1 := v1.length
      have l2 := v2.length
      have etk : GB.tkS F (.ifs n ones others) (z0.length + manyL r) = if GB.tkL F ones z1.length = [] ∧ GB.tkL F others z2.length = [] then [] else [.ifs n (GB.tkL F ones z1.length) (GB.tkL F others z2.length)] := by
        rw [GB.tkS, lz2, lz1]
      refine later ?_
      simp only [y_v0, r_g0, y_v1, r_g1, y_v2, r_g2, y_v3, r_g3, y_v4, r_g4, y_v5, r_g5, y_v6, r_g6, y_v7, r_g7, y_v8, r_g8, y_v9, r_g9, y_v10, r_g10, y_v11, r_g11, y_v12, r_g12, y_v13, r_g13, y_v14, r_g14, y_v15, r_g15, r_c, r_op, r_un, y_I0, y_I, y_U, r_eqI, r_eqS, r_neI, r_exbl, r_exint, r_test, r_B, r_and, r_or, r_not, r_andV, r_orV, r_notV, r_if, r_next, r_seqL, r_brk, r_cont, r_drop, r_ret, r_retN, r_ifSL, r_asg, r_CB, r_nil, r_cons, r_call, r_tup, r_lst, r_p0, r_pS, r_disp, r_dget, r_sl, r_noPart, r_part, r_gNil, r_gCons, r_itF, r_nT, r_nF, r_len0, r_len1, r_len2, r_len3, r_len4, r_len7, r_len8, r_for, r_iEnum, r_iList, r_iTup, r_iRng1, r_iRng2, r_exI1, r_exI2, r_exR1, r_exR, r_bm, r_bm0, r_ixS, r_ixL, r_ixT, r_cat, r_slL, r_append, r_pop, r_exS2, r_exRl, r_intB, r_gTup, true_and, and_true, forall_const, Int.reduceLT, r_compG, r_setComp, r_yes, r_isi_int_str, r_isi_str_str, r_slT, r_inR, r_notInR, cxOf_K, wish_K, blk_K, r_blk1, r_blk2, List.map_cons, List.map_nil, List.getElem?_cons_zero, List.getElem?_cons_succ, Option.join_some, r_Vs, r_dnewK, r_dput, r_gSub, List.set_cons_zero, List.set_cons_succ, r_midL, r_sfld, r_gfld, r_make, r_iRev, r_listRev, r_listVals, r_slRev, r_dget2, r_listRng, r_kget1, r_iEnumT, r_extend, r_sortedS]
      refine ⟨_, .inl (SqL.of e1'), _, .inl (SqL.of e2'), ?_⟩
      by_cases hz : w1.length + w2.length = 0
      · rw [if_neg (by simp; omega)]
        refine later ?_
        simp only [y_v0, r_g0, y_v1, r_g1, y_v2, r_g2, y_v3, r_g3, y_v4, r_g4, y_v5, r_g5, y_v6, r_g6, y_v7, r_g7, y_v8, r_g8, y_v9, r_g9, y_v10, r_g10, y_v11, r_g11, y_v12, r_g12, y_v13, r_g13, y_v14, r_g14, y_v15, r_g15, r_c, r_op, r_un, y_I0, y_I, y_U, r_eqI, r_eqS, r_neI, r_exbl, r_exint, r_test, r_B, r_and, r_or, r_not, r_andV, r_orV, r_notV, r_if, r_next, r_seqL, r_brk, r_cont, r_drop, r_ret, r_retN, r_ifSL, r_asg, r_CB, r_nil, r_cons, r_call, r_tup, r_lst, r_p0, r_pS, r_disp, r_dget, r_sl, r_noPart, r_part, r_gNil, r_gCons, r_itF, r_nT, r_nF, r_len0, r_len1, r_len2, r_len3, r_len4, r_len7, r_len8, r_for, r_iEnum, r_iList, r_iTup, r_iRng1, r_iRng2, r_exI1, r_exI2, r_exR1, r_exR, r_bm, r_bm0, r_ixS, r_ixL, r_ixT, r_cat, r_slL, r_append, r_pop, r_exS2, r_exRl, r_intB, r_gTup, true_and, and_true, forall_const, Int.reduceLT, r_compG, r_setComp, r_yes, r_isi_int_str, r_isi_str_str, r_slT, r_inR, r_notInR, cxOf_K, wish_K, blk_K, r_blk1, r_blk2, List.map_cons, List.map_nil, List.getElem?_cons_zero, List.getElem?_cons_succ, Option.join_some, r_Vs, r_dnewK, r_dput, r_gSub, List.set_cons_zero, List.set_cons_succ, r_midL, r_sfld, r_gfld, r_make, r_iRev, r_listRev, r_listVals, r_slRev, r_dget2, r_listRng, r_kget1, r_iEnumT, r_extend, r_sortedS]
        refine ⟨hI.gone hat nka ?_ sx14 ez4 lz4, sx14 _ _ hl1 nla, _, _, _, rfl⟩
        rw [etk, if_pos ⟨List.length_eq_zero_iff.mp (by omega), List.length_eq_zero_iff.mp (by omega)⟩]
      · rw [if_pos (by simp; omega)]
        refine later ?_
        simp only [y_v0, r_g0, y_v1, r_g1, y_v2, r_g2, y_v3, r_g3, y_v4, r_g4, y_v5, r_g5, y_v6, r_g6, y_v7, r_g7, y_v8, r_g8, y_v9, r_g9, y_v10, r_g10, y_v11, r_g11, y_v12, r_g12, y_v13, r_g13, y_v14, r_g14, y_v15, r_g15, r_c, r_op, r_un, y_I0, y_I, y_U, r_eqI, r_eqS, r_neI, r_exbl, r_exint, r_test, r_B, r_and, r_or, r_not, r_andV, r_orV, r_notV, r_if, r_next, r_seqL, r_brk, r_cont, r_drop, r_ret, r_retN, r_ifSL, r_asg, r_CB, r_nil, r_cons, r_call, r_tup, r_lst, r_p0, r_pS, r_disp, r_dget, r_sl, r_noPart, r_part, r_gNil, r_gCons, r_itF, r_nT, r_nF, r_len0, r_len1, r_len2, r_len3, r_len4, r_len7, r_len8, r_for, r_iEnum, r_iList, r_iTup, r_iRng1, r_iRng2, r_exI1, r_exI2, r_exR1, r_exR, r_bm, r_bm0, r_ixS, r_ixL, r_ixT, r_cat, r_slL, r_append, r_pop, r_exS2, r_exRl, r_intB, r_gTup, true_and, and_true, forall_const, Int.reduceLT, r_compG, r_setComp, r_yes, r_isi_int_str, r_isi_str_str, r_slT, r_inR, r_notInR, cxOf_K, wish_K, blk_K, r_blk1, r_blk2, List.map_cons, List.map_nil, List.getElem?_cons_zero, List.getElem?_cons_succ, Option.join_some, r_Vs, r_dnewK, r_dput, r_gSub, List.set_cons_zero, List.set_cons_succ, r_midL, r_sfld, r_gfld, r_make, r_iRev, r_listRev, r_listVals, r_slRev, r_dget2, r_listRng, r_kget1, r_iEnumT, r_extend, r_sortedS]
        refine ⟨.inl ⟨rfl, _, SqL.of (sx14 _ _ ek1 nka)⟩, _, V.str n, hq4, rfl, fun p hp => ?_⟩
        have s5 := Same.upd (o := .tup [V.str "if", V.str n, V.ref p1, V.ref p2]) hp
        have hfr : ∀ z ∈ p1 :: p2 :: (k1 ++ k2), H1 z = none := fun z hz => by
          rcases List.mem_cons.mp hz with h | hz
          · rw [h]; exact hp1
          rcases List.mem_cons.mp hz with h | hz
          · rw [h]; exact sx2.free ez2 hp2
          rcases List.mem_append.mp hz with h | h
          · exact fr1 z h
          · exact sx2.free ez2 (fr2 z h)
        obtain ⟨ys, e5, l5, hI2⟩ := hI.one hat hk nka (s := .ifs n ones others) (by rw [etk, if_neg (fun z => hz (by rw [l1, l2, z.1, z.2]; rfl))]) (sx14.trans (SameX.of s5)) (s5 _ _ ez4) lz4 (.ifs (SqT.of upd_same) (s5 _ _ e1') (s5 _ _ e2') (v1'.same s5) (v2'.same s5)) hfr hi
        exact ⟨ys, e5, l5, hI2, by rw [upd_ne nlk]; exact s5 _ _ (sx14 _ _ hl1 nla), _, _, _, rfl⟩
    | @whl q0 a1 n xs1 rows f1 hq ha1 h1 =>
      simp only [Stm.deep, Stm.many] at hdm hmd
      simp only [y_v0, r_g0, y_v1, r_g1, y_v2, r_g2, y_v3, r_g3, y_v4, r_g4, y_v5, r_g5, y_v6, r_g6, y_v7, r_g7, y_v8, r_g8, y_v9, r_g9, y_v10, r_g10, y_v11, r_g11, y_v12, r_g12, y_v13, r_g13, y_v14, r_g14, y_v15, r_g15, r_c, r_op, r_un, y_I0, y_I, y_U, r_eqI, r_eqS, r_neI, r_exbl, r_exint, r_test, r_B, r_and, r_or, r_not, r_andV, r_orV, r_notV, r_if, r_next, r_seqL, r_brk, r_cont, r_drop, r_ret, r_retN, r_ifSL, r_asg, r_CB, r_nil, r_cons, r_call, r_tup, r_lst, r_p0, r_pS, r_disp, r_dget, r_sl, r_noPart, r_part, r_gNil, r_gCons, r_itF, r_nT, r_nF, r_len0, r_len1, r_len2, r_len3, r_len4, r_len7, r_len8, r_for, r_iEnum, r_iList, r_iTup, r_iRng1, r_iRng2, r_exI1, r_exI2, r_exR1, r_exR, r_bm, r_bm0, r_ixS, r_ixL, r_ixT, r_cat, r_slL, r_append, r_pop, r_exS2, r_exRl, r_intB, r_gTup, true_and, and_true, forall_const, Int.reduceLT, r_compG, r_setComp, r_yes, r_isi_int_str, r_isi_str_str, r_slT, r_inR, r_notInR, cxOf_K, wish_K, blk_K, r_blk1, r_blk2, List.map_cons, List.map_nil, List.getElem?_cons_zero, List.getElem?_cons_succ, Option.join_some, r_Vs, r_dnewK, r_dput, r_gSub, List.set_cons_zero, List.set_cons_succ, r_midL, r_sfld, r_gfld, r_make, r_iRev, r_listRev, r_listVals, r_slRev, r_dget2, r_listRng, r_kget1, r_iEnumT, r_extend, r_sortedS]
      refine ⟨_, _, hq, rfl, ?_⟩
      simp only [y_v0, r_g0, y_v1, r_g1, y_v2, r_g2, y_v3, r_g3, y_v4, r_g4, y_v5, r_g5, y_v6, r_g6, y_v7, r_g7, y_v8, r_g8, y_v9, r_g9, y_v10, r_g10, y_v11, r_g11, y_v12, r_g12, y_v13, r_g13, y_v14, r_g14, y_v15, r_g15, r_c, r_op, r_un, y_I0, y_I, y_U, r_eqI, r_eqS, r_neI, r_exbl, r_exint, r_test, r_B, r_and, r_or, r_not, r_andV, r_orV, r_notV, r_if, r_next, r_seqL, r_brk, r_cont, r_drop, r_ret, r_retN, r_ifSL, r_asg, r_CB, r_nil, r_cons, r_call, r_tup, r_lst, r_p0, r_pS, r_disp, r_dget, r_sl, r_noPart, r_part, r_gNil, r_gCons, r_itF, r_nT, r_nF, r_len0, r_len1, r_len2, r_len3, r_len4, r_len7, r_len8, r_for, r_iEnum, r_iList, r_iTup, r_iRng1, r_iRng2, r_exI1, r_exI2, r_exR1, r_exR, r_bm, r_bm0, r_ixS, r_ixL, r_ixT, r_cat, r_slL, r_append, r_pop, r_exS2, r_exRl, r_intB, r_gTup, true_and, and_true, forall_const, Int.reduceLT, r_compG, r_setComp, r_yes, r_isi_int_str, r_isi_str_str, r_slT, r_inR, r_notInR, cxOf_K, wish_K, blk_K, r_blk1, r_blk2, List.map_cons, List.map_nil, List.getElem?_cons_zero, List.getElem?_cons_succ, Option.join_some, r_Vs, r_dnewK, r_dput, r_gSub, List.set_cons_zero, List.set_cons_succ, r_midL, r_sfld, r_gfld, r_make, r_iRev, r_listRev, r_listVals, r_slRev, r_dget2, r_listRng, r_kget1, r_iEnumT, r_extend, r_sortedS]
      have na1 : a1 ≠ at_ := fun z => hnf (by rw [← z]; simp)
      have nf1 : at_ ∉ f1 := fun z => hnf (by simp [z])
      refine ite_dec (fun _ => later ?_) (fun z => absurd trivial z)
      simp only [y_v0, r_g0, y_v1, r_g1, y_v2, r_g2, y_v3, r_g3, y_v4, r_g4, y_v5, r_g5, y_v6, r_g6, y_v7, r_g7, y_v8, r_g8, y_v9, r_g9, y_v10, r_g10, y_v11, r_g11, y_v12, r_g12, y_v13, r_g13, y_v14, r_g14, y_v15, r_g15, r_c, r_op, r_un, y_I0, y_I, y_U, r_eqI, r_eqS, r_neI, r_exbl, r_exint, r_test, r_B, r_and, r_or, r_not, r_andV, r_orV, r_notV, r_if, r_next, r_seqL, r_brk, r_cont, r_drop, r_ret, r_retN, r_ifSL, r_asg, r_CB, r_nil, r_cons, r_call, r_tup, r_lst, r_p0, r_pS, r_disp, r_dget, r_sl, r_noPart, r_part, r_gNil, r_gCons, r_itF, r_nT, r_nF, r_len0, r_len1, r_len2, r_len3, r_len4, r_len7, r_len8, r_for, r_iEnum, r_iList, r_iTup, r_iRng1, r_iRng2, r_exI1, r_exI2, r_exR1, r_exR, r_bm, r_bm0, r_ixS, r_ixL, r_ixT, r_cat, r_slL, r_append, r_pop, r_exS2, r_exRl, r_intB, r_gTup, true_and, and_true, forall_const, Int.reduceLT, r_compG, r_setComp, r_yes, r_isi_int_str, r_isi_str_str, r_slT, r_inR, r_notInR, cxOf_K, wish_K, blk_K, r_blk1, r_blk2, List.map_cons, List.map_nil, List.getElem?_cons_zero, List.getElem?_cons_succ, Option.join_some, r_Vs, r_dnewK, r_dput, r_gSub, List.set_cons_zero, List.set_cons_succ, r_midL, r_sfld, r_gfld, r_make, r_iRev, r_listRev, r_listVals, r_slRev, r_dget2, r_listRng, r_kget1, r_iEnumT, r_extend, r_sortedS]
      refine ⟨.inl ⟨rfl, _, SqL.of ez1⟩, _, ez1, by rw [sizeLine_eq]; omega, ?_⟩
      have sx2 : SameX at_ H1 (upd H1 at_ (.lst (z1 ++ [V.int 0]))) := SameX.upd
      have ez2 : upd H1 at_ (.lst (z1 ++ [V.int 0])) at_ = some (.lst (z1 ++ [V.int 0])) := upd_same
      have lz2 : (z1 ++ [V.int 0]).length = z0.length + manyL r + 1 := by rw [List.length_append, List.length_singleton, lz1]
      generalize upd H1 at_ (.lst (z1 ++ [V.int 0])) = H2 at sx2 ez2 ⊢
      generalize z1 ++ [V.int 0] = z2 at ez2 lz2 ⊢
      have hq2 := (SameX.tsL sx2 ez1).seqT hq
      refine later ?_
      simp only [y_v0, r_g0, y_v1, r_g1, y_v2, r_g2, y_v3, r_g3, y_v4, r_g4, y_v5, r_g5, y_v6, r_g6, y_v7, r_g7, y_v8, r_g8, y_v9, r_g9, y_v10, r_g10, y_v11, r_g11, y_v12, r_g12, y_v13, r_g13, y_v14, r_g14, y_v15, r_g15, r_c, r_op, r_un, y_I0, y_I, y_U, r_eqI, r_eqS, r_neI, r_exbl, r_exint, r_test, r_B, r_and, r_or, r_not, r_andV, r_orV, r_notV, r_if, r_next, r_seqL, r_brk, r_cont, r_drop, r_ret, r_retN, r_ifSL, r_asg, r_CB, r_nil, r_cons, r_call, r_tup, r_lst, r_p0, r_pS, r_disp, r_dget, r_sl, r_noPart, r_part, r_gNil, r_gCons, r_itF, r_nT, r_nF, r_len0, r_len1, r_len2, r_len3, r_len4, r_len7, r_len8, r_for, r_iEnum, r_iList, r_iTup, r_iRng1, r_iRng2, r_exI1, r_exI2, r_exR1, r_exR, r_bm, r_bm0, r_ixS, r_ixL, r_ixT, r_cat, r_slL, r_append, r_pop, r_exS2, r_exRl, r_intB, r_gTup, true_and, and_true, forall_const, Int.reduceLT, r_compG, r_setComp, r_yes, r_isi_int_str, r_isi_str_str, r_slT, r_inR, r_notInR, cxOf_K, wish_K, blk_K, r_blk1, r_blk2, List.map_cons, List.map_nil, List.getElem?_cons_zero, List.getElem?_cons_succ, Option.join_some, r_Vs, r_dnewK, r_dput, r_gSub, List.set_cons_zero, List.set_cons_succ, r_midL, r_sfld, r_gfld, r_make, r_iRev, r_listRev, r_listVals, r_slRev, r_dget2, r_listRng, r_kget1, r_iEnumT, r_extend, r_sortedS]
      refine ⟨.inl ⟨rfl, _, SqL.of (sx2 _ _ ek1 nka)⟩, _, V.str n, hq2, rfl, _, _, hq2, rfl, ?_⟩
      rw [r_tk]
      refine (mk_tk (xs1) (rows) (f1) (F) (z2) (sx2 _ _ ha1 na1) (StmsV.sx h1 sx2 ez1 nf1) (by omega) (sx2 _ _ hfa1 nfa) (nfa) (na1) (nf1) (ez2) (by omega) (hF) (fun p1 w1 k1 z3 H3 sx3 hp1 e1 v1 fr1 ez3 lz3 => ?_))
      intro p hp
      have s4 := Same.upd (o := .tup [V.str "while", V.str n, V.ref p1]) hp
      have sx13 := sx2.trans sx3
      have hfr : ∀ z ∈ p1 :: k1, H1 z = none := fun z hz => by
        rcases List.mem_cons.mp hz with h | hz
        · rw [h]; exact sx2.free ez2 hp1
        · exact sx2.free ez2 (fr1 z hz)
      obtain ⟨ys, e5, l5, hI2⟩ := hI.one hat hk nka (s := .whl n rows) (by rw [GB.tkS, ← lz2]) (sx13.trans (SameX.of s4)) (s4 _ _ ez3) (by rw [lz3, lz2, Stm.many]; omega) (.whl (SqT.of upd_same) (s4 _ _ e1) (v1.same s4)) hfr hi
      exact ⟨ys, e5, l5, hI2, by rw [upd_ne nlk]; exact s4 _ _ (sx13 _ _ hl1 nla), _, _, _, rfl⟩
  · rintro σ H1 ⟨⟨s1, ys, g, zs, e, ly, hy, ng, fg, ez, lz⟩, hl1, o4, o5, o6, rfl⟩
    rw [List.length_reverse, lx, Nat.sub_self, List.drop_zero] at hy lz
    simp_arith [r_listRng, r_kget1, r_iEnumT, r_extend, r_sortedS]
    refine ⟨k, ys, rfl, SqL.of e, fun p hp => ?_⟩
    have t3 := Same.upd (o := .lst ys.reverse) hp
    exact q p ys.reverse g zs _ (s1.trans (SameX.of t3)) (s1.free ez hp) upd_same (hy.same t3) fg (t3 _ _ ez) lz
theorem ok_tk (T : Txt K mg t) : ∀ d, FnOk P w K mg base CX0 (d + 1) t.f__law_taken t.e__law_taken ["_law_rows", "_law_idle_here", "_law_at"] (sp_tk K d)
  | 0 => ⟨fun vs H Q E h => by obtain ⟨_, _, _, _, _, _, _, _, _, _, _, h, _⟩ := h; omega, fun _ _ _ _ _ _ _ _ _ _ _ _ _ h => by obtain ⟨_, _, _, _, _, _, _, _, _, _, _, h, _⟩ := h; omega⟩
  | d + 1 => tk_step T d (ok_tk T d)
end
end K78
set_option maxHeartbeats 4000000
namespace K78
open PySem L2 PyProof.Rows FA FB FS FP FG FO FR
noncomputable def bd_ltd (K : PySem.W.Frag) (d : Nat) (a : Addr) (H : Hp) (Q : VK) : Prop := ∃ (ns : List Str) (wd : Int) (xs : List V) (ss : List Stm) (f : List Addr), H a = some (.lst xs) ∧ StmsV K H xs ss f ∧ deepL ss < d ∧ manyL ss ≤ 500 ∧ goodL ns wd ss ∧ ns.length ≤ 25 ∧
  ∀ p ys g cur H', Same H H' → H' p = some (.lst ys) → StmsV K H' ys cur g → FW.Trm ss cur → FW.afterR cur = cur → Q (.ref p) H'
theorem mk_ltd {K : PySem.W.Frag} {d : Nat} {a : Addr} {H : Hp} {Q : VK}  (ns : List Str) (wd : Int) (xs : List V) (ss : List Stm) (f : List Addr) (h_0 : H a = some (.lst xs)) (h_1 : StmsV K H xs ss f) (h_2 : deepL ss < d) (h_3 : manyL ss ≤ 500) (h_4 : goodL ns wd ss) (h_5 : ns.length ≤ 25) (h_6 : ∀ p ys g cur H', Same H H' → H' p = some (.lst ys) → StmsV K H' ys cur g → FW.Trm ss cur → FW.afterR cur = cur → Q (.ref p) H') : bd_ltd K d a H Q := ⟨ns, wd, xs, ss, f, h_0, h_1, h_2, h_3, h_4, h_5, h_6⟩
noncomputable def sp_ltd (K : PySem.W.Frag) (d : Nat) : Sp := fun vs H Q _ => ∃ a : Addr, vs = [.ref a] ∧ bd_ltd K d a H Q
section
variable {P : Program} {w : World} {K : PySem.W.Frag} {mg : Str → Option Value} {base : Heap} {t : Ad}
theorem r_ltd {d : Nat} {a : Addr} {H : Hp} {Q : VK} {E : XK} : sp_ltd K d [.ref a] H Q E = bd_ltd K d a H Q := propext ⟨by rintro ⟨_, e, q⟩; cases e; exact q, fun q => ⟨_, rfl, q⟩⟩
theorem round {d : Nat} {ns : List Str} {wd : Int} {a : Addr} {xs : List V} {ss : List Stm} {f : List Addr} {H : Hp} {Q : VK} {E : XK} (ha : H a = some (.lst xs)) (hx : StmsV K H xs ss f) (hd : deepL ss < d) (hm : manyL ss ≤ 500) (hg : goodL ns wd ss) (hn : ns.length ≤ 25)
    (q : ∀ p ys g H', Same H H' → H' p = some (.lst ys) → StmsV K H' ys (FW.afterR ss) g → Q (.ref p) H') : bd_lidle K d a H fun x H1 => ∀ p, H1 p = none → sp_tk K d [.ref a, x, .ref p] (upd H1 p (.lst [])) Q E := by
  refine (mk_lidle (ns) (wd) (xs) (ss) (f) (ha) (hx) (hd) (hm) (hg) (hn) (fun pf H1 s1 hpf ef p hp => ?_))
  have t1 := Same.upd (o := .lst []) hp
  have s2 := s1.trans t1
  have hp0 := s1.free hp
  rw [r_tk]
  refine (mk_tk (xs) (ss) (f) (GB.flagsOf ss) ([]) (s2 _ _ ha) (hx.same s2) (hd) (t1 _ _ ef) (ne_of_none ef hp) (ne_of_none ha hp0) (fun z => ?_) (upd_same) (by rw [GB.flags_len]; simp) (by rw [GB.flags_len]; omega) (fun p2 ys g zs H2 sx hp2 e2 v2 _ _ _ => ?_))
  · obtain ⟨zs, hz⟩ := hx.tracked p z
    rw [hp0] at hz; cases hz
  · rw [show ([] : List V).length = 0 from rfl, GB.tk_after] at v2
    exact q p2 ys g H2 (fun c o e => sx c o (s2 _ _ e) (ne_of_none e hp0)) e2 v2
theorem ok_ltd (T : Txt K mg t) (d : Nat) (hd18 : d ≤ 18) : FnOk P w K mg base CX0 (d + 4) t.f__law_trimmed t.e__law_trimmed ["_law_rows"] (sp_ltd K d) := by
  have G__law_idle := ok_lidle (P := P) (w := w) (base := base) T d
  have G__law_taken := ok_tk (P := P) (w := w) (base := base) T d
  refine T.d__law_trimmed.F.ok sc__law_trimmed (fun vs H Q E h => by obtain ⟨_, rfl, _⟩ := h; rfl) (fun cdv A outer s H vs Q E hr h => ?_)
  obtain ⟨a, rfl, ns, wd, xs, ss, f, ha, hx, hd, hm, hg, hn, q⟩ := h
  refine ⟨_,
      (XSs.h
      (xpss_cons
        (xps_set (i := 1) sc__law_trimmed.nd rfl ll (xqe_callD T.d__law_taken G__law_taken (hr.mono (by first | decide | omega)) (xpa_cons (yqv 0 vl) (xpa_cons (xqe_callD T.d__law_idle G__law_idle (hr.mono (by first | decide | omega)) (xpa_cons (yqv 0 vl) xpa_nil) gl) (xpa_cons (xpe_lst xpa_nil) xpa_nil))) gl))
      (xpss_cons
        (xps_while PassesOwn.never (xpt_cmpR (GB.op_neF (n := 40) (hu_n (by decide) hr)) (yqv 1 vl) (yqv 0 vl) (nomark _))
          (xpss_cons
            (xps_set (i := 0) sc__law_trimmed.nd rfl ll (yqv 1 vl))
          (xpss_one
            (xps_set (i := 1) sc__law_trimmed.nd rfl ll (xqe_callD T.d__law_taken G__law_taken (hr.mono (by first | decide | omega)) (xpa_cons (yqv 0 vl) (xpa_cons (xqe_callD T.d__law_idle G__law_idle (hr.mono (by first | decide | omega)) (xpa_cons (yqv 0 vl) xpa_nil) gl) (xpa_cons (xpe_lst xpa_nil) xpa_nil))) gl)))))
      (xpss_one
        (xps_ret (yqv 0 vl)))))), ?_⟩
  rw [show start _ [V.ref a] = [some (.ref a), none] from rfl]
  simp_arith [r_listRng, r_kget1, r_iEnumT, r_extend, r_sortedS, r_lidle]
  refine round ha hx hd hm hg hn fun p1 ys1 g1 H1 s1 e1 v1 => ?_
  refine ⟨fun m σ H' => ∃ (ra fa : Addr) (cur : List Stm) (zs ws : List V) (f g : List Addr), m = manyL cur ∧ σ = [some (.ref ra), some (.ref fa)] ∧ Same H H' ∧ H' ra = some (.lst zs) ∧ StmsV K H' zs cur f ∧ H' fa = some (.lst ws) ∧ StmsV K H' ws (FW.afterR cur) g ∧ FW.Trm ss cur,
    ⟨_, a, p1, ss, xs, ys1, f, g1, rfl, rfl, s1, s1 _ _ ha, hx.same s1, e1, v1, .refl⟩, ?_⟩
  rintro m σ H2 ⟨ra, fa, cur, zs, ws, f2, g2, rfl, rfl, s2, ea, va, eb, vb, ht⟩
  simp_arith [r_listRng, r_kget1, r_iEnumT, r_extend, r_sortedS, r_lidle]
  have dc := ht.deep
  have da := FW.afterR_deep cur
  have mc := ht.many
  have hq := fun hF => GB.rqF (K := K) (H := H2) (n := 40) (FW.aln_after cur).symm eb ea vb va (by omega) hF
  have hqt := GB.eqB_iff (l := FW.afterR cur) (l' := cur)
  generalize GB.eqB (FW.afterR cur) cur = bq at hq hqt
  refine ⟨bq, hq, _, rfl, ?_⟩
  cases bq with
  | false =>
    rw [Bool.not_false, if_pos rfl]
    have hlt : manyL (FW.afterR cur) < manyL cur := by
      have := FW.afterR_many cur
      rcases Nat.lt_or_ge (manyL (FW.afterR cur)) (manyL cur) with z | z
      · exact z
      · exact absurd (hqt.mpr (this.2 (by omega))) Bool.false_ne_true
    refine ⟨fun σ' H' => ∃ (ra fa : Addr) (zs ws : List V) (f g : List Addr), σ' = [some (.ref ra), some (.ref fa)] ∧ Same H H' ∧ H' ra = some (.lst zs) ∧ StmsV K H' zs (FW.afterR cur) f ∧ H' fa = some (.lst ws) ∧ StmsV K H' ws (FW.afterR (FW.afterR cur)) g, ?_, ?_⟩
    · rintro σ' H' ⟨ra, fa, zs, ws, f, g, rfl, h1, h2, h3, h4, h5⟩
      exact ⟨_, hlt, ra, fa, _, zs, ws, f, g, rfl, rfl, h1, h2, h3, h4, h5, .step ht⟩
    · refine round eb vb (by omega) (by omega) (FW.afterR_good (ht.good hg)) hn fun p3 ys3 g3 H3 s3 e3 v3 => ?_
      exact ⟨fa, p3, ws, ys3, g2, g3, rfl, s2.trans s3, s3 _ _ eb, vb.same s3, e3, v3⟩
  | true =>
    rw [Bool.not_true, if_neg Bool.false_ne_true]
    exact q ra zs f2 cur H2 s2 ea va ht (hqt.mp rfl)
end
end K78
set_option maxHeartbeats 4000000
namespace K78
open PySem L2 PyProof.Rows FA FB FS FP FG FO FR
noncomputable def CmpV (K : PySem.W.Frag) (H : Hp) (d : Nat) (v v' : V) : Prop := (∃ o : Opd, v = o.v ∧ v' = o.v) ∨ ∃ a b xs ys l f g, v = .ref a ∧ v' = .ref b ∧ H a = some (.lst xs) ∧ H b = some (.lst ys) ∧ StmsV K H xs l f ∧ StmsV K H ys l g ∧ deepL l < d ∧ manyL l ≤ 1000
noncomputable def RowC (K : PySem.W.Frag) (H : Hp) (d : Nat) (x y : V) : Prop := ∃ q q' vs vs', x = .ref q ∧ y = .ref q' ∧ SqT K H q vs ∧ SqT K H q' vs' ∧ vs.length = vs'.length ∧ vs.length ≤ 4 ∧ 2 ≤ vs.length ∧ (∃ (s : Str) (o : Opd), vs.take 2 = [.str s, o.v] ∧ vs'.take 2 = [.str s, o.v]) ∧ ∀ j v v', 2 ≤ j → vs[j]? = some v → vs'[j]? = some v' → CmpV K H d v v'
theorem rowC {K : PySem.W.Frag} {H : Hp} {d : Nat} {st : Stm} {x y : V} {f g : List Addr} (h1 : StmV K H x st f) (h2 : StmV K H y st g) (hd : st.deep ≤ d) (hm : st.many ≤ 1000) : RowC K H d x y := by
  cases h1 with
  | @deed q dd hf e1 =>
    cases h2 with
    | @deed q' _ _ e2 =>
      refine ⟨q, q', _, _, rfl, rfl, e1, e2, rfl, ?_, ?_, ?_, fun j v v' hj hv hv' => ?_⟩
      · cases dd <;> simp [Deed.vs]
      · cases dd <;> simp [Deed.vs]
      · cases dd with
        | tell o => exact ⟨_, o, rfl, rfl⟩
        | copy n o => exact ⟨_, .box n, rfl, rfl⟩
        | op k n o o2 => exact ⟨_, .box n, rfl, rfl⟩
      · rw [hv] at hv'
        cases hv'
        cases dd with
        | tell o => rw [List.getElem?_eq_none (by simp [Deed.vs]; omega)] at hv; cases hv
        | copy n o =>
          match j, hj, hv with
          | 2, _, hv => cases hv; exact .inl ⟨o, rfl, rfl⟩
          | j + 3, _, hv => rw [List.getElem?_eq_none (by simp [Deed.vs])] at hv; cases hv
        | op k n o o2 =>
          match j, hj, hv with
          | 2, _, hv => cases hv; exact .inl ⟨o, rfl, rfl⟩
          | 3, _, hv => cases hv; exact .inl ⟨o2, rfl, rfl⟩
          | j + 4, _, hv => rw [List.getElem?_eq_none (by simp [Deed.vs])] at hv; cases hv
  | @ifs q a b n xs ys ones others f1 g1 e1 ea eb sa sb =>
    cases h2 with
    | @ifs q' a' b' _ xs' ys' _ _ f2 g2 e2 ea' eb' sa' sb' =>
      rw [Stm.deep] at hd
      rw [Stm.many] at hm
      refine ⟨q, q', _, _, rfl, rfl, e1, e2, rfl, by simp, by simp, ⟨_, .box n, rfl, rfl⟩, fun j v v' hj hv hv' => ?_⟩
      match j, hj, hv, hv' with
      | 2, _, hv, hv' => cases hv; cases hv'; exact .inr ⟨a, a', _, _, _, _, _, rfl, rfl, ea, ea', sa, sa', by omega, by omega⟩
      | 3, _, hv, hv' => cases hv; cases hv'; exact .inr ⟨b, b', _, _, _, _, _, rfl, rfl, eb, eb', sb, sb', by omega, by omega⟩
      | j + 4, _, hv, _ => rw [List.getElem?_eq_none (by simp)] at hv; cases hv
  | @whl q a n xs rows f1 e1 ea sa =>
    cases h2 with
    | @whl q' a' _ xs' _ f2 e2 ea' sa' =>
      rw [Stm.deep] at hd
      rw [Stm.many] at hm
      refine ⟨q, q', _, _, rfl, rfl, e1, e2, rfl, by simp, by simp, ⟨_, .box n, rfl, rfl⟩, fun j v v' hj hv hv' => ?_⟩
      match j, hj, hv, hv' with
      | 2, _, hv, hv' => cases hv; cases hv'; exact .inr ⟨a, a', _, _, _, _, _, rfl, rfl, ea, ea', sa, sa', by omega, by omega⟩
      | j + 3, _, hv, _ => rw [List.getElem?_eq_none (by simp)] at hv; cases hv
noncomputable def bd_lsm (K : PySem.W.Frag) (d : Nat) (a b : Addr) (H : Hp) (Q : VK) : Prop := ∃ (l : List Stm) (xs ys : List V) (f g : List Addr), H a = some (.lst xs) ∧ H b = some (.lst ys) ∧ StmsV K H xs l f ∧ StmsV K H ys l g ∧ deepL l < d ∧ manyL l ≤ 1000 ∧ ∀ H', Same H H' → Q (.bl true) H'
theorem mk_lsm {K : PySem.W.Frag} {d : Nat} {a b : Addr} {H : Hp} {Q : VK}  (l : List Stm) (xs ys : List V) (f g : List Addr) (h_0 : H a = some (.lst xs)) (h_1 : H b = some (.lst ys)) (h_2 : StmsV K H xs l f) (h_3 : StmsV K H ys l g) (h_4 : deepL l < d) (h_5 : manyL l ≤ 1000) (h_6 : ∀ H', Same H H' → Q (.bl true) H') : bd_lsm K d a b H Q := ⟨l, xs, ys, f, g, h_0, h_1, h_2, h_3, h_4, h_5, h_6⟩
noncomputable def sp_lsm (K : PySem.W.Frag) (d : Nat) : Sp := fun vs H Q _ => ∃ a b : Addr, vs = [.ref a, .ref b] ∧ bd_lsm K d a b H Q
section
variable {P : Program} {w : World} {K : PySem.W.Frag} {mg : Str → Option Value} {base : Heap} {t : Ad}
theorem r_lsm {d : Nat} {a b : Addr} {H : Hp} {Q : VK} {E : XK} : sp_lsm K d [.ref a, .ref b] H Q E = bd_lsm K d a b H Q := propext ⟨by rintro ⟨_, _, e, q⟩; cases e; exact q, fun q => ⟨_, _, rfl, q⟩⟩
theorem isi_tupX {p : Addr} {xs : List V} {H : Hp} {Q : VK} (hp : SqT K H p xs) (h : Q (.bl true) H) : rIsi K [.ref p, .ty "tuple"] H Q := ⟨_, _, _, rfl, by decide +kernel, .tup hp, h⟩
theorem isi_lstX {p : Addr} {xs : List V} {H : Hp} {Q : VK} (hp : SqL K H p xs) (h : Q (.bl true) H) : rIsi K [.ref p, .ty "list"] H Q := ⟨_, _, _, rfl, by decide +kernel, .lst hp, h⟩
theorem isi_opdL {o : Opd} {H : Hp} {Q : VK} (h : Q (.bl false) H) : rIsi K [o.v, .ty "list"] H Q := by
  cases o with
  | box n => exact ⟨_, _, _, rfl, by decide +kernel, .str, h⟩
  | word i => exact ⟨_, _, _, rfl, by decide +kernel, .int, h⟩
theorem isi_opdB {o : Opd} {H : Hp} {Q : VK} (h : Q (.bl false) H) : rIsi K [o.v, .ty "bool"] H Q := by
  cases o with
  | box n => exact ⟨_, _, _, rfl, by decide +kernel, .str, h⟩
  | word i => exact ⟨_, _, _, rfl, by decide +kernel, .int, h⟩
theorem rq_two {H : Hp} {p p' : Addr} {s : Str} {o : Opd} (h : SqT K H p [.str s, o.v]) (h' : SqT K H p' [.str s, o.v]) : Rq K H 0 (.ref p) (.ref p') true := by
  have z := Rq.tups (K := K) (H := H) (n := 0) (fun _ => true) h h' fun j x y hx hy => by
    rw [hx] at hy
    cases hy
    match j, hx with
    | 0, hx => cases hx; exact FW.dq_str
    | 1, hx => cases hx; exact FW.opd_flat o
    | j + 2, hx => simp at hx
  exact z
theorem slW2 {q : Addr} {vs : List V} {sh : Str} {oh : Opd} {H : Hp} {Q : VK} (e : SqT K H q vs) (h2 : 2 ≤ vs.length) (h4 : vs.length ≤ 4) (ht : vs.take 2 = [.str sh, oh.v]) (h : ∀ p H', Same H H' → SqT K H' p [.str sh, oh.v] → Q (.ref p) H') : rSlW K (.ref q) none (some 2) H Q := by
  have hn : vs.length = 2 ∨ vs.length = 3 ∨ vs.length = 4 := by omega
  by_cases hl : vs.length = 2
  · refine .inr ⟨q, vs, rfl, e, by rw [hl]; decide, by rw [hl]; decide, h q H (Same.refl _) ?_⟩
    rw [← ht, ← hl, List.take_length]; exact e
  · refine .inl ⟨q, vs, rfl, e, ?_, fun p hp => ?_⟩
    · rcases hn with z | z | z
      · exact absurd z hl
      · rw [z]; decide
      · rw [z]; decide
    · rw [cutV_to (by decide), show (2 : Int).toNat = 2 from rfl, ht]
      exact h p _ (Same.upd hp) (SqT.of upd_same)
theorem CmpV.same {H H' : Hp} {d : Nat} {v v' : V} (h : CmpV K H d v v') (s : Same H H') : CmpV K H' d v v' := by
  rcases h with h | ⟨a, b, xs, ys, l, f, g, h1, h2, h3, h4, h5, h6, h7, h8⟩
  · exact .inl h
  · exact .inr ⟨a, b, xs, ys, l, f, g, h1, h2, s _ _ h3, s _ _ h4, h5.same s, h6.same s, h7, h8⟩
theorem lsm_step (T : Txt K mg t) (d : Nat) (G__law_same_rows : FnOk P w K mg base CX0 (d + 1) t.f__law_same_rows t.e__law_same_rows ["_law_found", "_law_due"] (sp_lsm K d)) : FnOk P w K mg base CX0 (d + 2) t.f__law_same_rows t.e__law_same_rows ["_law_found", "_law_due"] (sp_lsm K (d + 1)) := by
  refine T.d__law_same_rows.F.ok sc__law_same_rows (fun vs H Q E h => by obtain ⟨_, _, rfl, _⟩ := h; rfl) (fun cdv A outer s H vs Q E hr h => ?_)
  obtain ⟨a, b, rfl, l, xs, ys, f, g, ha, hb, hx, hy, hd, hm, q⟩ := h
  have hu := hu_of hr
  have lx := hx.length
  have ly := hy.length
  have lm := len_many l
  refine ⟨_,
      (XSs.h
      (xpss_mid
        (xps_if (xPW_pt (xpw_or (xpt_not (xpt_val (xqe_callB call_isi gl T.z_isinstance boot_isinstance (xpa_cons (yqv 0 vl) (xpa_cons (xqe_bltn (v := .ty "list") gl T.z_list boot_list rfl) xpa_nil))))) (xpw_or1 (xpt_cmpR op_ne (xqe_callB call_len_seq gl T.z_len PySem.boot_len (xpa_cons (yqv 0 vl) xpa_nil)) (xqe_callB call_len_seq gl T.z_len PySem.boot_len (xpa_cons (yqv 1 vl) xpa_nil)) (nomark _)))))
          (xpss_one
            (xps_ret xpe_bl))
          xpss_nil)
      (xpss_cons
        (xps_for PassesOwn.never rfl (xpi_range1 gl T.z_range (xpa_cons (xqe_callB call_len_seq gl T.z_len PySem.boot_len (xpa_cons (yqv 1 vl) xpa_nil)) xpa_nil)) (xpg_name (i := 2) sc__law_same_rows.nd rfl ll)
          (xpss_mid
            (xps_if (xPW_pt (xpw_or (xpt_not (xpt_val (xqe_callB call_isi gl T.z_isinstance boot_isinstance (xpa_cons (xpe_ix ix_list (yqv 0 vl) (yqv 2 vl) (fun _ _ => rfl)) (xpa_cons (xqe_bltn (v := .ty "tuple") gl T.z_tuple boot_tuple rfl) xpa_nil))))) (xpw_or (xpt_cmpR op_ne (xqe_callB call_len_seq gl T.z_len PySem.boot_len (xpa_cons (xpe_ix ix_list (yqv 0 vl) (yqv 2 vl) (fun _ _ => rfl)) xpa_nil)) (xqe_callB call_len_seq gl T.z_len PySem.boot_len (xpa_cons (xpe_ix ix_list (yqv 1 vl) (yqv 2 vl) (fun _ _ => rfl)) xpa_nil)) (nomark _)) (xpw_or1 (xpt_cmpR (op_neD (n := 0) (hu_n (by decide) hr)) (xpe_slice sl_tupW (xpe_ix ix_list (yqv 0 vl) (yqv 2 vl) (fun _ _ => rfl)) xpo_none (xpo_some xpe_int)) (xpe_slice sl_tupW (xpe_ix ix_list (yqv 1 vl) (yqv 2 vl) (fun _ _ => rfl)) xpo_none (xpo_some xpe_int)) (nomark _))))))
              (xpss_one
                (xps_ret xpe_bl))
              xpss_nil)
          (xpss_one
            (xps_for PassesOwn.never rfl (xpi_range2 gl T.z_range (xpa_cons xpe_int (xpa_cons (xqe_callB call_len_seq gl T.z_len PySem.boot_len (xpa_cons (xpe_ix ix_list (yqv 1 vl) (yqv 2 vl) (fun _ _ => rfl)) xpa_nil)) xpa_nil))) (xpg_name (i := 3) sc__law_same_rows.nd rfl ll)
              (xpss_one
                (xps_if (xpt_val (xqe_callB call_isi gl T.z_isinstance boot_isinstance (xpa_cons (xpe_ix ix_tup (xpe_ix ix_list (yqv 1 vl) (yqv 2 vl) (fun _ _ => rfl)) (yqv 3 vl) (fun _ _ => rfl)) (xpa_cons (xqe_bltn (v := .ty "list") gl T.z_list boot_list rfl) xpa_nil))))
                  (xpss_one
                    (xps_if (xpt_not (xpt_val (xqe_callD T.d__law_same_rows G__law_same_rows (hr.mono (by first | decide | omega)) (xpa_cons (xpe_ix ix_tup (xpe_ix ix_list (yqv 0 vl) (yqv 2 vl) (fun _ _ => rfl)) (yqv 3 vl) (fun _ _ => rfl)) (xpa_cons (xpe_ix ix_tup (xpe_ix ix_list (yqv 1 vl) (yqv 2 vl) (fun _ _ => rfl)) (yqv 3 vl) (fun _ _ => rfl)) xpa_nil)) gl)))
                      (xpss_one
                        (xps_ret xpe_bl))
                      xpss_nil))
                  (xpss_one
                    (xps_if (xPW_pt (xpw_or (xpt_val (xqe_callB call_isi gl T.z_isinstance boot_isinstance (xpa_cons (xpe_ix ix_tup (xpe_ix ix_list (yqv 0 vl) (yqv 2 vl) (fun _ _ => rfl)) (yqv 3 vl) (fun _ _ => rfl)) (xpa_cons (xqe_bltn (v := .ty "bool") gl T.z_bool boot_bool rfl) xpa_nil)))) (xpw_or1 (xpt_cmpR op_ne (xpe_ix ix_tup (xpe_ix ix_list (yqv 0 vl) (yqv 2 vl) (fun _ _ => rfl)) (yqv 3 vl) (fun _ _ => rfl)) (xpe_ix ix_tup (xpe_ix ix_list (yqv 1 vl) (yqv 2 vl) (fun _ _ => rfl)) (yqv 3 vl) (fun _ _ => rfl)) (nomark _)))))
                      (xpss_one
                        (xps_ret xpe_bl))
                      xpss_nil))))))))
      (xpss_one
        (xps_ret xpe_bl))))), ?_⟩
  rw [show start _ [V.ref a, V.ref b] = [some (.ref a), some (.ref b), none, none] from rfl]
  simp only [y_v0, r_g0, y_v1, r_g1, y_v2, r_g2, y_v3, r_g3, y_v4, r_g4, y_v5, r_g5, y_v6, r_g6, y_v7, r_g7, y_v8, r_g8, y_v9, r_g9, y_v10, r_g10, y_v11, r_g11, y_v12, r_g12, y_v13, r_g13, y_v14, r_g14, y_v15, r_g15, r_c, r_op, r_un, y_I0, y_I, y_U, r_eqI, r_eqS, r_neI, r_exbl, r_exint, r_test, r_B, r_and, r_or, r_not, r_andV, r_orV, r_notV, r_if, r_next, r_seqL, r_brk, r_cont, r_drop, r_ret, r_retN, r_ifS, r_asg, r_CB, r_nil, r_cons, r_call, r_tup, r_lst, r_p0, r_pS, r_disp, r_dget, r_sl, r_noPart, r_part, r_gNil, r_gCons, r_itF, r_nT, r_nF, r_len0, r_len1, r_len2, r_len3, r_len4, r_len7, r_len8, r_for, r_iEnum, r_iList, r_iTup, r_iRng1, r_iRng2, r_exI1, r_exI2, r_exR1, r_exR, r_bm, r_bm0, r_ixS, r_ixL, r_ixT, r_cat, r_slL, r_append, r_pop, r_exS2, r_exRl, r_intB, r_gTup, true_and, and_true, forall_const, Int.reduceLT, r_compG, r_setComp, r_yes, r_isi_int_str, r_isi_str_str, r_slT, r_inR, r_notInR, cxOf_K, wish_K, blk_K, r_blk1, r_blk2, List.map_cons, List.map_nil, List.getElem?_cons_zero, List.getElem?_cons_succ, Option.join_some, r_Vs, r_dnewK, r_dput, r_gSub, List.set_cons_zero, List.set_cons_succ, r_midL, r_sfld, r_gfld, r_make, r_iRev, r_listRev, r_listVals, r_slRev, r_dget2, r_listRng, r_kget1, r_iEnumT, r_extend, r_sortedS, r_lsm]
  refine ⟨fun σ H' => H' = H ∧ σ = [some (.ref a), some (.ref b), none, none], ?_, ?_⟩
  · refine isi_lstX (SqL.of ha) ⟨_, rfl, ?_⟩
    rw [if_neg (by decide)]
    refine ⟨_, .inl (SqL.of ha), _, .inl (SqL.of hb), ?_⟩
    rw [if_neg (by simp; omega)]
    exact ⟨rfl, rfl⟩
  rintro σ H1 ⟨rfl, rfl⟩
  refine later ?_
  simp only [y_v0, r_g0, y_v1, r_g1, y_v2, r_g2, y_v3, r_g3, y_v4, r_g4, y_v5, r_g5, y_v6, r_g6, y_v7, r_g7, y_v8, r_g8, y_v9, r_g9, y_v10, r_g10, y_v11, r_g11, y_v12, r_g12, y_v13, r_g13, y_v14, r_g14, y_v15, r_g15, r_c, r_op, r_un, y_I0, y_I, y_U, r_eqI, r_eqS, r_neI, r_exbl, r_exint, r_test, r_B, r_and, r_or, r_not, r_andV, r_orV, r_notV, r_if, r_next, r_seqL, r_brk, r_cont, r_drop, r_ret, r_retN, r_ifS, r_asg, r_CB, r_nil, r_cons, r_call, r_tup, r_lst, r_p0, r_pS, r_disp, r_dget, r_sl, r_noPart, r_part, r_gNil, r_gCons, r_itF, r_nT, r_nF, r_len0, r_len1, r_len2, r_len3, r_len4, r_len7, r_len8, r_for, r_iEnum, r_iList, r_iTup, r_iRng1, r_iRng2, r_exI1, r_exI2, r_exR1, r_exR, r_bm, r_bm0, r_ixS, r_ixL, r_ixT, r_cat, r_slL, r_append, r_pop, r_exS2, r_exRl, r_intB, r_gTup, true_and, and_true, forall_const, Int.reduceLT, r_compG, r_setComp, r_yes, r_isi_int_str, r_isi_str_str, r_slT, r_inR, r_notInR, cxOf_K, wish_K, blk_K, r_blk1, r_blk2, List.map_cons, List.map_nil, List.getElem?_cons_zero, List.getElem?_cons_succ, Option.join_some, r_Vs, r_dnewK, r_dput, r_gSub, List.set_cons_zero, List.set_cons_succ, r_midL, r_sfld, r_gfld, r_make, r_iRev, r_listRev, r_listVals, r_slRev, r_dget2, r_listRng, r_kget1, r_iEnumT, r_extend, r_sortedS]
  refine ⟨_, .inl (SqL.of hb), by omega, by omega, ?_⟩
  rw [Int.toNat_natCast]
  refine fw_range0 (n := ys.length) (fun i σ H' => Same H1 H' ∧ ∃ o2 o3, σ = [some (.ref a), some (.ref b), o2, o3]) ⟨Same.refl _, _, _, rfl⟩ ?_ ?_
  · rintro i σ H2 hi ⟨s2, o2, o3, rfl⟩
    obtain ⟨x, hxi⟩ : ∃ x, xs[i]? = some x := ⟨_, List.getElem?_eq_getElem (by omega)⟩
    obtain ⟨y, hyi⟩ : ∃ y, ys[i]? = some y := ⟨_, List.getElem?_eq_getElem hi⟩
    obtain ⟨st, f', hst, hv, _⟩ := hx.get hxi
    obtain ⟨st2, g', hst2, hw, _⟩ := hy.get hyi
    rw [hst] at hst2
    cases hst2
    have hdm := deepL_mem (List.mem_of_getElem? hst)
    have hR := rowC (d := d) (hv.same s2) (hw.same s2) (by omega) (Nat.le_trans (many_mem (List.mem_of_getElem? hst)) hm)
    obtain ⟨q1, q2, vs, vs', rfl, rfl, e1, e2, hl, l4, l2, ⟨sh, oh, ht1, ht2⟩, hc⟩ := hR
    simp only [y_v0, r_g0, y_v1, r_g1, y_v2, r_g2, y_v3, r_g3, y_v4, r_g4, y_v5, r_g5, y_v6, r_g6, y_v7, r_g7, y_v8, r_g8, y_v9, r_g9, y_v10, r_g10, y_v11, r_g11, y_v12, r_g12, y_v13, r_g13, y_v14, r_g14, y_v15, r_g15, r_c, r_op, r_un, y_I0, y_I, y_U, r_eqI, r_eqS, r_neI, r_exbl, r_exint, r_test, r_B, r_and, r_or, r_not, r_andV, r_orV, r_notV, r_if, r_next, r_seqL, r_brk, r_cont, r_drop, r_ret, r_retN, r_ifS, r_asg, r_CB, r_nil, r_cons, r_call, r_tup, r_lst, r_p0, r_pS, r_disp, r_dget, r_sl, r_noPart, r_part, r_gNil, r_gCons, r_itF, r_nT, r_nF, r_len0, r_len1, r_len2, r_len3, r_len4, r_len7, r_len8, r_for, r_iEnum, r_iList, r_iTup, r_iRng1, r_iRng2, r_exI1, r_exI2, r_exR1, r_exR, r_bm, r_bm0, r_ixS, r_ixL, r_ixT, r_cat, r_slL, r_append, r_pop, r_exS2, r_exRl, r_intB, r_gTup, true_and, and_true, forall_const, Int.reduceLT, r_compG, r_setComp, r_yes, r_isi_int_str, r_isi_str_str, r_slT, r_inR, r_notInR, cxOf_K, wish_K, blk_K, r_blk1, r_blk2, List.map_cons, List.map_nil, List.getElem?_cons_zero, List.getElem?_cons_succ, Option.join_some, r_Vs, r_dnewK, r_dput, r_gSub, List.set_cons_zero, List.set_cons_succ, r_midL, r_sfld, r_gfld, r_make, r_iRev, r_listRev, r_listVals, r_slRev, r_dget2, r_listRng, r_kget1, r_iEnumT, r_extend, r_sortedS, r_lsm]
    refine ⟨fun σ H' => Same H2 H' ∧ σ = [some (.ref a), some (.ref b), some (.int i), o3], ?_, ?_⟩
    · refine ⟨_, _, SqL.of (s2 _ _ ha), atI_nat hxi, isi_tupX e1 ⟨_, rfl, ?_⟩⟩
      rw [if_neg (by decide)]
      refine ⟨_, _, SqL.of (s2 _ _ ha), atI_nat hxi, q1, vs, rfl, .inr e1, _, _, SqL.of (s2 _ _ hb), atI_nat hyi, q2, vs', rfl, .inr e2, ?_⟩
      rw [if_neg (by simp [hl])]
      refine ⟨_, _, SqL.of (s2 _ _ ha), atI_nat hxi, slW2 e1 l2 l4 ht1 fun p1 H4 t1 hp1 => ?_⟩
      refine ⟨_, _, SqL.of (t1 _ _ (s2 _ _ hb)), atI_nat hyi, slW2 (t1.seqT e2) (by omega) (by omega) ht2 fun p2 H5 t2 hp2 => ?_⟩
      refine ⟨true, rq_two (t2.seqT hp1) hp2, _, rfl, ?_⟩
      rw [if_neg (by decide)]
      exact ⟨t1.trans t2, rfl⟩
    rintro σ H3 ⟨s3, rfl⟩
    refine later ?_
    simp only [y_v0, r_g0, y_v1, r_g1, y_v2, r_g2, y_v3, r_g3, y_v4, r_g4, y_v5, r_g5, y_v6, r_g6, y_v7, r_g7, y_v8, r_g8, y_v9, r_g9, y_v10, r_g10, y_v11, r_g11, y_v12, r_g12, y_v13, r_g13, y_v14, r_g14, y_v15, r_g15, r_c, r_op, r_un, y_I0, y_I, y_U, r_eqI, r_eqS, r_neI, r_exbl, r_exint, r_test, r_B, r_and, r_or, r_not, r_andV, r_orV, r_notV, r_if, r_next, r_seqL, r_brk, r_cont, r_drop, r_ret, r_retN, r_ifS, r_asg, r_CB, r_nil, r_cons, r_call, r_tup, r_lst, r_p0, r_pS, r_disp, r_dget, r_sl, r_noPart, r_part, r_gNil, r_gCons, r_itF, r_nT, r_nF, r_len0, r_len1, r_len2, r_len3, r_len4, r_len7, r_len8, r_for, r_iEnum, r_iList, r_iTup, r_iRng1, r_iRng2, r_exI1, r_exI2, r_exR1, r_exR, r_bm, r_bm0, r_ixS, r_ixL, r_ixT, r_cat, r_slL, r_append, r_pop, r_exS2, r_exRl, r_intB, r_gTup, true_and, and_true, forall_const, Int.reduceLT, r_compG, r_setComp, r_yes, r_isi_int_str, r_isi_str_str, r_slT, r_inR, r_notInR, cxOf_K, wish_K, blk_K, r_blk1, r_blk2, List.map_cons, List.map_nil, List.getElem?_cons_zero, List.getElem?_cons_succ, Option.join_some, r_Vs, r_dnewK, r_dput, r_gSub, List.set_cons_zero, List.set_cons_succ, r_midL, r_sfld, r_gfld, r_make, r_iRev, r_listRev, r_listVals, r_slRev, r_dget2, r_listRng, r_kget1, r_iEnumT, r_extend, r_sortedS]
    have s13 := s2.trans s3
    refine ⟨_, _, SqL.of (s13 _ _ hb), atI_nat hyi, q2, vs', rfl, .inr (s3.seqT e2), ⟨by decide, by decide, by omega, by omega⟩, ?_⟩
    refine fw_range (lo := 2) (fun j σ H' => Same H3 H' ∧ ∃ o3, σ = [some (.ref a), some (.ref b), some (.int i), o3]) ⟨Same.refl _, _, rfl⟩ ?_ ?_
    · rintro j σ H4 hj ⟨s4, o3', rfl⟩
      have hj' : 2 + j < vs'.length := by omega
      obtain ⟨v, hv⟩ : ∃ v, vs[2 + j]? = some v := ⟨_, List.getElem?_eq_getElem (by omega)⟩
      obtain ⟨v', hv'⟩ : ∃ v', vs'[2 + j]? = some v' := ⟨_, List.getElem?_eq_getElem hj'⟩
      have ej : (2 : Int) + (j : Int) = ((2 + j : Nat) : Int) := by omega
      have s14 := s13.trans s4
      have s24 := s3.trans s4
      have hcv := (hc (2 + j) v v' (by omega) hv hv').same s24
      simp only [y_v0, r_g0, y_v1, r_g1, y_v2, r_g2, y_v3, r_g3, y_v4, r_g4, y_v5, r_g5, y_v6, r_g6, y_v7, r_g7, y_v8, r_g8, y_v9, r_g9, y_v10, r_g10, y_v11, r_g11, y_v12, r_g12, y_v13, r_g13, y_v14, r_g14, y_v15, r_g15, r_c, r_op, r_un, y_I0, y_I, y_U, r_eqI, r_eqS, r_neI, r_exbl, r_exint, r_test, r_B, r_and, r_or, r_not, r_andV, r_orV, r_notV, r_if, r_next, r_seqL, r_brk, r_cont, r_drop, r_ret, r_retN, r_ifS, r_asg, r_CB, r_nil, r_cons, r_call, r_tup, r_lst, r_p0, r_pS, r_disp, r_dget, r_sl, r_noPart, r_part, r_gNil, r_gCons, r_itF, r_nT, r_nF, r_len0, r_len1, r_len2, r_len3, r_len4, r_len7, r_len8, r_for, r_iEnum, r_iList, r_iTup, r_iRng1, r_iRng2, r_exI1, r_exI2, r_exR1, r_exR, r_bm, r_bm0, r_ixS, r_ixL, r_ixT, r_cat, r_slL, r_append, r_pop, r_exS2, r_exRl, r_intB, r_gTup, true_and, and_true, forall_const, Int.reduceLT, r_compG, r_setComp, r_yes, r_isi_int_str, r_isi_str_str, r_slT, r_inR, r_notInR, cxOf_K, wish_K, blk_K, r_blk1, r_blk2, List.map_cons, List.map_nil, List.getElem?_cons_zero, List.getElem?_cons_succ, Option.join_some, r_Vs, r_dnewK, r_dput, r_gSub, List.set_cons_zero, List.set_cons_succ, r_midL, r_sfld, r_gfld, r_make, r_iRev, r_listRev, r_listVals, r_slRev, r_dget2, r_listRng, r_kget1, r_iEnumT, r_extend, r_sortedS]
      refine ⟨_, _, SqL.of (s14 _ _ hb), atI_nat hyi, ?_⟩
      simp only [y_v0, r_g0, y_v1, r_g1, y_v2, r_g2, y_v3, r_g3, y_v4, r_g4, y_v5, r_g5, y_v6, r_g6, y_v7, r_g7, y_v8, r_g8, y_v9, r_g9, y_v10, r_g10, y_v11, r_g11, y_v12, r_g12, y_v13, r_g13, y_v14, r_g14, y_v15, r_g15, r_c, r_op, r_un, y_I0, y_I, y_U, r_eqI, r_eqS, r_neI, r_exbl, r_exint, r_test, r_B, r_and, r_or, r_not, r_andV, r_orV, r_notV, r_if, r_next, r_seqL, r_brk, r_cont, r_drop, r_ret, r_retN, r_ifS, r_asg, r_CB, r_nil, r_cons, r_call, r_tup, r_lst, r_p0, r_pS, r_disp, r_dget, r_sl, r_noPart, r_part, r_gNil, r_gCons, r_itF, r_nT, r_nF, r_len0, r_len1, r_len2, r_len3, r_len4, r_len7, r_len8, r_for, r_iEnum, r_iList, r_iTup, r_iRng1, r_iRng2, r_exI1, r_exI2, r_exR1, r_exR, r_bm, r_bm0, r_ixS, r_ixL, r_ixT, r_cat, r_slL, r_append, r_pop, r_exS2, r_exRl, r_intB, r_gTup, true_and, and_true, forall_const, Int.reduceLT, r_compG, r_setComp, r_yes, r_isi_int_str, r_isi_str_str, r_slT, r_inR, r_notInR, cxOf_K, wish_K, blk_K, r_blk1, r_blk2, List.map_cons, List.map_nil, List.getElem?_cons_zero, List.getElem?_cons_succ, Option.join_some, r_Vs, r_dnewK, r_dput, r_gSub, List.set_cons_zero, List.set_cons_succ, r_midL, r_sfld, r_gfld, r_make, r_iRev, r_listRev, r_listVals, r_slRev, r_dget2, r_listRng, r_kget1, r_iEnumT, r_extend, r_sortedS]
      refine ⟨_, _, s24.seqT e2, by rw [ej]; exact atI_nat hv', ?_⟩
      rcases hcv with ⟨o, rfl, rfl⟩ | ⟨a1, b1, xs1, ys1, l1, f1, g1, rfl, rfl, k1, k2, k3, k4, k5, k6⟩
      · refine isi_opdL ⟨_, rfl, ?_⟩
        rw [if_neg (by decide)]
        refine ⟨_, _, SqL.of (s14 _ _ ha), atI_nat hxi, ?_⟩
        simp only [y_v0, r_g0, y_v1, r_g1, y_v2, r_g2, y_v3, r_g3, y_v4, r_g4, y_v5, r_g5, y_v6, r_g6, y_v7, r_g7, y_v8, r_g8, y_v9, r_g9, y_v10, r_g10, y_v11, r_g11, y_v12, r_g12, y_v13, r_g13, y_v14, r_g14, y_v15, r_g15, r_c, r_op, r_un, y_I0, y_I, y_U, r_eqI, r_eqS, r_neI, r_exbl, r_exint, r_test, r_B, r_and, r_or, r_not, r_andV, r_orV, r_notV, r_if, r_next, r_seqL, r_brk, r_cont, r_drop, r_ret, r_retN, r_ifS, r_asg, r_CB, r_nil, r_cons, r_call, r_tup, r_lst, r_p0, r_pS, r_disp, r_dget, r_sl, r_noPart, r_part, r_gNil, r_gCons, r_itF, r_nT, r_nF, r_len0, r_len1, r_len2, r_len3, r_len4, r_len7, r_len8, r_for, r_iEnum, r_iList, r_iTup, r_iRng1, r_iRng2, r_exI1, r_exI2, r_exR1, r_exR, r_bm, r_bm0, r_ixS, r_ixL, r_ixT, r_cat, r_slL, r_append, r_pop, r_exS2, r_exRl, r_intB, r_gTup, true_and, and_true, forall_const, Int.reduceLT, r_compG, r_setComp, r_yes, r_isi_int_str, r_isi_str_str, r_slT, r_inR, r_notInR, cxOf_K, wish_K, blk_K, r_blk1, r_blk2, List.map_cons, List.map_nil, List.getElem?_cons_zero, List.getElem?_cons_succ, Option.join_some, r_Vs, r_dnewK, r_dput, r_gSub, List.set_cons_zero, List.set_cons_succ, r_midL, r_sfld, r_gfld, r_make, r_iRev, r_listRev, r_listVals, r_slRev, r_dget2, r_listRng, r_kget1, r_iEnumT, r_extend, r_sortedS]
        refine ⟨_, _, s24.seqT e1, by rw [ej]; exact atI_nat hv, ?_⟩
        refine isi_opdB ⟨_, rfl, ?_⟩
        rw [if_neg (by decide)]
        refine ⟨_, _, SqL.of (s14 _ _ ha), atI_nat hxi, ?_⟩
        simp only [y_v0, r_g0, y_v1, r_g1, y_v2, r_g2, y_v3, r_g3, y_v4, r_g4, y_v5, r_g5, y_v6, r_g6, y_v7, r_g7, y_v8, r_g8, y_v9, r_g9, y_v10, r_g10, y_v11, r_g11, y_v12, r_g12, y_v13, r_g13, y_v14, r_g14, y_v15, r_g15, r_c, r_op, r_un, y_I0, y_I, y_U, r_eqI, r_eqS, r_neI, r_exbl, r_exint, r_test, r_B, r_and, r_or, r_not, r_andV, r_orV, r_notV, r_if, r_next, r_seqL, r_brk, r_cont, r_drop, r_ret, r_retN, r_ifS, r_asg, r_CB, r_nil, r_cons, r_call, r_tup, r_lst, r_p0, r_pS, r_disp, r_dget, r_sl, r_noPart, r_part, r_gNil, r_gCons, r_itF, r_nT, r_nF, r_len0, r_len1, r_len2, r_len3, r_len4, r_len7, r_len8, r_for, r_iEnum, r_iList, r_iTup, r_iRng1, r_iRng2, r_exI1, r_exI2, r_exR1, r_exR, r_bm, r_bm0, r_ixS, r_ixL, r_ixT, r_cat, r_slL, r_append, r_pop, r_exS2, r_exRl, r_intB, r_gTup, true_and, and_true, forall_const, Int.reduceLT, r_compG, r_setComp, r_yes, r_isi_int_str, r_isi_str_str, r_slT, r_inR, r_notInR, cxOf_K, wish_K, blk_K, r_blk1, r_blk2, List.map_cons, List.map_nil, List.getElem?_cons_zero, List.getElem?_cons_succ, Option.join_some, r_Vs, r_dnewK, r_dput, r_gSub, List.set_cons_zero, List.set_cons_succ, r_midL, r_sfld, r_gfld, r_make, r_iRev, r_listRev, r_listVals, r_slRev, r_dget2, r_listRng, r_kget1, r_iEnumT, r_extend, r_sortedS]
        refine ⟨_, _, s24.seqT e1, by rw [ej]; exact atI_nat hv, ?_⟩
        refine ⟨_, _, SqL.of (s14 _ _ hb), atI_nat hyi, ?_⟩
        simp only [y_v0, r_g0, y_v1, r_g1, y_v2, r_g2, y_v3, r_g3, y_v4, r_g4, y_v5, r_g5, y_v6, r_g6, y_v7, r_g7, y_v8, r_g8, y_v9, r_g9, y_v10, r_g10, y_v11, r_g11, y_v12, r_g12, y_v13, r_g13, y_v14, r_g14, y_v15, r_g15, r_c, r_op, r_un, y_I0, y_I, y_U, r_eqI, r_eqS, r_neI, r_exbl, r_exint, r_test, r_B, r_and, r_or, r_not, r_andV, r_orV, r_notV, r_if, r_next, r_seqL, r_brk, r_cont, r_drop, r_ret, r_retN, r_ifS, r_asg, r_CB, r_nil, r_cons, r_call, r_tup, r_lst, r_p0, r_pS, r_disp, r_dget, r_sl, r_noPart, r_part, r_gNil, r_gCons, r_itF, r_nT, r_nF, r_len0, r_len1, r_len2, r_len3, r_len4, r_len7, r_len8, r_for, r_iEnum, r_iList, r_iTup, r_iRng1, r_iRng2, r_exI1, r_exI2, r_exR1, r_exR, r_bm, r_bm0, r_ixS, r_ixL, r_ixT, r_cat, r_slL, r_append, r_pop, r_exS2, r_exRl, r_intB, r_gTup, true_and, and_true, forall_const, Int.reduceLT, r_compG, r_setComp, r_yes, r_isi_int_str, r_isi_str_str, r_slT, r_inR, r_notInR, cxOf_K, wish_K, blk_K, r_blk1, r_blk2, List.map_cons, List.map_nil, List.getElem?_cons_zero, List.getElem?_cons_succ, Option.join_some, r_Vs, r_dnewK, r_dput, r_gSub, List.set_cons_zero, List.set_cons_succ, r_midL, r_sfld, r_gfld, r_make, r_iRev, r_listRev, r_listVals, r_slRev, r_dget2, r_listRng, r_kget1, r_iEnumT, r_extend, r_sortedS]
        refine ⟨_, _, s24.seqT e2, by rw [ej]; exact atI_nat hv', ?_⟩
        refine ⟨by cases o <;> rfl, _, rfl, ?_⟩
        rw [decide_eq_true rfl, if_neg (by decide)]
        exact ⟨s4, _, rfl⟩
      · refine isi_lstX (SqL.of k2) ⟨_, rfl, ?_⟩
        rw [if_pos rfl]
        refine ⟨_, _, SqL.of (s14 _ _ ha), atI_nat hxi, ?_⟩
        simp only [y_v0, r_g0, y_v1, r_g1, y_v2, r_g2, y_v3, r_g3, y_v4, r_g4, y_v5, r_g5, y_v6, r_g6, y_v7, r_g7, y_v8, r_g8, y_v9, r_g9, y_v10, r_g10, y_v11, r_g11, y_v12, r_g12, y_v13, r_g13, y_v14, r_g14, y_v15, r_g15, r_c, r_op, r_un, y_I0, y_I, y_U, r_eqI, r_eqS, r_neI, r_exbl, r_exint, r_test, r_B, r_and, r_or, r_not, r_andV, r_orV, r_notV, r_if, r_next, r_seqL, r_brk, r_cont, r_drop, r_ret, r_retN, r_ifS, r_asg, r_CB, r_nil, r_cons, r_call, r_tup, r_lst, r_p0, r_pS, r_disp, r_dget, r_sl, r_noPart, r_part, r_gNil, r_gCons, r_itF, r_nT, r_nF, r_len0, r_len1, r_len2, r_len3, r_len4, r_len7, r_len8, r_for, r_iEnum, r_iList, r_iTup, r_iRng1, r_iRng2, r_exI1, r_exI2, r_exR1, r_exR, r_bm, r_bm0, r_ixS, r_ixL, r_ixT, r_cat, r_slL, r_append, r_pop, r_exS2, r_exRl, r_intB, r_gTup, true_and, and_true, forall_const, Int.reduceLT, r_compG, r_setComp, r_yes, r_isi_int_str, r_isi_str_str, r_slT, r_inR, r_notInR, cxOf_K, wish_K, blk_K, r_blk1, r_blk2, List.map_cons, List.map_nil, List.getElem?_cons_zero, List.getElem?_cons_succ, Option.join_some, r_Vs, r_dnewK, r_dput, r_gSub, List.set_cons_zero, List.set_cons_succ, r_midL, r_sfld, r_gfld, r_make, r_iRev, r_listRev, r_listVals, r_slRev, r_dget2, r_listRng, r_kget1, r_iEnumT, r_extend, r_sortedS]
        refine ⟨_, _, s24.seqT e1, by rw [ej]; exact atI_nat hv, ?_⟩
        refine ⟨_, _, SqL.of (s14 _ _ hb), atI_nat hyi, ?_⟩
        simp only [y_v0, r_g0, y_v1, r_g1, y_v2, r_g2, y_v3, r_g3, y_v4, r_g4, y_v5, r_g5, y_v6, r_g6, y_v7, r_g7, y_v8, r_g8, y_v9, r_g9, y_v10, r_g10, y_v11, r_g11, y_v12, r_g12, y_v13, r_g13, y_v14, r_g14, y_v15, r_g15, r_c, r_op, r_un, y_I0, y_I, y_U, r_eqI, r_eqS, r_neI, r_exbl, r_exint, r_test, r_B, r_and, r_or, r_not, r_andV, r_orV, r_notV, r_if, r_next, r_seqL, r_brk, r_cont, r_drop, r_ret, r_retN, r_ifS, r_asg, r_CB, r_nil, r_cons, r_call, r_tup, r_lst, r_p0, r_pS, r_disp, r_dget, r_sl, r_noPart, r_part, r_gNil, r_gCons, r_itF, r_nT, r_nF, r_len0, r_len1, r_len2, r_len3, r_len4, r_len7, r_len8, r_for, r_iEnum, r_iList, r_iTup, r_iRng1, r_iRng2, r_exI1, r_exI2, r_exR1, r_exR, r_bm, r_bm0, r_ixS, r_ixL, r_ixT, r_cat, r_slL, r_append, r_pop, r_exS2, r_exRl, r_intB, r_gTup, true_and, and_true, forall_const, Int.reduceLT, r_compG, r_setComp, r_yes, r_isi_int_str, r_isi_str_str, r_slT, r_inR, r_notInR, cxOf_K, wish_K, blk_K, r_blk1, r_blk2, List.map_cons, List.map_nil, List.getElem?_cons_zero, List.getElem?_cons_succ, Option.join_some, r_Vs, r_dnewK, r_dput, r_gSub, List.set_cons_zero, List.set_cons_succ, r_midL, r_sfld, r_gfld, r_make, r_iRev, r_listRev, r_listVals, r_slRev, r_dget2, r_listRng, r_kget1, r_iEnumT, r_extend, r_sortedS]
        refine ⟨_, _, s24.seqT e2, by rw [ej]; exact atI_nat hv', ?_⟩
        rw [r_lsm]
        refine (mk_lsm (l1) (xs1) (ys1) (f1) (g1) (k1) (k2) (k3) (k4) (k5) (k6) (fun H5 s5 => ⟨_, rfl, ?_⟩))
        rw [if_neg (by decide)]
        exact ⟨s4.trans s5, _, rfl⟩
    · rintro σ H4 ⟨s4, o3', rfl⟩
      exact ⟨s13.trans s4, _, _, rfl⟩
  · rintro σ H2 ⟨s2, o2, o3, rfl⟩
    refine later ?_
    simp only [y_v0, r_g0, y_v1, r_g1, y_v2, r_g2, y_v3, r_g3, y_v4, r_g4, y_v5, r_g5, y_v6, r_g6, y_v7, r_g7, y_v8, r_g8, y_v9, r_g9, y_v10, r_g10, y_v11, r_g11, y_v12, r_g12, y_v13, r_g13, y_v14, r_g14, y_v15, r_g15, r_c, r_op, r_un, y_I0, y_I, y_U, r_eqI, r_eqS, r_neI, r_exbl, r_exint, r_test, r_B, r_and, r_or, r_not, r_andV, r_orV, r_notV, r_if, r_next, r_seqL, r_brk, r_cont, r_drop, r_ret, r_retN, r_ifS, r_asg, r_CB, r_nil, r_cons, r_call, r_tup, r_lst, r_p0, r_pS, r_disp, r_dget, r_sl, r_noPart, r_part, r_gNil, r_gCons, r_itF, r_nT, r_nF, r_len0, r_len1, r_len2, r_len3, r_len4, r_len7, r_len8, r_for, r_iEnum, r_iList, r_iTup, r_iRng1, r_iRng2, r_exI1, r_exI2, r_exR1, r_exR, r_bm, r_bm0, r_ixS, r_ixL, r_ixT, r_cat, r_slL, r_append, r_pop, r_exS2, r_exRl, r_intB, r_gTup, true_and, and_true, forall_const, Int.reduceLT, r_compG, r_setComp, r_yes, r_isi_int_str, r_isi_str_str, r_slT, r_inR, r_notInR, cxOf_K, wish_K, blk_K, r_blk1, r_blk2, List.map_cons, List.map_nil, List.getElem?_cons_zero, List.getElem?_cons_succ, Option.join_some, r_Vs, r_dnewK, r_dput, r_gSub, List.set_cons_zero, List.set_cons_succ, r_midL, r_sfld, r_gfld, r_make, r_iRev, r_listRev, r_listVals, r_slRev, r_dget2, r_listRng, r_kget1, r_iEnumT, r_extend, r_sortedS]
    exact q H2 s2
theorem ok_lsm (T : Txt K mg t) : ∀ d, FnOk P w K mg base CX0 (d + 1) t.f__law_same_rows t.e__law_same_rows ["_law_found", "_law_due"] (sp_lsm K d)
  | 0 => ⟨fun vs H Q E h => by obtain ⟨_, _, _, _, _, _, _, _, _, _, _, _, h, _⟩ := h; omega, fun _ _ _ _ _ _ _ _ _ _ _ _ _ h => by obtain ⟨_, _, _, _, _, _, _, _, _, _, _, _, h, _⟩ := h; omega⟩
  | d + 1 => lsm_step T d (ok_lsm T d)
end
end K78
set_option maxHeartbeats 4000000
namespace K78
open PySem L2 PyProof.Rows FA FB FS FP FG FO FR
noncomputable def sp_law (K : PySem.W.Frag) : Sp := fun vs H Q _ => ∃ (a : Addr) (ns : List Int), vs = [.ref a] ∧ SqL K H a (ns.map V.int) ∧ ns.length ≤ 63 ∧ (∀ z ∈ ns, Builtin.Int.intBits z ≤ 2 ^ 20) ∧ ∀ H', Q (.bl true) H'
end K78
set_option maxHeartbeats 4000000
namespace K78
open PySem L2 PyProof.Rows FA FB FS FP FG FO FR
noncomputable def sp_mixed : Sp := fun vs H Q _ => ∃ c k : Int, vs = [.int c, .int k] ∧ Builtin.Int.intBits c ≤ 2 ^ 20 ∧ 0 ≤ k ∧ k ≤ 1000 ∧ Q (.int (mixed c k)) H
theorem r_mixed {c k : Int} {H : Hp} {Q : VK} {E : XK} : sp_mixed [.int c, .int k] H Q E = (Builtin.Int.intBits c ≤ 2 ^ 20 ∧ 0 ≤ k ∧ k ≤ 1000 ∧ Q (.int (mixed c k)) H) := propext ⟨by rintro ⟨_, _, e, q⟩; cases e; exact q, by intro q; exact ⟨c, k, rfl, q⟩⟩
section
variable {P : Program} {w : World} {K : PySem.W.Frag} {mg : Str → Option Value} {base : Heap} {t : Ad}
theorem ok_mixed (T : Txt K mg t) : FnOk P w K mg base CX0 1 t.f__law_mixed t.e__law_mixed ["_law_cell", "_law_k"] sp_mixed := by
  refine T.d__law_mixed.F.ok sc__law_mixed (fun vs H Q E h => by obtain ⟨_, _, rfl, _⟩ := h; rfl) (fun cdv A outer s H vs Q E hr h => ?_)
  obtain ⟨c, k, rfl, hb, k0, k1, q⟩ := h
  refine ⟨_,
      (XSs.h
      (xpss_cons
        (xps_if (xpt_cmpR yop_ge (yqv 0 vl) (xpe_op yop_pow xpe_int xpe_int) (nomark _))
          (xpss_one
            (xps_ret (xpe_op yop_mod (xpe_op yop_fdivB (xpe_op yop_sub (yqv 0 vl) (xpe_op yop_pow xpe_int xpe_int)) (xpe_op yop_shl xpe_int (xpe_op yop_mul xpe_int (xpe_op yop_mod (yqv 1 vl) xpe_int)))) (xpe_op yop_shl xpe_int xpe_int))))
          xpss_nil)
      (xpss_cons
        (xps_set (i := 2) sc__law_mixed.nd rfl ll (xpe_op yop_mod (xpe_op yop_mul (xpe_op yop_add (xpe_op yop_add (xpe_op yop_add (xpe_op yop_mulB (yqv 0 vl) (yqv 0 vl)) (xpe_op yop_mul xpe_int (yqv 0 vl))) (xpe_op yop_mul xpe_int (yqv 1 vl))) xpe_int) xpe_int) xpe_int))
      (xpss_one
        (xps_ret (xpe_op yop_mod (xpe_op yop_add (xpe_op yop_mul (yqv 2 vl) (yqv 2 vl)) xpe_int) xpe_int)))))), ?_⟩
  rw [show start _ [V.int c, V.int k] = [some (.int c), some (.int k), none] from rfl]
  simp_arith [r_listRng, r_kget1, r_iEnumT, r_extend, r_sortedS]
  unfold mixed at q
  have cp : CPow 10 40 := ⟨by decide, by decide, by decide⟩
  refine ⟨cp, ite_dec (fun e => ?_) (fun e => ?_)⟩
  · rw [if_pos e] at q
    have m0 : 0 ≤ k % 60 := Int.emod_nonneg _ (by decide)
    have m1 : k % 60 < 60 := Int.emod_lt_of_pos _ (by decide)
    refine ⟨cp, .inl ⟨by decide, by decide⟩, ⟨by omega, by omega, by decide⟩, CDivB.pow (by omega), ⟨by decide, by decide, by decide⟩, by decide, q⟩
  · rw [if_neg e] at q
    have n0 : 0 ≤ (c * c + 3 * c + 7919 * k + 1) * 48271 % 2147483629 := Int.emod_nonneg _ (by decide)
    have n1 : (c * c + 3 * c + 7919 * k + 1) * 48271 % 2147483629 < 2147483629 := Int.emod_lt_of_pos _ (by decide)
    refine ⟨mulSelf hb, .inl ⟨by decide, by decide⟩, .inl ⟨by decide, by decide⟩, .inr ⟨by decide, by decide⟩, .inl ⟨by omega, by omega⟩, q⟩
end
end K78
set_option maxHeartbeats 4000000
namespace K78
open PySem L2 PyProof.Rows FA FB FS FP FG FO FR
noncomputable def sp_names : Sp := fun vs H Q _ => ∃ c : Int, vs = [.int c] ∧ Builtin.Int.intBits c ≤ 2 ^ 20 ∧ ∀ p H', Same H H' → H p = none → H' p = some (.lst ((namesF c).map V.str)) → Q (.ref p) H'
theorem r_names {c : Int} {H : Hp} {Q : VK} {E : XK} : sp_names [.int c] H Q E = (Builtin.Int.intBits c ≤ 2 ^ 20 ∧ ∀ p H', Same H H' → H p = none → H' p = some (.lst ((namesF c).map V.str)) → Q (.ref p) H') := propext ⟨by rintro ⟨_, e, q⟩; cases e; exact q, by intro q; exact ⟨c, rfl, q⟩⟩
section
variable {P : Program} {w : World} {K : PySem.W.Frag} {mg : Str → Option Value} {base : Heap} {t : Ad}
theorem ok_names (T : Txt K mg t) : FnOk P w K mg base CX0 2 t.f__law_names t.e__law_names ["_law_cell"] sp_names := by
  have G__law_mixed := ok_mixed (P := P) (w := w) (base := base) T
  refine T.d__law_names.F.ok sc__law_names (fun vs H Q E h => by obtain ⟨_, rfl, _⟩ := h; rfl) (fun cdv A outer s H vs Q E hr h => ?_)
  obtain ⟨c, rfl, hb, q⟩ := h
  refine ⟨_,
      (XSs.h
      (xpss_cons
        (xps_set (i := 1) sc__law_names.nd rfl ll xpe_str)
      (xpss_cons
        (xps_set (i := 2) sc__law_names.nd rfl ll (xqe_callD T.d__law_mixed G__law_mixed (hr.mono (by first | decide | omega)) (xpa_cons (yqv 0 vl) (xpa_cons xpe_int xpa_nil)) gl))
      (xpss_cons
        (xps_set (i := 3) sc__law_names.nd rfl ll (xpe_op yop_add xpe_int (xpe_op yop_mod (yqv 2 vl) xpe_int)))
      (xpss_cons
        (xps_set (i := 4) sc__law_names.nd rfl ll (xpe_op yop_mod (xpe_op yop_fdivB (yqv 2 vl) xpe_int) (yqv 3 vl)))
      (xpss_cons
        (xps_set (i := 5) sc__law_names.nd rfl ll (xpe_lst xpa_nil))
      (xpss_cons
        (xps_for PassesOwn.never rfl (xpi_range1 gl T.z_range (xpa_cons xpe_int xpa_nil)) (xpg_name (i := 6) sc__law_names.nd rfl ll)
          (xpss_cons
            (xps_set (i := 7) sc__law_names.nd rfl ll xpe_str)
          (xpss_cons
            (xps_for PassesOwn.never rfl (xpi_range1 gl T.z_range (xpa_cons (yqv 3 vl) xpa_nil)) (xpg_name (i := 8) sc__law_names.nd rfl ll)
              (xpss_cons
                (xps_set (i := 9) sc__law_names.nd rfl ll (xpe_op yop_add (xpe_op yop_add (xpe_op yop_fdivB (yqv 2 vl) xpe_int) (xpe_op yop_mul (yqv 8 vl) (yqv 8 vl))) (xpe_op yop_mul (xqe_callTy call_int1 gl T.z_int boot_int (xpa_cons (xpe_cmpR op_eq (yqv 8 vl) (yqv 4 vl) (nomark _)) xpa_nil)) (yqv 6 vl))))
              (xpss_one
                (xps_set (i := 7) sc__law_names.nd rfl ll (xpe_op op_add_str (yqv 7 vl) (xpe_ix ix_str (yqv 1 vl) (xpe_op yop_mod (yqv 9 vl) xpe_int) (fun _ _ => rfl)))))))
          (xpss_one
            (xps_expr (xpe_bm PySem.F.plainAttrs_list PySem.F.slot_list_append PySem.F.type_list_append mt_append (yqv 5 vl) (xpa_cons (yqv 7 vl) xpa_nil)))))))
      (xpss_cons
        (xps_if (xpt_cmpR op_eq (xpe_op yop_mod (xpe_op yop_fdivB (yqv 2 vl) xpe_int) xpe_int) xpe_int (nomark _))
          (xpss_one
            (xps_set (i := 5) sc__law_names.nd rfl ll (xpe_lst (xpa_const (by rfl)))))
          xpss_nil)
      (xpss_one
        (xps_ret (yqv 5 vl))))))))))), ?_⟩
  rw [show start _ [V.int c] = [some (.int c), none, none, none, none, none, none, none, none, none] from rfl]
  simp_arith [r_listRng, r_kget1, r_iEnumT, r_extend, r_sortedS, r_mixed]
  refine ⟨hb, by decide, by decide, ?_⟩
  unfold namesF at q
  have m0 := mixed_nn c 3
  generalize mixed c 3 = m at m0 q ⊢
  have z0 : 0 ≤ m % 6 := Int.emod_nonneg _ (by decide)
  have z1 : m % 6 < 6 := Int.emod_lt_of_pos _ (by decide)
  have l0 : 0 ≤ m / 6 % (1 + m % 6) := Int.emod_nonneg _ (by omega)
  refine ⟨CDivB.small (by decide) (by decide), by omega, fun p0 hp0 => ⟨by decide, by decide, fw_range0 (fun i σ H' => Same H H' ∧ H' p0 = some (.lst ((nms m i).map V.str)) ∧ ∃ o6 o7 o8 o9, σ = [some (.int c), some (.str "abcdefghijklmnopqrstuvwxyz"), some (.int m), some (.int (1 + m % 6)), some (.int (m / 6 % (1 + m % 6))), some (.ref p0), o6, o7, o8, o9])
    ⟨Same.upd hp0, upd_same, _, _, _, _, rfl⟩ ?_ ?_⟩⟩
  · rintro i σ H' hi ⟨sm, hl, o6, o7, o8, o9, rfl⟩
    simp_arith [r_listRng, r_kget1, r_iEnumT, r_extend, r_sortedS]
    refine ⟨by omega, by omega, fw_range0 (fun j σ H2 => H2 = H' ∧ ∃ o8 o9, σ = [some (.int c), some (.str "abcdefghijklmnopqrstuvwxyz"), some (.int m), some (.int (1 + m % 6)), some (.int (m / 6 % (1 + m % 6))), some (.ref p0), some (.int i), some (.str (nm m (m / 6 % (1 + m % 6)) i j)), o8, o9])
      ⟨rfl, _, _, rfl⟩ ?_ ?_⟩
    · rintro j σ H2 hj ⟨rfl, o8, o9, rfl⟩
      simp_arith [r_listRng, r_kget1, r_iEnumT, r_extend, r_sortedS]
      have hi8 : i < 8 := hi
      have hb1 : (if decide ((j : Int) = m / 6 % (1 + m % 6)) = true then (1 : Int) else 0) = 0 ∨ (if decide ((j : Int) = m / 6 % (1 + m % 6)) = true then (1 : Int) else 0) = 1 := by
        split
        · exact .inr rfl
        · exact .inl rfl
      refine ⟨CDivB.small (by decide) (by decide), .inl ⟨by omega, by omega⟩, .inl ⟨by omega, by omega⟩, by decide +kernel, _, let_at _, ?_, _, _, rfl⟩
      rw [nm_len]
      show j + 1 ≤ sizeLine
      rw [sizeLine_eq]; omega
    · rintro σ H2 ⟨rfl, o8, o9, rfl⟩
      simp_arith [r_listRng, r_kget1, r_iEnumT, r_extend, r_sortedS]
      have hi8 : i < 8 := hi
      refine ⟨.inl ⟨rfl, _, SqL.of hl⟩, _, hl, ?_, fun b o e => ?_, ?_, _, _, _, _, rfl⟩
      · rw [List.length_map]
        unfold nms
        rw [List.length_map, List.length_range, sizeLine_eq]; omega
      · rw [upd_ne (ne_of_none e hp0)]; exact sm b o e
      · rw [upd_same, nms_succ, List.map_append]
        rfl
  · rintro σ H' ⟨sm, hl, o6, o7, o8, o9, rfl⟩
    simp_arith [r_listRng, r_kget1, r_iEnumT, r_extend, r_sortedS]
    refine ⟨CDivB.small (by decide) (by decide), ite_dec (fun e => ?_) (fun e => ?_)⟩
    · rw [if_pos e] at q
      intro p hp
      exact q p _ (sm.trans (Same.upd hp)) (sm.free hp) upd_same
    · rw [if_neg e] at q
      exact q p0 H' sm hp0 hl
end
end K78
set_option maxHeartbeats 4000000
namespace K78
open PySem L2 PyProof.Rows FA FB FS FP FG FO FR
noncomputable def bd_operand (K : PySem.W.Frag) (m : Int) (w : Int) (a : Addr) (H : Hp) (Q : VK) : Prop := ∃ (ns : List Str), SqL K H a (ns.map V.str) ∧ 0 ≤ w ∧ w ≤ 8 ∧ Q (opdF m ns w) H
noncomputable def sp_operand (K : PySem.W.Frag) : Sp := fun vs H Q _ => ∃ (m : Int) (w : Int) (a : Addr), vs = [.int m, .ref a, .int w] ∧ bd_operand K m w a H Q
section
variable {P : Program} {w : World} {K : PySem.W.Frag} {mg : Str → Option Value} {base : Heap} {t : Ad}
theorem ok_operand (T : Txt K mg t) : FnOk P w K mg base CX0 1 t.f__law_operand t.e__law_operand ["_law_mixed_here", "_law_names_here", "_law_width"] (sp_operand K) := by
  refine T.d__law_operand.F.ok sc__law_operand (fun vs H Q E h => by obtain ⟨_, _, _, rfl, _⟩ := h; rfl) (fun cdv A outer s H vs Q E hr h => ?_)
  obtain ⟨m, w, a, rfl, ns, hS, w0, w8, q⟩ := h
  refine ⟨_,
      (XSs.h
      (xpss_cons
        (xps_if (xPW_pt (xpw_and (xpt_cmpR yop_gt (xpe_op yop_mod (yqv 0 vl) xpe_int) xpe_int (nomark _)) (xpw_and1 (xpt_cmpR yop_gt (xqe_callB call_len_seq gl T.z_len PySem.boot_len (xpa_cons (yqv 1 vl) xpa_nil)) xpe_int (nomark _)))))
          (xpss_one
            (xps_ret (xpe_ix ix_list (yqv 1 vl) (xpe_op yop_mod (xpe_op yop_fdivB (yqv 0 vl) xpe_int) (xqe_callB call_len_seq gl T.z_len PySem.boot_len (xpa_cons (yqv 1 vl) xpa_nil))) (fun _ _ => rfl))))
          xpss_nil)
      (xpss_one
        (xps_ret (xpe_op yop_mod (xpe_op yop_fdivB (yqv 0 vl) xpe_int) (xpe_op yop_shl xpe_int (yqv 2 vl))))))), ?_⟩
  rw [show start _ [V.int m, V.ref a, V.int w] = [some (.int m), some (.ref a), some (.int w)] from rfl]
  simp_arith [r_listRng, r_kget1, r_iEnumT, r_extend, r_sortedS]
  unfold opdF at q
  have np : (0 : Int) < 1 * 2 ^ w.toNat := by rw [Int.one_mul]; exact Int.pow_pos (by decide)
  refine ite_dec (fun e => ?_) (fun e => ?_)
  · refine ⟨_, .inl hS, ite_dec (fun e2 => ?_) (fun e2 => ?_)⟩
    · rw [List.length_map] at e2
      have hn : ¬ ns = [] := fun z => by rw [z] at e2; simp at e2
      rw [if_pos ⟨e, hn⟩] at q
      refine ⟨CDivB.small (by decide) (by decide), _, .inl hS, ?_, _, _, hS, ?_, q⟩
      · rw [List.length_map]; exact e2
      · rw [List.length_map]; exact pick_at hn
    · rw [List.length_map] at e2
      have hn : ns = [] := List.length_eq_zero_iff.mp (by omega)
      rw [if_neg (fun z => z.2 hn)] at q
      exact ⟨CDivB.small (by decide) (by decide), ⟨by omega, by omega, by decide⟩, np, q⟩
  · rw [if_neg (fun z => e z.1)] at q
    exact ⟨CDivB.small (by decide) (by decide), ⟨by omega, by omega, by decide⟩, np, q⟩
theorem r_operand {m w : Int} {a : Addr} {H : Hp} {Q : VK} {E : XK} : sp_operand K [.int m, .ref a, .int w] H Q E = ∃ ns, SqL K H a (ns.map V.str) ∧ 0 ≤ w ∧ w ≤ 8 ∧ Q (opdF m ns w) H := propext ⟨by rintro ⟨_, _, _, e, q⟩; cases e; exact q, fun q => ⟨_, _, _, rfl, q⟩⟩
end
end K78
set_option maxHeartbeats 4000000
namespace K78
open PySem L2 PyProof.Rows FA FB FS FP FG FO FR
noncomputable def bd_deed (K : PySem.W.Frag) (m : Int) (w : Int) (a : Addr) (H : Hp) (Q : VK) : Prop := ∃ (ns : List Str), SqL K H a (ns.map V.str) ∧ 0 ≤ w ∧ w ≤ 8 ∧ ∀ p H', Same H H' → H p = none → H' p = some (.tup (deedF m ns w)) → Q (.ref p) H'
noncomputable def sp_deed (K : PySem.W.Frag) : Sp := fun vs H Q _ => ∃ (m : Int) (w : Int) (a : Addr), vs = [.int m, .ref a, .int w] ∧ bd_deed K m w a H Q
section
variable {P : Program} {w : World} {K : PySem.W.Frag} {mg : Str → Option Value} {base : Heap} {t : Ad}
theorem ok_deed (T : Txt K mg t) : FnOk P w K mg base CX0 2 t.f__law_deed t.e__law_deed ["_law_mixed_here", "_law_names_here", "_law_width"] (sp_deed K) := by
  have G__law_operand := ok_operand (P := P) (w := w) (base := base) T
  refine T.d__law_deed.F.ok sc__law_deed (fun vs H Q E h => by obtain ⟨_, _, _, rfl, _⟩ := h; rfl) (fun cdv A outer s H vs Q E hr h => ?_)
  obtain ⟨m, w, a, rfl, ns, hS, w0, w8, q⟩ := h
  refine ⟨_,
      (XSs.h
      (xpss_cons
        (xps_set (i := 3) sc__law_deed.nd rfl ll (xqe_callD T.d__law_operand G__law_operand (hr.mono (by first | decide | omega)) (xpa_cons (xpe_op yop_fdivB (yqv 0 vl) xpe_int) (xpa_cons (yqv 1 vl) (xpa_cons (yqv 2 vl) xpa_nil))) gl))
      (xpss_cons
        (xps_if (xPW_pt (xpw_or (xpt_cmpR op_eq (xpe_op yop_mod (yqv 0 vl) xpe_int) xpe_int (nomark _)) (xpw_or1 (xpt_cmpR op_eq (xqe_callB call_len_seq gl T.z_len PySem.boot_len (xpa_cons (yqv 1 vl) xpa_nil)) xpe_int (nomark _)))))
          (xpss_one
            (xps_ret (xpe_tup (xpa_cons xpe_str (xpa_cons (yqv 3 vl) xpa_nil)))))
          xpss_nil)
      (xpss_cons
        (xps_set (i := 4) sc__law_deed.nd rfl ll (xpe_ix ix_list (yqv 1 vl) (xpe_op yop_mod (xpe_op yop_fdivB (yqv 0 vl) xpe_int) (xqe_callB call_len_seq gl T.z_len PySem.boot_len (xpa_cons (yqv 1 vl) xpa_nil))) (fun _ _ => rfl)))
      (xpss_cons
        (xps_if (xpt_cmpR op_eq (xpe_op yop_mod (yqv 0 vl) xpe_int) xpe_int (nomark _))
          (xpss_one
            (xps_ret (xpe_tup (xpa_cons xpe_str (xpa_cons (yqv 4 vl) (xpa_cons (yqv 3 vl) xpa_nil))))))
          xpss_nil)
      (xpss_cons
        (xps_set (i := 5) sc__law_deed.nd rfl ll (xpe_ix ix_list (xpe_lst (xpa_const (by rfl))) (xpe_op yop_sub (xpe_op yop_mod (yqv 0 vl) xpe_int) xpe_int) (fun _ _ => rfl)))
      (xpss_one
        (xps_ret (xpe_tup (xpa_cons (yqv 5 vl) (xpa_cons (yqv 4 vl) (xpa_cons (yqv 3 vl) (xpa_cons (xqe_callD T.d__law_operand G__law_operand (hr.mono (by first | decide | omega)) (xpa_cons (xpe_op yop_fdivB (yqv 0 vl) xpe_int) (xpa_cons (yqv 1 vl) (xpa_cons (yqv 2 vl) xpa_nil))) gl) xpa_nil))))))))))))), ?_⟩
  rw [show start _ [V.int m, V.ref a, V.int w] = [some (.int m), some (.ref a), some (.int w), none, none, none] from rfl]
  simp_arith [r_listRng, r_kget1, r_iEnumT, r_extend, r_sortedS, r_operand]
  unfold deedF at q
  have n0 : 0 ≤ m % 9 := Int.emod_nonneg _ (by decide)
  have n1 : m % 9 < 9 := Int.emod_lt_of_pos _ (by decide)
  have cd : ∀ z, 0 < z → z < 1073741824 → CDivB m z := fun z h1 h2 => CDivB.small h1 h2
  refine ⟨cd _ (by decide) (by decide), ns, hS, w0, w8, ite_dec (fun e => ?_) (fun e => ?_)⟩
  · rw [if_pos (.inl e)] at q
    intro p hp
    exact q p _ (Same.upd hp) hp upd_same
  · refine ⟨_, .inl hS, ite_dec (fun e2 => ?_) (fun e2 => ?_)⟩
    · rw [List.length_map] at e2
      rw [if_pos (.inr (List.length_eq_zero_iff.mp (by omega)))] at q
      intro p hp
      exact q p _ (Same.upd hp) hp upd_same
    · rw [List.length_map] at e2
      have hn : ¬ ns = [] := fun z => e2 (by rw [z]; rfl)
      rw [if_neg (fun z => z.elim e hn)] at q
      refine ⟨cd _ (by decide) (by decide), _, .inl hS, ?_, _, _, hS, (by rw [List.length_map]; exact pick_at hn), ite_dec (fun e3 => ?_) (fun e3 => ?_)⟩
      · rw [List.length_map]
        have := List.length_pos_iff.mpr hn
        omega
      · rw [if_pos e3] at q
        intro p hp
        exact q p _ (Same.upd hp) hp upd_same
      · rw [if_neg e3] at q
        intro p hp
        refine ⟨_, _, SqL.of upd_same, ops_at (by omega) (by omega), cd _ (by decide) (by decide), ns, (Same.upd hp).seq hS, w0, w8, fun p2 hp2 => ?_⟩
        exact q p2 _ ((Same.upd hp).trans (Same.upd hp2)) ((Same.upd hp).free hp2) upd_same
theorem r_deed {m w : Int} {a : Addr} {H : Hp} {Q : VK} {E : XK} : sp_deed K [.int m, .ref a, .int w] H Q E = ∃ ns, SqL K H a (ns.map V.str) ∧ 0 ≤ w ∧ w ≤ 8 ∧ ∀ p H', Same H H' → H p = none → H' p = some (.tup (deedF m ns w)) → Q (.ref p) H' := propext ⟨by rintro ⟨_, _, _, e, q⟩; cases e; exact q, fun q => ⟨_, _, _, rfl, q⟩⟩
end
end K78
set_option maxHeartbeats 4000000
namespace K78
open PySem L2 PyProof.Rows FA FB FS FP FG FO FR
noncomputable def bd_into (K : PySem.W.Frag) (S : Addr) (y : V) (H : Hp) (Q : VK) : Prop := ∃ (H0 : Hp) (xs : List V) (e : Ent) (es : List Ent) (f : List Addr) (g : List Addr) (r : Stm) (B : Nat), Same H0 H ∧ H S = some (.lst xs) ∧ StkV K H xs (e :: es) f ∧ StmV K H y r g ∧ (S :: (f ++ g)).Nodup ∧ (∀ a ∈ S :: (f ++ g), H0 a = none) ∧
  (∀ e' ∈ e :: es, e'.rows.length ≤ B) ∧ B ≤ 10000 ∧ ∀ H', StkOk K H0 H' S (e.add r :: es) (B + 1) → Q .non H'
noncomputable def sp_into (K : PySem.W.Frag) : Sp := fun vs H Q _ => ∃ (S : Addr) (y : V), vs = [.ref S, y] ∧ bd_into K S y H Q
section
variable {P : Program} {w : World} {K : PySem.W.Frag} {mg : Str → Option Value} {base : Heap} {t : Ad}
theorem ok_into (T : Txt K mg t) : FnOk P w K mg base CX0 1 t.f__law_into t.e__law_into ["_law_stack", "_law_row"] (sp_into K) := by
  refine T.d__law_into.F.ok sc__law_into (fun vs H Q E h => by obtain ⟨_, _, rfl, _⟩ := h; rfl) (fun cdv A outer s H vs Q E hr h => ?_)
  obtain ⟨S, y, rfl, H0, xs, e, es, f, g, r, B, sm, hS, hK, hy, nd, fr0, few, hB, q⟩ := h
  refine ⟨_,
      (XSs.h
      (xpss_one
        (xps_expr (xpe_bm PySem.F.plainAttrs_list PySem.F.slot_list_append PySem.F.type_list_append mt_append (xpe_ix ix_tup (xpe_ix ix_list (yqv 0 vl) (xpe_un yun_neg xpe_int) (fun _ _ => rfl)) xpe_int (fun _ _ => rfl)) (xpa_cons (yqv 1 vl) xpa_nil))))), ?_⟩
  rw [show start _ [V.ref S, y] = [some (.ref S), some y] from rfl]
  obtain ⟨xs', x, f', g', rfl, rfl, h1, h2⟩ := hK.inv
  obtain ⟨qq, a, o, ys, zs, fa, fo, rfl, hq, ha, hr1, ho, hr2, rfl⟩ := h2
  simp_arith [r_listRng, r_kget1, r_iEnumT, r_extend, r_sortedS]
  refine ⟨_, _, SqL.of hS, atI_last, ?_⟩
  simp_arith [r_listRng, r_kget1, r_iEnumT, r_extend, r_sortedS]
  refine ⟨_, _, hq, rfl, .inl ⟨rfl, _, SqL.of ha⟩, ?_⟩
  simp_arith [r_listRng, r_kget1, r_iEnumT, r_extend, r_sortedS]
  have ly := hr1.length
  have lB := few e (by simp)
  have nd' : (S :: ((a :: o :: ((fa ++ g) ++ fo)) ++ f')).Nodup := by
    refine (List.Perm.nodup_iff ?_).mp nd
    refine .cons _ (.cons _ (.cons _ ?_))
    show ((fa ++ fo) ++ f' ++ g).Perm ((fa ++ g ++ fo) ++ f')
    have e1 : (fa ++ fo) ++ f' ++ g = fa ++ ((fo ++ f') ++ g) := by simp only [List.append_assoc]
    have e2 : (fa ++ g ++ fo) ++ f' = fa ++ (g ++ (fo ++ f')) := by simp only [List.append_assoc]
    rw [e1, e2]
    exact List.Perm.append_left fa List.perm_append_comm
  have mem' : ∀ b, b ∈ S :: ((a :: o :: ((fa ++ g) ++ fo)) ++ f') → b ∈ S :: ((a :: o :: (fa ++ fo)) ++ f' ++ g) := fun b hb => by
    simp only [List.mem_cons, List.mem_append] at hb ⊢
    rcases hb with z | (z | z | (z | z) | z) | z <;> simp [z]
  have nS : ¬ S = a := fun z => by subst z; simp at nd
  have na : a ∉ (o :: ((fa ++ g) ++ fo)) ++ f' := (List.nodup_cons.mp (List.nodup_cons.mp nd').2).1
  have naf : a ∉ f' := fun z => na (List.mem_append_right _ z)
  have nao : ¬ o = a := fun z => na (by rw [← z]; simp)
  have nafa : a ∉ fa := fun z => na (by simp [z])
  have nag : a ∉ g := fun z => na (by simp [z])
  have nafo : a ∉ fo := fun z => na (by simp [z])
  have tt : TSame H (upd H a (.lst (ys ++ [y]))) := TSame.updL ha
  refine ⟨ys, ha, by rw [sizeLine_eq]; omega, q _ ⟨sm.updM (fr0 a (by simp)), ⟨xs' ++ [.ref qq], _, by rw [upd_ne nS]; exact hS, .snoc (h1.keep tt (Kept.upd naf)) ⟨qq, a, o, ys ++ [y], zs, fa ++ g, fo, rfl, tt.seqT hq, upd_same, (hr1.keep tt (Kept.upd nafa)).snoc (hy.keep tt (Kept.upd nag)), by rw [upd_ne nao]; exact ho, hr2.keep tt (Kept.upd nafo), rfl⟩, nd', fun b hb => fr0 b (mem' b hb)⟩, fun e' he' => ?_⟩⟩
  rcases List.mem_cons.mp he' with z | z
  · subst z; show (e.rows ++ [r]).length ≤ B + 1; simp; omega
  · have := few e' (List.mem_cons_of_mem _ z); omega
end
end K78
set_option maxHeartbeats 4000000
namespace K78
open PySem L2 PyProof.Rows FA FB FS FP FG FO FR
noncomputable def bd_closed (K : PySem.W.Frag) (S : Addr) (H : Hp) (Q : VK) : Prop := ∃ (H0 : Hp) (e : Ent) (e2 : Ent) (es : List Ent) (B : Nat), StkOk K H0 H S (e :: e2 :: es) B ∧ B ≤ 10000 ∧ ∀ H', StkOk K H0 H' S (closedF (e :: e2 :: es)) (B + 1) → Q .non H'
noncomputable def sp_closed (K : PySem.W.Frag) : Sp := fun vs H Q _ => ∃ (S : Addr), vs = [.ref S] ∧ bd_closed K S H Q
section
variable {P : Program} {w : World} {K : PySem.W.Frag} {mg : Str → Option Value} {base : Heap} {t : Ad}
theorem r_into {S : Addr} {y : V} {H : Hp} {Q : VK} {E : XK} : sp_into K [.ref S, y] H Q E = ∃ (H0 : Hp) (xs : List V) (e : Ent) (es : List Ent) (f g : List Addr) (r : Stm) (B : Nat), Same H0 H ∧ H S = some (.lst xs) ∧ StkV K H xs (e :: es) f ∧ StmV K H y r g ∧ (S :: (f ++ g)).Nodup ∧ (∀ a ∈ S :: (f ++ g), H0 a = none) ∧
  (∀ e' ∈ e :: es, e'.rows.length ≤ B) ∧ B ≤ 10000 ∧ ∀ H', StkOk K H0 H' S (e.add r :: es) (B + 1) → Q .non H' := propext ⟨by rintro ⟨_, _, e, q⟩; cases e; exact q, fun q => ⟨_, _, rfl, q⟩⟩
theorem ok_closed (T : Txt K mg t) : FnOk P w K mg base CX0 2 t.f__law_closed t.e__law_closed ["_law_stack"] (sp_closed K) := by
  have G__law_into := ok_into (P := P) (w := w) (base := base) T
  refine T.d__law_closed.F.ok sc__law_closed (fun vs H Q E h => by obtain ⟨_, rfl, _⟩ := h; rfl) (fun cdv A outer s H vs Q E hr h => ?_)
  obtain ⟨S, rfl, H0, e, e2, es, B, ⟨sm, ⟨xs, f, hS, hK, nd, fr0⟩, few⟩, hB, q⟩ := h
  refine ⟨_,
      (XSs.h
      (xpss_cons
        (xps_asg (xpe_bm0 PySem.F.plainAttrs_list PySem.F.slot_list_pop PySem.F.type_list_pop mt_pop (yqv 0 vl)) (xpg_tup rfl (xpgs_cons (xpg_name (i := 1) sc__law_closed.nd rfl ll) (xpgs_cons (xpg_name (i := 2) sc__law_closed.nd rfl ll) (xpgs_cons (xpg_name (i := 3) sc__law_closed.nd rfl ll) (xpgs_cons (xpg_name (i := 4) sc__law_closed.nd rfl ll) xpgs_nil))))))
      (xpss_one
        (xps_if (xpt_cmpR op_eq (yqv 1 vl) xpe_str (nomark _))
          (xpss_one
            (xps_expr (xqe_callD T.d__law_into G__law_into (hr.mono (by first | decide | omega)) (xpa_cons (yqv 0 vl) (xpa_cons (xpe_tup (xpa_cons xpe_str (xpa_cons (yqv 3 vl) (xpa_cons (yqv 2 vl) xpa_nil)))) xpa_nil)) gl)))
          (xpss_one
            (xps_if (xpt_cmpR op_eq (yqv 1 vl) xpe_str (nomark _))
              (xpss_one
                (xps_expr (xqe_callD T.d__law_into G__law_into (hr.mono (by first | decide | omega)) (xpa_cons (yqv 0 vl) (xpa_cons (xpe_tup (xpa_cons xpe_str (xpa_cons (yqv 3 vl) (xpa_cons (yqv 2 vl) (xpa_cons (xpe_lst xpa_nil) xpa_nil))))) xpa_nil)) gl)))
              (xpss_one
                (xps_expr (xqe_callD T.d__law_into G__law_into (hr.mono (by first | decide | omega)) (xpa_cons (yqv 0 vl) (xpa_cons (xpe_tup (xpa_cons xpe_str (xpa_cons (yqv 3 vl) (xpa_cons (yqv 4 vl) (xpa_cons (yqv 2 vl) xpa_nil))))) xpa_nil)) gl))))))))), ?_⟩
  rw [show start _ [V.ref S] = [some (.ref S), none, none, none, none] from rfl]
  obtain ⟨xs', x, f', g', rfl, rfl, h1, h2⟩ := hK.inv
  obtain ⟨qq, a, o, ys, zs, fa, fo, rfl, hq, ha, hr1, ho, hr2, rfl⟩ := h2
  simp_arith [r_listRng, r_kget1, r_iEnumT, r_extend, r_sortedS, r_into]
  refine ⟨.inl ⟨rfl, _, SqL.of hS⟩, _, .ref qq, hS, by simp, ?_⟩
  simp_arith [r_listRng, r_kget1, r_iEnumT, r_extend, r_sortedS, r_into]
  have tS : ∀ o', TSame H (upd H S o') := fun o' => TSame.updL hS
  have nS : S ∉ (a :: o :: (fa ++ fo)) ++ f' := (List.nodup_cons.mp nd).1
  have ndf := (List.nodup_cons.mp nd).2
  have nSf : S ∉ f' := fun z => nS (List.mem_append_right _ z)
  have nSa : ¬ a = S := fun z => nS (by rw [z]; simp)
  have nSo : ¬ o = S := fun z => nS (by rw [z]; simp)
  have nSfa : S ∉ fa := fun z => nS (by simp [z])
  have nSfo : S ∉ fo := fun z => nS (by simp [z])
  have edl : (xs' ++ [V.ref qq]).dropLast = xs' := by simp
  rw [edl]
  have tt := tS (.lst xs')
  have s1 : Same H0 (upd H S (.lst xs')) := sm.updM (fr0 S (by simp))
  have k1 := h1.keep tt (Kept.upd nSf)
  have r1 := hr1.keep tt (Kept.upd nSfa)
  have r2 := hr2.keep tt (Kept.upd nSfo)
  have ha1 : upd H S (.lst xs') a = some (.lst ys) := by rw [upd_ne nSa]; exact ha
  have ho1 : upd H S (.lst xs') o = some (.lst zs) := by rw [upd_ne nSo]; exact ho
  have few' : ∀ e' ∈ e2 :: es, e'.rows.length ≤ B := fun e' he => few e' (List.mem_cons_of_mem _ he)
  have q' : ∀ H', StkOk K H0 H' S (e2.add (closeF e) :: es) (B + 1) → Q .non H' := q
  have sub : ∀ (g : List Addr), (∀ b ∈ g, b ∈ a :: o :: (fa ++ fo)) → ∀ b ∈ S :: (f' ++ g), b ∈ S :: ((a :: o :: (fa ++ fo)) ++ f') := fun g hg b hb => by
    rcases List.mem_cons.mp hb with z | z
    · rw [z]; simp
    · rcases List.mem_append.mp z with z | z
      · exact List.mem_cons_of_mem _ (List.mem_append_right _ z)
      · exact List.mem_cons_of_mem _ (List.mem_append_left _ (hg b z))
  have nds : ∀ (g : List Addr), g.Sublist (a :: o :: (fa ++ fo)) → (S :: (f' ++ g)).Nodup := fun g hg => by
    have h3 : (g ++ f').Nodup := ndf.sublist (List.Sublist.append hg (List.Sublist.refl _))
    have h4 : (f' ++ g).Nodup := (List.Perm.nodup_iff List.perm_append_comm).mp h3
    refine List.nodup_cons.mpr ⟨fun z => ?_, h4⟩
    rcases List.mem_append.mp z with z | z
    · exact nSf z
    · exact nS (List.mem_append_left _ (hg.subset z))
  refine ⟨_, tt.seqT hq, rfl, ?_⟩
  simp_arith [r_listRng, r_kget1, r_iEnumT, r_extend, r_sortedS, r_into]
  have rest : closeF e = .ifs e.name e.ones e.rows → ∀ p, upd H S (.lst xs') p = none → ∃ (H0_1 : Hp) (xs : List V) (e_1 : Ent) (es_1 : List Ent) (f g : List Addr) (r : Stm) (B_1 : Nat), Same H0_1 (upd (upd H S (.lst xs')) p (.tup [V.str "if", V.str e.name, V.ref o, V.ref a])) ∧ upd (upd H S (.lst xs')) p (.tup [V.str "if", V.str e.name, V.ref o, V.ref a]) S = some (.lst xs) ∧
      StkV K (upd (upd H S (.lst xs')) p (.tup [V.str "if", V.str e.name, V.ref o, V.ref a])) xs (e_1 :: es_1) f ∧ StmV K (upd (upd H S (.lst xs')) p (.tup [V.str "if", V.str e.name, V.ref o, V.ref a])) (.ref p) r g ∧ (S :: (f ++ g)).Nodup ∧ (∀ b ∈ S :: (f ++ g), H0_1 b = none) ∧ (∀ e' ∈ e_1 :: es_1, e'.rows.length ≤ B_1) ∧ B_1 ≤ 10000 ∧
      ∀ H', StkOk K H0_1 H' S (e_1.add r :: es_1) (B_1 + 1) → Q .non H' := by
    intro hcl p hp
    have s2 := Same.upd (o := .tup [V.str "if", V.str e.name, V.ref o, V.ref a]) hp
    rw [hcl] at q'
    have pm : (o :: a :: (fo ++ fa)).Perm (a :: o :: (fa ++ fo)) := (List.Perm.swap a o _).trans (.cons _ (.cons _ List.perm_append_comm))
    refine ⟨H0, xs', e2, es, f', o :: a :: (fo ++ fa), .ifs e.name e.ones e.rows, B, s1.trans s2, s2 _ _ upd_same, k1.keep s2.ts (Kept.of s2), .ifs (SqT.of upd_same) (s2 _ _ ho1) (s2 _ _ ha1) (r2.same s2) (r1.same s2), ?_, fun b hb => fr0 b (sub _ (fun b hb => pm.mem_iff.mp hb) b hb), few', hB, q'⟩
    refine (List.Perm.nodup_iff (.cons _ ?_)).mp (nds _ (List.Sublist.refl _))
    exact List.Perm.append_left _ pm.symm
  cases hkd : e.kind with
  | whl =>
    refine ite_dec (fun _ => fun p hp => ?_) (fun z => absurd rfl z)
    have s2 := Same.upd (o := .tup [V.str "while", V.str e.name, V.ref a]) hp
    have hcl : closeF e = .whl e.name e.rows := by unfold closeF; rw [hkd]
    rw [hcl] at q'
    refine ⟨H0, xs', e2, es, f', a :: fa, .whl e.name e.rows, B, s1.trans s2, s2 _ _ upd_same, k1.keep s2.ts (Kept.of s2), .whl (SqT.of upd_same) (s2 _ _ ha1) (r1.same s2), nds _ ?_, fun b hb => fr0 b (sub _ ?_ b hb), few', hB, q'⟩
    · exact .cons_cons _ (.cons _ (List.sublist_append_left _ _))
    · intro b hb; simp at hb ⊢; rcases hb with z | z <;> simp [z]
  | iff =>
    refine ite_dec (fun z => absurd z (by decide +kernel)) (fun _ => ite_dec (fun _ => fun p hp p2 hp2 => ?_) (fun z => absurd rfl z))
    have s2 := Same.upd (o := .lst []) hp
    have s3 := Same.upd (o := .tup [V.str "if", V.str e.name, V.ref a, V.ref p]) hp2
    have s23 := s2.trans s3
    have hcl : closeF e = .ifs e.name e.rows [] := by unfold closeF; rw [hkd]
    rw [hcl] at q'
    have np : ∀ b, b ∈ S :: ((a :: o :: (fa ++ fo)) ++ f') → ¬ p = b := fun b hb z => by
      have ex : ∃ u, upd H S (.lst xs') b = some u := by
        rcases List.mem_cons.mp hb with y | y
        · exact ⟨_, by rw [y]; exact upd_same⟩
        rcases List.mem_append.mp y with y | y
        · rcases List.mem_cons.mp y with y | y
          · exact ⟨_, by rw [y]; exact ha1⟩
          rcases List.mem_cons.mp y with y | y
          · exact ⟨_, by rw [y]; exact ho1⟩
          rcases List.mem_append.mp y with y | y
          · obtain ⟨_, h⟩ := r1.tracked b y; exact ⟨_, h⟩
          · obtain ⟨_, h⟩ := r2.tracked b y; exact ⟨_, h⟩
        · obtain ⟨_, h⟩ := k1.tracked b y; exact ⟨_, h⟩
      obtain ⟨u, hu⟩ := ex
      exact ne_of_none hu hp z.symm
    have sa : ∀ b ∈ S :: (f' ++ (a :: fa)), b ∈ S :: ((a :: o :: (fa ++ fo)) ++ f') := sub _ (fun b hb => by simp at hb ⊢; rcases hb with z | z <;> simp [z])
    refine ⟨H0, xs', e2, es, f', a :: p :: (fa ++ []), .ifs e.name e.rows [], B, s1.trans s23, s23 _ _ upd_same, k1.keep s23.ts (Kept.of s23), .ifs (SqT.of upd_same) (s23 _ _ ha1) (s3 _ _ upd_same) (r1.same s23) .nil, ?_, fun b hb => ?_, few', hB, q'⟩
    · have h5 : (p :: (S :: (f' ++ (a :: fa)))).Nodup := List.nodup_cons.mpr ⟨fun z => np p (sa p z) rfl, nds _ (.cons_cons _ (.cons _ (List.sublist_append_left _ _)))⟩
      refine (List.Perm.nodup_iff ?_).mp h5
      rw [List.append_nil]
      refine (List.Perm.swap S p _).trans (.cons _ ?_)
      have e1 : f' ++ a :: p :: fa = (f' ++ [a]) ++ p :: fa := by simp
      have e2 : f' ++ a :: fa = (f' ++ [a]) ++ fa := by simp
      rw [e1, e2]
      exact List.perm_middle.symm
    · by_cases hbp : b = p
      · rw [hbp]; exact s1.free hp
      · refine fr0 b (sa b ?_)
        simp at hb ⊢
        rcases hb with z | z | z | z | z
        · exact .inl z
        · exact .inr (.inl z)
        · exact .inr (.inr (.inl z))
        · exact absurd z hbp
        · exact .inr (.inr (.inr z))
  | all =>
    refine ite_dec (fun z => absurd z (by decide +kernel)) (fun _ => ite_dec (fun z => absurd z (by decide +kernel)) (fun _ => fun p hp => ?_))
    exact rest (by unfold closeF; rw [hkd]) p hp
  | els =>
    refine ite_dec (fun z => absurd z (by decide +kernel)) (fun _ => ite_dec (fun z => absurd z (by decide +kernel)) (fun _ => fun p hp => ?_))
    exact rest (by unfold closeF; rw [hkd]) p hp
end
end K78
set_option maxHeartbeats 4000000
namespace K78
open PySem L2 PyProof.Rows FA FB FS FP FG FO FR
noncomputable def bd_program (K : PySem.W.Frag) (a : Addr) (b : Addr) (w : Int) (most : Int) (H : Hp) (Q : VK) : Prop := ∃ (cs : List Int) (ns : List Str), SqL K H a (cs.map V.int) ∧ cs.length ≤ 63 ∧ (∀ z ∈ cs, Builtin.Int.intBits z ≤ 2 ^ 20) ∧ SqL K H b (ns.map V.str) ∧ 0 ≤ w ∧ w ≤ 8 ∧
  ∀ p xs f H', Same H H' → H' p = some (.lst xs) → StmsV K H' xs (progF cs ns w most) f → (p :: f).Nodup → (∀ c ∈ p :: f, H c = none) → Q (.ref p) H'
noncomputable def sp_program (K : PySem.W.Frag) : Sp := fun vs H Q _ => ∃ (a : Addr) (b : Addr) (w : Int) (most : Int), vs = [.ref a, .ref b, .int w, .int most] ∧ bd_program K a b w most H Q
section
variable {P : Program} {w : World} {K : PySem.W.Frag} {mg : Str → Option Value} {base : Heap} {t : Ad}
theorem r_closed {S : Addr} {H : Hp} {Q : VK} {E : XK} : sp_closed K [.ref S] H Q E = ∃ (H0 : Hp) (e e2 : Ent) (es : List Ent) (B : Nat), StkOk K H0 H S (e :: e2 :: es) B ∧ B ≤ 10000 ∧ ∀ H', StkOk K H0 H' S (closedF (e :: e2 :: es)) (B + 1) → Q .non H' := propext ⟨by rintro ⟨_, e, q⟩; cases e; exact q, fun q => ⟨_, rfl, q⟩⟩
theorem ok_program (T : Txt K mg t) : FnOk P w K mg base CX0 4 t.f__law_program t.e__law_program ["_law_cells", "_law_names_here", "_law_width", "_law_most"] (sp_program K) := by
  have G__law_mixed := ok_mixed (P := P) (w := w) (base := base) T
  have G__law_deed := ok_deed (P := P) (w := w) (base := base) T
  have G__law_into := ok_into (P := P) (w := w) (base := base) T
  have G__law_closed := ok_closed (P := P) (w := w) (base := base) T
  refine T.d__law_program.F.ok sc__law_program (fun vs H Q E h => by obtain ⟨_, _, _, _, rfl, _⟩ := h; rfl) (fun cdv A outer s H vs Q E hr h => ?_)
  obtain ⟨a, b, w, most, rfl, cs, ns, hA, lcs, bcs, hB, w0, w8, q⟩ := h
  refine ⟨_,
      (XSs.h
      (xpss_cons
        (xps_set (i := 4) sc__law_program.nd rfl ll (xpe_lst (xpa_cons (xpe_tup (xpa_cons xpe_str (xpa_cons (xpe_lst xpa_nil) (xpa_cons xpe_str (xpa_cons (xpe_lst xpa_nil) xpa_nil))))) xpa_nil)))
      (xpss_cons
        (xps_set (i := 5) sc__law_program.nd rfl ll xpe_int)
      (xpss_mid
        (xps_for PassesOwn.never rfl (xpi_enum T.z_enumerate (xpa_cons (yqv 0 vl) xpa_nil) gl) (xpg_tup rfl (xpgs_cons (xpg_name (i := 6) sc__law_program.nd rfl ll) (xpgs_cons (xpg_name (i := 7) sc__law_program.nd rfl ll) xpgs_nil)))
          (xpss_cons
            (xps_set (i := 8) sc__law_program.nd rfl ll (xqe_callD T.d__law_mixed G__law_mixed (hr.mono (by first | decide | omega)) (xpa_cons (yqv 7 vl) (xpa_cons (yqv 6 vl) xpa_nil)) gl))
          (xpss_cons
            (xps_set (i := 9) sc__law_program.nd rfl ll (xpe_op yop_mod (yqv 8 vl) xpe_int))
          (xpss_one
            (xps_if (xPW_pt (xpw_and (xpt_cmpR yop_lt (yqv 9 vl) xpe_int (nomark _)) (xpw_and1 (xpt_cmpR yop_gt (xqe_callB call_len_seq gl T.z_len PySem.boot_len (xpa_cons (yqv 4 vl) xpa_nil)) xpe_int (nomark _)))))
              (xpss_one
                (xps_if (xPW_pt (xpw_and (xpt_cmpR op_eq (yqv 9 vl) xpe_int (nomark _)) (xpw_and1 (xpt_cmpR op_eq (xpe_ix ix_tup (xpe_ix ix_list (yqv 4 vl) (xpe_un yun_neg xpe_int) (fun _ _ => rfl)) xpe_int (fun _ _ => rfl)) xpe_str (nomark _)))))
                  (xpss_cons
                    (xps_asg (xpe_bm0 PySem.F.plainAttrs_list PySem.F.slot_list_pop PySem.F.type_list_pop mt_pop (yqv 4 vl)) (xpg_tup rfl (xpgs_cons (xpg_name (i := 10) sc__law_program.nd rfl ll) (xpgs_cons (xpg_name (i := 11) sc__law_program.nd rfl ll) (xpgs_cons (xpg_name (i := 12) sc__law_program.nd rfl ll) (xpgs_cons (xpg_name (i := 13) sc__law_program.nd rfl ll) xpgs_nil))))))
                  (xpss_one
                    (xps_expr (xpe_bm PySem.F.plainAttrs_list PySem.F.slot_list_append PySem.F.type_list_append mt_append (yqv 4 vl) (xpa_cons (xpe_tup (xpa_cons xpe_str (xpa_cons (xpe_lst xpa_nil) (xpa_cons (yqv 12 vl) (xpa_cons (yqv 11 vl) xpa_nil))))) xpa_nil)))))
                  (xpss_one
                    (xps_expr (xqe_callD T.d__law_closed G__law_closed (hr.mono (by first | decide | omega)) (xpa_cons (yqv 4 vl) xpa_nil) gl)))))
              (xpss_one
                (xps_if (xpt_cmpR yop_lt (yqv 5 vl) (yqv 3 vl) (nomark _))
                  (xpss_cons
                    (xps_set (i := 5) sc__law_program.nd rfl ll (xpe_op yop_add (yqv 5 vl) xpe_int))
                  (xpss_one
                    (xps_if (xPW_pt (xpw_and (xpt_cmpR yop_lt (yqv 9 vl) xpe_int (nomark _)) (xpw_and (xpt_cmpR yop_lt (xqe_callB call_len_seq gl T.z_len PySem.boot_len (xpa_cons (yqv 4 vl) xpa_nil)) xpe_int (nomark _)) (xpw_and1 (xpt_cmpR yop_gt (xqe_callB call_len_seq gl T.z_len PySem.boot_len (xpa_cons (yqv 1 vl) xpa_nil)) xpe_int (nomark _))))))
                      (xpss_one
                        (xps_expr (xpe_bm PySem.F.plainAttrs_list PySem.F.slot_list_append PySem.F.type_list_append mt_append (yqv 4 vl) (xpa_cons (xpe_tup (xpa_cons (xpe_ix ix_list (xpe_lst (xpa_const (by rfl))) (xpe_op yop_sub (yqv 9 vl) xpe_int) (fun _ _ => rfl)) (xpa_cons (xpe_lst xpa_nil) (xpa_cons (xpe_ix ix_list (yqv 1 vl) (xpe_op yop_mod (xpe_op yop_fdivB (yqv 8 vl) xpe_int) (xqe_callB call_len_seq gl T.z_len PySem.boot_len (xpa_cons (yqv 1 vl) xpa_nil))) (fun _ _ => rfl)) (xpa_cons (xpe_lst xpa_nil) xpa_nil))))) xpa_nil))))
                      (xpss_one
                        (xps_expr (xqe_callD T.d__law_into G__law_into (hr.mono (by first | decide | omega)) (xpa_cons (yqv 4 vl) (xpa_cons (xqe_callD T.d__law_deed G__law_deed (hr.mono (by first | decide | omega)) (xpa_cons (xpe_op yop_fdivB (yqv 8 vl) xpe_int) (xpa_cons (yqv 1 vl) (xpa_cons (yqv 2 vl) xpa_nil))) gl) xpa_nil)) gl))))))
                  xpss_nil)))))))
      (xpss_cons
        (xps_while PassesOwn.never (xpt_cmpR yop_gt (xqe_callB call_len_seq gl T.z_len PySem.boot_len (xpa_cons (yqv 4 vl) xpa_nil)) xpe_int (nomark _))
          (xpss_one
            (xps_expr (xqe_callD T.d__law_closed G__law_closed (hr.mono (by first | decide | omega)) (xpa_cons (yqv 4 vl) xpa_nil) gl))))
      (xpss_one
        (xps_ret (xpe_ix ix_tup (xpe_ix ix_list (yqv 4 vl) xpe_int (fun _ _ => rfl)) xpe_int (fun _ _ => rfl))))))))), ?_⟩
  rw [show start _ [V.ref a, V.ref b, V.int w, V.int most] = [some (.ref a), some (.ref b), some (.int w), some (.int most), none, none, none, none, none, none, none, none, none, none] from rfl]
  simp_arith [r_listRng, r_kget1, r_iEnumT, r_extend, r_sortedS, r_mixed, r_deed, r_into, r_closed]
  intro p1 hp1 p2 hp2 p3 hp3 S hS
  have s1 : Same H (upd H p1 (.lst [])) := Same.upd hp1
  have s2 := s1.updN (o := .lst []) hp2
  have s3 := s2.updN (o := .tup [V.str "all", V.ref p1, V.str "", V.ref p2]) hp3
  have s4 := s3.updN (o := .lst [V.ref p3]) hS
  -- the loop
  refine ⟨fun σ H' => (∃ B, B ≤ 63 ∧ StkOk K H H' S (runP ns w most cs 0 start0).1 B ∧ 1 ≤ (runP ns w most cs 0 start0).1.length ∧ (runP ns w most cs 0 start0).1.length ≤ 9) ∧ ∃ o5 o6 o7 o8 o9 o10 o11 o12 o13, σ = [some (.ref a), some (.ref b), some (.int w), some (.int most), some (.ref S), o5, o6, o7, o8, o9, o10, o11, o12, o13], ⟨⟨_, s4.seq hA⟩, ?_⟩, ?_⟩
  · obtain ⟨Pv, hPv⟩ : ∃ Pv : Nat → L2.St → Hp → Prop, Pv = fun i σ H' => (StkOk K H H' S (runP ns w most (cs.take i) 0 start0).1 i ∧ 1 ≤ (runP ns w most (cs.take i) 0 start0).1.length ∧ (runP ns w most (cs.take i) 0 start0).1.length ≤ 9) ∧ ∃ o6 o7 o8 o9 o10 o11 o12 o13, σ = [some (.ref a), some (.ref b), some (.int w), some (.int most), some (.ref S), some (.int (runP ns w most (cs.take i) 0 start0).2), o6, o7, o8, o9, o10, o11, o12, o13] := ⟨_, rfl⟩
    have hI : ∀ i σ H', ((StkOk K H H' S (runP ns w most (cs.take i) 0 start0).1 i ∧ 1 ≤ (runP ns w most (cs.take i) 0 start0).1.length ∧ (runP ns w most (cs.take i) 0 start0).1.length ≤ 9) ∧ ∃ o6 o7 o8 o9 o10 o11 o12 o13, σ = [some (.ref a), some (.ref b), some (.int w), some (.int most), some (.ref S), some (.int (runP ns w most (cs.take i) 0 start0).2), o6, o7, o8, o9, o10, o11, o12, o13]) → Pv i σ H' := by rw [hPv]; exact fun _ _ _ h => h
    have hE : ∀ i σ H', Pv i σ H' → (StkOk K H H' S (runP ns w most (cs.take i) 0 start0).1 i ∧ 1 ≤ (runP ns w most (cs.take i) 0 start0).1.length ∧ (runP ns w most (cs.take i) 0 start0).1.length ≤ 9) ∧ ∃ o6 o7 o8 o9 o10 o11 o12 o13, σ = [some (.ref a), some (.ref b), some (.int w), some (.int most), some (.ref S), some (.int (runP ns w most (cs.take i) 0 start0).2), o6, o7, o8, o9, o10, o11, o12, o13] := by rw [hPv]; exact fun _ _ _ h => h
    clear hPv
    refine fw_enum (xs := cs.map V.int) Pv (hI _ _ _ ?_) (fun i σ H' _ h => (hE _ _ _ h).1.1.same.seq hA) ?_ ?_
    · have hp1' : upd (upd (upd (upd H p1 (.lst [])) p2 (.lst [])) p3 (.tup [V.str "all", V.ref p1, V.str "", V.ref p2])) S (.lst [V.ref p3]) p1 = some (.lst []) := Same.upd hS _ _ (Same.upd hp3 _ _ (Same.upd hp2 _ _ upd_same))
      have hp2' : upd (upd (upd (upd H p1 (.lst [])) p2 (.lst [])) p3 (.tup [V.str "all", V.ref p1, V.str "", V.ref p2])) S (.lst [V.ref p3]) p2 = some (.lst []) := Same.upd hS _ _ (Same.upd hp3 _ _ upd_same)
      have hp3' : upd (upd (upd (upd H p1 (.lst [])) p2 (.lst [])) p3 (.tup [V.str "all", V.ref p1, V.str "", V.ref p2])) S (.lst [V.ref p3]) p3 = some (.tup [V.str "all", V.ref p1, V.str "", V.ref p2]) := Same.upd hS _ _ upd_same
      have n1 : ¬ p1 = p2 := fun z => by rw [z] at hp2; exact absurd hp2 (by rw [upd_same]; exact fun z => nomatch z)
      have n2 : ¬ p1 = S := fun z => by rw [← z] at hS; rw [Same.upd hp3 _ _ (Same.upd hp2 _ _ upd_same)] at hS; cases hS
      have n3 : ¬ p2 = S := fun z => by rw [← z] at hS; rw [Same.upd hp3 _ _ upd_same] at hS; cases hS
      refine ⟨⟨⟨s4, ⟨[.ref p3], (p1 :: p2 :: ([] ++ [])) ++ [], upd_same, StkV.snoc (xs := []) .nil ⟨p3, p1, p2, [], [], [], [], rfl, SqT.of hp3', hp1', .nil, hp2', .nil, rfl⟩, ?_, fun c hc => ?_⟩, fun e he => ?_⟩, by simp [runP, start0], by simp [runP, start0]⟩, _, _, _, _, _, _, _, _, rfl⟩
      · simp only [List.nodup_cons, List.append_nil, List.cons_append, List.nil_append, List.mem_cons, List.not_mem_nil, or_false, not_or]
        exact ⟨⟨fun z => n2 z.symm, fun z => n3 z.symm⟩, n1, by simp⟩
      · simp at hc
        rcases hc with z | z | z
        · rw [z]; exact s3.free hS
        · rw [z]; exact hp1
        · rw [z]; exact s1.free hp2
      · have : e = ⟨.all, [], "", []⟩ := by simpa [runP, start0] using he
        rw [this]; exact Nat.zero_le _
    · intro i x σ H' pp hx hpp hv
      obtain ⟨⟨⟨sm, ⟨xs, f, hSx, hK, nd, fr⟩, few⟩, l1, l9⟩, o6, o7, o8, o9, o10, o11, o12, o13, rfl⟩ := hE _ _ _ hv
      clear hv
      rw [List.getElem?_map] at hx
      obtain ⟨c, hc, rfl⟩ := Option.map_eq_some_iff.mp hx
      obtain ⟨hi, hce⟩ := List.getElem?_eq_some_iff.mp hc
      have enx : runP ns w most (cs.take (i + 1)) 0 start0 = stepP ns w most i c (runP ns w most (cs.take i) 0 start0) := by
        rw [List.take_succ_eq_append_getElem hi, hce, runP_snoc, List.length_take, Nat.zero_add, Nat.min_eq_left (by omega)]
      have hN : ∀ σ H', ((StkOk K H H' S (stepP ns w most i c (runP ns w most (cs.take i) 0 start0)).1 (i + 1) ∧ 1 ≤ (stepP ns w most i c (runP ns w most (cs.take i) 0 start0)).1.length ∧ (stepP ns w most i c (runP ns w most (cs.take i) 0 start0)).1.length ≤ 9) ∧ ∃ o6 o7 o8 o9 o10 o11 o12 o13, σ = [some (.ref a), some (.ref b), some (.int w), some (.int most), some (.ref S), some (.int (stepP ns w most i c (runP ns w most (cs.take i) 0 start0)).2), o6, o7, o8, o9, o10, o11, o12, o13]) → Pv (i + 1) σ H' := fun σ H' h => hI _ _ _ (by rw [enx]; exact h)
      clear hI hE enx
      generalize runP ns w most (cs.take i) 0 start0 = st at hK few l1 l9 hN ⊢
      obtain ⟨es, many⟩ := st
      simp_arith [r_listRng, r_kget1, r_iEnumT, r_extend, r_sortedS, r_mixed, r_deed, r_into, r_closed]
      refine ⟨_, SqT.of upd_same, rfl, ?_⟩
      simp_arith [r_listRng, r_kget1, r_iEnumT, r_extend, r_sortedS, r_mixed, r_deed, r_into, r_closed]
      refine ⟨bcs c (List.mem_of_getElem? hc), by omega, by omega, ?_⟩
      have s5 : Same H' (upd H' pp (.tup [V.int i, V.int c])) := Same.upd hpp
      have sm5 := sm.trans s5
      have hS5 := s5 _ _ hSx
      have hK5 := hK.keep s5.ts (Kept.of s5)
      have hB5 := sm5.seq hB
      generalize upd H' pp (.tup [V.int i, V.int c]) = H5 at s5 sm5 hS5 hK5 hB5 ⊢
      clear hSx hK
      have lx := hK5.length
      have g0 := mixed_nn c i
      unfold stepP at hN
      generalize mixed c i = g at g0 hN ⊢
      have y0 : 0 ≤ g % 12 := Int.emod_nonneg _ (by decide)
      have y1 : g % 12 < 12 := Int.emod_lt_of_pos _ (by decide)
      have trk : ∀ c' ∈ S :: f, ∃ u, H5 c' = some u := fun c' hc' => by
        rcases List.mem_cons.mp hc' with z | z
        · exact ⟨_, by rw [z]; exact hS5⟩
        · obtain ⟨u, hu⟩ := hK5.tracked c' z; exact ⟨_, hu⟩
      dsimp only at l1 l9 few lx hN
      refine and_gt (SqL.of hS5) (fun e1 c2 => ?_) (fun e1 => ?_)
      · have c1 : g % 12 < 2 ∧ 1 < es.length := ⟨e1, by omega⟩
        rw [if_pos c1] at hN
        obtain ⟨e, e2, es', rfl⟩ : ∃ e e2 es', es = e :: e2 :: es' := by
          match es, c1.2 with
          | e :: e2 :: es', _ => exact ⟨e, e2, es', rfl⟩
        obtain ⟨xs', x, f', g', rfl, rfl, h1, h2⟩ := hK5.inv
        obtain ⟨qq, ra, oo, ys, zs, fa, fo, rfl, hq, ha, hr1, ho, hr2, rfl⟩ := id h2
        refine and_kind (SqL.of hS5) hq (fun e3 e4 => ?_) (fun e3 => ?_)
        · dsimp only at hN
          rw [if_pos ⟨e3, e4⟩] at hN
          refine ⟨.inl ⟨rfl, _, SqL.of hS5⟩, _, .ref qq, hS5, by simp, ?_⟩
          simp_arith [r_listRng, r_kget1, r_iEnumT, r_extend, r_sortedS]
          have edl : (xs' ++ [V.ref qq]).dropLast = xs' := by simp
          rw [edl]
          have tt : TSame H5 (upd H5 S (.lst xs')) := TSame.updL hS5
          have nS : S ∉ (ra :: oo :: (fa ++ fo)) ++ f' := (List.nodup_cons.mp nd).1
          refine ⟨_, tt.seqT hq, rfl, ?_⟩
          simp_arith [r_listRng, r_kget1, r_iEnumT, r_extend, r_sortedS]
          refine ⟨.inl ⟨rfl, _, SqL.of upd_same⟩, fun u1 hu1 u2 hu2 => ?_⟩
          have sB : Same H (upd H5 S (.lst xs')) := sm5.updM (fr S (by simp))
          have nSa : ¬ ra = S := fun z => nS (by rw [z]; simp)
          have nSfa : S ∉ fa := fun z => nS (by simp [z])
          have nSf : S ∉ f' := fun z => nS (by simp [z])
          have ha1 : upd H5 S (.lst xs') ra = some (.lst ys) := by rw [upd_ne nSa]; exact ha
          have k1 := h1.keep tt (Kept.upd (o := .lst xs') nSf)
          have r1 := hr1.keep tt (Kept.upd (o := .lst xs') nSfa)
          have t1 := Same.upd (o := .lst []) hu1
          have t2 := t1.updN (o := .tup [V.str "else", V.ref u1, V.str e.name, V.ref ra]) hu2
          have nd3 : (S :: ((ra :: fa) ++ f')).Nodup := by
            refine nd.sublist (.cons_cons _ (List.Sublist.append (.cons_cons _ (.cons _ (List.sublist_append_left _ _))) (List.Sublist.refl _)))
          have sub3 : ∀ c' ∈ S :: ((ra :: fa) ++ f'), c' ∈ S :: ((ra :: oo :: (fa ++ fo)) ++ f') := fun c' hc' => by
            simp only [List.cons_append, List.mem_cons, List.mem_append] at hc' ⊢
            rcases hc' with z | z | z | z <;> simp [z]
          have no1 : u1 ∉ S :: ((ra :: fa) ++ f') := fun z => by
            have ex : ∃ u, upd H5 S (.lst xs') u1 = some u := by
              by_cases zS : u1 = S
              · exact ⟨_, by rw [zS]; exact upd_same⟩
              · obtain ⟨u, hu⟩ := trk u1 (sub3 u1 z)
                exact ⟨u, by rw [upd_ne zS]; exact hu⟩
            obtain ⟨u, hu⟩ := ex
            rw [hu1] at hu; cases hu
          refine ⟨xs', t2 _ _ upd_same, by simp at lx l9; rw [sizeLine_eq]; omega, hN _ _ ⟨⟨push_ok (fo := fa) (sB.trans t2) (t2 _ _ upd_same) (k1.keep t2.ts (Kept.of t2)) (Same.upd hu2 _ _ upd_same) (t2 _ _ ha1) (r1.same t2) (SqT.of upd_same) ?_ (fun c' hc' => ?_) (fun e' he' => by have := few e' (List.mem_cons_of_mem _ he'); omega), by simp, by simpa using l9⟩, _, _, _, _, _, _, _, _, rfl⟩⟩
          · have n4 : (u1 :: S :: ((ra :: fa) ++ f')).Nodup := List.nodup_cons.mpr ⟨no1, nd3⟩
            exact (List.Perm.nodup_iff (List.Perm.swap S u1 _)).mp n4
          · by_cases z1 : c' = u1
            · rw [z1]; exact sB.free hu1
            · refine fr c' (sub3 c' ?_)
              simp only [List.cons_append, List.mem_cons] at hc' ⊢
              rcases hc' with z | z | z
              · exact .inl z
              · exact absurd z z1
              · exact .inr z
        · dsimp only at hN
          rw [if_neg e3] at hN
          refine ⟨H, e, e2, es', i, ⟨sm5, ⟨_, _, hS5, hK5, nd, fr⟩, few⟩, by omega, fun H6 k6 => hN _ _ ⟨⟨k6, ?_, ?_⟩, _, _, _, _, _, _, _, _, rfl⟩⟩
          · rw [closedF_length]; omega
          · rw [closedF_length]; simp at l9; omega
      · have c1 : ¬ (g % 12 < 2 ∧ 1 < es.length) := fun z => e1 ⟨z.1, by omega⟩
        rw [if_neg c1] at hN
        refine ite_dec (fun e2 => ?_) (fun e2 => ?_)
        · rw [if_pos e2] at hN
          refine and3 (SqL.of hS5) hB5 (fun e3 e4 e5 => ?_) (fun e3 => ?_)
          · have hne : ¬ ns = [] := fun z => by rw [z] at e5; simp at e5
            rw [if_pos ⟨e3, by omega, hne⟩] at hN
            refine ⟨.inl ⟨rfl, _, SqL.of hS5⟩, fun u1 hu1 => ⟨_, _, SqL.of upd_same, kd3_at (by omega) (by omega), fun u2 hu2 => ?_⟩⟩
            have t1 := Same.upd (o := .lst [V.str "if", V.str "while", V.str "if"]) hu1
            have t2 := t1.updN (o := .lst []) hu2
            refine ⟨CDivB.small (by decide) (by decide), _, .inl (t2.seq hB5), by rw [List.length_map]; have := List.length_pos_iff.mpr hne; omega, _, _, t2.seq hB5, by rw [List.length_map]; exact pick_at hne, fun u3 hu3 u4 hu4 => ?_⟩
            have t3 := t2.updN (o := .lst []) hu3
            have t4 := t3.updN (o := .tup [V.str (kd3 (g % 12 - 2)).str, V.ref u2, V.str (pick (g / 12) ns), V.ref u3]) hu4
            have m2 := t1.free hu2
            have m3 := t2.free hu3
            have n23 : ¬ u2 = u3 := fun z => by rw [← z, upd_same] at hu3; cases hu3
            have no2 : u2 ∉ S :: f := fun z => by obtain ⟨u, hu⟩ := trk u2 z; rw [m2] at hu; cases hu
            have no3 : u3 ∉ S :: f := fun z => by obtain ⟨u, hu⟩ := trk u3 z; rw [m3] at hu; cases hu
            refine ⟨xs, t4 _ _ hS5, by rw [sizeLine_eq]; omega, hN _ _ ⟨⟨push_ok (fo := []) (sm5.trans t4) (t4 _ _ hS5) (hK5.keep t4.ts (Kept.of t4)) (Same.upd hu4 _ _ (Same.upd hu3 _ _ upd_same)) (Same.upd hu4 _ _ upd_same) .nil (SqT.of upd_same) ?_ (fun c' hc' => ?_) (fun e he => by have := few e he; omega), by simp, by simp; omega⟩, _, _, _, _, _, _, _, _, rfl⟩⟩
            · have n1 := List.nodup_cons.mp nd
              simp only [List.cons_append, List.nil_append, List.nodup_cons, List.mem_cons, not_or] at no2 no3 ⊢
              exact ⟨⟨fun z => no2.1 z.symm, fun z => no3.1 z.symm, n1.1⟩, ⟨n23, no2.2⟩, no3.2, n1.2⟩
            · simp only [List.cons_append, List.nil_append, List.mem_cons] at hc'
              rcases hc' with z | z | z | z
              · exact fr c' (by rw [z]; simp)
              · rw [z]; exact sm5.free m2
              · rw [z]; exact sm5.free m3
              · exact fr c' (List.mem_cons_of_mem _ z)
          · have c3 : ¬ (g % 12 < 5 ∧ es.length < 9 ∧ ¬ ns = []) := fun z => e3 ⟨z.1, by omega, by have := List.length_pos_iff.mpr z.2.2; rw [List.length_map]; omega⟩
            rw [if_neg c3] at hN
            obtain ⟨e, es', rfl⟩ : ∃ e es', es = e :: es' := by
              match es, l1 with
              | e :: es', _ => exact ⟨e, es', rfl⟩
            refine ⟨CDivB.small (by decide) (by decide), ns, hB5, w0, w8, fun p6 H6 s6 hp6 ht6 => ?_⟩
            refine ⟨H, xs, e, es', f, [], .deed (deedOf (g / 12) ns w), i, sm5.trans s6, s6 _ _ hS5, hK5.keep s6.ts (Kept.of s6), .deed deedOf_fine (SqT.of (by rw [deedOf_vs]; exact ht6)), by rw [List.append_nil]; exact nd, fun c' hc' => fr c' (by rw [List.append_nil] at hc'; exact hc'), few, by omega, fun H7 k7 => ?_⟩
            exact hN _ _ ⟨⟨k7, by simp [intoF], by simpa [intoF] using l9⟩, _, _, _, _, _, _, _, _, rfl⟩
        · rw [if_neg e2] at hN
          exact hN _ _ ⟨⟨⟨sm5, ⟨_, _, hS5, hK5, nd, fr⟩, fun e he => by have := few e he; omega⟩, l1, l9⟩, _, _, _, _, _, _, _, _, rfl⟩
    · intro σ H' hv
      obtain ⟨⟨ok, l1, l9⟩, o6, o7, o8, o9, o10, o11, o12, o13, rfl⟩ := hE _ _ _ hv
      clear hv hI hE
      rw [List.length_map, List.take_length] at *
      exact ⟨⟨_, lcs, ok, l1, l9⟩, _, _, _, _, _, _, _, _, _, rfl⟩
  · rintro σ H' ⟨⟨B, hB63, ok, l1, l9⟩, o5, o6, o7, o8, o9, o10, o11, o12, o13, rfl⟩
    obtain ⟨μ, hμ⟩ : ∃ μ : L2.St → Hp → Nat, μ = fun _ H' => match H' S with | some (.lst xs) => xs.length | _ => 0 := ⟨_, rfl⟩
    refine while_own (fun σ H' => (∃ es B, StkOk K H H' S es B ∧ B + es.length ≤ 80 ∧ 1 ≤ es.length ∧ closeAll es = progF cs ns w most) ∧ ∃ o5 o6 o7 o8 o9 o10 o11 o12 o13, σ = [some (.ref a), some (.ref b), some (.int w), some (.int most), some (.ref S), o5, o6, o7, o8, o9, o10, o11, o12, o13])
      μ ⟨⟨_, B, ok, by omega, l1, rfl⟩, _, _, _, _, _, _, _, _, _, rfl⟩ ?_
    · rintro σ H2 ⟨⟨es, B2, ok2, hb2, le2, hcl⟩, o5, o6, o7, o8, o9, o10, o11, o12, o13, rfl⟩
      obtain ⟨sm, ⟨xs, f, hSx, hK, nd, fr⟩, few⟩ := id ok2
      have lx := hK.length
      simp_arith [r_listRng, r_kget1, r_iEnumT, r_extend, r_sortedS, r_closed]
      refine ⟨_, .inl (SqL.of hSx), ite_dec (fun e1 => ?_) (fun e1 => ?_)⟩
      · obtain ⟨e, e2, es', rfl⟩ : ∃ e e2 es', es = e :: e2 :: es' := by
          match es, (show 1 < es.length by omega) with
          | e :: e2 :: es', _ => exact ⟨e, e2, es', rfl⟩
        refine ⟨fun σ H' => ((∃ es B, StkOk K H H' S es B ∧ B + es.length ≤ 80 ∧ 1 ≤ es.length ∧ closeAll es = progF cs ns w most) ∧ ∃ o5 o6 o7 o8 o9 o10 o11 o12 o13, σ = [some (.ref a), some (.ref b), some (.int w), some (.int most), some (.ref S), o5, o6, o7, o8, o9, o10, o11, o12, o13]) ∧ μ σ H' < μ [some (.ref a), some (.ref b), some (.int w), some (.int most), some (.ref S), o5, o6, o7, o8, o9, o10, o11, o12, o13] H2, fun σ' H' h => ⟨_, h.2, rfl, h.1⟩, ?_⟩
        refine ⟨H, e, e2, es', B2, ok2, by omega, fun H3 k3 => ⟨⟨⟨_, B2 + 1, k3, by rw [closedF_length]; simp at hb2; omega, by rw [closedF_length]; omega, ?_⟩, _, _, _, _, _, _, _, _, _, rfl⟩, ?_⟩⟩
        · rw [← hcl]; show closeAll (e2.add (closeF e) :: es') = _; rw [closeAll]
        · obtain ⟨_, ⟨xs3, f3, hS3, hK3, _, _⟩, _⟩ := k3
          have l3 := hK3.length
          rw [closedF_length] at l3
          rw [hμ]
          dsimp only
          rw [hS3, hSx]
          simp at lx
          show xs3.length < xs.length
          omega
      · obtain ⟨e, rfl⟩ : ∃ e, es = [e] := by
          match es, le2, (show es.length ≤ 1 by omega) with
          | [e], _, _ => exact ⟨e, rfl⟩
        obtain ⟨xs', x, f', g', rfl, rfl, h1, h2⟩ := hK.inv
        cases h1
        obtain ⟨qq, ra, oo, ys, zs, fa, fo, rfl, hq, ha, hr1, ho, hr2, rfl⟩ := id h2
        have hcl' : e.rows = progF cs ns w most := by rw [← hcl, closeAll]
        refine ⟨_, _, SqL.of hSx, rfl, ?_⟩
        simp_arith [r_listRng, r_kget1, r_iEnumT, r_extend, r_sortedS]
        refine ⟨_, _, hq, rfl, q ra ys fa H2 sm ha (by rw [← hcl']; exact hr1) ?_ (fun c hc => fr c ?_)⟩
        · exact nd.sublist (.cons _ (by rw [List.append_nil]; exact .cons_cons _ (.cons _ (List.sublist_append_left _ _))))
        · simp only [List.append_nil, List.cons_append, List.mem_cons, List.mem_append] at hc ⊢
          rcases hc with z | z <;> simp [z]
theorem r_program {a b : Addr} {w most : Int} {H : Hp} {Q : VK} {E : XK} : sp_program K [.ref a, .ref b, .int w, .int most] H Q E = ∃ (cs : List Int) (ns : List Str), SqL K H a (cs.map V.int) ∧ cs.length ≤ 63 ∧ (∀ z ∈ cs, Builtin.Int.intBits z ≤ 2 ^ 20) ∧ SqL K H b (ns.map V.str) ∧ 0 ≤ w ∧ w ≤ 8 ∧
  ∀ p xs f H', Same H H' → H' p = some (.lst xs) → StmsV K H' xs (progF cs ns w most) f → (p :: f).Nodup → (∀ c ∈ p :: f, H c = none) → Q (.ref p) H' := propext ⟨by rintro ⟨_, _, _, _, e, q⟩; cases e; exact q, fun q => ⟨_, _, _, _, rfl, q⟩⟩
end
end K78
set_option maxHeartbeats 4000000
namespace K78
open PySem L2 PyProof.Rows FA FB FS FP FG FO FR
section
variable {P : Program} {w : World} {K : PySem.W.Frag} {mg : Str → Option Value} {base : Heap} {t : Ad}
theorem r_initX {C p a0 b0 r0 : Addr} {d : Nat} {wd : Int} {H : Hp} {Q : VK} {E : XK} : sp_init K C d [.ref p, .int wd, .ref a0, .ref b0, .ref r0] H Q E = bd_init K C d p a0 b0 r0 wd H Q := propext ⟨by rintro ⟨_, _, _, _, _, e, q⟩; cases e; exact q, fun q => ⟨_, _, _, _, _, rfl, q⟩⟩
theorem ok_law (T : Txt K mg t) : FnOk P w K mg base CX0 40 t.f_law t.e_law ["_law_script"] (sp_law K) := by
  have G__law_mixed := ok_mixed (P := P) (w := w) (base := base) T
  have G__law_names := ok_names (P := P) (w := w) (base := base) T
  have G__law_program := ok_program (P := P) (w := w) (base := base) T
  have G_Program___init__ := ok_init (P := P) (w := w) (base := base) T 9
  have G_trimmed := ok_trim (P := P) (w := w) (base := base) T 9 (by decide)
  have G__law_trimmed := ok_ltd (P := P) (w := w) (base := base) T 9 (by decide)
  have G__law_same_rows := ok_lsm (P := P) (w := w) (base := base) T 9
  refine T.d_law.F.ok sc_law (fun vs H Q E h => by obtain ⟨_, _, rfl, _⟩ := h; rfl) (fun cdv A outer s H vs Q E hr h => ?_)
  obtain ⟨a, ns, rfl, hS, hlen, hbits, q⟩ := h
  have hu := hu_of hr
  refine ⟨_,
      (XSs.h
      (xpss_cons
        (xps_set (i := 1) sc_law.nd rfl ll (xpe_slice sl_list (yqv 0 vl) (xpo_some xpe_int) (xpo_some xpe_int)))
      (xpss_cons
        (xps_set (i := 2) sc_law.nd rfl ll xpe_int)
      (xpss_mid
        (xps_if (xpt_cmpR yop_gt (xqe_callB call_len_seq gl T.z_len PySem.boot_len (xpa_cons (yqv 0 vl) xpa_nil)) xpe_int (nomark _))
          (xpss_one
            (xps_set (i := 2) sc_law.nd rfl ll (xpe_ix ix_list (yqv 0 vl) xpe_int (fun _ _ => rfl))))
          xpss_nil)
      (xpss_cons
        (xps_set (i := 3) sc_law.nd rfl ll (xpe_op yop_add xpe_int (xpe_op yop_mod (yqv 2 vl) xpe_int)))
      (xpss_cons
        (xps_set (i := 4) sc_law.nd rfl ll (xpe_slice sl_list (xqe_callD T.d__law_names G__law_names (hr.mono (by first | decide | omega)) (xpa_cons (yqv 2 vl) xpa_nil) gl) xpo_none (xpo_some (xpe_op yop_mod (xpe_op yop_fdivB (yqv 2 vl) xpe_int) xpe_int))))
      (xpss_cons
        (xps_set (i := 5) sc_law.nd rfl ll (xpe_slice sl_list (xqe_callD T.d__law_names G__law_names (hr.mono (by first | decide | omega)) (xpa_cons (yqv 2 vl) xpa_nil) gl) (xpo_some xpe_int) (xpo_some (xpe_op yop_add xpe_int (xpe_op yop_mod (xpe_op yop_fdivB (yqv 2 vl) xpe_int) xpe_int)))))
      (xpss_cons
        (xps_set (i := 6) sc_law.nd rfl ll (xqe_callD T.d__law_program G__law_program (hr.mono (by first | decide | omega)) (xpa_cons (yqv 1 vl) (xpa_cons (xpe_op op_cat (yqv 4 vl) (yqv 5 vl)) (xpa_cons (yqv 3 vl) (xpa_cons xpe_int xpa_nil)))) gl))
      (xpss_cons
        (xps_set (i := 7) sc_law.nd rfl ll (xqe_makeD T.c_Program T.d_Program___init__ G_Program___init__ (hr.mono (by first | decide | omega)) (xpa_cons (yqv 3 vl) (xpa_cons (yqv 4 vl) (xpa_cons (yqv 5 vl) (xpa_cons (yqv 6 vl) xpa_nil)))) gl))
      (xpss_cons
        (xps_set (i := 8) sc_law.nd rfl ll (xqe_callD T.d_trimmed G_trimmed (hr.mono (by first | decide | omega)) (xpa_cons (yqv 7 vl) xpa_nil) gl))
      (xpss_mid
        (xps_if (xPW_pt (xpw_or (xpt_not (xpt_val (xqe_callB call_isiC gl T.z_isinstance boot_isinstance (xpa_cons (yqv 8 vl) (xpa_cons (xqe_glob (v := .ref t.C_Program) gl T.c_Program.M rfl) xpa_nil))))) (xpw_or (xpt_cmpR op_ne (xpe_fld (yqv 8 vl) rfl) (yqv 3 vl) (nomark _)) (xpw_or (xpt_cmpR (op_neD (n := 0) (hu_n (by decide) hr)) (xpe_fld (yqv 8 vl) rfl) (yqv 4 vl) (nomark _)) (xpw_or1 (xpt_cmpR (op_neD (n := 0) (hu_n (by decide) hr)) (xpe_fld (yqv 8 vl) rfl) (xpe_op op_cat (yqv 4 vl) (yqv 5 vl)) (nomark _)))))))
          (xpss_one
            (xps_ret xpe_bl))
          xpss_nil)
      (xpss_cons
        (xps_if (xpt_not (xpt_val (xqe_callD T.d__law_same_rows G__law_same_rows (hr.mono (by first | decide | omega)) (xpa_cons (xpe_fld (yqv 8 vl) rfl) (xpa_cons (xqe_callD T.d__law_trimmed G__law_trimmed (hr.mono (by first | decide | omega)) (xpa_cons (yqv 6 vl) xpa_nil) gl) xpa_nil)) gl)))
          (xpss_one
            (xps_ret xpe_bl))
          xpss_nil)
      (xpss_one
        (xps_ret (xqe_callD T.d__law_same_rows G__law_same_rows (hr.mono (by first | decide | omega)) (xpa_cons (xpe_fld (yqv 7 vl) rfl) (xpa_cons (yqv 6 vl) xpa_nil)) gl))))))))))))))), ?_⟩
  rw [show start _ [V.ref a] = [some (.ref a), none, none, none, none, none, none, none, none] from rfl]
  simp_arith [r_listRng, r_kget1, r_iEnumT, r_extend, r_sortedS, r_mixed, r_names, r_program, r_initX]
  have hcut : cutV (ns.map V.int) (some 1) (some 63) = ((ns.take 63).drop 1).map V.int := by rw [cutV_mid (by decide) (by decide), List.map_drop, List.map_take]; rfl
  refine ⟨_, hS, fun pc hpc => ?_⟩
  rw [hcut]
  have hm2 : ∀ z ∈ (ns.take 63).drop 1, Builtin.Int.intBits z ≤ 2 ^ 20 := fun z hz => hbits z (List.mem_of_mem_take (List.mem_of_mem_drop hz))
  have hl2 : ((ns.take 63).drop 1).length ≤ 63 := by rw [List.length_drop, List.length_take]; omega
  generalize (ns.take 63).drop 1 = cs at hm2 hl2 ⊢
  have s1 := Same.upd (o := .lst (cs.map V.int)) hpc
  refine ⟨fun σ H' => H' = upd H pc (.lst (cs.map V.int)) ∧ ∃ c0 : Int, Builtin.Int.intBits c0 ≤ 2 ^ 20 ∧ σ = [some (.ref a), some (.ref pc), some (.int c0), none, none, none, none, none, none], ?_, ?_⟩
  · refine ⟨_, .inl (s1.seq hS), ite_dec (fun h => ?_) (fun h => ?_)⟩
    · rw [List.length_map] at h
      have h0 : (ns.map V.int)[0]? = some (.int ns[0]) := by rw [List.getElem?_map, List.getElem?_eq_getElem (by omega)]; rfl
      exact ⟨_, _, s1.seq hS, atI_nat h0, rfl, ns[0], hbits _ (List.getElem_mem _), rfl⟩
    · exact ⟨rfl, 3, by decide, rfl⟩
  rintro σ H1 ⟨rfl, c0, hb0, rfl⟩
  have hcs : upd H pc (.lst (cs.map V.int)) pc = some (.lst (cs.map V.int)) := upd_same
  generalize upd H pc (.lst (cs.map V.int)) = H1 at s1 hcs ⊢
  simp_arith [r_listRng, r_kget1, r_iEnumT, r_extend, r_sortedS, r_mixed, r_names, r_program]
  have w0 : 0 ≤ c0 % 8 := Int.emod_nonneg _ (by decide)
  have w7 : c0 % 8 < 8 := Int.emod_lt_of_pos _ (by decide)
  have k0 : 0 ≤ c0 / 8 % 4 := Int.emod_nonneg _ (by decide)
  have j0 : 0 ≤ c0 / 32 % 5 := Int.emod_nonneg _ (by decide)
  have hl8 : (namesF c0).length = 8 := by
    unfold namesF
    split
    · rfl
    · unfold nms; simp
  refine ⟨hb0, fun p2 H2 s2 hp2 hn2 => ⟨CDivB.small (by decide) (by decide), _, SqL.of hn2, fun pi hpi => ⟨hb0, fun p3 H3 s3 hp3 hn3 => ⟨CDivB.small (by decide) (by decide), _, SqL.of hn3, fun po hpo => ?_⟩⟩⟩⟩
  rw [cutV_to k0, ← List.map_take] at s3 hp3
  have si := Same.upd (o := .lst (((namesF c0).take (c0 / 8 % 4).toNat).map V.str)) hpi
  have hi3 : H3 pi = some (.lst (((namesF c0).take (c0 / 8 % 4).toNat).map V.str)) := s3 _ _ upd_same
  have hcutO : cutV ((namesF c0).map V.str) (some 4) (some (4 + c0 / 32 % 5)) = (((namesF c0).take (4 + c0 / 32 % 5).toNat).drop 4).map V.str := by rw [cutV_mid (by decide) (by omega), List.map_drop, List.map_take]; rfl
  rw [hcutO]
  have so := Same.upd (o := .lst ((((namesF c0).take (4 + c0 / 32 % 5).toNat).drop 4).map V.str)) hpo
  have li : ((namesF c0).take (c0 / 8 % 4).toNat).length ≤ 8 := by rw [List.length_take]; omega
  have lo : (((namesF c0).take (4 + c0 / 32 % 5).toNat).drop 4).length ≤ 8 := by rw [List.length_drop, List.length_take]; omega
  generalize (namesF c0).take (c0 / 8 % 4).toNat = ins at *
  generalize ((namesF c0).take (4 + c0 / 32 % 5).toNat).drop 4 = oth at *
  have ho4 : upd H3 po (.lst (oth.map V.str)) po = some (.lst (oth.map V.str)) := upd_same
  have hi4 : upd H3 po (.lst (oth.map V.str)) pi = some (.lst (ins.map V.str)) := so _ _ hi3
  refine ⟨_, _, hi4, ho4, by rw [List.length_map, List.length_map, sizeLine_eq]; omega, fun pb hpb => ?_⟩
  have s4 : Same H (upd H3 po (.lst (oth.map V.str))) := (((s1.trans s2).trans si).trans s3).trans so
  have hc4 : upd H3 po (.lst (oth.map V.str)) pc = some (.lst (cs.map V.int)) := so _ _ (s3 _ _ (si _ _ (s2 _ _ hcs)))
  generalize upd H3 po (.lst (oth.map V.str)) = H4 at s4 hc4 hi4 ho4 hpb ⊢
  clear so si s3 hi3 hn3 hp3 s2 hpi hpo hn2 hp2
  have sb := Same.upd (o := .lst (ins.map V.str ++ oth.map V.str)) hpb
  refine ⟨cs, ins ++ oth, SqL.of (sb _ _ hc4), hl2, hm2, SqL.of (by rw [upd_same, List.map_append]), by omega, by omega, fun pr xs f H5 s5 hr5 hst hnd hfr => ?_⟩
  have s45 := sb.trans s5
  have g5 := progF_good (cs := cs) (ns := ins ++ oth) (w := 1 + c0 % 8) (most := 40) (by decide)
  generalize progF cs (ins ++ oth) (1 + c0 % 8) 40 = ss at hst g5
  have hi5 := s45 _ _ hi4
  have ho5 := s45 _ _ ho4
  have sH5 := s4.trans s45
  clear s45 s5 sb hc4 hi4 ho4 hpb hnd hfr
  intro pp dx hpp hdx hne
  simp only [r_initX]
  have s6 : Same H5 (upd (upd H5 dx (.own pp)) pp (.ins t.C_Program dx [])) := (Same.upd hdx).updM hpp
  refine ⟨dx, ins, oth, xs, ss, f, upd_same, s6 _ _ hi5, s6 _ _ ho5, s6 _ _ hr5, hst.same s6, by omega, by omega, by omega, by omega, fun a' b' r' ys g H7 sx hP _ _ => ⟨rfl, ?_⟩⟩
  have s7 : Same H5 H7 := fun c' o' e => sx c' o' (s6 _ _ e) (ne_of_none e hpp)
  have hr7 := s7 _ _ hr5
  have hst7 := hst.same s7
  have hi7 := s7 _ _ hi5
  have ho7 := s7 _ _ ho5
  rw [r_trim]
  refine (mk_trim (_) (ins) (oth) (ss) (a') (b') (r') (ys) (g) (hP) (by omega) (g5.1) (by omega) (by omega) (by omega) (fun fp a2 b2 r2 cur zs g2 H8 s8 hP8 ht hfix => ?_))
  obtain ⟨dx8, ob8⟩ := hP8.ob
  have hi8 := s8 _ _ hi7
  have ho8 := s8 _ _ ho7
  refine ⟨fun σ H' => Same H8 H' ∧ σ = [some (.ref a), some (.ref pc), some (.int c0), some (.int (1 + c0 % 8)), some (.ref pi), some (.ref po), some (.ref pr), some (.ref pp), some (.ref fp)], ?_, ?_⟩
  · refine ⟨fp, t.C_Program, dx8, _, rfl, ob8, _, rfl, ?_⟩
    rw [if_neg (by decide)]
    refine fget ob8 T.c_Program.cl T.n_Program_width rfl ⟨rfl, _, rfl, ?_⟩
    rw [decide_eq_true rfl, if_neg (by decide)]
    refine fget ob8 T.c_Program.cl T.n_Program_ins rfl ⟨_, rq_strs (SqL.of hP8.ia) (SqL.of hi8), _, rfl, ?_⟩
    rw [decide_eq_true rfl, if_neg (by decide)]
    refine fget ob8 T.c_Program.cl T.n_Program_boxes rfl ?_
    refine ⟨_, _, hi8, ho8, by rw [List.length_map, List.length_map, sizeLine_eq]; omega, fun p2 hp2 => ?_⟩
    have t2 := Same.upd (o := .lst (ins.map V.str ++ oth.map V.str)) hp2
    refine ⟨_, rq_strs (xs := ins ++ oth) (ys := ins ++ oth) (SqL.of (t2 _ _ hP8.bx)) (SqL.of (by rw [upd_same, List.map_append])), _, rfl, ?_⟩
    rw [decide_eq_true rfl, if_neg (by decide)]
    exact ⟨t2, rfl⟩
  rintro σ H9 ⟨s9, rfl⟩
  simp_arith [r_listRng, r_kget1, r_iEnumT, r_extend, r_sortedS]
  have s79 := s8.trans s9
  refine fget (s9 _ _ ob8) T.c_Program.cl T.n_Program_rows rfl ?_
  rw [r_ltd]
  have dt := ht.deep
  have mt := ht.many
  refine (mk_ltd (ins ++ oth) (_) (xs) (ss) (f) (s79 _ _ hr7) (hst7.same s79) (by omega) (by omega) (g5.1) (by rw [List.length_append]; omega) (fun p3 ys3 g3 cur3 H10 s10 e10 v10 ht3 hf3 => ?_))
  have e3 := GB.trm_one ht3 ht hf3 hfix
  subst e3
  rw [r_lsm]
  refine (mk_lsm (cur3) (zs) (ys3) (g2) (g3) (s10 _ _ (s9 _ _ hP8.rs)) (e10) ((hP8.st.same s9).same s10) (v10) (by omega) (by omega) (fun H11 s11 => ⟨_, rfl, ?_⟩))
  rw [if_neg (by decide)]
  have s711 := (s79.trans s10).trans s11
  have hP11 := hP.same s711
  obtain ⟨dx11, ob11⟩ := hP11.ob
  refine fget ob11 T.c_Program.cl T.n_Program_rows rfl ?_
  rw [r_lsm]
  exact (mk_lsm (ss) (ys) (xs) (g) (f) (hP11.rs) (s711 _ _ hr7) (hP11.st) (hst7.same s711) (by omega) (by omega) (fun H12 _ => q H12))
end
end K78
set_option maxHeartbeats 4000000
namespace K78
open PySem L2 PyProof.Rows FA FB FS FP FG FO FR
section
variable {P : Program} {w : World} {K : PySem.W.Frag} {mg : Str → Option Value} {base : Heap} {t : Ad}
theorem law_binds (T : Txt K mg t) : ∀ (s : Shared) (u : Value), BindsTo s t.e_law ⟨[u], []⟩ [("_law_script", u)] := by
  obtain ⟨oc, od, kV, doc, pm, an, cdv, ct, osl, e, _, _⟩ := T.d_law.F.ex
  intro s u
  rw [e]
  exact .of_eq rfl
end
theorem walk {l : PySem.W.OpenLaw} {q : Program} {loose : List Str} {XP : (Str → Option Value) → Heap → Prop} {YP : World → Heap → Prop} {d : DefRec} {K : Params → PySem.W.Frag} (hn : l.most = some 63) (hdf : d.params.defaults = []) (hd : d.name = "law")
    (hY : ∀ (w : World) (h : Heap), YP w h → (K w.params).In h)
    (F : ∀ (w : World) (mg : Str → Option Value) (h : Heap), (K w.params).In h → h.Ns mainGlobals mg → ∃ t, Txt (K w.params) mg t) :
    PySem.W.WalkO q loose XP YP l.row.toRowW d [] (fun f vs => PySem.call f vs) := by
  refine L2.walk_ofL (n := 63) (k := 100) (x := "_law_script") (CX := fun _ => CX0) (sp := fun w => sp_law (K w.params)) hn (by decide) hdf ⟨rfl, by decide, by decide⟩ hY (fun w mg fa h KX G hmg => ?_) (fun _ _ a ns hl hb _ hS => ⟨a, ns, rfl, hS, hl, hb, fun _ => rfl⟩) fun _ _ _ _ _ z => z
  obtain ⟨t, T⟩ := F w mg h KX G
  rw [hd] at hmg
  have e0 := hmg.symm.trans T.d_law.M
  cases e0
  exact ⟨t.e_law, law_binds T, fun base _ _ => (ok_law T).mono (by decide)⟩
end K78
set_option maxHeartbeats 4000000
open PySem PySem.W PyProof.Rows
set_option maxRecDepth 100000 in
set_option maxHeartbeats 0 in
theorem PySem.Challenge.cw_deedloom_k78_trimmed_programs_holds : PySem.Challenge.rw_deedloom_k78_trimmed_programs.Holds := by
  w_on; o_law; k_head; (case hw => w_witness2)
  k_fill
  refine K78.walk (l := PySem.Challenge.rw_deedloom_k78_trimmed_programs) rfl rfl rfl (fun w h Y => PySem.W.kIn_of Y) ?F
  case F =>
    intro w mg h KX G
    refine' K78.all_mk KX G ?aC_Program ?pg_Program ?hd_Program ?po_Program ?sa_Program ?mk_Program ?kc_Program ?n_Program_width ?n_Program_ins ?n_Program_boxes ?n_Program_rows ?a0 ?i0 ?l0 ?c0 ?k0 ?a1 ?l1 ?c1 ?k1 ?a2 ?l2 ?c2 ?k2 ?a3 ?l3 ?c3 ?k3 ?a4 ?l4 ?c4 ?k4 ?a5 ?l5 ?c5 ?k5 ?a6 ?l6 ?c6 ?k6 ?a7 ?l7 ?c7 ?k7 ?a8 ?l8 ?c8 ?k8 ?a9 ?l9 ?c9 ?k9 ?a10 ?l10 ?c10 ?k10 ?a11 ?l11 ?c11 ?k11 ?a12 ?l12 ?c12 ?k12 ?a13 ?l13 ?c13 ?k13 ?a14 ?l14 ?c14 ?k14 ?a15 ?l15 ?c15 ?k15 ?a16 ?l16 ?c16 ?k16 ?a17 ?l17 ?c17 ?k17 ?a18 ?l18 ?c18 ?k18 ?a19 ?l19 ?c19 ?k19 ?a20 ?l20 ?c20 ?k20 ?a21 ?l21 ?c21 ?k21 ?a22 ?l22 ?c22 ?k22 ?a23 ?l23 ?c23 ?k23 ?a24 ?l24 ?c24 ?k24 ?a25 ?l25 ?c25 ?k25 ?a26 ?l26 ?c26 ?k26 ?a27 ?l27 ?c27 ?k27 ?a28 ?l28 ?c28 ?k28 ?z_range ?z_isinstance ?z_int ?z_bool ?z_enumerate ?z_len ?z_str ?z_list ?z_tuple ?z_reversed ?z_sorted
    (case aC_Program => k_is)
    (case pg_Program => k_is)
    (case hd_Program => k_is)
    (case po_Program => k_is)
    (case sa_Program => k_is)
    (case mk_Program => k_is)
    (case kc_Program => k_is)
    (case n_Program_width => k_is)
    (case n_Program_ins => k_is)
    (case n_Program_boxes => k_is)
    (case n_Program_rows => k_is)
    (case a0 => k_is)
    (case i0 => k_is)
    (case l0 => k_is)
    (case c0 => k_is)
    (case k0 => k_is)
    (case a1 => k_is)
    (case l1 => k_is)
    (case c1 => k_is)
    (case k1 => k_is)
    (case a2 => k_is)
    (case l2 => k_is)
    (case c2 => k_is)
    (case k2 => k_is)
    (case a3 => k_is)
    (case l3 => k_is)
    (case c3 => k_is)
    (case k3 => k_is)
    (case a4 => k_is)
    (case l4 => k_is)
    (case c4 => k_is)
    (case k4 => k_is)
    (case a5 => k_is)
    (case l5 => k_is)
    (case c5 => k_is)
    (case k5 => k_is)
    (case a6 => k_is)
    (case l6 => k_is)
    (case c6 => k_is)
    (case k6 => k_is)
    (case a7 => k_is)
    (case l7 => k_is)
    (case c7 => k_is)
    (case k7 => k_is)
    (case a8 => k_is)
    (case l8 => k_is)
    (case c8 => k_is)
    (case k8 => k_is)
    (case a9 => k_is)
    (case l9 => k_is)
    (case c9 => k_is)
    (case k9 => k_is)
    (case a10 => k_is)
    (case l10 => k_is)
    (case c10 => k_is)
    (case k10 => k_is)
    (case a11 => k_is)
    (case l11 => k_is)
    (case c11 => k_is)
    (case k11 => k_is)
    (case a12 => k_is)
    (case l12 => k_is)
    (case c12 => k_is)
    (case k12 => k_is)
    (case a13 => k_is)
    (case l13 => k_is)
    (case c13 => k_is)
    (case k13 => k_is)
    (case a14 => k_is)
    (case l14 => k_is)
    (case c14 => k_is)
    (case k14 => k_is)
    (case a15 => k_is)
    (case l15 => k_is)
    (case c15 => k_is)
    (case k15 => k_is)
    (case a16 => k_is)
    (case l16 => k_is)
    (case c16 => k_is)
    (case k16 => k_is)
    (case a17 => k_is)
    (case l17 => k_is)
    (case c17 => k_is)
    (case k17 => k_is)
    (case a18 => k_is)
    (case l18 => k_is)
    (case c18 => k_is)
    (case k18 => k_is)
    (case a19 => k_is)
    (case l19 => k_is)
    (case c19 => k_is)
    (case k19 => k_is)
    (case a20 => k_is)
    (case l20 => k_is)
    (case c20 => k_is)
    (case k20 => k_is)
    (case a21 => k_is)
    (case l21 => k_is)
    (case c21 => k_is)
    (case k21 => k_is)
    (case a22 => k_is)
    (case l22 => k_is)
    (case c22 => k_is)
    (case k22 => k_is)
    (case a23 => k_is)
    (case l23 => k_is)
    (case c23 => k_is)
    (case k23 => k_is)
    (case a24 => k_is)
    (case l24 => k_is)
    (case c24 => k_is)
    (case k24 => k_is)
    (case a25 => k_is)
    (case l25 => k_is)
    (case c25 => k_is)
    (case k25 => k_is)
    (case a26 => k_is)
    (case l26 => k_is)
    (case c26 => k_is)
    (case k26 => k_is)
    (case a27 => k_is)
    (case l27 => k_is)
    (case c27 => k_is)
    (case k27 => k_is)
    (case a28 => k_is)
    (case l28 => k_is)
    (case c28 => k_is)
    (case k28 => k_is)
    (case z_range => k_is)
    (case z_isinstance => k_is)
    (case z_int => k_is)
    (case z_bool => k_is)
    (case z_enumerate => k_is)
    (case z_len => k_is)
    (case z_str => k_is)
    (case z_list => k_is)
    (case z_tuple => k_is)
    (case z_reversed => k_is)
    (case z_sorted => k_is)

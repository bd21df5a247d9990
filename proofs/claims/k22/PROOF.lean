import PyProof.Rows.All
import Wide.All
import OpenK.AllK
import Wide.FinOn
import PyProof.EqAt
import PyProof.EqKinds
import PyProof.TupleCall
import PyProof.NeKinds
import PyProof.CompUse
import PyProof.IsiSeqPairs
import PyProof.IsiNone
import PyProof.Rows.SumAny
import KE.KDictOf
import KE.KEqDict
import PyProof.DictCopy
import PyProof.Rows.StrJoin2
import PyProof.Rows.SortWalk
import PyProof.ConsumeWalk
import PyProof.EnumMake
import KE.KDictList
import PyProof.DictValues
import KE.IntBitsLaws
import PyProof.Rows.SortStr
import PySem.Challenge.RW_deedloom_k22_blocks_for_all_words
set_option genSizeOf false
set_option compiler.extract_closed false
set_option Elab.async false
set_option linter.all false
set_option maxRecDepth 100000
namespace L2
open PySem PySem.Spec PyProof.Rows
noncomputable abbrev Key := Sum Int Str
noncomputable def keyIs : Key → Value → Bool
  | .inl k, v => Value.isInt k v
  | .inr x, v => Value.isStrOf x v
noncomputable def keyH (w : World) : Key → Int
  | .inl k => hashInt k
  | .inr x => hashStr w x
theorem keyIs_shape : ∀ {k : Key} {v : Value}, keyIs k v = true → (∃ i t, k = Sum.inl i ∧ v = Value.int i t) ∨ (∃ x t, k = Sum.inr x ∧ v = Value.str x t)
  | .inl i, v, h => by
    obtain ⟨t, e⟩ := Value.isInt_shape (k := i) (v := v) h
    exact .inl ⟨i, t, rfl, e⟩
  | .inr x, v, h => by
    obtain ⟨t, e⟩ := Value.isStrOf_shape (x := x) (v := v) h
    exact .inr ⟨x, t, rfl, e⟩
theorem keyIs_int (i : Int) (t : Tok) : keyIs (.inl i) (.int i t) = true := by simp [keyIs, Value.isInt]
theorem keyIs_str (x : Str) (t : Tok) : keyIs (.inr x) (.str x t) = true := by simp [keyIs, Value.isStrOf]
theorem key_ll (a b : Int) : decide ((Sum.inl a : Key) = Sum.inl b) = (a == b) := by
  by_cases e : a = b
  · subst e; simp
  · have h : ¬ (Sum.inl a : Key) = Sum.inl b := fun q => e (Sum.inl.inj q)
    rw [decide_eq_false h]
    exact (beq_eq_false_iff_ne.mpr e).symm
theorem key_rr (a b : Str) : decide ((Sum.inr a : Key) = Sum.inr b) = decide (a = b) := by
  by_cases e : a = b
  · subst e; simp
  · have h : ¬ (Sum.inr a : Key) = Sum.inr b := fun q => e (Sum.inr.inj q)
    rw [decide_eq_false h, decide_eq_false e]
theorem key_lr (a : Int) (b : Str) : decide ((Sum.inl a : Key) = Sum.inr b) = false := decide_eq_false (fun q => nomatch q)
theorem key_rl (a : Str) (b : Int) : decide ((Sum.inr a : Key) = Sum.inl b) = false := decide_eq_false (fun q => nomatch q)
noncomputable def mixKind (prog : Program) (w : World) : PySem.KeyKind prog w Key where
  is := keyIs
  hash := keyH w
  inj := fun v a b ha hb => by
    rcases keyIs_shape ha with ⟨i, t, rfl, rfl⟩ | ⟨x, t, rfl, rfl⟩
    · rcases keyIs_shape hb with ⟨j, u, rfl, e⟩ | ⟨y, u, rfl, e⟩
      · injection e with e1 _; rw [e1]
      · exact nomatch e
    · rcases keyIs_shape hb with ⟨j, u, rfl, e⟩ | ⟨y, u, rfl, e⟩
      · exact nomatch e
      · injection e with e1 _; rw [e1]
  byValue := fun k v h => by
    rcases keyIs_shape h with ⟨i, t, rfl, rfl⟩ | ⟨x, t, rfl, rfl⟩ <;> rfl
  pyHash := fun hv h => by
    rcases keyIs_shape hv with ⟨i, t, rfl, rfl⟩ | ⟨x, t, rfl, rfl⟩
    · exact wpAny_pyHash_int h
    · exact wpAny_pyHash_str h
  eqBool := fun hu hv h => by
    rcases keyIs_shape hu with ⟨i, t, rfl, rfl⟩ | ⟨x, t, rfl, rfl⟩
    · rcases keyIs_shape hv with ⟨j, u, rfl, rfl⟩ | ⟨y, u, rfl, rfl⟩
      · rw [key_ll] at h; exact wpAny_eqBool_int h
      · rw [key_lr] at h; exact SeqAt.EqAt.int_str i t y u _ _ _ _ h
    · rcases keyIs_shape hv with ⟨j, u, rfl, rfl⟩ | ⟨y, u, rfl, rfl⟩
      · rw [key_rl] at h; exact SeqAt.EqAt.str_int x t j u _ _ _ _ h
      · rw [key_rr] at h; exact wpAny_eqBool_str h
  «strs» := fun k x t v h => by
    rcases keyIs_shape h with ⟨i, u, rfl, e⟩ | ⟨y, u, rfl, e⟩
    · exact nomatch e
    · injection e with e1 _
      subst e1
      cases v <;> rfl
theorem mixKind_int (prog : Program) (w : World) (i : Int) (t : Tok) : (mixKind prog w).is (.inl i) (.int i t) = true := keyIs_int i t
theorem mixKind_str (prog : Program) (w : World) (x : Str) (t : Tok) : (mixKind prog w).is (.inr x) (.str x t) = true := keyIs_str x t
end L2
namespace L2
open PySem PySem.Spec PyProof.Rows
inductive V where
  | non | bl (b : Bool) | int (i : Int) | str (x : Str) | byt (b : Array UInt8) | flt (b : UInt64) | ref (a : Addr) | ty (n : String)
  deriving DecidableEq
noncomputable def RelV : V → Value → Prop
  | .non, u => u = Value.none
  | .bl b, u => u = Value.bool b
  | .int i, u => ∃ t, u = Value.int i t
  | .str x, u => ∃ t, u = Value.str x t
  | .byt b, u => ∃ t, u = Value.bytes b t
  | .flt b, u => ∃ t, u = Value.float b t
  | .ref a, u => u = Value.ref a
  | .ty n, u => u = Value.type n
noncomputable abbrev Vals : List V → List Value → Prop := Paired RelV
theorem Vals.length {xs : List V} {us : List Value} (r : Vals xs us) : xs.length = us.length := Paired.length r
theorem Vals.get : ∀ {xs : List V} {us : List Value} {i : Nat} {x : V}, Vals xs us → xs[i]? = some x → ∃ u, us[i]? = some u ∧ RelV x u
  | _, _, _, _, .nil, e => by simp at e
  | _, _, 0, _, .cons r _, e => by simp at e; subst e; exact ⟨_, rfl, r⟩
  | _, _, i + 1, x, .cons _ t, e => by
    obtain ⟨u, h1, h2⟩ := Vals.get (i := i) (x := x) t (by simpa using e)
    exact ⟨u, by simpa using h1, h2⟩
theorem Vals.set {x : V} {u : Value} (r : RelV x u) : ∀ {xs : List V} {us : List Value} (i : Nat), Vals xs us → Vals (xs.set i x) (us.set i u)
  | _, _, _, .nil => .nil
  | _, _, 0, .cons _ t => .cons r t
  | _, _, i + 1, .cons q t => .cons q (Vals.set r i t)
theorem Vals.append : ∀ {xs ys : List V} {us ws : List Value}, Vals xs us → Vals ys ws → Vals (xs ++ ys) (us ++ ws)
  | _, _, _, _, .nil, s => s
  | _, _, _, _, .cons r t, s => .cons r (Vals.append t s)
theorem Vals.take : ∀ {xs : List V} {us : List Value} (n : Nat), Vals xs us → Vals (xs.take n) (us.take n)
  | _, _, 0, _ => .nil
  | _, _, _ + 1, .nil => .nil
  | _, _, n + 1, .cons r t => .cons r (Vals.take n t)
theorem Vals.drop : ∀ {xs : List V} {us : List Value} (n : Nat), Vals xs us → Vals (xs.drop n) (us.drop n)
  | _, _, 0, r => r
  | _, _, _ + 1, .nil => .nil
  | _, _, n + 1, .cons _ t => Vals.drop n t
noncomputable def RelO : Option V → Option Value → Prop
  | some v, some u => RelV v u
  | none, none => True
  | _, _ => False
noncomputable def KV {κ : Type} : List (κ × V) → List (κ × Value) → Prop := Paired fun (p : κ × V) (q : κ × Value) => p.1 = q.1 ∧ RelV p.2 q.2
noncomputable def kV : Key → V
  | .inl i => .int i
  | .inr x => .str x
inductive HO where
  /-- a list -/
  | lst (xs : List V)
  /-- a tuple (never changes) -/
  | tup (xs : List V)
  /-- a dict whose keys are ints and texts; one whose keys are tuples of ints and texts (the empty one is both) -/
  | dK (kvs : List (Key × V)) | dT (kvs : List (List Key × V))
  /-- a set of ints: its members, its size -/
  | set (S : Int → Bool) (n : Nat)
  /-- an instance of the class at C, its dict at dx, its attributes -/
  | ins (C dx : Addr) (fs : List (Str × V))
  /-- the dict of the instance at x -/
  | own (x : Addr)
  /-- the dict of an exception -/
  | xd (fs : List (Str × V))
  /-- a bound method, f of x -/
  | met (f x : Addr)
  /-- a range object lo, lo + 1, .. below hi -/
  | rng (lo hi : Int)
  /-- a thing that is known to the object (the script; a dict while a loop walks it): read, never written while it is so -/
  | frz (o : Obj) (u : HO)
  /-- a code object's table -/
  | tbl (ps : Array Value)
  /-- any other thing, by what is true of its one object (a def of one's own: SetO a S n := HO.ext fun h => ..) -/
  | ext (φ : Heap → Prop)
noncomputable abbrev Hp := Addr → Option HO
noncomputable def upd (H : Hp) (a : Addr) (o : HO) : Hp := fun b => if b = a then some o else H b
theorem upd_same {H : Hp} {a : Addr} {o : HO} : upd H a o a = some o := by unfold upd; rw [if_pos rfl]
theorem upd_ne {H : Hp} {a b : Addr} {o : HO} (h : b ≠ a) : upd H a o b = H b := by unfold upd; rw [if_neg h]
theorem upd_upd {H : Hp} {a : Addr} {o u : HO} : upd (upd H a o) a u = upd H a u := by
  funext b; unfold upd; split <;> rfl
theorem ne_of {H : Hp} {a b : Addr} {o u : HO} (h : H a = some o) (h' : H b = some u) (d : o ≠ u) : a ≠ b := by
  intro e; subst e; rw [h] at h'; exact d (Option.some.inj h')
theorem ne_of_none {H : Hp} {a b : Addr} {o : HO} (h : H a = some o) (h' : H b = none) : a ≠ b := by
  intro e; subst e; rw [h] at h'; cases h'
section
variable (P : Program) (w : World)
noncomputable def ObjOk (H : Hp) (h : Heap) (a : Addr) : HO → Prop
  | .lst xs => xs.length ≤ sizeLine ∧ ∃ (its : List Value) (n : Nat), Vals xs its ∧ h.get? a = some { cls := .type "list", data := .seq its.toArray n }
  | .tup xs => xs.length ≤ sizeLine ∧ ∃ its : List Value, Vals xs its ∧ IsTup h a its.toArray
  | .dK kvs => kvs.length ≤ sizeLine ∧ (a == sysModules) = false ∧ ∃ vs, KV kvs vs ∧ h.DictOf (mixKind P w) a vs
  | .dT kvs => kvs.length ≤ sizeLine ∧ (a == sysModules) = false ∧ ∃ xs : List (List Key × Addr × Value),
      Paired (fun (p : List Key × V) (q : List Key × Addr × Value) => p.1 = q.1 ∧ H q.2.1 = some (.tup (p.1.map kV)) ∧ RelV p.2 q.2.2) kvs xs ∧
      ∃ o es ep, h.get? a = some o ∧ o.ExactDict ∧ o.data = .dict es ep ∧ es.toList = xs.map (entryOfKey (tupleKind (mixKind P w))) ∧ (xs.map (·.1)).Nodup
  | .set S n => h.SetOf (intKind P w) a S n
  | .ins C dx fs => H dx = some (.own a) ∧ fs.length ≤ 1000 ∧ dx ≠ a ∧ h.get? a = some (PySem.W.instObj C dx) ∧
      ∃ mA, h.Ns1 dx mA ∧ (∀ f, RelO (fs.lookup f) (mA f)) ∧ PySem.Within mA (fs.map (·.1))
  | .own _ => ∃ o, h.get? a = some o
  | .xd fs => ∃ mA, h.Ns1 a mA ∧ ∀ f, RelO (fs.lookup f) (mA f)
  | .rng lo hi => ∃ t u v, h.get? a = some { cls := .type "range", data := .fields #[.int lo t, .int hi u, .int 1 v] }
  | .frz o u => h.get? a = some o ∧ ObjOk H h a u
  | .tbl ps => h.get? a = some { cls := .none, data := .fields ps }
  | .met f x => h.get? a = some (PySem.W.methodObj (.ref f) (.ref x))
  | .ext φ => φ h ∧ (∃ o, h.get? a = some o) ∧ ∀ h1 h2 : Heap, φ h1 → (∀ o, h1.get? a = some o → h2.get? a = some o) → φ h2
noncomputable def HOk (H : Hp) (h : Heap) : Prop := ∀ a o, H a = some o → ObjOk P w H h a o
end
section
variable {P : Program} {w : World} {H H' : Hp} {h h' : Heap} {a : Addr} {o : HO}
theorem ObjOk.lt (x : ObjOk P w H h a o) : a < h.objs.size := by
  cases o with
  | lst xs => obtain ⟨_, _, _, _, e⟩ := x; exact Heap.lt_size e
  | tup xs => obtain ⟨_, _, _, p⟩ := x; exact p.lt
  | dK kvs => obtain ⟨_, _, _, _, o, _, _, e, _⟩ := x; exact Heap.lt_size e
  | dT kvs => obtain ⟨_, _, _, _, o, _, _, e, _⟩ := x; exact Heap.lt_size e
  | set S n => obtain ⟨o, _, _, _, e, _⟩ := x; exact Heap.lt_size e
  | ins C dx fs => obtain ⟨_, _, _, e, _⟩ := x; exact Heap.lt_size e
  | own y => obtain ⟨_, e⟩ := x; exact Heap.lt_size e
  | xd fs => obtain ⟨_, ⟨_, _, _, e, _⟩, _⟩ := x; exact Heap.lt_size e
  | rng lo hi => obtain ⟨_, _, _, e⟩ := x; exact Heap.lt_size e
  | frz ob u => obtain ⟨e, _⟩ := x; exact Heap.lt_size e
  | tbl ps => exact Heap.lt_size (show h.get? a = some _ from x)
  | met f y => exact Heap.lt_size (show h.get? a = some _ from x)
  | ext φ => obtain ⟨_, ⟨_, e⟩, _⟩ := x; exact Heap.lt_size e
theorem Paired.mapP {α β : Type} {F G : α → β → Prop} : ∀ {l₁ : List α} {l₂ : List β}, Paired F l₁ l₂ → (∀ a b, F a b → G a b) → Paired G l₁ l₂
  | _, _, .nil, _ => .nil
  | _, _, .cons r t, f => .cons (f _ _ r) (Paired.mapP t f)
theorem ObjOk.stay (x : ObjOk P w H h a o) (k : ∀ b u, (b = a ∨ H b = some (.own a)) → h.get? b = some u → h'.get? b = some u)
    (ho : ∀ b, H b = some (.own a) → H' b = some (.own a)) (ht : ∀ b xs, H b = some (.tup xs) → H' b = some (.tup xs)) : ObjOk P w H' h' a o := by
  induction o with
  | lst xs => obtain ⟨z, its, n, r, e⟩ := x; exact ⟨z, its, n, r, k _ _ (.inl rfl) e⟩
  | tup xs => obtain ⟨z, its, r, ob, e, c⟩ := x; exact ⟨z, its, r, ob, k _ _ (.inl rfl) e, c⟩
  | dK kvs => obtain ⟨z, y, vs, r, ob, es, ep, e, c⟩ := x; exact ⟨z, y, vs, r, ob, es, ep, k _ _ (.inl rfl) e, c⟩
  | dT kvs =>
    obtain ⟨z, y, xs, r, ob, es, ep, e, c⟩ := x
    exact ⟨z, y, xs, Paired.mapP r fun p q z => ⟨z.1, ht _ _ z.2.1, z.2.2⟩, ob, es, ep, k _ _ (.inl rfl) e, c⟩
  | set S n => obtain ⟨ob, es, ep, t, e, c⟩ := x; exact ⟨ob, es, ep, t, k _ _ (.inl rfl) e, c⟩
  | ins C dx fs =>
    obtain ⟨d, z, ne, e, mA, ⟨od, es, ep, e2, c⟩, r⟩ := x
    exact ⟨ho _ d, z, ne, k _ _ (.inl rfl) e, mA, ⟨od, es, ep, k _ _ (.inr d) e2, c⟩, r⟩
  | own y => obtain ⟨ob, e⟩ := x; exact ⟨ob, k _ _ (.inl rfl) e⟩
  | xd fs => obtain ⟨mA, ⟨od, es, ep, e, c⟩, r⟩ := x; exact ⟨mA, ⟨od, es, ep, k _ _ (.inl rfl) e, c⟩, r⟩
  | rng lo hi => obtain ⟨t, u, v, e⟩ := x; exact ⟨t, u, v, k _ _ (.inl rfl) e⟩
  | frz ob u ih => obtain ⟨e, q⟩ := x; exact ⟨k _ _ (.inl rfl) e, ih q⟩
  | tbl ps =>
    have e : h.get? a = some { cls := .none, data := .fields ps } := x
    show h'.get? a = some { cls := .none, data := .fields ps }
    exact k a _ (.inl rfl) e
  | met f y =>
    have e : h.get? a = some (PySem.W.methodObj (.ref f) (.ref y)) := x
    show h'.get? a = some (PySem.W.methodObj (.ref f) (.ref y))
    exact k a _ (.inl rfl) e
  | ext φ => obtain ⟨p, ⟨o, e⟩, st⟩ := x; exact ⟨st _ _ p fun o q => k _ _ (.inl rfl) q, ⟨o, k _ _ (.inl rfl) e⟩, st⟩
theorem HOk.lt (x : HOk P w H h) (e : H a = some o) : a < h.objs.size := (x a o e).lt
theorem HOk.fresh (x : HOk P w H h) (e : h.objs.size ≤ a) : H a = none := by
  cases q : H a with
  | none => rfl
  | some u => exact absurd (Nat.lt_of_lt_of_le (x.lt q) e) (Nat.lt_irrefl _)
theorem HOk.kept (x : HOk P w H h) (k : ∀ b u, h.get? b = some u → h'.get? b = some u) : HOk P w H h' := fun a o e =>
  (x a o e).stay (fun b u _ q => k b u q) (fun _ q => q) fun _ _ q => q
theorem HOk.laid (x : HOk P w H h) (k : ∀ b u, h.get? b = some u → h'.get? b = some u) (hp : h.objs.size ≤ a) (new : ObjOk P w (upd H a o) h' a o) : HOk P w (upd H a o) h' := fun b u e => by
  have hn := x.fresh hp
  by_cases hb : b = a
  · subst hb; rw [upd_same] at e; cases e; exact new
  · rw [upd_ne hb] at e
    exact (x b u e).stay (fun c v _ q => k c v q) (fun c q => by rw [upd_ne (ne_of_none q hn)]; exact q) fun c xs q => by rw [upd_ne (ne_of_none q hn)]; exact q
end
noncomputable def Rd (H : Hp) (a : Addr) (u : HO) : Prop := H a = some u ∨ ∃ o, H a = some (.frz o u)
theorem Rd.ok {P : Program} {w : World} {H : Hp} {h : Heap} {a : Addr} {u : HO} (r : Rd H a u) (x : HOk P w H h) : ObjOk P w H h a u := by
  rcases r with r | ⟨o, r⟩
  · exact x a u r
  · obtain ⟨_, q⟩ := x a _ r
    exact q
noncomputable def Mut : Option HO → Prop
  | some (.lst _) => True
  | some (.dK _) => True
  | some (.dT _) => True
  | some (.set _ _) => True
  | some (.ins _ _ _) => True
  | some (.ext _) => True
  | _ => False
section
variable {P : Program} {w : World} {H : Hp} {h h' : Heap} {x e : Addr} {o' : HO}
theorem HOk.write (ok : HOk P w H h) (mu : Mut (H x)) (he : e = x ∨ H e = some (.own x)) (k : ∀ b u, b ≠ e → h.get? b = some u → h'.get? b = some u) (heo : ∃ u, h'.get? e = some u)
    (new : ObjOk P w (upd H x o') h' x o') : HOk P w (upd H x o') h' := fun b u q => by
  have nown : ∀ c y, H c = some (.own y) → c ≠ x := fun c y r z => by subst z; rw [r] at mu; exact mu
  have ntup : ∀ c xs, H c = some (.tup xs) → c ≠ x := fun c xs r z => by subst z; rw [r] at mu; exact mu
  by_cases hb : b = x
  · subst hb; rw [upd_same] at q; cases q; exact new
  · rw [upd_ne hb] at q
    by_cases hbe : b = e
    · have q' : H b = some (.own x) := by
        rcases he with z | z
        · exact absurd (hbe.trans z) hb
        · rw [hbe]; exact z
      rw [q] at q'; cases q'
      obtain ⟨v, hv⟩ := heo
      exact ⟨v, by rw [hbe]; exact hv⟩
    · refine (ok b u q).stay (fun c v hc r => k c v ?_ r) (fun c r => by rw [upd_ne (nown c b r)]; exact r) fun c xs r => by rw [upd_ne (ntup c xs r)]; exact r
      rcases hc with rfl | hc
      · exact hbe
      · rintro rfl
        rcases he with z | z
        · exact nown c b hc z
        · rw [hc] at z; cases z; exact hb rfl
end
structure Un (fs ex : List Addr) (H H' : Hp) (h h' : Heap) : Prop where
  keep : ∀ b o, h.get? b = some o → H b = none → b ∉ fs → b ∉ ex → h'.get? b = some o
  slot : ∀ b o, h.get? b = some o → H b = none → b ∈ fs → b ∉ ex → ∃ sl, h'.get? b = some { o with slots := sl }
  free : ∀ b o, h.get? b = some o → H b = none → b ∉ ex → H' b = none
  there : ∀ b o, h.get? b = some o → b ∉ ex → ∃ o', h'.get? b = some o'
  tups : ∀ b xs, H b = some (.tup xs) → H' b = some (.tup xs)
  frzs : ∀ b o u, H b = some (.frz o u) → H' b = some (.frz o u)
  tbls : ∀ b ps, H b = some (.tbl ps) → ∃ more, H' b = some (.tbl (ps ++ more))
section
variable {fs fs' ex ex' : List Addr} {H H1 H2 : Hp} {h h1 h2 h' : Heap} {a x e : Addr} {o : HO}
theorem Un.any (u : Un fs ex H H1 h h1) {b : Addr} {ob : Obj} (q : h.get? b = some ob) (n : H b = none) (hx : b ∉ ex) : ∃ sl, h1.get? b = some { ob with slots := sl } := by
  by_cases hb : b ∈ fs
  · exact u.slot b ob q n hb hx
  · exact ⟨ob.slots, u.keep b ob q n hb hx⟩
theorem Un.kept (k : ∀ b u, h.get? b = some u → h'.get? b = some u) : Un fs ex H H h h' :=
  ⟨fun b ob q _ _ _ => k b ob q, fun b ob q _ _ _ => ⟨ob.slots, k b ob q⟩, fun _ _ _ n _ => n, fun b ob q _ => ⟨ob, k b ob q⟩, fun _ _ q => q, fun _ _ _ q => q, fun _ ps q => ⟨#[], by rw [q]; simp⟩⟩
theorem Un.refl : Un fs ex H H h h := Un.kept fun _ _ q => q
theorem Un.laid (k : ∀ b u, h.get? b = some u → h'.get? b = some u) (hp : h.objs.size ≤ a) (hn : H a = none) : Un fs ex H (upd H a o) h h' where
  keep := fun b u q _ _ _ => k b u q
  slot := fun b u q _ _ _ => ⟨u.slots, k b u q⟩
  free := fun b u q n _ => by rw [upd_ne (Nat.ne_of_lt (Nat.lt_of_lt_of_le (Heap.lt_size q) hp))]; exact n
  there := fun b u q _ => ⟨u, k b u q⟩
  tups := fun b xs q => by rw [upd_ne (ne_of_none q hn)]; exact q
  frzs := fun b u xs q => by rw [upd_ne (ne_of_none q hn)]; exact q
  tbls := fun b ps q => ⟨#[], by rw [upd_ne (ne_of_none q hn), q]; simp⟩
theorem Un.write (mu : Mut (H x)) (he : e = x ∨ H e = some (.own x)) (k : ∀ b u, b ≠ e → h.get? b = some u → h'.get? b = some u) (heo : ∃ u, h'.get? e = some u) : Un fs ex H (upd H x o) h h' := by
  have hx : ∀ b, H b = none → b ≠ x := fun b n z => by subst z; rw [n] at mu; exact mu
  have hb : ∀ b, H b = none → b ≠ e := fun b n z => by
    subst z
    rcases he with r | r
    · exact hx b n r
    · rw [n] at r; cases r
  have hm : ∀ b u, H b = some u → ¬ Mut (some u) → b ≠ x := fun b u q nm z => by subst z; rw [q] at mu; exact nm mu
  refine ⟨fun b u q n _ _ => k b u (hb b n) q, fun b u q n _ _ => ⟨u.slots, k b u (hb b n) q⟩, fun b u q n _ => by rw [upd_ne (hx b n)]; exact n, fun b u q _ => ?_,
    fun b xs q => by rw [upd_ne (hm b _ q fun z => z)]; exact q, fun b u xs q => by rw [upd_ne (hm b _ q fun z => z)]; exact q, fun b ps q => ⟨#[], by rw [upd_ne (hm b _ q fun z => z), q]; simp⟩⟩
  by_cases hbe : b = e
  · subst hbe; exact heo
  · exact ⟨u, k b u hbe q⟩
end
noncomputable def trk (h : Heap) (H : Hp) : List Addr := (List.range h.objs.size).filter fun a => (H a).isSome
noncomputable def hidT (h : Heap) (H : Hp) : Heap := PySem.W.hideAll h (trk h H)
theorem hidT_size (h : Heap) (H : Hp) : (hidT h H).objs.size = h.objs.size := PySem.W.hideAll_size _ _
theorem hidT_get {h : Heap} {H : Hp} {b : Addr} {o : Obj} (e : h.get? b = some o) (n : H b = none) : (hidT h H).get? b = some o :=
  PySem.W.hideAll_get _ e fun hm => by
    have q : (H b).isSome = true := (List.mem_filter.mp hm).2
    rw [n] at q; simp at q
theorem of_hidT {h : Heap} {H : Hp} {b : Addr} {o : Obj} (e : (hidT h H).get? b = some o) : h.get? b = some o ∧ H b = none := by
  have e' : h.get? b = some o := PySem.W.of_hideAll (trk h H) e
  refine ⟨e', ?_⟩
  cases q : H b with
  | none => rfl
  | some x =>
    have hm : b ∈ trk h H := List.mem_filter.mpr ⟨List.mem_range.mpr (Heap.lt_size e'), by simp [q]⟩
    have z : (hidT h H).get? b = none := PySem.W.hideAll_none (trk h H) hm
    rw [z] at e; cases e
noncomputable def allNews (g h : Heap) (L : Addr) : List (Addr × Obj) := (List.range h.objs.size).filterMap fun a => if a = L ∨ (g.get? a).isSome = true then none else (h.get? a).map fun o => (a, o)
noncomputable def rest (g h : Heap) (L d : Addr) : List (Addr × Obj) := (allNews g h L).filter fun p => decide (p.1 ≠ d)
end L2
namespace L2
open PySem PySem.Spec PyProof.Rows
structure Mod (K : PySem.W.Frag) (mg : Str → Option Value) (base : Heap) : Prop where
  kin : K.In base
  glob : base.Ns mainGlobals mg
  blt : ∃ mb, base.Ns builtinsNs mb ∧ ∀ x : Str, x ≠ "__name__" → mb x = bootBuiltins x
  nolimit : base.NoLimit
structure Cx where
  prog : Program
  w : World
  K : PySem.W.Frag
  mg : Str → Option Value
  base : Heap
  A : Around
  N : List Str
  s₀ : Shared
  H₀ : Hp
  env : Env
  outer : List Env
  stack : List Env
  ex : List Addr
  fn : Str → Bool
  calm : Bool
  pn : List (Addr × Obj)
  xe : Value → Shared → Prop
noncomputable def frs (l : List Env) : List Addr := l.filterMap (·.frame)
noncomputable abbrev Cx.fs (X : Cx) : List Addr := frs X.outer
noncomputable def Vis (sc : Scope) (x : Str) : Prop := sc.names.lookup x = some .local ∨ sc.names.lookup x = some .cell ∨ sc.names.lookup x = some .free
noncomputable def Loc (sc : Scope) (x : Str) : Prop := sc.names.lookup x = some .local ∨ sc.names.lookup x = some .cell
noncomputable def Look (env : Env) (h : Heap) (m : Str → Option Value) (x : Str) (u : Value) : Prop :=
  (env.kindOf x = some .local ∧ m x = some u) ∨ ((env.kindOf x = some .cell ∨ env.kindOf x = some .free) ∧ ∃ c, env.cells.lookup x = some c ∧ h.IsCell c (some u))
structure Cx.Ok (X : Cx) : Prop where
  mod : Mod X.K X.mg X.base
  kind : X.env.scope.kind = .function
  glob : X.env.globals = mainGlobals
  blt : X.env.builtins = builtinsNs
  above : X.s₀.heap.objs.size ≤ X.env.locals
  inj : ∀ x y c, X.env.cells.lookup x = some c → X.env.cells.lookup y = some c → x = y
  has : ∀ x, (X.env.kindOf x = some .cell ∨ X.env.kindOf x = some .free) → ∃ c, X.env.cells.lookup x = some c
  cab : ∀ x c, X.fn x = true → X.env.cells.lookup x = some c → X.s₀.heap.objs.size ≤ c
  hd : X.calm = true → X.A.handled = none
  frames : X.A.frames = some X.stack
  stk : X.stack = X.outer ∨ (X.stack = X.env :: X.outer ∧ X.env.frame = some X.env.locals)
  exf : ∀ b ∈ X.ex, b ≠ X.env.locals ∧ ∀ x c, X.env.cells.lookup x = some c → c ≠ b
  bs : ∀ b o, X.base.get? b = some o → X.s₀.heap.get? b = some o ∧ X.H₀ b = none
  bsz : X.base.objs.size ≤ X.s₀.heap.objs.size
  noex : ∀ b o, X.base.get? b = some o → b ∉ X.ex
  exfs : ∀ b ∈ X.ex, b ∉ X.fs
  funs : X.s₀.heap.FunFrames X.base X.outer
  frf : ∀ b ∈ X.fs, X.H₀ b = none
structure Inv (X : Cx) (pins : List (Addr × Obj)) (σ : List (Option V)) (H : Hp) (s : Shared) : Prop where
  ok : X.Ok
  os : s.os = X.s₀.os
  bare : AllBare s.gens
  base : Un X.fs X.ex X.H₀ H X.s₀.heap s.heap
  loc : ∃ m, s.heap.Ns X.env.locals m ∧ ∀ (i : Nat) (x : Str) (v : V), X.N[i]? = some x → σ[i]? = some (some v) → Vis X.env.scope x → ∃ u, RelV v u ∧ Look X.env s.heap m x u
  cell : ∀ x c, X.env.cells.lookup x = some c → ∃ v, s.heap.IsCell c v
  free : H X.env.locals = none
  freeC : ∀ x c, X.env.cells.lookup x = some c → H c = none
  pin : ∀ p ∈ X.pn ++ pins, s.heap.get? p.1 = some p.2 ∧ H p.1 = none ∧ p.1 ≠ X.env.locals ∧ p.1 ∉ X.fs ∧ ∀ v, p.2.data ≠ .cell v
  hok : HOk X.prog X.w H s.heap
  len : σ.length = X.N.length
section
variable {X : Cx} {pins : List (Addr × Obj)} {σ : List (Option V)} {H H' : Hp} {s : Shared} {h' : Heap}
theorem Cx.Ok.nofr (ok : X.Ok) {b : Addr} {o : Obj} (e : X.base.get? b = some o) : b ∉ X.fs := fun hb => by
  have := (ok.funs.mem hb).1
  rw [e] at this; cases this
theorem Inv.bs (I : Inv X pins σ H s) : ∀ b o, X.base.get? b = some o → s.heap.get? b = some o ∧ H b = none := fun b o e =>
  ⟨I.base.keep b o (I.ok.bs b o e).1 (I.ok.bs b o e).2 (I.ok.nofr e) (I.ok.noex b o e), I.base.free b o (I.ok.bs b o e).1 (I.ok.bs b o e).2 (I.ok.noex b o e)⟩
theorem Inv.bk (I : Inv X pins σ H s) : ∀ b o, X.base.get? b = some o → s.heap.get? b = some o := fun b o e => (I.bs b o e).1
theorem Inv.mod (I : Inv X pins σ H s) : Mod X.K X.mg X.base := I.ok.mod
theorem Inv.kIn (I : Inv X pins σ H s) : X.K.In s.heap := I.ok.mod.kin.keeps I.bk
theorem Inv.lt (I : Inv X pins σ H s) : X.env.locals < s.heap.objs.size := let ⟨_, hn, _⟩ := I.loc; hn.lt
theorem Inv.sz (I : Inv X pins σ H s) : X.s₀.heap.objs.size ≤ s.heap.objs.size := Nat.le_trans I.ok.above (Nat.le_of_lt I.lt)
theorem Inv.nofs (I : Inv X pins σ H s) {a : Addr} (h : s.heap.objs.size ≤ a) : a ∉ X.fs := fun hb => by
  obtain ⟨_, o, ho, _⟩ := I.ok.funs.mem hb
  exact absurd (Nat.lt_of_lt_of_le (Heap.lt_size ho) (Nat.le_trans I.sz h)) (Nat.lt_irrefl _)
theorem Inv.cne (I : Inv X pins σ H s) : ∀ x c, X.env.cells.lookup x = some c → c ≠ X.env.locals := fun x c e z => by
  obtain ⟨v, o, ho, hd⟩ := I.cell x c e
  obtain ⟨m, ⟨o', es, ep, ho', hd', _⟩, _⟩ := I.loc
  rw [z, ho'] at ho; cases ho; rw [hd'] at hd; cases hd
theorem Inv.funs (I : Inv X pins σ H s) : s.heap.FunFrames X.base X.outer := by
  have all : ∀ (l : List Env), (∀ b ∈ frs l, b ∈ X.fs) → X.s₀.heap.FunFrames X.base l → s.heap.FunFrames X.base l := by
    intro l
    induction l with
    | nil => intro _ _; trivial
    | cons env r ih =>
      intro hs hl
      obtain ⟨hk, ⟨L, o, hf, hn, ho, hd⟩, hr⟩ := hl
      have hL : L ∈ X.fs := hs L (by unfold frs; rw [List.filterMap_cons, hf]; exact List.mem_cons_self)
      obtain ⟨sl, e⟩ := I.base.slot L o ho (I.ok.frf L hL) hL fun z => I.ok.exfs L z hL
      exact ⟨hk, ⟨L, _, hf, hn, e, hd⟩, ih (fun b hb => hs b (by unfold frs; rw [List.filterMap_cons, hf]; exact List.mem_cons_of_mem _ hb)) hr⟩
  exact all X.outer (fun _ hb => hb) I.ok.funs
theorem Inv.stack (I : Inv X pins σ H s) : s.heap.FunFrames X.base X.stack := by
  rcases I.ok.stk with e | ⟨e, hf⟩
  · rw [e]; exact I.funs
  · rw [e]
    obtain ⟨m, hn, _⟩ := I.loc
    refine .cons (by rw [I.ok.kind]; decide) hf hn ?_ I.funs
    exact Heap.get?_none_of_le (Nat.le_trans I.ok.bsz I.ok.above)
theorem Inv.stkSub (I : Inv X pins σ H s) : ∀ b ∈ frs X.stack, b ∈ X.env.locals :: X.fs := fun b hb => by
  rcases I.ok.stk with e | ⟨e, hf⟩
  · rw [e] at hb; exact List.mem_cons_of_mem _ hb
  · rw [e] at hb
    unfold frs at hb
    rw [List.filterMap_cons, hf] at hb
    exact hb
theorem Inv.stkFree (I : Inv X pins σ H s) : ∀ b ∈ frs X.stack, H b = none := fun b hb => by
  rcases List.mem_cons.mp (I.stkSub b hb) with e | hb
  · rw [e]; exact I.free
  · obtain ⟨_, o, ho, _⟩ := I.ok.funs.mem hb
    exact I.base.free b o ho (I.ok.frf b hb) fun z => I.ok.exfs b z hb
theorem Inv.step {g' : Array GenState} {t' : Nat} {d' : Drawn} {ch : List Addr} (I : Inv X pins σ H s)
    (hch : ∀ b ∈ ch, (b ∈ X.ex ∨ X.s₀.heap.objs.size ≤ b) ∧ b ≠ X.env.locals ∧ (∀ x c, X.env.cells.lookup x = some c → c ≠ b) ∧ ∀ p ∈ X.pn ++ pins, p.1 ≠ b)
    (keep : ∀ b o, b ≠ X.env.locals → b ∉ X.fs → b ∉ ch → s.heap.get? b = some o → H b = none → h'.get? b = some o)
    (slot : ∀ b o, b ≠ X.env.locals → b ∈ X.fs → b ∉ ch → s.heap.get? b = some o → H b = none → ∃ sl, h'.get? b = some { o with slots := sl }) (free : ∀ b o, b ∉ ch → s.heap.get? b = some o → H b = none → H' b = none)
    (there : ∀ b o, b ∉ ch → s.heap.get? b = some o → ∃ o', h'.get? b = some o')
    (tups : ∀ b xs, H b = some (.tup xs) → H' b = some (.tup xs)) (frzs : ∀ b o u, H b = some (.frz o u) → H' b = some (.frz o u)) (tbls : ∀ b ps, H b = some (.tbl ps) → ∃ more, H' b = some (.tbl (ps ++ more)))
    (ns : ∀ m, s.heap.Ns X.env.locals m → h'.Ns X.env.locals m) (hok : HOk X.prog X.w H' h') (hg : AllBare g') :
    Inv X pins σ H' { s with heap := h', gens := g', drawn := d', toks := t' } := by
  have neL : ∀ b o, X.s₀.heap.get? b = some o → b ≠ X.env.locals := fun b o e => Nat.ne_of_lt (Nat.lt_of_lt_of_le (Heap.lt_size e) I.ok.above)
  have neC : ∀ b o, X.s₀.heap.get? b = some o → b ∉ X.ex → b ∉ ch := fun b o e hx hb => by
    rcases (hch b hb).1 with z | z
    · exact hx z
    · exact absurd (Nat.lt_of_lt_of_le (Heap.lt_size e) z) (Nat.lt_irrefl _)
  have cellK : ∀ x c, X.env.cells.lookup x = some c → ∀ v, s.heap.IsCell c v → h'.IsCell c v := fun x c e v ⟨o, ho, hd⟩ => by
    have nch : c ∉ ch := fun z => (hch c z).2.2.1 x c e rfl
    by_cases hc : c ∈ X.fs
    · obtain ⟨sl, q⟩ := slot c o (I.cne x c e) hc nch ho (I.freeC x c e)
      exact ⟨_, q, hd⟩
    · exact ⟨o, keep c o (I.cne x c e) hc nch ho (I.freeC x c e), hd⟩
  refine ⟨I.ok, I.os, hg, ⟨fun b o e n hb hx => ?_, fun b o e n hb hx => ?_, fun b o e n hx => ?_, fun b o e hx => ?_, fun b xs e => tups b xs (I.base.tups b xs e), fun b o xs e => frzs b o xs (I.base.frzs b o xs e), fun b ps e => ?_⟩, ?_, fun x c e => ?_, ?_, fun x c e => ?_, fun p hp => ?_, hok, I.len⟩
  · exact keep b o (neL b o e) hb (neC b o e hx) (I.base.keep b o e n hb hx) (I.base.free b o e n hx)
  · obtain ⟨sl, e1⟩ := I.base.slot b o e n hb hx
    obtain ⟨sl', e2⟩ := slot b _ (neL b o e) hb (neC b o e hx) e1 (I.base.free b o e n hx)
    exact ⟨sl', e2⟩
  · obtain ⟨o', e1⟩ := I.base.there b o e hx
    exact free b o' (neC b o e hx) e1 (I.base.free b o e n hx)
  · obtain ⟨o', e1⟩ := I.base.there b o e hx
    exact there b o' (neC b o e hx) e1
  · obtain ⟨m1, e1⟩ := I.base.tbls b ps e
    obtain ⟨m2, e2⟩ := tbls b _ e1
    exact ⟨m1 ++ m2, by rw [e2, Array.append_assoc]⟩
  · obtain ⟨m, hn, hl⟩ := I.loc
    refine ⟨m, ns m hn, fun i x v e1 e2 e3 => ?_⟩
    obtain ⟨u, r, l⟩ := hl i x v e1 e2 e3
    refine ⟨u, r, ?_⟩
    rcases l with l | ⟨k, c, e, z⟩
    · exact .inl l
    · exact .inr ⟨k, c, e, cellK x c e _ z⟩
  · obtain ⟨v, z⟩ := I.cell x c e
    exact ⟨v, cellK x c e v z⟩
  · obtain ⟨m, ⟨o, _, _, ho, _⟩, _⟩ := I.loc
    exact free _ o (fun z => (hch _ z).2.1 rfl) ho I.free
  · obtain ⟨v, o, ho, hd⟩ := I.cell x c e
    exact free c o (fun z => (hch c z).2.2.1 x c e rfl) ho (I.freeC x c e)
  · obtain ⟨e, n, ne, nf, d⟩ := I.pin p hp
    have nch : p.1 ∉ ch := fun z => (hch p.1 z).2.2.2 p hp rfl
    exact ⟨keep p.1 p.2 ne nf nch e n, free p.1 p.2 nch e n, ne, nf, d⟩
theorem Inv.un {t' : Nat} (I : Inv X pins σ H s) (u : Un X.fs [] H H' s.heap h') (hok : HOk X.prog X.w H' h') : Inv X pins σ H' { s with heap := h', toks := t' } := by
  obtain ⟨m, ⟨o, es, ep, ho, r⟩, _⟩ := id I.loc
  obtain ⟨sl, hL⟩ := u.any ho I.free (by simp)
  exact I.step (g' := s.gens) (d' := s.drawn) (ch := []) (fun _ z => nomatch z) (fun b o _ hb _ e n => u.keep b o e n hb (by simp)) (fun b o _ hb _ e n => u.slot b o e n hb (by simp)) (fun b o _ e n => u.free b o e n (by simp)) (fun b o _ e => u.there b o e (by simp)) u.tups u.frzs u.tbls (fun m' hm => by
    obtain ⟨o', es', ep', ho', r'⟩ := hm
    rw [ho] at ho'; cases ho'
    exact ⟨_, es', ep', hL, r'⟩) hok I.bare
theorem Inv.call {g' : Array GenState} {t' : Nat} {d' : Drawn} {ch : List Addr} (I : Inv X pins σ H s) (u : Un (frs X.stack) ch H H' s.heap h') (hok : HOk X.prog X.w H' h') (hg : AllBare g')
    (hch : ∀ b ∈ ch, (b ∈ X.ex ∨ X.s₀.heap.objs.size ≤ b) ∧ b ≠ X.env.locals ∧ (∀ x c, X.env.cells.lookup x = some c → c ≠ b) ∧ ∀ p ∈ X.pn ++ pins, p.1 ≠ b) :
    Inv X pins σ H' { s with heap := h', gens := g', drawn := d', toks := t' } := by
  obtain ⟨m, ⟨o, es, ep, ho, r⟩, _⟩ := id I.loc
  obtain ⟨sl, hL⟩ := u.any ho I.free fun z => (hch _ z).2.1 rfl
  exact I.step (ch := ch) hch (fun b o hL hb hc e n => u.keep b o e n (fun z => (List.mem_cons.mp (I.stkSub b z)).elim hL hb) hc) (fun b o _ _ hc e n => u.any e n hc) (fun b o hc e n => u.free b o e n hc) (fun b o hc e => u.there b o e hc) u.tups u.frzs u.tbls (fun m' hm => by
    obtain ⟨o', es', ep', ho', r'⟩ := hm
    rw [ho] at ho'; cases ho'
    exact ⟨_, es', ep', hL, r'⟩) hok hg
theorem Inv.turned {t' : Nat} {it : Addr} (I : Inv X pins σ H s) (k : ∀ b o, b ≠ it → s.heap.get? b = some o → h'.get? b = some o) (hn : H it = none) (hL : it ≠ X.env.locals)
    (h1 : it ∈ X.ex ∨ X.s₀.heap.objs.size ≤ it) (h2 : ∀ x c, X.env.cells.lookup x = some c → c ≠ it) (h3 : ∀ p ∈ X.pn ++ pins, p.1 ≠ it) : Inv X pins σ H { s with heap := h', toks := t' } := by
  have nit : ∀ b u, H b = some u → b ≠ it := fun b u e z => by rw [z, hn] at e; cases e
  refine I.step (g' := s.gens) (d' := s.drawn) (ch := [it]) (fun b hb => ?_) (fun b o _ _ hc e _ => k b o (fun z => hc (by simp [z])) e) (fun b o _ _ hc e _ => ⟨o.slots, k b o (fun z => hc (by simp [z])) e⟩) (fun _ _ _ _ n => n)
    (fun b o hc e => ⟨o, k b o (fun z => hc (by simp [z])) e⟩) (fun _ _ e => e) (fun _ _ _ e => e) (fun b ps e => ⟨#[], by rw [e]; simp⟩) (fun m hm => ?_) (fun b u e => ?_) I.bare
  · have e : b = it := by simpa using hb
    subst e
    exact ⟨h1, hL, h2, h3⟩
  · obtain ⟨o, es, ep, ho, r⟩ := hm
    exact ⟨o, es, ep, k _ o (Ne.symm hL) ho, r⟩
  · refine (I.hok b u e).stay (fun c v hc q => k c v ?_ q) (fun _ q => q) fun _ _ q => q
    rcases hc with z | z
    · rw [z]; exact nit b u e
    · exact nit c _ z
theorem Inv.tok (I : Inv X pins σ H s) (t : Nat) : Inv X pins σ H { s with toks := t } := I.un (h' := s.heap) (t' := t) Un.refl I.hok
theorem Inv.kept {t' : Nat} (I : Inv X pins σ H s) (k : ∀ b u, s.heap.get? b = some u → h'.get? b = some u) : Inv X pins σ H { s with heap := h', toks := t' } := I.un (Un.kept k) (I.hok.kept k)
theorem Inv.laid {a : Addr} {o : HO} {t' : Nat} (I : Inv X pins σ H s) (k : ∀ b u, s.heap.get? b = some u → h'.get? b = some u) (hp : s.heap.objs.size ≤ a) (new : ObjOk X.prog X.w (upd H a o) h' a o) :
    Inv X pins σ (upd H a o) { s with heap := h', toks := t' } := I.un (Un.laid k hp (I.hok.fresh hp)) (I.hok.laid k hp new)
theorem Inv.write {x e : Addr} {o : HO} {t' : Nat} (I : Inv X pins σ H s) (mu : Mut (H x)) (he : e = x ∨ H e = some (.own x)) (k : ∀ b u, b ≠ e → s.heap.get? b = some u → h'.get? b = some u) (heo : ∃ u, h'.get? e = some u)
    (new : ObjOk X.prog X.w (upd H x o) h' x o) : Inv X pins σ (upd H x o) { s with heap := h', toks := t' } := I.un (Un.write mu he k heo) (I.hok.write mu he k heo new)
theorem Inv.pins_of {pins' : List (Addr × Obj)} (I : Inv X pins σ H s) (h : ∀ p ∈ pins', s.heap.get? p.1 = some p.2 ∧ H p.1 = none ∧ p.1 ≠ X.env.locals ∧ p.1 ∉ X.fs ∧ ∀ v, p.2.data ≠ .cell v) : Inv X pins' σ H s :=
  ⟨I.ok, I.os, I.bare, I.base, I.loc, I.cell, I.free, I.freeC, fun p hp => (List.mem_append.mp hp).elim (fun z => I.pin p (List.mem_append_left _ z)) (h p), I.hok, I.len⟩
theorem nodup_ix {N : List Str} (hN : N.Nodup) {i j : Nat} {x : Str} (a : N[i]? = some x) (b : N[j]? = some x) : i = j := by
  obtain ⟨h1, e1⟩ := List.getElem?_eq_some_iff.mp a
  obtain ⟨h2, e2⟩ := List.getElem?_eq_some_iff.mp b
  exact (List.getElem_inj hN).mp (e1.trans e2.symm)
theorem store_ok2 {M : Model} {A : Around} {E : Value → Shared → Prop} {i : Nat} {x : Str} {v : V} {u : Value} {Q : Unit → Shared → Prop} (I : Inv X pins σ H s) (hN : X.N.Nodup) (hi : X.N[i]? = some x) (hx : Loc X.env.scope x) (r : RelV v u)
    (h : ∀ s', Inv X pins (σ.set i (some v)) H s' → (∃ a, Heap.SameBut a s.heap s'.heap ∧ (a = X.env.locals ∨ X.env.cells.lookup x = some a)) → Q () s') (hf : X.fn x = true ∨ X.env.scope.names.lookup x = some .local := by first | exact .inl rfl | exact .inr rfl | assumption) : wpAny M A (storeName X.env x u) Q E s := by
  obtain ⟨m, hn, hl⟩ := id I.loc
  have hcls : (X.env.scope.kind == .class || (X.env.scope.kind == .module && X.env.locals != X.env.globals)) = false := by rw [I.ok.kind]; rfl
  have hiσ : i < σ.length := by rw [I.len]; exact (List.getElem?_eq_some_iff.mp hi).1
  have cne := I.cne
  have tracked : ∀ {a : Addr} {h' : Heap}, (∃ o, s.heap.get? a = some o ∧ H a = none) → Heap.SameBut a s.heap h' → HOk X.prog X.w H h' := fun {a h'} ha hs b ob e => by
    obtain ⟨_, _, hfree⟩ := ha
    refine (I.hok b ob e).stay (fun c w' hc q => (hs.2 c ?_).trans q) (fun _ q => q) fun _ _ q => q
    rintro rfl
    rcases hc with rfl | hc
    · rw [hfree] at e; cases e
    · rw [hfree] at hc; cases hc
  rcases hx with hk | hk
  · refine wpAny_storeName_local hk hn (fun h' hn' hs => ?_) hcls
    obtain ⟨oL, _, _, hoL, _⟩ := id hn
    refine h _ ⟨I.ok, I.os, I.bare, ⟨fun b o e n hb hx => ?_, fun b o e n hb hx => ?_, I.base.free, fun b o e hx => ?_, I.base.tups, I.base.frzs, I.base.tbls⟩, ⟨_, hn', fun j y v' e1 e2 e3 => ?_⟩, fun y c e => ?_, I.free, I.freeC, fun p hp => ?_, tracked ⟨oL, hoL, I.free⟩ hs, by simpa using I.len⟩ ⟨_, hs, .inl rfl⟩
    · exact (hs.2 b (Nat.ne_of_lt (Nat.lt_of_lt_of_le (Heap.lt_size e) I.ok.above))).trans (I.base.keep b o e n hb hx)
    · obtain ⟨sl, e1⟩ := I.base.slot b o e n hb hx
      exact ⟨sl, (hs.2 b (Nat.ne_of_lt (Nat.lt_of_lt_of_le (Heap.lt_size e) I.ok.above))).trans e1⟩
    · obtain ⟨o', e1⟩ := I.base.there b o e hx
      exact ⟨o', (hs.2 b (Nat.ne_of_lt (Nat.lt_of_lt_of_le (Heap.lt_size e) I.ok.above))).trans e1⟩
    · by_cases hj : j = i
      · subst hj
        rw [hi] at e1; cases e1
        rw [List.getElem?_set_self hiσ] at e2
        cases e2
        exact ⟨u, r, .inl ⟨hk, by simp⟩⟩
      · rw [List.getElem?_set_ne (Ne.symm hj)] at e2
        obtain ⟨u', r', q⟩ := hl j y v' e1 e2 e3
        refine ⟨u', r', ?_⟩
        rcases q with ⟨k, e⟩ | ⟨k, c, e, z⟩
        · refine .inl ⟨k, ?_⟩
          have : y ≠ x := fun e => hj (nodup_ix hN e1 (e ▸ hi))
          simp [this, e]
        · exact .inr ⟨k, c, e, z.sameBut hs (cne y c e)⟩
    · obtain ⟨w', z⟩ := I.cell y c e
      exact ⟨w', z.sameBut hs (cne y c e)⟩
    · obtain ⟨e, n, ne, nf, d⟩ := I.pin p hp
      exact ⟨(hs.2 p.1 ne).trans e, n, ne, nf, d⟩
  · have hfn : X.fn x = true := by
      rcases hf with z | z
      · exact z
      · rw [z] at hk; cases hk
    obtain ⟨c, hc⟩ := I.ok.has x (.inl hk)
    obtain ⟨w', z⟩ := I.cell x c hc
    refine wpAny_storeName_cell I.ok.kind hk hc z (fun h' hc' hs => ?_)
    obtain ⟨oc, hoc, hocd⟩ := id z
    refine h { s with heap := h' } ⟨I.ok, I.os, I.bare, ⟨fun b o e n hb hx => ?_, fun b o e n hb hx => ?_, I.base.free, fun b o e hx => ?_, I.base.tups, I.base.frzs, I.base.tbls⟩, ⟨m, hn.sameBut hs (Ne.symm (cne x c hc)), fun j y v' e1 e2 e3 => ?_⟩, fun y c' e => ?_, I.free, I.freeC, fun p hp => ?_, tracked ⟨oc, hoc, I.freeC x c hc⟩ hs, by simpa using I.len⟩ ⟨c, hs, .inr hc⟩
    · exact (hs.2 b (Nat.ne_of_lt (Nat.lt_of_lt_of_le (Heap.lt_size e) (I.ok.cab x c hfn hc)))).trans (I.base.keep b o e n hb hx)
    · obtain ⟨sl, e1⟩ := I.base.slot b o e n hb hx
      exact ⟨sl, (hs.2 b (Nat.ne_of_lt (Nat.lt_of_lt_of_le (Heap.lt_size e) (I.ok.cab x c hfn hc)))).trans e1⟩
    · obtain ⟨o', e1⟩ := I.base.there b o e hx
      exact ⟨o', (hs.2 b (Nat.ne_of_lt (Nat.lt_of_lt_of_le (Heap.lt_size e) (I.ok.cab x c hfn hc)))).trans e1⟩
    · by_cases hj : j = i
      · subst hj
        rw [hi] at e1; cases e1
        rw [List.getElem?_set_self hiσ] at e2
        cases e2
        exact ⟨u, r, .inr ⟨.inl hk, c, hc, hc'⟩⟩
      · rw [List.getElem?_set_ne (Ne.symm hj)] at e2
        obtain ⟨u', r', q⟩ := hl j y v' e1 e2 e3
        refine ⟨u', r', ?_⟩
        rcases q with q | ⟨k, c', e, z'⟩
        · exact .inl q
        · refine .inr ⟨k, c', e, z'.sameBut hs ?_⟩
          rintro rfl
          exact hj (nodup_ix hN e1 (I.ok.inj _ _ _ e hc ▸ hi))
    · by_cases hcc : c' = c
      · subst hcc; exact ⟨_, hc'⟩
      · obtain ⟨w2, z2⟩ := I.cell y c' e
        exact ⟨w2, z2.sameBut hs hcc⟩
    · obtain ⟨e, n, ne, nf, d⟩ := I.pin p hp
      refine ⟨(hs.2 p.1 ?_).trans e, n, ne, nf, d⟩
      intro q
      rw [q, hoc] at e
      have q' : oc = p.2 := Option.some.inj e
      exact d w' (by rw [← q']; exact hocd)
theorem store_ok {M : Model} {A : Around} {E : Value → Shared → Prop} {i : Nat} {x : Str} {v : V} {u : Value} {Q : Unit → Shared → Prop} (I : Inv X pins σ H s) (hN : X.N.Nodup) (hi : X.N[i]? = some x) (hx : Loc X.env.scope x) (r : RelV v u)
    (h : ∀ s', Inv X pins (σ.set i (some v)) H s' → Q () s') (hf : X.fn x = true ∨ X.env.scope.names.lookup x = some .local := by first | exact .inl rfl | exact .inr rfl | assumption) : wpAny M A (storeName X.env x u) Q E s :=
  store_ok2 I hN hi hx r (fun s' I' _ => h s' I') hf
theorem Inv.call' {s' : Shared} {ch : List Addr} (I : Inv X pins σ H s) (ho : s'.os = s.os) (u : Un (frs X.stack) ch H H' s.heap s'.heap) (hok : HOk X.prog X.w H' s'.heap) (hg : AllBare s'.gens)
    (hch : ∀ b ∈ ch, (b ∈ X.ex ∨ X.s₀.heap.objs.size ≤ b) ∧ b ≠ X.env.locals ∧ (∀ x c, X.env.cells.lookup x = some c → c ≠ b) ∧ ∀ p ∈ X.pn ++ pins, p.1 ≠ b) : Inv X pins σ H' s' := by
  obtain ⟨h', g', d', t', o'⟩ := s'
  have e : o' = s.os := ho
  subst e
  exact I.call (g' := g') (t' := t') (d' := d') u hok hg hch
end
noncomputable abbrev XK := Value → Option Addr → Hp → Prop
noncomputable abbrev St := List (Option V)
noncomputable abbrev VK := V → Hp → Prop
noncomputable abbrev TE := St → Hp → VK → Prop
noncomputable abbrev TT := St → Hp → (Bool → Hp → Prop) → Prop
noncomputable abbrev TA := St → Hp → (List V → Hp → Prop) → Prop
structure Ends where
  nx : St → Hp → Prop
  rt : VK
  bk : St → Hp → Prop := fun _ _ => False
  ct : St → Hp → Prop := fun _ _ => False
noncomputable abbrev TS := Ends → St → Hp → Prop
noncomputable def EP (X : Cx) (pins : List (Addr × Obj)) (σ : St) (Q : VK) (u : Value) (s' : Shared) : Prop := ∃ v H', Inv X pins σ H' s' ∧ RelV v u ∧ Q v H'
noncomputable def TP (X : Cx) (pins : List (Addr × Obj)) (σ : St) (Q : Bool → Hp → Prop) (b : Bool) (s' : Shared) : Prop := ∃ H', Inv X pins σ H' s' ∧ Q b H'
noncomputable def AP (X : Cx) (pins : List (Addr × Obj)) (σ : St) (Q : List V → Hp → Prop) (us : List Value) (s' : Shared) : Prop := ∃ vs H', Inv X pins σ H' s' ∧ Vals vs us ∧ Q vs H'
noncomputable def SP (X : Cx) (pins : List (Addr × Obj)) (D : Ends) (f : Flow) (s' : Shared) : Prop :=
  match f with
  | .next => ∃ σ' H', Inv X pins σ' H' s' ∧ D.nx σ' H'
  | .brk => ∃ σ' H', Inv X pins σ' H' s' ∧ D.bk σ' H'
  | .cont => ∃ σ' H', Inv X pins σ' H' s' ∧ D.ct σ' H'
  | .ret u => ∃ v σ' H', Inv X pins σ' H' s' ∧ RelV v u ∧ D.rt v H'
noncomputable def PE (X : Cx) (e : Expr) (t : TE) : Prop :=
  ∀ (pins : List (Addr × Obj)) (s : Shared) (σ : St) (H : Hp) (Q : VK), Inv X pins σ H s → t σ H Q → wpAny (model X.prog X.w) X.A (eval e X.env) (EP X pins σ Q) X.xe s
noncomputable def PT (X : Cx) (e : Expr) (t : TT) : Prop :=
  ∀ (pins : List (Addr × Obj)) (s : Shared) (σ : St) (H : Hp) (Q : Bool → Hp → Prop), Inv X pins σ H s → t σ H Q → wpAny (model X.prog X.w) X.A (isTrue e X.env (eval e X.env)) (TP X pins σ Q) X.xe s
noncomputable def PW (X : Cx) (e : Expr) (t : TT) : Prop :=
  ∀ (whole : Sem Value) (pins : List (Addr × Obj)) (s : Shared) (σ : St) (H : Hp) (Q : Bool → Hp → Prop), Inv X pins σ H s → t σ H Q → wpAny (model X.prog X.w) X.A (isTrue e X.env whole) (TP X pins σ Q) X.xe s
theorem PW.pt {X : Cx} {e : Expr} {t : TT} (h : PW X e t) : PT X e t := h _
noncomputable def PA (X : Cx) (es : List Expr) (t : TA) : Prop :=
  ∀ (pos : Pos) (pins : List (Addr × Obj)) (s : Shared) (σ : St) (H : Hp) (Q : List V → Hp → Prop), Inv X pins σ H s → t σ H Q → wpAny (model X.prog X.w) X.A (spliced (backTo pos (starEach es X.env))) (AP X pins σ Q) X.xe s
noncomputable def PS (X : Cx) (st : Stmt) (t : TS) : Prop :=
  ∀ (pins : List (Addr × Obj)) (s : Shared) (σ : St) (H : Hp) (D : Ends), Inv X pins σ H s → t D σ H → wpAny (model X.prog X.w) X.A (exec st X.env) (SP X pins D) X.xe s
noncomputable def PSs (X : Cx) (st : List Stmt) (t : TS) : Prop :=
  ∀ (pins : List (Addr × Obj)) (s : Shared) (σ : St) (H : Hp) (D : Ends), Inv X pins σ H s → t D σ H → wpAny (model X.prog X.w) X.A (execs st X.env) (SP X pins D) X.xe s
theorem thn {α : Type} {t : Sem α} {Q Q' : α → Shared → Prop} {M : Model} {A : Around} {E : Value → Shared → Prop} {s : Shared} (h : wpAny M A t Q E s) (hQ : ∀ a s, Q a s → Q' a s) : wpAny M A t Q' E s := wpAny_mono h hQ fun _ _ x => x
end L2
namespace L2
open PySem PySem.Spec PyProof.Rows
section
variable {X : Cx}
theorem bin {a b : Expr} {ta tb : TE} (ha : PE X a ta) (hb : PE X b tb) {pins : List (Addr × Obj)} {s : Shared} {σ : St} {H : Hp} {R : V → V → Hp → Prop} (I : Inv X pins σ H s) (h : ta σ H fun x H1 => tb σ H1 fun y H2 => R x y H2)
    {α : Type} {Q : α → Shared → Prop} {f : Value → Value → Sem α}
    (hf : ∀ v u s2 x y H2, Inv X pins σ H2 s2 → RelV x v → RelV y u → R x y H2 → wpAny (model X.prog X.w) X.A (f v u) Q X.xe s2) :
    wpAny (model X.prog X.w) X.A (eval a X.env) (fun v s₁ => wpAny (model X.prog X.w) X.A (eval b X.env) (fun u s₂ => wpAny (model X.prog X.w) X.A (f v u) Q X.xe s₂) X.xe s₁) X.xe s := by
  refine thn (ha pins s σ H _ I h) fun v s1 hhx => ?_
  obtain ⟨x, H1, I1, r1, q1⟩ := hhx
  refine thn (hb pins s1 σ H1 _ I1 q1) fun u s2 hhx => ?_
  obtain ⟨y, H2, I2, r2, q2⟩ := hhx
  exact hf v u s2 x y H2 I2 r1 r2 q2
noncomputable def tVar (i : Nat) : TE := fun σ H Q => ∃ v, σ[i]? = some (some v) ∧ Q v H
noncomputable def tC (v : V) : TE := fun _ H Q => Q v H
theorem pe_var {i : Nat} {x : Str} {pos : Pos} (hN : X.N[i]? = some x) (hv : Vis X.env.scope x) (hd : (x == ("__debug__" : Str)) = false := by decide) (hcd : (x == ("__classdict__" : Str)) = false := by decide) : PE X (.Name x pos) (tVar i) := by
  intro pins s σ H Q I h
  obtain ⟨v, e, h⟩ := h
  obtain ⟨m, hn, hl⟩ := I.loc
  obtain ⟨u, r, l⟩ := hl i x v hN e hv
  have fin : EP X pins σ Q u s := ⟨v, H, I, r, h⟩
  rcases l with ⟨hk, hm⟩ | ⟨hk, c, hc, hcell⟩
  · exact wpAny_Name (wpAny_loadName_local I.ok.kind hk hn hm fin) hd
  · rcases hk with hk | hk
    · exact wpAny_Name (wpAny_loadName_cell I.ok.kind hk hc hcell fin) hd
    · exact wpAny_Name (wpAny_loadName_free I.ok.kind hk hc hcell fin hcd) hd
theorem pe_int {i j pos} : PE X (.Constant (.int i) j pos) (tC (.int i)) := fun _ _ _ H _ I h => wpAny_Constant_int ⟨.int i, H, I.tok _, ⟨_, rfl⟩, h⟩
theorem pe_bl {b j pos} : PE X (.Constant (.bool b) j pos) (tC (.bl b)) := fun _ _ _ H _ I h => Constant_bool ⟨.bl b, H, I, rfl, h⟩
theorem pe_non {j pos} : PE X (.Constant .none j pos) (tC .non) := fun _ _ _ H _ I h => Constant_none ⟨.non, H, I, rfl, h⟩
theorem pe_str {x j pos} : PE X (.Constant (.str x) j pos) (tC (.str x)) := fun _ _ _ H _ I h => Calls.Constant_str ⟨.str x, H, I.tok _, ⟨_, rfl⟩, h⟩
noncomputable def Gl (X : Cx) (x : Str) : Prop := X.env.kindOf x = some .globalImplicit
theorem ld_glob {E : Value → Shared → Prop} {pins : List (Addr × Obj)} {s : Shared} {σ : St} {H : Hp} {x : Str} {u : Value} {pos : Pos} {Q : Value → Shared → Prop} (I : Inv X pins σ H s) (hg : Gl X x) (hm : X.mg x = some u) (h : Q u s)
    (hd : (x == ("__debug__" : Str)) = false := by decide) : wpAny (model X.prog X.w) X.A (eval (.Name x pos) X.env) Q E s :=
  Calls.Name_function_global I.ok.kind hg (Calls.loadGlobal_global (by rw [I.ok.glob]; exact I.mod.glob.keeps I.bk) hm h) hd
theorem ld_blt {E : Value → Shared → Prop} {pins : List (Addr × Obj)} {s : Shared} {σ : St} {H : Hp} {x : Str} {u : Value} {pos : Pos} {Q : Value → Shared → Prop} (I : Inv X pins σ H s) (hg : Gl X x) (hm : X.mg x = none) (hv : bootBuiltins x = some u) (h : Q u s)
    (hn : x ≠ "__name__" := by decide) (hd : (x == ("__debug__" : Str)) = false := by decide) : wpAny (model X.prog X.w) X.A (eval (.Name x pos) X.env) Q E s := by
  obtain ⟨mb, h1, h2⟩ := I.mod.blt
  exact Calls.Name_function_global I.ok.kind hg (Calls.loadGlobal_builtin (by rw [I.ok.glob]; exact I.mod.glob.keeps I.bk) hm (by rw [I.ok.blt]; exact h1.keeps I.bk) ((h2 x hn).trans hv) h) hd
theorem pe_glob {x : Str} {v : V} {u : Value} {pos : Pos} (hg : Gl X x) (hm : X.mg x = some u) (r : RelV v u) (hd : (x == ("__debug__" : Str)) = false := by decide) : PE X (.Name x pos) (tC v) :=
  fun _ _ _ H _ I h => ld_glob I hg hm ⟨v, H, I, r, h⟩ hd
theorem pe_bltn {x : Str} {v : V} {u : Value} {pos : Pos} (hg : Gl X x) (hm : X.mg x = none) (hv : bootBuiltins x = some u) (r : RelV v u) (hn : x ≠ "__name__" := by decide) (hd : (x == ("__debug__" : Str)) = false := by decide) : PE X (.Name x pos) (tC v) :=
  fun _ _ _ H _ I h => ld_blt I hg hm hv ⟨v, H, I, r, h⟩ hn hd
variable {a b : Expr} {ta tb : TE} {pos : Pos}
noncomputable def PC (X : Cx) (op : CmpOp) (a b : Expr) (t : TE) : Prop :=
  ∀ (pins : List (Addr × Obj)) (s : Shared) (σ : St) (H : Hp) (Q : VK), Inv X pins σ H s → t σ H Q →
    wpAny (model X.prog X.w) X.A (eval a X.env) (fun v s₁ => wpAny (model X.prog X.w) X.A (eval b X.env) (fun u s₂ => wpAny (model X.prog X.w) X.A (compareOp op v u) (EP X pins σ Q) X.xe s₂) X.xe s₁) X.xe s
theorem nobehind (b : Expr) {op : CmpOp} (h : op ≠ .In) (h2 : op ≠ .NotIn) : behindInMarks op b = false := by
  have e1 : (op == CmpOp.In) = false := by cases op <;> first | rfl | exact absurd rfl h
  have e2 : (op == CmpOp.NotIn) = false := by cases op <;> first | rfl | exact absurd rfl h2
  cases b <;> simp [behindInMarks, e1, e2]
noncomputable def tB (t : TE) : TT := fun σ H Q => t σ H fun x H1 => ∃ c, x = .bl c ∧ Q c H1
theorem pt_cmp {op : CmpOp} {t : TE} (h : PC X op a b t) (h1 : behindInMarks op b = false := by first | exact nobehind _ (by decide) (by decide) | rfl) : PT X (.Compare a [op] [b] pos) (tB t) := by
  intro pins s σ H Q I hw
  refine wpAny_isTrue_Compare1 (thn (h pins s σ H _ I hw) fun v s1 h1 => thn h1 fun u s2 h2 => thn h2 fun c s3 hhx => ?_) h1
  obtain ⟨x, H1, I1, r1, q1⟩ := hhx
  obtain ⟨d, rfl, q⟩ := q1
  cases r1
  exact wpAny_truthy_bool ⟨H1, I1, q⟩
theorem pt_val {e : Expr} {t : TE} (h : PE X e t) (he : ∀ whole, isTrue e X.env whole = (do let v ← whole; standAt e.pos; holding [v] (truthy v)) := by intro _; rfl) : PT X e (tB t) := by
  intro pins s σ H Q I hw
  refine isTrue_plain (thn (h pins s σ H _ I hw) fun v s1 hhx => ?_) (he _)
  obtain ⟨x, H1, I1, r1, q1⟩ := hhx
  obtain ⟨d, rfl, q⟩ := q1
  cases r1
  exact wpAny_truthy_bool ⟨H1, I1, q⟩
variable {tA tB' : TT} {rest : List Expr}
noncomputable def tAnd (t u : TT) : TT := fun σ H Q => t σ H fun c H1 => if c = true then u σ H1 Q else Q false H1
noncomputable def tOr (t u : TT) : TT := fun σ H Q => t σ H fun c H1 => if c = true then Q true H1 else u σ H1 Q
noncomputable def tNot (t : TT) : TT := fun σ H Q => t σ H fun c H1 => Q (!c) H1
theorem pw_and1 (ha : PT X a tA) : PW X (.BoolOp .And [a] pos) tA := by
  intro wh pins s σ H Q I h
  refine isTrue_and (thn (ha pins s σ H Q I h) fun c s1 e => ?_)
  cases c with
  | true => exact isTrue_and_nil e
  | false => exact e
theorem pw_or1 (ha : PT X a tA) : PW X (.BoolOp .Or [a] pos) tA := by
  intro wh pins s σ H Q I h
  refine isTrue_or (thn (ha pins s σ H Q I h) fun c s1 e => ?_)
  cases c with
  | false => exact isTrue_or_nil e
  | true => exact e
theorem pw_and (ha : PT X a tA) (hb : PW X (.BoolOp .And (b :: rest) pos) tB') : PW X (.BoolOp .And (a :: b :: rest) pos) (tAnd tA tB') := by
  intro wh pins s σ H Q I h
  refine isTrue_and (thn (ha pins s σ H _ I h) fun c s1 hhx => ?_)
  obtain ⟨H1, I1, q1⟩ := hhx
  cases c with
  | true => exact hb wh pins s1 σ H1 Q I1 q1
  | false => exact ⟨H1, I1, q1⟩
theorem pw_or (ha : PT X a tA) (hb : PW X (.BoolOp .Or (b :: rest) pos) tB') : PW X (.BoolOp .Or (a :: b :: rest) pos) (tOr tA tB') := by
  intro wh pins s σ H Q I h
  refine isTrue_or (thn (ha pins s σ H _ I h) fun c s1 hhx => ?_)
  obtain ⟨H1, I1, q1⟩ := hhx
  cases c with
  | true => exact ⟨H1, I1, q1⟩
  | false => exact hb wh pins s1 σ H1 Q I1 q1
theorem pt_not (ha : PT X a tA) : PT X (.UnaryOp .Not a pos) (tNot tA) := by
  intro pins s σ H Q I h
  exact isTrue_not (ha pins s σ H (fun c H1 => Q (!c) H1) I h)
noncomputable def tAndV (ta tb : TE) : TE := fun σ H Q => ta σ H fun x H1 => ∃ c, x = .bl c ∧ if c = true then tb σ H1 Q else Q (.bl false) H1
noncomputable def tOrV (ta tb : TE) : TE := fun σ H Q => ta σ H fun x H1 => ∃ c, x = .bl c ∧ if c = true then Q (.bl true) H1 else tb σ H1 Q
noncomputable def tNotV (ta : TE) : TE := fun σ H Q => ta σ H fun x H1 => ∃ c, x = .bl c ∧ Q (.bl (!c)) H1
theorem pe_one {op} {t : TE} (h : PE X a t) : PE X (.BoolOp op [a] pos) t := fun pins s σ H Q I hw => BoolOp_one (h pins s σ H Q I hw)
theorem pe_and (ha : PE X a ta) (hb : PE X (.BoolOp .And (b :: rest) pos) tb) : PE X (.BoolOp .And (a :: b :: rest) pos) (tAndV ta tb) := by
  intro pins s σ H Q I h
  refine BoolOp_and (thn (ha pins s σ H _ I h) fun v s1 hhx => ?_)
  obtain ⟨x, H1, I1, r1, q1⟩ := hhx
  obtain ⟨c, rfl, q1⟩ := q1
  cases r1
  refine wpAny_truthy_bool ?_
  cases c with
  | true => exact hb pins s1 σ H1 Q I1 q1
  | false => exact ⟨.bl false, H1, I1, rfl, q1⟩
theorem pe_not (ha : PE X a ta) : PE X (.UnaryOp .Not a pos) (tNotV ta) := by
  intro pins s σ H Q I h
  refine UnaryOp_ (thn (ha pins s σ H _ I h) fun v s1 hhx => ?_)
  obtain ⟨x, H1, I1, r1, q1⟩ := hhx
  obtain ⟨c, rfl, q1⟩ := q1
  cases r1
  exact not_of (wpAny_truthy_bool ⟨.bl (!c), H1, I1, rfl, q1⟩)
noncomputable def tIf (t : TT) (ta tb : TE) : TE := fun σ H Q => t σ H fun c H1 => if c = true then ta σ H1 Q else tb σ H1 Q
end
end L2
namespace L2
open PySem PySem.Spec PyProof.Rows
noncomputable def SqL (K : PySem.W.Frag) (H : Hp) (a : Addr) (xs : List V) : Prop :=
  Rd H a (.lst xs) ∨
    ∃ (o : Obj) (its : Array Value) (n : Nat), K.lookup a = some o ∧ o.cls = .type "list" ∧ o.dict = none ∧ o.data = .seq its n ∧ its.size ≤ sizeLine ∧ Vals xs its.toList
noncomputable def SqT (K : PySem.W.Frag) (H : Hp) (a : Addr) (xs : List V) : Prop :=
  Rd H a (.tup xs) ∨
    ∃ (o : Obj) (its : Array Value) (n : Nat), K.lookup a = some o ∧ o.cls = .type "tuple" ∧ o.data = .seq its n ∧ its.size ≤ sizeLine ∧ Vals xs its.toList
noncomputable def absV : Value → Option V
  | .none => some .non
  | .bool b => some (.bl b)
  | .int i _ => some (.int i)
  | .str x _ => some (.str x)
  | .bytes b _ => some (.byt b)
  | .float b _ => some (.flt b)
  | .ref a => some (.ref a)
  | .type n => some (.ty n)
  | _ => none
theorem RelV.abs {x : V} {u : Value} (r : RelV x u) : absV u = some x := by
  cases x with
  | non => cases r; rfl
  | bl _ => cases r; rfl
  | int _ => obtain ⟨t, rfl⟩ := r; rfl
  | str _ => obtain ⟨t, rfl⟩ := r; rfl
  | byt _ => obtain ⟨t, rfl⟩ := r; rfl
  | flt _ => obtain ⟨t, rfl⟩ := r; rfl
  | ref _ => cases r; rfl
  | ty _ => cases r; rfl
theorem RelV.inj {x y : V} {u : Value} (r : RelV x u) (q : RelV y u) : x = y := Option.some.inj (r.abs.symm.trans q.abs)
theorem Vals.inj : ∀ {xs ys : List V} {us : List Value}, Vals xs us → Vals ys us → xs = ys
  | _, _, _, .nil, .nil => rfl
  | _, _, _, .cons r t, .cons r' t' => by rw [r.inj r', Vals.inj t t']
section
variable {X : Cx} {pins : List (Addr × Obj)} {σ : St} {H : Hp} {s : Shared} {a : Addr} {xs ys : List V}
theorem SqL.of {K : PySem.W.Frag} (h : H a = some (.lst xs)) : SqL K H a xs := .inl (.inl h)
theorem SqT.of {K : PySem.W.Frag} (h : H a = some (.tup xs)) : SqT K H a xs := .inl (.inl h)
theorem Inv.list (I : Inv X pins σ H s) (h : SqL X.K H a xs) : ∃ its : List Value, Vals xs its ∧ PlainL s.heap a its.toArray ∧ xs.length ≤ sizeLine := by
  rcases h with h | ⟨o, its, n, hk, hc, hd, hs, hz, r⟩
  · obtain ⟨z, its, n, r, e⟩ := h.ok I.hok
    exact ⟨its, r, ⟨_, n, e, rfl, rfl, rfl⟩, z⟩
  · refine ⟨its.toList, r, ⟨o, n, I.kIn a o hk, hc, hd, by simpa using hs⟩, ?_⟩
    have e := r.length
    simp only [Array.length_toList] at e
    omega
theorem Inv.tuple (I : Inv X pins σ H s) (h : SqT X.K H a xs) : ∃ its : List Value, Vals xs its ∧ IsTup s.heap a its.toArray ∧ xs.length ≤ sizeLine := by
  rcases h with h | ⟨o, its, n, hk, hc, hs, hz, r⟩
  · obtain ⟨z, its, r, p⟩ := h.ok I.hok
    exact ⟨its, r, p, z⟩
  · refine ⟨its.toList, r, ⟨o, I.kIn a o hk, hc, n, by simpa using hs⟩, ?_⟩
    have e := r.length
    simp only [Array.length_toList] at e
    omega
theorem Inv.list_inj (I : Inv X pins σ H s) (h : SqL X.K H a xs) (h' : SqL X.K H a ys) : xs = ys := by
  obtain ⟨its, r, ⟨o, n, e, _, _, d⟩, _⟩ := I.list h
  obtain ⟨its', r', ⟨o', n', e', _, _, d'⟩, _⟩ := I.list h'
  rw [e] at e'; cases e'
  rw [d] at d'
  injection d' with d1 _
  have : its = its' := by simpa using congrArg Array.toList d1
  subst this
  exact r.inj r'
theorem Inv.tuple_inj (I : Inv X pins σ H s) (h : SqT X.K H a xs) (h' : SqT X.K H a ys) : xs = ys := by
  obtain ⟨its, r, ⟨o, e, _, n, d⟩, _⟩ := I.tuple h
  obtain ⟨its', r', ⟨o', e', _, n', d'⟩, _⟩ := I.tuple h'
  rw [e] at e'; cases e'
  rw [d] at d'
  injection d' with d1 _
  have : its = its' := by simpa using congrArg Array.toList d1
  subst this
  exact r.inj r'
end
noncomputable abbrev Cx.wish (X : Cx) (E : Value → Shared → Prop) : Cx := { X with xe := E }
noncomputable abbrev Cx.nox (X : Cx) : Cx := X.wish fun _ _ => False
theorem Cx.Ok.wish {X : Cx} (ok : X.Ok) (E : Value → Shared → Prop) : (X.wish E).Ok :=
  ⟨ok.mod, ok.kind, ok.glob, ok.blt, ok.above, ok.inj, ok.has, ok.cab, ok.hd, ok.frames, ok.stk, ok.exf, ok.bs, ok.bsz, ok.noex, ok.exfs, ok.funs, ok.frf⟩
theorem Cx.Ok.unwish {X : Cx} {E : Value → Shared → Prop} (ok : (X.wish E).Ok) : X.Ok :=
  ⟨ok.mod, ok.kind, ok.glob, ok.blt, ok.above, ok.inj, ok.has, ok.cab, ok.hd, ok.frames, ok.stk, ok.exf, ok.bs, ok.bsz, ok.noex, ok.exfs, ok.funs, ok.frf⟩
section
variable {X : Cx} {pins : List (Addr × Obj)} {σ : St} {H : Hp} {s : Shared} {E : Value → Shared → Prop}
theorem Inv.wish (I : Inv X pins σ H s) (E : Value → Shared → Prop) : Inv (X.wish E) pins σ H s := ⟨I.ok.wish E, I.os, I.bare, I.base, I.loc, I.cell, I.free, I.freeC, I.pin, I.hok, I.len⟩
theorem Inv.unwish (I : Inv (X.wish E) pins σ H s) : Inv X pins σ H s := ⟨I.ok.unwish, I.os, I.bare, I.base, I.loc, I.cell, I.free, I.freeC, I.pin, I.hok, I.len⟩
theorem SP.unwish {D : Ends} {f : Flow} {s' : Shared} (h : SP (X.wish E) pins D f s') : SP X pins D f s' := by
  cases f with
  | next => obtain ⟨σ', H', I, q⟩ := h; exact ⟨σ', H', I.unwish, q⟩
  | brk => obtain ⟨σ', H', I, q⟩ := h; exact ⟨σ', H', I.unwish, q⟩
  | cont => obtain ⟨σ', H', I, q⟩ := h; exact ⟨σ', H', I.unwish, q⟩
  | ret u => obtain ⟨v, σ', H', I, r, q⟩ := h; exact ⟨v, σ', H', I.unwish, r, q⟩
theorem PSs.nox {st : List Stmt} {t : TS} (h : PSs X.nox st t) : PSs X st t := fun pins s σ H D I hw =>
  wpAny_mono (h pins s σ H D (I.wish _) hw) (fun _ _ q => q.unwish) fun _ _ z => False.elim z
end
section
variable {X : Cx} {st : Stmt} {rest : List Stmt} {t u : TS} {e : Expr} {te : TE} {pos : Pos}
noncomputable def tNext : TS := fun D σ H => D.nx σ H
noncomputable def tSeq (t u : TS) : TS := fun D σ H => t { D with nx := u D } σ H
theorem pss_nil : PSs X [] tNext := fun _ _ σ H _ I h => wpAny_execs_nil ⟨σ, H, I, h⟩
theorem pss_cons (h1 : PS X st t) (h2 : PSs X rest u) : PSs X (st :: rest) (tSeq t u) := by
  intro pins s σ H D I h
  refine wpAny_execs_cons (thn (h1 pins s σ H { D with nx := u D } I h) fun f s1 q => ?_)
  cases f with
  | next =>
    obtain ⟨σ', H', I', q⟩ := q
    exact h2 pins s1 σ' H' D I' q
  | ret v => exact q
  | brk => exact q
  | cont => exact q
theorem pss_one (h1 : PS X st t) : PSs X [st] t := by
  intro pins s σ H D I h
  refine wpAny_execs_cons (thn (h1 pins s σ H D I h) fun f s1 q => ?_)
  cases f with
  | next => exact wpAny_execs_nil q
  | ret v => exact q
  | brk => exact q
  | cont => exact q
noncomputable def tBreak : TS := fun D σ H => D.bk σ H
noncomputable def tCont : TS := fun D σ H => D.ct σ H
theorem Inv.quiet {pins : List (Addr × Obj)} {σ : St} {H : Hp} {s : Shared} (I : Inv X pins σ H s) : interactive X.env = false := by simp [interactive, I.ok.kind]
noncomputable def tDrop (te : TE) : TS := fun D σ H => te σ H fun _ H1 => D.nx σ H1
theorem ps_expr (he : PE X e te) (hs : swapsWith e none pos.line X.env = pure false := by rfl) : PS X (.Expr e pos) (tDrop te) := by
  intro pins s σ H D I h
  exact wpAny_Expr_any (thn (he pins s σ H _ I h) fun v s1 ⟨x, H1, I1, r1, q1⟩ => ⟨σ, H1, I1, q1⟩) I.quiet hs
noncomputable def tRet (te : TE) : TS := fun D σ H => te σ H D.rt
theorem ps_ret (he : PE X e te) : PS X (.Return (some e) pos) (tRet te) := by
  intro pins s σ H D I h
  exact wpAny_Return_some (thn (he pins s σ H _ I h) fun v s1 ⟨x, H1, I1, r1, q1⟩ => ⟨x, σ, H1, I1, r1, q1⟩)
noncomputable def tRetN : TS := fun D _ H => D.rt .non H
noncomputable def tIfS (c : TT) (t u : TS) : TS := fun D σ H => c σ H fun b H1 => if b = true then t D σ H1 else u D σ H1
theorem ps_if {c : Expr} {a b : List Stmt} {tc : TT} (hc : PT X c tc) (ha : PSs X a t) (hb : PSs X b u) : PS X (.If c a b pos) (tIfS tc t u) := by
  intro pins s σ H D I h
  refine wpAny_If (thn (hc pins s σ H _ I h) fun d s1 hhx => ?_)
  obtain ⟨H1, I1, q1⟩ := hhx
  cases d with
  | true => exact ha pins s1 σ H1 D I1 q1
  | false => exact hb pins s1 σ H1 D I1 q1
end
noncomputable abbrev TG := V → St → Hp → (St → Hp → Prop) → Prop
noncomputable abbrev TGs := List V → St → Hp → (St → Hp → Prop) → Prop
noncomputable def PG (X : Cx) (target : Expr) (t : TG) : Prop :=
  ∀ (pins : List (Addr × Obj)) (s : Shared) (σ : St) (H : Hp) (v : V) (u : Value) (Q : St → Hp → Prop), Inv X pins σ H s → RelV v u → t v σ H Q →
    wpAny (model X.prog X.w) X.A (assign target X.env u) (fun _ s' => ∃ σ' H', Inv X pins σ' H' s' ∧ Q σ' H') X.xe s
noncomputable def PGs (X : Cx) (ts : List Expr) (t : TGs) : Prop :=
  ∀ (pins : List (Addr × Obj)) (s : Shared) (σ : St) (H : Hp) (vs : List V) (us : List Value) (Q : St → Hp → Prop), Inv X pins σ H s → Vals vs us → t vs σ H Q →
    wpAny (model X.prog X.w) X.A (assignInOrder ((assignEach ts X.env).map (·.2)) us) (fun _ s' => ∃ σ' H', Inv X pins σ' H' s' ∧ Q σ' H') X.xe s
noncomputable abbrev TSet := V → V → V → Hp → (Hp → Prop) → Prop
noncomputable def PSet (X : Cx) (t : TSet) : Prop :=
  ∀ (pins : List (Addr × Obj)) (s : Shared) (σ : St) (H : Hp) (o i v : V) (ov iv u : Value) (Q : Hp → Prop), Inv X pins σ H s → RelV o ov → RelV i iv → RelV v u → t o i v H Q →
    wpAny (model X.prog X.w) X.A (setItem ov iv u) (fun _ s' => ∃ H', Inv X pins σ H' s' ∧ Q H') X.xe s
section
variable {X : Cx} {pos : Pos}
noncomputable def gName (i : Nat) : TG := fun v σ H Q => Q (σ.set i (some v)) H
theorem pg_name {i : Nat} {x : Str} (hN : X.N.Nodup) (hi : X.N[i]? = some x) (hx : Loc X.env.scope x) (hf : X.fn x = true ∨ X.env.scope.names.lookup x = some .local := by first | exact .inl rfl | exact .inr rfl | assumption) : PG X (.Name x pos) (gName i) := by
  intro pins s σ H v u Q I r h
  exact wpAny_assign_Name (store_ok I hN hi hx r (fun s' I' => ⟨_, H, I', h⟩) hf)
noncomputable def gNil : TGs := fun vs σ H Q => vs = [] ∧ Q σ H
noncomputable def gCons (t : TG) (u : TGs) : TGs := fun vs σ H Q => ∃ v r, vs = v :: r ∧ t v σ H fun σ' H' => u r σ' H' Q
theorem pgs_nil : PGs X [] gNil := by
  intro pins s σ H vs us Q I r h
  obtain ⟨e, h⟩ := h
  subst e
  cases r
  exact assignInOrder_nil ⟨σ, H, I, h⟩
theorem pgs_cons {e : Expr} {es : List Expr} {t : TG} {u : TGs} (h1 : PG X e t) (h2 : PGs X es u)
    (hs : (assignEach (e :: es) X.env).map (·.2) = assign e X.env :: (assignEach es X.env).map (·.2) := by rfl) : PGs X (e :: es) (gCons t u) := by
  intro pins s σ H vs us Q I r h
  obtain ⟨v, vr, e1, h⟩ := h
  subst e1
  cases r with
  | cons r rr =>
    rw [hs]
    refine assignInOrder_cons (thn (h1 pins s σ H _ _ _ I r h) fun _ s1 hhx => ?_)
    obtain ⟨σ1, H1, I1, q1⟩ := hhx
    exact h2 pins s1 σ1 H1 _ _ Q I1 rr q1
noncomputable def gTup (K : PySem.W.Frag) (n : Nat) (t : TGs) : TG := fun v σ H Q => ∃ a xs, v = .ref a ∧ SqT K H a xs ∧ xs.length = n ∧ t xs σ H Q
theorem pg_tup {es : List Expr} {k : Nat} {t : TGs} {n : Nat} (hc : X.calm = true) (h : PGs X es t)
    (hn : (assignEach es X.env).length = n := by rfl) (hst : (assignEach es X.env).findIdx? (·.1) = none := by rfl) : PG X (.Tuple es k pos) (gTup X.K n t) := by
  intro pins s σ H v u Q I r hw
  obtain ⟨a, xs, e1, hq, hl, hw⟩ := hw
  subst e1
  cases r
  obtain ⟨its, rv, ht, hz⟩ := I.tuple hq
  refine assign_Tuple_tuple (I.ok.hd hc) ht (by simp [hn, ← hl, rv.length]) hst fun h' hx => ?_
  have I1 : Inv X pins σ H { s with heap := h' } := I.kept (t' := s.toks) fun b o e => hx b o (Nat.ne_of_lt (Heap.lt_size e)) e
  exact h pins _ σ H xs _ Q I1 (by simpa using rv) hw
noncomputable def gSub (to ti : TE) (t : TSet) : TG := fun v σ H Q => to σ H fun o H1 => ti σ H1 fun i H2 => t o i v H2 fun H3 => Q σ H3
theorem pg_sub {o i : Expr} {to ti : TE} {t : TSet} (ho : PE X o to) (hi : PE X i ti) (hs : PSet X t)
    (ha : ∀ v, assign (.Subscript o i pos) X.env v = (do
      let ov ← holding [v] (eval o X.env)
      let iv ← holding [v, ov] (eval i X.env)
      standAt pos
      holding [v, ov, iv] (setItem ov iv v)
      release [v, ov, iv] []) := by intro _; rfl) : PG X (.Subscript o i pos) (gSub to ti t) := by
  intro pins s σ H v u Q I r h
  rw [ha]
  refine wpAny_bind (wpAny_holding (thn (ho pins s σ H _ I h) fun ov s1 hhx => ?_))
  obtain ⟨x, H1, I1, r1, q1⟩ := hhx
  refine wpAny_bind (wpAny_holding (thn (hi pins s1 σ H1 _ I1 q1) fun iv s2 hhx => ?_))
  obtain ⟨y, H2, I2, r2, q2⟩ := hhx
  refine wpAny_bind (wpAny_standAt (wpAny_bind (wpAny_holding (thn (hs pins s2 σ H2 x y v ov iv u _ I2 r1 r2 r q2) fun _ s3 hhx => ?_))))
  obtain ⟨H3, I3, q3⟩ := hhx
  exact wpAny_release ⟨σ, H3, I3, q3⟩
noncomputable def tAsg (te : TE) (g : TG) : TS := fun D σ H => te σ H fun x H1 => g x σ H1 D.nx
theorem ps_asg {tg e : Expr} {te : TE} {g : TG} (he : PE X e te) (hg : PG X tg g) (hs : swapsWithSole [tg] e pos.line X.env = pure false := by rfl) (hw : swappedStores [tg] e X.env = pure none := by rfl)
    (h1 : (assignEach [tg] X.env).map (·.2) = [assign tg X.env] := by rfl) : PS X (.Assign [tg] e pos) (tAsg te g) := by
  intro pins s σ H D I h
  refine wpAny_Assign_stores (thn (he pins s σ H _ I h) fun v s1 hhx => ?_) hs hw
  obtain ⟨x, H1, I1, r1, q1⟩ := hhx
  rw [h1]
  exact thn (hg pins s1 σ H1 x v _ I1 r1 q1) fun _ s2 q => q
theorem ps_set {i : Nat} {x : Str} {e : Expr} {te : TE} {pos' : Pos} (hN : X.N.Nodup) (hi : X.N[i]? = some x) (hx : Loc X.env.scope x) (he : PE X e te) (hs : swapsWith e (some (.Name x pos')) pos.line X.env = pure false := by rfl) (hf : X.fn x = true ∨ X.env.scope.names.lookup x = some .local := by first | exact .inl rfl | exact .inr rfl | assumption) :
    PS X (.Assign [.Name x pos'] e pos) (tAsg te (gName i)) := by
  intro pins s σ H D I h
  refine wpAny_Assign_Name (thn (he pins s σ H _ I h) fun v s1 hhx => ?_) hs
  obtain ⟨y, H1, I1, r1, q1⟩ := hhx
  exact store_ok I1 hN hi hx r1 (fun s2 I2 => ⟨_, H1, I2, q1⟩) hf
end
section
variable {X : Cx} {pos : Pos}
noncomputable def tWhile (c : TT) (tb : TS) : TS := fun D σ H => ∃ W : Nat → St → Hp → Prop, (∃ m, W m σ H) ∧ ∀ m σ H, W m σ H →
  c σ H fun b H1 => if b = true then ∃ N : St → Hp → Prop, (∀ σ' H', N σ' H' → ∃ m', m' < m ∧ W m' σ' H') ∧ tb { D with nx := N, ct := N, bk := D.nx } σ H1 else D.nx σ H1
theorem ps_while {c : Expr} {body : List Stmt} {tc : TT} {tb : TS} (hp : PassesOwn (model X.prog X.w) X.A X.env X.xe) (hc : PT X c tc) (hb : PSs X body tb) : PS X (.While c body [] pos) (tWhile tc tb) := by
  intro pins s σ H D I h
  obtain ⟨W, ⟨m0, w0⟩, turn⟩ := h
  refine wpAny_While (codeAny_whileLoop (fun n s' => ∃ σ' H', Inv X pins σ' H' s' ∧ W n σ' H') ?_ m0 ⟨σ, H, I, w0⟩)
  rintro n s1 ⟨σ1, H1, I1, w1⟩
  refine wpAny_passesOwn hp (thn (hc pins s1 σ1 H1 _ I1 (turn n σ1 H1 w1)) fun b s2 hhx => ?_)
  obtain ⟨H2, I2, q2⟩ := hhx
  cases b with
  | true =>
    obtain ⟨N, hN, q2⟩ := q2
    rw [if_pos rfl]
    refine wpAny_passesOwn hp (thn (hb pins s2 σ1 H2 _ I2 q2) fun f s3 q3 => ?_)
    cases f with
    | next =>
      obtain ⟨σ3, H3, I3, n3⟩ := q3
      obtain ⟨m', hm, w3⟩ := hN σ3 H3 n3
      exact ⟨m', hm, σ3, H3, I3, w3⟩
    | cont =>
      obtain ⟨σ3, H3, I3, n3⟩ := q3
      obtain ⟨m', hm, w3⟩ := hN σ3 H3 n3
      exact ⟨m', hm, σ3, H3, I3, w3⟩
    | brk => exact q3
    | ret v => exact q3
  | false =>
    rw [if_neg Bool.false_ne_true]
    exact wpAny_execs_nil ⟨σ1, H2, I2, q2⟩
end
structure It where
  go : Nat → Hp → Prop
  yld : Nat → Hp → V → Hp → Prop
  stop : Nat → Hp → Prop
noncomputable def FpOk (X : Cx) (pins : List (Addr × Obj)) (H : Hp) (b : Addr) : Prop :=
  H b = none ∧ b ≠ X.env.locals ∧ b ∉ X.fs ∧ (b ∈ X.ex ∨ X.s₀.heap.objs.size ≤ b) ∧ (∀ x c, X.env.cells.lookup x = some c → c ≠ b) ∧ ∀ p ∈ X.pn ++ pins, p.1 ≠ b
theorem Inv.fpOk {X : Cx} {pins : List (Addr × Obj)} {σ : St} {H H' : Hp} {s : Shared} {b : Addr} (I : Inv X pins σ H s) (hb : s.heap.objs.size ≤ b) (hn : H' b = none) : FpOk X pins H' b := by
  refine ⟨hn, Nat.ne_of_gt (Nat.lt_of_lt_of_le I.lt hb), I.nofs hb, .inr (Nat.le_trans I.sz hb), fun x c e z => ?_, fun p hp z => ?_⟩
  · obtain ⟨v, q⟩ := I.cell x c e
    exact absurd (Nat.lt_of_lt_of_le q.lt (by rw [z]; exact hb)) (Nat.lt_irrefl _)
  · exact absurd (Nat.lt_of_lt_of_le (Heap.lt_size (I.pin p hp).1) (by rw [z]; exact hb)) (Nat.lt_irrefl _)
structure Turn (P : Program) (w : World) (K : PySem.W.Frag) (tg : Expr) (J : It) (fp : List Addr) (it : Addr) (tn : Nat → Heap → Prop) : Prop where
  mem : it ∈ fp
  obj : ∀ i h, tn i h → ∀ b ∈ fp, ∃ o, h.get? b = some o ∧ ∀ v, o.data ≠ .cell v
  keep : ∀ i h h', tn i h → (∀ b ∈ fp, ∀ o, h.get? b = some o → h'.get? b = some o) → tn i h'
  item : ∀ (X : Cx), X.prog = P → X.w = w → X.K = K → X.calm = true → ∀ (i : Nat) (pins : List (Addr × Obj)) (s : Shared) (σ : St) (H : Hp) (E : Value → Shared → Prop), Inv X pins σ H s → (∀ b ∈ fp, FpOk X pins H b) → tn i s.heap → J.go i H →
    wpAny (model P w) X.A (pyNext (.ref it)) (fun r s1 => ∃ u, r = some u ∧
      wpAny (model P w) X.A (letOwnedTupleGo tg (.ref it) u) (fun _ s2 => ∃ x H', Inv X pins σ H' s2 ∧ RelV x u ∧ J.yld i H x H' ∧ tn (i + 1) s2.heap ∧ ∀ b ∈ fp, H' b = none) E s1) E s
  done : ∀ (X : Cx), X.prog = P → X.w = w → X.K = K → X.calm = true → ∀ (i : Nat) (pins : List (Addr × Obj)) (s : Shared) (σ : St) (H : Hp) (E : Value → Shared → Prop), Inv X pins σ H s → (∀ b ∈ fp, FpOk X pins H b) → tn i s.heap → J.stop i H →
    wpAny (model P w) X.A (pyNext (.ref it)) (fun r s1 => r = none ∧ Inv X pins σ H s1) E s
  self : ∀ (A : Around) (i : Nat) (s : Shared) (Q : Value → Shared → Prop) (E : Value → Shared → Prop), tn i s.heap → Q (.ref it) s → wpAny (model P w) A (pyIter (.ref it)) Q E s
noncomputable abbrev TI := St → Hp → (It → Hp → Prop) → Prop
noncomputable def PIE (X : Cx) (pins : List (Addr × Obj)) (σ : St) (tg : Expr) (R : It → Hp → Prop) (itv : Value) (s2 : Shared) : Prop :=
  ∃ (it : Addr) (fp : List Addr) (tn : Nat → Heap → Prop) (J : It) (H' : Hp), itv = .ref it ∧ Inv X pins σ H' s2 ∧ Turn X.prog X.w X.K tg J fp it tn ∧ tn 0 s2.heap ∧ (∀ b ∈ fp, FpOk X pins H' b) ∧ R J H'
noncomputable def PI (X : Cx) (tg iter : Expr) (wi : TI) : Prop :=
  ∀ (pins : List (Addr × Obj)) (s : Shared) (σ : St) (H : Hp) (R : It → Hp → Prop), Inv X pins σ H s → wi σ H R →
    wpAny (model X.prog X.w) X.A (eval iter X.env) (fun v s1 => wpAny (model X.prog X.w) X.A (pyIter v) (PIE X pins σ tg R) X.xe s1) X.xe s
theorem go_of {M : Model} {A : Around} {E : Value → Shared → Prop} {s : Shared} {tg : Expr} {it : Addr} {u : Value} {o : Obj} {n : String} {vs : Array Value} {Q : Unit → Shared → Prop} (ho : s.heap.get? it = some o) (hc : o.cls = .type n) (hd : o.data = .fields vs)
    (hn : ["enumerate", "zip", "dict_itemiterator", "dict_reverseitemiterator", "odict_iterator", "itertools.zip_longest", "itertools.pairwise"].contains n = false) (hQ : Q () s) : wpAny M A (letOwnedTupleGo tg (.ref it) u) Q E s := by
  unfold letOwnedTupleGo
  cases tg <;> first
    | exact wpAny_pure hQ
    | (cases u <;> first
        | exact wpAny_pure hQ
        | (refine wpAny_bind (wpAny_load ho ?_)
           rw [hc, hd]
           show wpAny M A (if (["enumerate", "zip", "dict_itemiterator", "dict_reverseitemiterator", "odict_iterator", "itertools.zip_longest", "itertools.pairwise"].contains n && vs[0]? == some (rawInt _)) = true then _ else _) Q E s
           rw [if_neg (by intro h; rw [hn, Bool.false_and] at h; cases h)]
           exact wpAny_pure hQ))
noncomputable def Itl (K : PySem.W.Frag) (a : Addr) : It :=
  ⟨fun i H => ∃ xs x, SqL K H a xs ∧ xs[i]? = some x, fun i H x H' => H' = H ∧ ∀ xs, SqL K H a xs → xs[i]? = some x, fun i H => ∃ xs, SqL K H a xs ∧ xs.length ≤ i⟩
noncomputable def Itt (K : PySem.W.Frag) (a : Addr) : It :=
  ⟨fun i H => ∃ xs x, SqT K H a xs ∧ xs[i]? = some x, fun i H x H' => H' = H ∧ ∀ xs, SqT K H a xs → xs[i]? = some x, fun i H => ∃ xs, SqT K H a xs ∧ xs.length ≤ i⟩
noncomputable def Itr (lo : Int) (n : Nat) : It := ⟨fun i _ => i < n, fun i H x H' => H' = H ∧ x = .int (lo + i), fun i _ => n ≤ i⟩
theorem turn_list {P : Program} {w : World} {K : PySem.W.Frag} {tg : Expr} (a it : Addr) : Turn P w K tg (Itl K a) [it] it (fun i h => h.IsListIter it a i) where
  mem := by simp
  obj := fun i h st b hb => by
    have e : b = it := by simpa using hb
    subst e
    obtain ⟨o, e, c, d⟩ := st
    exact ⟨o, e, fun v z => by rw [d] at z; cases z⟩
  keep := fun i h h' st k => st.at fun o e => k it (by simp) o e
  item := by
    intro X hP hw hK hc i pins s σ H E I hf st hg
    subst hP hw hK
    obtain ⟨xs, x, hq, hx⟩ := hg
    obtain ⟨its, rv, p, hz⟩ := I.list hq
    obtain ⟨u, hu, ru⟩ := rv.get hx
    obtain ⟨f0, f1, f2, f3, f4, f5⟩ := hf it (by simp)
    refine wpAny_pyNext_list_item st p.isList (x := u) (by simpa using hu) fun h' st' sb => ?_
    have I1 : Inv X pins σ H { s with heap := h' } := I.turned (t' := s.toks) (fun b o hb e => (sb.2 b hb).trans e) f0 f1 f3 f4 f5
    obtain ⟨o, e, c, d⟩ := id st'
    exact ⟨u, rfl, go_of (s := { s with heap := h' }) e c d (by decide) ⟨x, H, I1, ru, ⟨rfl, fun ys hy => by rw [I.list_inj hy hq]; exact hx⟩, st', fun b hb => (hf b hb).1⟩⟩
  done := by
    intro X hP hw hK hc i pins s σ H E I hf st hg
    subst hP hw hK
    obtain ⟨xs, hq, hx⟩ := hg
    obtain ⟨its, rv, p, hz⟩ := I.list hq
    obtain ⟨f0, f1, f2, f3, f4, f5⟩ := hf it (by simp)
    have hl := rv.length
    exact wpAny_pyNext_list_end (I.ok.hd hc) st p.isList (by simp; omega) fun h' eb => ⟨rfl, I.turned (t' := s.toks) (fun b o hb e => eb b o hb e) f0 f1 f3 f4 f5⟩
  self := fun _ _ _ _ _ st h => wpAny_pyIter_listiter st h
theorem turn_tuple {P : Program} {w : World} {K : PySem.W.Frag} {tg : Expr} (a it : Addr) : Turn P w K tg (Itt K a) [it] it (fun i h => h.IsTupleIter it a i) where
  mem := by simp
  obj := fun i h st b hb => by
    have e : b = it := by simpa using hb
    subst e
    obtain ⟨o, e, c, d⟩ := st
    exact ⟨o, e, fun v z => by rw [d] at z; cases z⟩
  keep := fun i h h' st k => st.at fun o e => k it (by simp) o e
  item := by
    intro X hP hw hK hc i pins s σ H E I hf st hg
    subst hP hw hK
    obtain ⟨xs, x, hq, hx⟩ := hg
    obtain ⟨its, rv, p, hz⟩ := I.tuple hq
    obtain ⟨u, hu, ru⟩ := rv.get hx
    obtain ⟨f0, f1, f2, f3, f4, f5⟩ := hf it (by simp)
    refine wpAny_pyNext_tuple_item st (show s.heap.IsTuple a its.toArray from p) (x := u) (by simpa using hu) fun h' st' sb => ?_
    have I1 : Inv X pins σ H { s with heap := h' } := I.turned (t' := s.toks) (fun b o hb e => (sb.2 b hb).trans e) f0 f1 f3 f4 f5
    obtain ⟨o, e, c, d⟩ := id st'
    exact ⟨u, rfl, go_of (s := { s with heap := h' }) e c d (by decide) ⟨x, H, I1, ru, ⟨rfl, fun ys hy => by rw [I.tuple_inj hy hq]; exact hx⟩, st', fun b hb => (hf b hb).1⟩⟩
  done := by
    intro X hP hw hK hc i pins s σ H E I hf st hg
    subst hP hw hK
    obtain ⟨xs, hq, hx⟩ := hg
    obtain ⟨its, rv, p, hz⟩ := I.tuple hq
    obtain ⟨f0, f1, f2, f3, f4, f5⟩ := hf it (by simp)
    have hl := rv.length
    exact wpAny_pyNext_tuple_end (I.ok.hd hc) st (show s.heap.IsTuple a its.toArray from p) (by simp; omega) fun h' eb => ⟨rfl, I.turned (t' := s.toks) (fun b o hb e => eb b o hb e) f0 f1 f3 f4 f5⟩
  self := fun _ _ _ _ _ st h => wpAny_pyIter_tupleiter st h
theorem turn_range {P : Program} {w : World} {K : PySem.W.Frag} {tg : Expr} (it : Addr) (lo : Int) (n : Nat) : Turn P w K tg (Itr lo n) [it] it (fun i h => IsRangeIter h it (lo + (i : Nat) * 1) ((n : Int) - (i : Nat)) 1) where
  mem := by simp
  obj := fun i h st b hb => by
    have e : b = it := by simpa using hb
    subst e
    exact ⟨_, st, fun v z => by
      have z' : Data.fields _ = Data.cell v := z
      cases z'⟩
  keep := fun i h h' st k => k it (by simp) _ st
  item := by
    intro X hP hw hK hc i pins s σ H E I hf st hg
    subst hP hw hK
    obtain ⟨f0, f1, f2, f3, f4, f5⟩ := hf it (by simp)
    have W := Walks.range (prog := X.prog) (w := X.w) (I.ok.hd hc) it lo 1 n
    refine W.item i s _ _ hg st fun v h' tk hv st' kk => ?_
    obtain ⟨t, rfl⟩ := hv
    have I1 : Inv X pins σ H { s with heap := h', toks := tk } := I.turned (fun b o hb e => kk b o (by simpa using hb) e) f0 f1 f3 f4 f5
    refine ⟨_, rfl, go_of (s := { s with heap := h', toks := tk }) (n := "range_iterator") st' rfl rfl (by decide) ⟨.int (lo + i), H, I1, ⟨t, ?_⟩, ⟨rfl, rfl⟩, st', fun b hb => (hf b hb).1⟩⟩
    rw [Int.mul_one]
  done := by
    intro X hP hw hK hc i pins s σ H E I hf st hg
    subst hP hw hK
    obtain ⟨f0, f1, f2, f3, f4, f5⟩ := hf it (by simp)
    exact wpAny_pyNext_range_end (I.ok.hd hc) st (by have : n ≤ i := hg; omega) fun h' eb => ⟨rfl, I.turned (t' := s.toks) (fun b o hb e => eb b o hb e) f0 f1 f3 f4 f5⟩
  self := fun _ _ _ _ _ st h => wpAny_pyIter_rangeiter st h
end L2
namespace L2
open PySem PySem.Spec PyProof.Rows
section
variable {X : Cx} {tg : Expr}
noncomputable def iList (K : PySem.W.Frag) (tl : TE) : TI := fun σ H R => tl σ H fun x H1 => ∃ a, x = .ref a ∧ (∃ xs, SqL K H1 a xs) ∧ R (Itl K a) H1
noncomputable def iTup (K : PySem.W.Frag) (tl : TE) : TI := fun σ H R => tl σ H fun x H1 => ∃ a, x = .ref a ∧ (∃ xs, SqT K H1 a xs) ∧ R (Itt K a) H1
theorem pi_list {l : Expr} {tl : TE} (hl : PE X l tl) : PI X tg l (iList X.K tl) := by
  intro pins s σ H R I h
  refine thn (hl pins s σ H _ I h) fun v s1 hhx => ?_
  obtain ⟨x, H1, I1, r1, q1⟩ := hhx
  obtain ⟨a, e, ⟨xs, hq⟩, q⟩ := q1
  subst e
  cases r1
  obtain ⟨its, rv, p, hz⟩ := I1.list hq
  refine wpAny_pyIter_list p.isList ?_
  refine ⟨s1.heap.objs.size, [s1.heap.objs.size], _, _, H1, rfl, I1.kept (t' := s1.toks) fun b o e => Heap.get?_push_of_some _ e, turn_list a _, ⟨_, Heap.get?_push_size _ rfl, rfl, rfl⟩, fun b hb => ?_, q⟩
  have e : b = s1.heap.objs.size := by simpa using hb
  subst e
  exact I1.fpOk (Nat.le_refl _) (I1.hok.fresh (Nat.le_refl _))
theorem pi_tup {l : Expr} {tl : TE} (hl : PE X l tl) : PI X tg l (iTup X.K tl) := by
  intro pins s σ H R I h
  refine thn (hl pins s σ H _ I h) fun v s1 hhx => ?_
  obtain ⟨x, H1, I1, r1, q1⟩ := hhx
  obtain ⟨a, e, ⟨xs, hq⟩, q⟩ := q1
  subst e
  cases r1
  obtain ⟨its, rv, p, hz⟩ := I1.tuple hq
  refine wpAny_pyIter_tuple (show s1.heap.IsTuple a its.toArray from p) ?_
  refine ⟨s1.heap.objs.size, [s1.heap.objs.size], _, _, H1, rfl, I1.kept (t' := s1.toks) fun b o e => Heap.get?_push_of_some _ e, turn_tuple a _, ⟨_, Heap.get?_push_size _ rfl, rfl, rfl⟩, fun b hb => ?_, q⟩
  have e : b = s1.heap.objs.size := by simpa using hb
  subst e
  exact I1.fpOk (Nat.le_refl _) (I1.hok.fresh (Nat.le_refl _))
theorem range_it {pins : List (Addr × Obj)} {σ : St} {H : Hp} {s : Shared} {R : It → Hp → Prop} {E : Value → Shared → Prop} {lo hi : Int} {t u v : Tok} {tk : Nat} (I : Inv X pins σ H s) (h1 : -(2 ^ 62) ≤ lo) (h2 : lo < 2 ^ 62) (h3 : -(2 ^ 62) ≤ hi) (h4 : hi < 2 ^ 62)
    (q : R (Itr lo (hi - lo).toNat) H) : wpAny (model X.prog X.w) X.A (pyIter (.ref s.heap.objs.size)) (PIE X pins σ tg R) E { s with heap := s.heap.push { cls := .type "range", data := .fields #[.int lo t, .int hi u, .int 1 v] }, toks := tk } := by
  refine wpAny_pyIter_range (IsRange.new ..) (small_one h1 h2 h3 h4) ?_
  have I1 : Inv X pins σ H { s with heap := s.heap.push { cls := .type "range", data := .fields #[.int lo t, .int hi u, .int 1 v] }, toks := tk } := I.kept fun b o e => Heap.get?_push_of_some _ e
  refine ⟨(s.heap.push { cls := .type "range", data := .fields #[.int lo t, .int hi u, .int 1 v] }).objs.size, [(s.heap.push { cls := .type "range", data := .fields #[.int lo t, .int hi u, .int 1 v] }).objs.size], _, _, H, rfl,
    I1.kept (t' := tk) fun b o e => Heap.get?_push_of_some _ e, turn_range _ lo (hi - lo).toNat, ?_, fun b hb => ?_, q⟩
  · have e1 : lo + ((0 : Nat) : Int) * 1 = lo := by simp
    have e2 : (((hi - lo).toNat : Nat) : Int) - ((0 : Nat) : Int) = Builtin.Range.rangeSize lo hi 1 := by rw [rangeSize_one]; split <;> omega
    show IsRangeIter _ _ (lo + ((0 : Nat) : Int) * 1) ((((hi - lo).toNat : Nat) : Int) - ((0 : Nat) : Int)) 1
    rw [e1, e2]
    exact Heap.get?_push_size _ rfl
  · have e : b = (s.heap.push { cls := .type "range", data := .fields #[.int lo t, .int hi u, .int 1 v] }).objs.size := by simpa using hb
    subst e
    exact I1.fpOk (Nat.le_refl _) (I1.hok.fresh (Nat.le_refl _))
noncomputable def iRng1 (ta : TA) : TI := fun σ H R => ta σ H fun vs H1 => ∃ j : Int, vs = [.int j] ∧ -(2 ^ 62) ≤ j ∧ j < 2 ^ 62 ∧ R (Itr 0 j.toNat) H1
noncomputable def iRng2 (ta : TA) : TI := fun σ H R => ta σ H fun vs H1 => ∃ i j : Int, vs = [.int i, .int j] ∧ (-(2 ^ 62) ≤ i ∧ i < 2 ^ 62 ∧ -(2 ^ 62) ≤ j ∧ j < 2 ^ 62) ∧ R (Itr i (j - i).toNat) H1
theorem pi_range1 {a : Expr} {ta : TA} {p pos : Pos} (hg : Gl X "range") (hm : X.mg "range" = none) (ha : PA X [a] ta) (hs : starEach [a] X.env = [(false, eval a X.env)] := by rfl) : PI X tg (.Call (.Name "range" p) [a] [] pos) (iRng1 ta) := by
  intro pins s σ H R I h
  refine Call_ (ld_blt I hg hm boot_range (PyProof.Rows.callWith_type1 (thn (ha pos pins s σ H _ I h) fun us s1 hhx => ?_) hs rfl))
  obtain ⟨vs, H1, I1, r1, q1⟩ := hhx
  obtain ⟨j, e, q1, q2, q⟩ := q1
  subst e
  cases r1 with
  | cons r rr =>
    cases rr
    obtain ⟨t, rfl⟩ := r
    exact call_range_1 (range_it I1 (by omega) (by omega) q1 q2 (by simpa using q))
theorem pi_range2 {a b : Expr} {ta : TA} {p pos : Pos} (hg : Gl X "range") (hm : X.mg "range" = none) (ha : PA X [a, b] ta) (hs : starEach [a, b] X.env = [(false, eval a X.env), (false, eval b X.env)] := by rfl) (hs2 : starEach [b] X.env = [(false, eval b X.env)] := by rfl) :
    PI X tg (.Call (.Name "range" p) [a, b] [] pos) (iRng2 ta) := by
  intro pins s σ H R I h
  refine Call_ (ld_blt I hg hm boot_range (PyProof.Rows.callWith_type1 (thn (ha pos pins s σ H _ I h) fun us s1 hhx => ?_) (by rw [hs, hs2]) (by rw [hs2]; rfl)))
  obtain ⟨vs, H1, I1, r1, q1⟩ := hhx
  obtain ⟨i, j, e, ⟨q1, q2, q3, q4⟩, q⟩ := q1
  subst e
  cases r1 with
  | cons r rr =>
    cases rr with
    | cons r' rr =>
      cases rr
      obtain ⟨t, rfl⟩ := r
      obtain ⟨t', rfl⟩ := r'
      exact call_range_2 (range_it I1 q1 q2 q3 q4 q)
noncomputable def tFor (wi : TI) (g : TG) (tb : TS) : TS := fun D σ H => wi σ H fun J H1 => ∃ W : Nat → Nat → St → Hp → Prop, (∃ m, W 0 m σ H1) ∧ ∀ i m σ H, W i m σ H →
  (J.stop i H ∧ D.nx σ H) ∨ (J.go i H ∧ ∃ N : St → Hp → Prop, (∀ σ' H', N σ' H' → ∃ m', m' < m ∧ W (i + 1) m' σ' H') ∧ ∀ x H', J.yld i H x H' → g x σ H' fun σ2 H2 => tb { D with nx := N, ct := N, bk := D.nx } σ2 H2)
noncomputable def pinsAt (fp : List Addr) (h : Heap) : List (Addr × Obj) := fp.filterMap fun b => (h.get? b).map fun o => (b, o)
theorem mem_pinsAt {fp : List Addr} {h : Heap} {b : Addr} {o : Obj} (hb : b ∈ fp) (e : h.get? b = some o) : (b, o) ∈ pinsAt fp h := List.mem_filterMap.mpr ⟨b, hb, by rw [e]; rfl⟩
theorem of_pinsAt {fp : List Addr} {h : Heap} {p : Addr × Obj} (hp : p ∈ pinsAt fp h) : p.1 ∈ fp ∧ h.get? p.1 = some p.2 := by
  obtain ⟨b, hb, e⟩ := List.mem_filterMap.mp hp
  cases q : h.get? b with
  | none => rw [q] at e; cases e
  | some o =>
    rw [q] at e
    have e' : (b, o) = p := Option.some.inj e
    subst e'
    exact ⟨hb, q⟩
theorem Inv.pinned {pins : List (Addr × Obj)} {σ : St} {H : Hp} {s : Shared} {fp : List Addr} (I : Inv X pins σ H s) (hf : ∀ b ∈ fp, FpOk X pins H b) (ho : ∀ b ∈ fp, ∃ o, s.heap.get? b = some o ∧ ∀ v, o.data ≠ .cell v) : Inv X (pins ++ pinsAt fp s.heap) σ H s :=
  I.pins_of fun p hp => (List.mem_append.mp hp).elim (fun z => I.pin p (List.mem_append_right _ z)) fun z => by
    obtain ⟨hb, e⟩ := of_pinsAt z
    obtain ⟨f0, f1, f2, _⟩ := hf p.1 hb
    obtain ⟨o, e', d⟩ := ho p.1 hb
    rw [e] at e'; cases e'
    exact ⟨e, f0, f1, f2, d⟩
theorem Inv.unpinned {pins pl : List (Addr × Obj)} {σ : St} {H : Hp} {s : Shared} (I : Inv X (pins ++ pl) σ H s) : Inv X pins σ H s := I.pins_of fun p hp => I.pin p (List.mem_append_right _ (List.mem_append_left _ hp))
theorem ps_for {iter : Expr} {body : List Stmt} {wi : TI} {g : TG} {tb : TS} {pos : Pos} (hp : PassesOwn (model X.prog X.w) X.A X.env X.xe) (hc : X.calm = true) (hi : PI X tg iter wi) (hg : PG X tg g) (hb : PSs X body tb)
    (hs : ∀ x, foldedSetIterable iter X.env x = pure x := by intro _; rfl) : PS X (.For tg iter body [] pos) (tFor wi g tb) := by
  intro pins s σ H D I h
  refine wpAny_For (thn (hi pins s σ H _ I h) fun v s1 h1 => thn h1 fun itv s2 h2 => ?_) hs
  obtain ⟨it, fp, tn, J, H2, e, I2, T, st2, f2, W, ⟨m0, w0⟩, turn⟩ := h2
  subst e
  -- what stays true of the iterator's objects through the loop
  have stat : ∀ {H' : Hp}, (∀ b ∈ fp, H' b = none) → ∀ b ∈ fp, FpOk X pins H' b := fun hn b hb => ⟨hn b hb, (f2 b hb).2⟩
  refine codeAny_forLoop_any (fun n s' => ∃ i σ' H', Inv X pins σ' H' s' ∧ tn i s'.heap ∧ (∀ b ∈ fp, H' b = none) ∧ W i n σ' H') ?_ m0 ⟨0, σ, H2, I2, st2, fun b hb => (f2 b hb).1, w0⟩
  rintro n s3 ⟨i, σ3, H3, I3, st3, fr3, w3⟩
  rcases turn i n σ3 H3 w3 with ⟨stop, qn⟩ | ⟨go, N, hN, step⟩
  · refine wpAny_passesOwn hp (thn (T.done X rfl rfl rfl hc i pins s3 σ3 H3 X.xe I3 (stat fr3) st3 stop) fun r s4 ⟨hr, I4⟩ => ?_)
    subst hr
    exact wpAny_execs_nil ⟨σ3, H3, I4, qn⟩
  · refine wpAny_passesOwn hp (thn (T.item X rfl rfl rfl hc i pins s3 σ3 H3 X.xe I3 (stat fr3) st3 go) fun r s4 ⟨u, hr, h4⟩ => ?_)
    subst hr
    refine wpAny_passesOwn hp (thn h4 fun _ s5 hhx => ?_)
    obtain ⟨x, H5, I5, r5, y5, st5, fr5⟩ := hhx
    have I5' := I5.pinned (stat fr5) (T.obj _ _ st5)
    refine wpAny_passesOwn hp (thn (hg _ s5 σ3 H5 x u _ I5' r5 (step x H5 y5)) fun _ s6 hhx => ?_)
    obtain ⟨σ6, H6, I6, q6⟩ := hhx
    refine wpAny_passesOwn hp (thn (hb _ s6 σ6 H6 _ I6 q6) fun f s7 q7 => ?_)
    have again : ∀ {σ7 : St} {H7 : Hp}, Inv X (pins ++ pinsAt fp s5.heap) σ7 H7 s7 → N σ7 H7 → ∃ m, m < n ∧ ∃ i σ' H', Inv X pins σ' H' s7 ∧ tn i s7.heap ∧ (∀ b ∈ fp, H' b = none) ∧ W i m σ' H' := fun {σ7 H7} I7 n7 => by
      obtain ⟨m', hm, w7⟩ := hN σ7 H7 n7
      refine ⟨m', hm, i + 1, σ7, H7, I7.unpinned, T.keep _ _ _ st5 fun b hb o e => (I7.pin (b, o) (List.mem_append_right _ (List.mem_append_right _ (mem_pinsAt hb e)))).1, fun b hb => ?_, w7⟩
      obtain ⟨o, e, d⟩ := T.obj _ _ st5 b hb
      exact (I7.pin (b, o) (List.mem_append_right _ (List.mem_append_right _ (mem_pinsAt hb e)))).2.1
    cases f with
    | next => obtain ⟨σ7, H7, I7, n7⟩ := q7; exact again I7 n7
    | cont => obtain ⟨σ7, H7, I7, n7⟩ := q7; exact again I7 n7
    | brk => obtain ⟨σ7, H7, I7, q7⟩ := q7; exact ⟨σ7, H7, I7.unpinned, q7⟩
    | ret v => obtain ⟨x7, σ7, H7, I7, r7, q7⟩ := q7; exact ⟨x7, σ7, H7, I7.unpinned, r7, q7⟩
end
theorem for_list {K : PySem.W.Frag} {a : Addr} {xs : List V} {g : TG} {tb : TS} {D : Ends} {σ : St} {H : Hp} (Pv : Nat → St → Hp → Prop) (h0 : Pv 0 σ H) (hl : ∀ i σ H, i ≤ xs.length → Pv i σ H → SqL K H a xs)
    (hs : ∀ i x σ H, xs[i]? = some x → Pv i σ H → g x σ H fun σ2 H2 => tb { D with nx := Pv (i + 1), ct := Pv (i + 1), bk := D.nx } σ2 H2) (hd : ∀ σ H, Pv xs.length σ H → D.nx σ H) :
    ∃ W : Nat → Nat → St → Hp → Prop, (∃ m, W 0 m σ H) ∧ ∀ i m σ H, W i m σ H →
      ((Itl K a).stop i H ∧ D.nx σ H) ∨ ((Itl K a).go i H ∧ ∃ N : St → Hp → Prop, (∀ σ' H', N σ' H' → ∃ m', m' < m ∧ W (i + 1) m' σ' H') ∧ ∀ x H', (Itl K a).yld i H x H' → g x σ H' fun σ2 H2 => tb { D with nx := N, ct := N, bk := D.nx } σ2 H2) := by
  refine ⟨fun i m σ H => m = xs.length - i ∧ i ≤ xs.length ∧ Pv i σ H, ⟨xs.length, by simp, Nat.zero_le _, h0⟩, ?_⟩
  rintro i m σ H ⟨rfl, hi, p⟩
  have q := hl i σ H hi p
  by_cases hlt : i < xs.length
  · refine .inr ⟨⟨xs, xs[i], q, by simp [hlt]⟩, Pv (i + 1), fun σ' H' p' => ⟨xs.length - (i + 1), by omega, rfl, hlt, p'⟩, fun x H' y => ?_⟩
    obtain ⟨e, y⟩ := y
    subst e
    exact hs i x σ _ (y xs q) p
  · have e : i = xs.length := by omega
    subst e
    exact .inl ⟨⟨xs, q, Nat.le_refl _⟩, hd σ H p⟩
theorem for_range {lo : Int} {n : Nat} {g : TG} {tb : TS} {D : Ends} {σ : St} {H : Hp} (Pv : Nat → St → Hp → Prop) (h0 : Pv 0 σ H)
    (hs : ∀ i σ H, i < n → Pv i σ H → g (.int (lo + i)) σ H fun σ2 H2 => tb { D with nx := Pv (i + 1), ct := Pv (i + 1), bk := D.nx } σ2 H2) (hd : ∀ σ H, Pv n σ H → D.nx σ H) :
    ∃ W : Nat → Nat → St → Hp → Prop, (∃ m, W 0 m σ H) ∧ ∀ i m σ H, W i m σ H →
      ((Itr lo n).stop i H ∧ D.nx σ H) ∨ ((Itr lo n).go i H ∧ ∃ N : St → Hp → Prop, (∀ σ' H', N σ' H' → ∃ m', m' < m ∧ W (i + 1) m' σ' H') ∧ ∀ x H', (Itr lo n).yld i H x H' → g x σ H' fun σ2 H2 => tb { D with nx := N, ct := N, bk := D.nx } σ2 H2) := by
  refine ⟨fun i m σ H => m = n - i ∧ i ≤ n ∧ Pv i σ H, ⟨n, by simp, Nat.zero_le _, h0⟩, ?_⟩
  rintro i m σ H ⟨rfl, hi, p⟩
  by_cases hlt : i < n
  · refine .inr ⟨hlt, Pv (i + 1), fun σ' H' p' => ⟨n - (i + 1), by omega, rfl, hlt, p'⟩, fun x H' y => ?_⟩
    obtain ⟨e, y⟩ := y
    subst e y
    exact hs i σ _ hlt p
  · have e : i = n := by omega
    subst e
    exact .inl ⟨Nat.le_refl _, hd σ H p⟩
end L2
namespace L2
open PySem PySem.Spec PyProof.Rows
noncomputable abbrev R2 := V → V → Hp → VK → Prop
noncomputable def OpR (X : Cx) (f : Value → Value → Sem Value) (r : R2) : Prop :=
  ∀ (pins : List (Addr × Obj)) (s : Shared) (σ : St) (H : Hp) (x y : V) (v u : Value) (Q : VK), Inv X pins σ H s → RelV x v → RelV y u → r x y H Q →
    wpAny (model X.prog X.w) X.A (f v u) (EP X pins σ Q) X.xe s
noncomputable def UnR (X : Cx) (f : Value → Sem Value) (r : V → Hp → VK → Prop) : Prop :=
  ∀ (pins : List (Addr × Obj)) (s : Shared) (σ : St) (H : Hp) (x : V) (v : Value) (Q : VK), Inv X pins σ H s → RelV x v → r x H Q →
    wpAny (model X.prog X.w) X.A (f v) (EP X pins σ Q) X.xe s
noncomputable def CallR (X : Cx) (f : Value) (r : List V → Hp → VK → Prop) : Prop :=
  ∀ (pins : List (Addr × Obj)) (s : Shared) (σ : St) (H : Hp) (xs : List V) (us : List Value) (Q : VK), Inv X pins σ H s → Vals xs us → r xs H Q →
    wpAny (model X.prog X.w) X.A (call f us) (EP X pins σ Q) X.xe s
noncomputable def tOp (r : R2) (ta tb : TE) : TE := fun σ H Q => ta σ H fun x H1 => tb σ H1 fun y H2 => r x y H2 Q
noncomputable def tUn (r : V → Hp → VK → Prop) (ta : TE) : TE := fun σ H Q => ta σ H fun x H1 => r x H1 Q
noncomputable def rI (C : Int → Int → Prop) (g : Int → Int → V) : R2 := fun x y H Q => ∃ i j, x = .int i ∧ y = .int j ∧ C i j ∧ Q (g i j) H
noncomputable def rI0 (g : Int → Int → V) : R2 := fun x y H Q => ∃ i j, x = .int i ∧ y = .int j ∧ Q (g i j) H
noncomputable def rU (g : Int → V) : V → Hp → VK → Prop := fun x H Q => ∃ i, x = .int i ∧ Q (g i) H
section
variable {X : Cx} {a b c : Expr} {ta tb tc : TE} {pos : Pos}
theorem binT (ha : PE X a ta) (hb : PE X b tb) {pins : List (Addr × Obj)} {s : Shared} {σ : St} {H : Hp} {R : V → V → Hp → Prop} (I : Inv X pins σ H s)
    (h : ta σ H fun x H1 => tb σ H1 fun y H2 => R x y H2) {Q : Value → Shared → Prop} {f : Value → Value → Sem Value}
    (hf : ∀ v u s2 x y H2, Inv X pins σ H2 s2 → RelV x v → RelV y u → R x y H2 → wpAny (model X.prog X.w) X.A (f v u) Q X.xe s2) :
    wpAny (model X.prog X.w) X.A (eval a X.env) (fun v s₁ => wpAny (model X.prog X.w) X.A (eval b X.env) (fun u s₂ => wpAny (model X.prog X.w) X.A (f v u) Q X.xe s₂) X.xe s₁) X.xe s := by
  refine thn (ha pins s σ H _ I h) fun v s1 hhx => ?_
  obtain ⟨x, H1, I1, r1, q1⟩ := hhx
  refine thn (hb pins s1 σ H1 _ I1 q1) fun u s2 hhx => ?_
  obtain ⟨y, H2, I2, r2, q2⟩ := hhx
  exact hf v u s2 x y H2 I2 r1 r2 q2
theorem pe_op {op : Operator} {r : R2} (ho : OpR X (binaryOp op) r) (ha : PE X a ta) (hb : PE X b tb) : PE X (.BinOp a op b pos) (tOp r ta tb) := by
  intro pins s σ H Q I h
  exact wpAny_BinOp (binT ha hb I h fun v u s2 x y H2 I2 rx ry q => ho pins s2 σ H2 x y v u Q I2 rx ry q)
theorem pe_un {op : UnaryOp} {r : V → Hp → VK → Prop} (ho : UnR X (unaryOp op) r) (ha : PE X a ta) : PE X (.UnaryOp op a pos) (tUn r ta) := by
  intro pins s σ H Q I h
  exact UnaryOp_ (thn (ha pins s σ H _ I h) fun v s1 ⟨x, H1, I1, r1, q1⟩ => ho pins s1 σ H1 x v Q I1 r1 q1)
theorem opI {f : Value → Value → Sem Value} {C : Int → Int → Prop} {g : Int → Int → Int}
    (rule : ∀ (i j : Int) (t u : Tok) (s : Shared) (Q : Value → Shared → Prop) (E : Value → Shared → Prop), C i j → Q (.int (g i j) s.toks) { s with toks := s.toks + 1 } → wpAny (model X.prog X.w) X.A (f (.int i t) (.int j u)) Q E s) :
    OpR X f (rI C fun i j => .int (g i j)) := by
  intro pins s σ H x y v u Q I rx ry h
  obtain ⟨i, j, rfl, rfl, hc, q⟩ := h
  obtain ⟨t, rfl⟩ := rx
  obtain ⟨t', rfl⟩ := ry
  exact rule i j t t' s _ _ hc ⟨.int (g i j), H, I.tok _, ⟨_, rfl⟩, q⟩
theorem opI0 {f : Value → Value → Sem Value} {g : Int → Int → Int}
    (rule : ∀ (i j : Int) (t u : Tok) (s : Shared) (Q : Value → Shared → Prop) (E : Value → Shared → Prop), Q (.int (g i j) s.toks) { s with toks := s.toks + 1 } → wpAny (model X.prog X.w) X.A (f (.int i t) (.int j u)) Q E s) :
    OpR X f (rI0 fun i j => .int (g i j)) := by
  intro pins s σ H x y v u Q I rx ry h
  obtain ⟨i, j, rfl, rfl, q⟩ := h
  obtain ⟨t, rfl⟩ := rx
  obtain ⟨t', rfl⟩ := ry
  exact rule i j t t' s _ _ ⟨.int (g i j), H, I.tok _, ⟨_, rfl⟩, q⟩
theorem opB0 {f : Value → Value → Sem Value} {g : Int → Int → Bool}
    (rule : ∀ (i j : Int) (t u : Tok) (s : Shared) (Q : Value → Shared → Prop) (E : Value → Shared → Prop), Q (.bool (g i j)) s → wpAny (model X.prog X.w) X.A (f (.int i t) (.int j u)) Q E s) :
    OpR X f (rI0 fun i j => .bl (g i j)) := by
  intro pins s σ H x y v u Q I rx ry h
  obtain ⟨i, j, rfl, rfl, q⟩ := h
  obtain ⟨t, rfl⟩ := rx
  obtain ⟨t', rfl⟩ := ry
  exact rule i j t t' s _ _ ⟨.bl (g i j), H, I, rfl, q⟩
noncomputable def CPow (i j : Int) : Prop := 0 ≤ j ∧ j ≤ 1000000 ∧ i.natAbs < 2 ^ 64
noncomputable def CMul (i j : Int) : Prop := (-(2 ^ 64) < i ∧ i < 2 ^ 64) ∨ (-(2 ^ 64) < j ∧ j < 2 ^ 64)
theorem CMul.ok {i j : Int} (h : CMul i j) : IntMulOk i j := by
  rcases h with ⟨h1, h2⟩ | ⟨h1, h2⟩
  · exact .of_left (intBits_le_64 h1 h2)
  · exact .of_right (intBits_le_64 h1 h2)
theorem op_add : OpR X (binaryOp .Add) (rI0 fun i j => .int (i + j)) := opI0 fun _ _ _ _ _ _ _ q => add_int q
theorem op_sub : OpR X (binaryOp .Sub) (rI0 fun i j => .int (i - j)) := opI0 fun _ _ _ _ _ _ _ q => sub_int q
theorem op_mul : OpR X (binaryOp .Mult) (rI CMul fun i j => .int (i * j)) := opI fun _ _ _ _ _ _ _ hc q => mul_int q hc.ok
theorem op_mod : OpR X (binaryOp .Mod) (rI (fun _ j => 0 < j) fun i j => .int (i % j)) := opI fun i j _ _ _ _ _ hc q => by
  have h1 : (0 : Int) < j := hc
  exact mod_int' (by omega) (by rw [Int.fmod_eq_emod_of_nonneg i (by omega)]; exact q)
theorem op_pow : OpR X (binaryOp .Pow) (rI CPow fun i j => .int (i ^ j.toNat)) := opI fun _ _ _ _ _ _ _ hc q => pow_int_small hc.1 hc.2.1 hc.2.2 q
theorem op_shl : OpR X (binaryOp .LShift) (rI CPow fun i j => .int (i * 2 ^ j.toNat)) := opI fun _ _ _ _ _ _ _ hc q => lshift_int_small hc.1 hc.2.1 hc.2.2 q
theorem op_and : OpR X (binaryOp .BitAnd) (rI0 fun i j => .int (Builtin.bitAnd i j)) := opI0 fun _ _ _ _ _ _ _ q => and_int q
theorem op_or : OpR X (binaryOp .BitOr) (rI0 fun i j => .int (Builtin.bitOr i j)) := opI0 fun _ _ _ _ _ _ _ q => or_int q
theorem op_xor : OpR X (binaryOp .BitXor) (rI0 fun i j => .int (Builtin.bitXor i j)) := opI0 fun _ _ _ _ _ _ _ q => xor_int q
theorem unI {f : Value → Sem Value} {g : Int → Int}
    (rule : ∀ (i : Int) (t : Tok) (s : Shared) (Q : Value → Shared → Prop) (E : Value → Shared → Prop), Q (.int (g i) s.toks) { s with toks := s.toks + 1 } → wpAny (model X.prog X.w) X.A (f (.int i t)) Q E s) :
    UnR X f (rU fun i => .int (g i)) := by
  intro pins s σ H x v Q I rx h
  obtain ⟨i, rfl, q⟩ := h
  obtain ⟨t, rfl⟩ := rx
  exact rule i t s _ _ ⟨.int (g i), H, I.tok _, ⟨_, rfl⟩, q⟩
theorem un_neg : UnR X (unaryOp .USub) (rU fun i => .int (-i)) := unI fun _ _ _ _ _ q => neg_int q
end
noncomputable def scal : V → V → Bool
  | .non, .non => true | .non, .int _ => true | .int _, .non => true | .non, .bl _ => true | .bl _, .non => true | .non, .str _ => true | .str _, .non => true
  | .int _, .int _ => true | .bl _, .bl _ => true | .str _, .str _ => true | .byt _, .byt _ => true
  | .int _, .str _ => true | .str _, .int _ => true | .bl _, .str _ => true | .str _, .bl _ => true
  | _, _ => false
noncomputable def rEq : R2 := fun x y H Q => scal x y = true ∧ Q (.bl (decide (x = y))) H
noncomputable def rNe : R2 := fun x y H Q => scal x y = true ∧ Q (.bl (!decide (x = y))) H
theorem dec_int {i j : Int} : decide (V.int i = V.int j) = (i == j) := by
  rw [Bool.eq_iff_iff]
  simp
theorem dec_bl {i j : Bool} : decide (V.bl i = V.bl j) = (i == j) := by
  rw [Bool.eq_iff_iff]
  simp
theorem dec_str {i j : Str} : decide (V.str i = V.str j) = (i == j) := by
  rw [Bool.eq_iff_iff]
  simp
theorem dec_byt {i j : Array UInt8} : decide (V.byt i = V.byt j) = (i.toList == j.toList) := by
  rw [Bool.eq_iff_iff]
  cases i
  cases j
  simp
section
variable {X : Cx} {a b c : Expr} {ta tb tc : TE} {pos : Pos}
theorem fin_bl {pins : List (Addr × Obj)} {σ : St} {H : Hp} {s : Shared} {Q : VK} {k k' : Bool} (I : Inv X pins σ H s) (q : Q (.bl k) H) (e : k = k') : EP X pins σ Q (.bool k') s := by
  subst e
  exact ⟨.bl k, H, I, rfl, q⟩
theorem op_eq : OpR X (compareOp .Eq) rEq := by
  intro pins s σ H x y v u Q I rx ry h
  obtain ⟨hs, q⟩ := h
  cases x with
  | non =>
    cases rx
    cases y with
    | non => cases ry; exact PySem.EqNone.eq_none_none (fin_bl I q (by simp))
    | bl j => cases ry; exact PySem.EqNone.eq_none_bool (fin_bl I q (by simp))
    | int j => obtain ⟨t', rfl⟩ := ry; exact PySem.EqNone.eq_none_int (fin_bl I q (by simp))
    | str j => obtain ⟨t', rfl⟩ := ry; exact PySem.EqNone.eq_none_str (fin_bl I q (by simp))
    | _ => exact absurd (show false = true from hs) Bool.false_ne_true
  | bl i =>
    cases rx
    cases y with
    | non => cases ry; exact PySem.EqNone.eq_bool_none (fin_bl I q (by simp))
    | bl j => cases ry; exact eq_bool (fin_bl I q dec_bl)
    | str j => obtain ⟨t', rfl⟩ := ry; exact PySem.EqMixed.eq_bool_str (fin_bl I q (by simp))
    | _ => exact absurd (show false = true from hs) Bool.false_ne_true
  | int i =>
    obtain ⟨t, rfl⟩ := rx
    cases y with
    | non => cases ry; exact PySem.EqNone.eq_int_none (fin_bl I q (by simp))
    | int j => obtain ⟨t', rfl⟩ := ry; exact eq_int (fin_bl I q dec_int)
    | str j => obtain ⟨t', rfl⟩ := ry; exact PySem.EqMixed.eq_int_str (fin_bl I q (by simp))
    | _ => exact absurd (show false = true from hs) Bool.false_ne_true
  | str i =>
    obtain ⟨t, rfl⟩ := rx
    cases y with
    | non => cases ry; exact PySem.EqNone.eq_str_none (fin_bl I q (by simp))
    | bl j => cases ry; exact PySem.EqMixed.eq_str_bool (fin_bl I q (by simp))
    | int j => obtain ⟨t', rfl⟩ := ry; exact PySem.EqMixed.eq_str_int (fin_bl I q (by simp))
    | str j => obtain ⟨t', rfl⟩ := ry; exact eq_str (fin_bl I q dec_str)
    | _ => exact absurd (show false = true from hs) Bool.false_ne_true
  | byt i =>
    obtain ⟨t, rfl⟩ := rx
    cases y with
    | byt j => obtain ⟨t', rfl⟩ := ry; exact PySem.W.eq_bytes (fin_bl I q dec_byt)
    | _ => exact absurd (show false = true from hs) Bool.false_ne_true
  | _ => cases y <;> exact absurd (show false = true from hs) Bool.false_ne_true
theorem op_ne : OpR X (compareOp .NotEq) rNe := by
  intro pins s σ H x y v u Q I rx ry h
  obtain ⟨hs, q⟩ := h
  cases x with
  | non =>
    cases rx
    cases y with
    | non => cases ry; exact PySem.EqNone.ne_none_none (fin_bl I q (by simp))
    | bl j => cases ry; exact PySem.EqNone.ne_none_bool (fin_bl I q (by simp))
    | int j => obtain ⟨t', rfl⟩ := ry; exact PySem.EqNone.ne_none_int (fin_bl I q (by simp))
    | str j => obtain ⟨t', rfl⟩ := ry; exact PySem.EqNone.ne_none_str (fin_bl I q (by simp))
    | _ => exact absurd (show false = true from hs) Bool.false_ne_true
  | bl i =>
    cases rx
    cases y with
    | non => cases ry; exact PySem.EqNone.ne_bool_none (fin_bl I q (by simp))
    | bl j => cases ry; exact ne_bool (fin_bl I q (congrArg not dec_bl))
    | str j => obtain ⟨t', rfl⟩ := ry; exact PySem.EqMixed.ne_bool_str (fin_bl I q (by simp))
    | _ => exact absurd (show false = true from hs) Bool.false_ne_true
  | int i =>
    obtain ⟨t, rfl⟩ := rx
    cases y with
    | non => cases ry; exact PySem.EqNone.ne_int_none (fin_bl I q (by simp))
    | int j => obtain ⟨t', rfl⟩ := ry; exact ne_int (fin_bl I q (congrArg not dec_int))
    | str j => obtain ⟨t', rfl⟩ := ry; exact PySem.EqMixed.ne_int_str (fin_bl I q (by simp))
    | _ => exact absurd (show false = true from hs) Bool.false_ne_true
  | str i =>
    obtain ⟨t, rfl⟩ := rx
    cases y with
    | non => cases ry; exact PySem.EqNone.ne_str_none (fin_bl I q (by simp))
    | bl j => cases ry; exact PySem.EqMixed.ne_str_bool (fin_bl I q (by simp))
    | int j => obtain ⟨t', rfl⟩ := ry; exact PySem.EqMixed.ne_str_int (fin_bl I q (by simp))
    | str j => obtain ⟨t', rfl⟩ := ry; exact ne_str (fin_bl I q (congrArg not dec_str))
    | _ => exact absurd (show false = true from hs) Bool.false_ne_true
  | byt i =>
    obtain ⟨t, rfl⟩ := rx
    cases y with
    | byt j => obtain ⟨t', rfl⟩ := ry; exact PySem.W.ne_bytes (fin_bl I q (congrArg not dec_byt))
    | _ => exact absurd (show false = true from hs) Bool.false_ne_true
  | _ => cases y <;> exact absurd (show false = true from hs) Bool.false_ne_true
theorem op_lt : OpR X (compareOp .Lt) (rI0 fun i j => .bl (decide (i < j))) := opB0 fun _ _ _ _ _ _ _ q => lt_int q
theorem op_le : OpR X (compareOp .LtE) (rI0 fun i j => .bl (decide (i ≤ j))) := opB0 fun _ _ _ _ _ _ _ q => le_int q
theorem op_gt : OpR X (compareOp .Gt) (rI0 fun i j => .bl (decide (j < i))) := opB0 fun _ _ _ _ _ _ _ q => gt_int q
theorem op_ge : OpR X (compareOp .GtE) (rI0 fun i j => .bl (decide (j ≤ i))) := opB0 fun _ _ _ _ _ _ _ q => ge_int q
theorem nomark (b : Expr) {op : CmpOp} (h : op ≠ .In := by decide) (h2 : op ≠ .NotIn := by decide) : behindInMarks op b = false := by
  have e1 : (op == CmpOp.In) = false := by cases op <;> first | rfl | exact absurd rfl h
  have e2 : (op == CmpOp.NotIn) = false := by cases op <;> first | rfl | exact absurd rfl h2
  cases b <;> simp [behindInMarks, e1, e2]
theorem pe_cmpR {op : CmpOp} {r : R2} (ho : OpR X (compareOp op) r) (ha : PE X a ta) (hb : PE X b tb) (hm : behindInMarks op b = false) : PE X (.Compare a [op] [b] pos) (tOp r ta tb) := by
  intro pins s σ H Q I h
  exact wpAny_Compare1 (binT ha hb I h fun v u s2 x y H2 I2 rx ry q => ho pins s2 σ H2 x y v u Q I2 rx ry q) hm
noncomputable def tTest (t : TE) : TT := fun σ H Q => t σ H fun x H' => ∃ k, x = .bl k ∧ Q k H'
theorem pt_cmpR {op : CmpOp} {r : R2} (ho : OpR X (compareOp op) r) (ha : PE X a ta) (hb : PE X b tb) (hm : behindInMarks op b = false) : PT X (.Compare a [op] [b] pos) (tTest (tOp r ta tb)) := by
  intro pins s σ H Q I h
  refine wpAny_isTrue_Compare1 (thn (ha pins s σ H _ I h) fun v s1 ⟨x, H1, I1, r1, q1⟩ => thn (hb pins s1 σ H1 _ I1 q1) fun u s2 ⟨y, H2, I2, r2, q2⟩ =>
    thn (ho pins s2 σ H2 x y v u _ I2 r1 r2 q2) fun c s3 ⟨z, H3, I3, r3, k, e, q3⟩ => ?_) hm
  subst e
  cases r3
  exact wpAny_truthy_bool ⟨H3, I3, q3⟩
theorem line63 : (sizeLine : Nat) < 2 ^ 63 := by rw [sizeLine_eq]; decide
theorem vals1 {x : V} {us : List Value} (r : Vals [x] us) : ∃ u, us = [u] ∧ RelV x u := by
  cases r with
  | cons r1 r2 => cases r2; exact ⟨_, rfl, r1⟩
theorem vals2 {x y : V} {us : List Value} (r : Vals [x, y] us) : ∃ u w', us = [u, w'] ∧ RelV x u ∧ RelV y w' := by
  cases r with
  | cons r1 r2 =>
    cases r2 with
    | cons r3 r4 => cases r4; exact ⟨_, _, rfl, r1, r3⟩
theorem call_min2 (hc : X.calm = true) : CallR X (.builtin "min") (fun xs H Q => ∃ i j, xs = [.int i, .int j] ∧ Q (.int (if j < i then j else i)) H) := by
  intro pins s σ H xs us Q I r h
  obtain ⟨i, j, rfl, q⟩ := h
  obtain ⟨u, w', rfl, ⟨t, rfl⟩, ⟨t', rfl⟩⟩ := vals2 r
  refine min_two_ints (I.ok.hd hc) fun h' tk k => ⟨_, H, I.kept k, ?_, q⟩
  by_cases hj : j < i
  · rw [if_pos hj, if_pos hj]; exact ⟨_, rfl⟩
  · rw [if_neg hj, if_neg hj]; exact ⟨_, rfl⟩
theorem call_int1 : CallR X (.type "int") (fun xs H Q => (∃ i, xs = [.int i] ∧ Q (.int i) H) ∨ ∃ k, xs = [.bl k] ∧ Q (.int (if k then 1 else 0)) H) := by
  intro pins s σ H xs us Q I r h
  rcases h with ⟨i, rfl, q⟩ | ⟨k, rfl, q⟩
  · obtain ⟨u, rfl, t, rfl⟩ := vals1 r
    exact call_int_int ⟨.int i, H, I, ⟨_, rfl⟩, q⟩
  · obtain ⟨u, rfl, r1⟩ := vals1 r
    cases r1
    exact call_int_bool ⟨.int (if k then 1 else 0), H, I.tok _, ⟨_, rfl⟩, q⟩
end
end L2
namespace L2
open PySem PySem.Spec PyProof.Rows
structure ObjM (h : Heap) (x dx C : Addr) (mA : Str → Option Value) : Prop where
  obj : h.get? x = some (PySem.W.instObj C dx)
  ns : h.Ns1 dx mA
  ne : dx ≠ x
theorem lookIn_ns {h : Heap} {dx : Addr} {mA : Str → Option Value} (n : h.Ns1 dx mA) : ∃ od, h.get? dx = some od ∧ ∀ name, PySem.W.lookIn name od = some (mA name) := by
  obtain ⟨o, es, ep, ho, hd, hk, _, hm⟩ := n
  refine ⟨o, ho, fun name => ?_⟩
  have e := hm name
  unfold nsFind findBy at e
  rw [← Array.find?_toList] at e
  unfold PySem.W.lookIn
  rw [hd]
  dsimp only
  split
  · rename_i y q
    rw [q] at e
    exact congrArg some e
  · rename_i q
    rw [q] at e
    have a : es.toList.any (·.refKey) = false := by
      rw [List.any_eq_false]
      intro y hy
      obtain ⟨z, t, hkey⟩ := hk y (Array.mem_toList_iff.mp hy)
      simp [DictEntry.refKey, hkey]
    have a' : ¬ es.toList.any (·.refKey) = true := by rw [a]; exact Bool.false_ne_true
    rw [if_neg a']
    exact congrArg some e
theorem ObjM.look {h : Heap} {x dx C : Addr} {mA : Str → Option Value} (I : ObjM h x dx C mA) : ∃ od, PySem.W.InstAt h x (PySem.W.instObj C dx) C (some od) ∧ ∀ name, PySem.W.lookIn name od = some (mA name) :=
  let ⟨od, ho, hl⟩ := lookIn_ns I.ns
  ⟨od, ⟨I.obj, rfl, rfl, ho⟩, hl⟩
section
variable {prog : Program} {w : World} {A : Around} {E : Value → Shared → Prop} {s : Shared} {K : PySem.W.Frag} {x dx C f : Addr} {mA : Str → Option Value} {name : Str} {v : Value}
theorem get_map {expr : Bool} {Q : Value → Shared → Prop} (X : K.In s.heap) (I : ObjM s.heap x dx C mA) (hg : PySem.W.plainGet K C name = true) (hh : PySem.W.hasDictIn K C = true)
    (ha : PySem.W.findIn K (.ref C) name = some none) (hv : mA name = some v) (hv' : PySem.W.handedIn v = true) (h : Q v { s with toks := s.toks + 1 }) :
    wpAny (model prog w) A (getAttr (.ref x) name expr) Q E s := by
  obtain ⟨od, J, hl⟩ := I.look
  exact PySem.W.get_value X J (PySem.W.plainGet_of hg).1 (PySem.W.findObj_own hh ha rfl (by rw [hl, hv])) hv' h
theorem get_meth {pl : Sem Bool} {Q : Value × List Value → Shared → Prop} (X : K.In s.heap) (I : ObjM s.heap x dx C mA) (hg : PySem.W.plainGet K C name = true)
    (hf : PySem.W.findIn K (.ref C) name = some (some (.ref f))) (ht : PySem.W.isFn K (.ref f) = true) (hv : mA name = none) (h : Q (.ref f, [.ref x]) s) :
    wpAny (model prog w) A (getMethod (.ref x) name pl) Q E s := by
  obtain ⟨od, J, hl⟩ := I.look
  exact PySem.W.method_fn X J (PySem.W.plainGet_of hg).1 (PySem.W.plainGet_of hg).2 hf (beq_iff_eq.mp ht) (by show (PySem.W.lookIn name od).map (·.isSome) = some false; rw [hl, hv]; rfl) h
theorem set_map {ns : List Str} {Q : Unit → Shared → Prop} (X : K.In s.heap) (I : ObjM s.heap x dx C mA)
    (hs : PySem.W.findIn K (.ref C) "__setattr__" = some (some (.builtin "object.__setattr__"))) (hp : PySem.W.plainOver K C = true) (ht : PySem.W.takerIn K C name = some none) (hh : PySem.W.hasDictIn K C = true)
    (hw : PySem.Within mA ns) (hsz : ns.length ≤ sizeLine)
    (h : ∀ h', ObjM h' x dx C (fun y => if y = name then some v else mA y) → Heap.SameBut dx s.heap h' → Q () { s with heap := h', toks := s.toks + 2 }) :
    wpAny (model prog w) A (setAttr (.ref x) name v) Q E s := by
  obtain ⟨od, J, hl⟩ := I.look
  refine PySem.W.set_plain X J hs (PySem.W.osa_open (s := { s with toks := s.toks + 1 }) (r := none) X J hp ht fun b => ?_)
  obtain ⟨cd, hc, hd'⟩ := PySem.W.any_some hh
  have hx : s.heap.get? x = some ⟨.ref C, some dx, .plain, #[]⟩ := I.obj
  refine wpAny_bind (wpAny_pure (wpAny_bind (wpAny_bind (wpAny_loadPart hx (wpAny_bind (PySem.W.Looks.here (s := { s with toks := s.toks + 1 }) (PySem.W.looks_clsIn X hc) ?_))))))
  rw [hd']
  refine wpAny_pure (a := some dx) (wpAny_bind (wpAny_pure (wpAny_bind ?_)))
  refine wpAny_nsSet1 (s := { s with toks := s.toks + 1 }) I.ns fun h' hn2 hs2 => ?_
  obtain ⟨oD, esD, epD, hoD, hdD, hcD⟩ := hn2.count (PySem.Within.cons name v hw)
  refine wpAny_bind (wpAny_lookBehind hoD (by rw [hdD]; exact pastItsLine_dict (Nat.le_trans hcD (by rw [List.length_cons]; omega))) ?_)
  exact wpAny_pure (h _ ⟨(hs2.2 _ (Ne.symm I.ne)).trans I.obj, hn2, I.ne⟩ hs2)
theorem make_map {R : Result → Shared → Prop} {vs : List Value} {kw : List (Str × Value)} (X : K.In s.heap) (hm : PySem.W.makesIn K C = true)
    (hi : PySem.W.findIn K (.ref C) "__init__" = some (some (.ref f))) (hf : PySem.W.typeIn K (.ref f) = some (.type "function"))
    (h : codeAny (model prog w) (A.under (.builtin "type.__call__" ⟨.ref C :: vs, kw⟩)) (.call (.ref f) ⟨.ref (s.heap.objs.size + 1) :: vs, kw⟩) (PySem.W.InitBack (s.heap.objs.size + 1) R)
      { s with heap := (s.heap.push PySem.W.emptyDict).push (PySem.W.instObj C s.heap.objs.size) }) :
    codeAny (model prog w) A (.call (.ref C) ⟨vs, kw⟩) R s := by
  obtain ⟨hh, g, d, t, os⟩ := s
  exact PySem.W.make_core (PySem.W.makes_of X hm) (PySem.W.looks_findIn X hi) (fun self => PySem.W.bind_fn X self hf) (.inl rfl) h
end
noncomputable def putF (f : Str) (v : V) : List (Str × V) → List (Str × V)
  | [] => [(f, v)]
  | (g, x) :: r => if g = f then (g, v) :: r else (g, x) :: putF f v r
theorem lookup_putF (f g : Str) (v : V) : ∀ fs : List (Str × V), (putF f v fs).lookup g = if g = f then some v else fs.lookup g
  | [] => by
    show List.lookup g [(f, v)] = _
    by_cases h : g = f
    · have hb : (g == f) = true := beq_iff_eq.mpr h
      simp only [List.lookup, hb, if_pos h]
    · have hb : (g == f) = false := beq_eq_false_iff_ne.mpr h
      simp only [List.lookup, hb, if_neg h]
  | (k, x) :: r => by
    have ih := lookup_putF f g v r
    rw [show putF f v ((k, x) :: r) = (if k = f then (k, v) :: r else (k, x) :: putF f v r) from rfl]
    by_cases hk : k = f
    · rw [if_pos hk]
      by_cases h : g = k
      · have hb : (g == k) = true := beq_iff_eq.mpr h
        simp only [List.lookup, hb, if_pos (h.trans hk)]
      · have hb : (g == k) = false := beq_eq_false_iff_ne.mpr h
        simp only [List.lookup, hb, if_neg (fun e : g = f => h (e.trans hk.symm))]
    · rw [if_neg hk]
      by_cases h : g = k
      · have hb : (g == k) = true := beq_iff_eq.mpr h
        simp only [List.lookup, hb, if_neg (fun e : g = f => hk (h.symm.trans e))]
      · have hb : (g == k) = false := beq_eq_false_iff_ne.mpr h
        simp only [List.lookup, hb]
        exact ih
theorem keys_putF (f : Str) (v : V) : ∀ fs : List (Str × V), f ∈ (putF f v fs).map (·.1) ∧ ∀ g, g ∈ fs.map (·.1) → g ∈ (putF f v fs).map (·.1)
  | [] => ⟨by simp [putF], fun g h => by simp at h⟩
  | (k, x) :: r => by
    obtain ⟨i1, i2⟩ := keys_putF f v r
    rw [show putF f v ((k, x) :: r) = (if k = f then (k, v) :: r else (k, x) :: putF f v r) from rfl]
    by_cases hk : k = f
    · rw [if_pos hk]
      subst hk
      exact ⟨by simp, fun g h => by simpa using h⟩
    · rw [if_neg hk]
      refine ⟨?_, fun g h => ?_⟩
      · rw [List.map_cons]
        exact List.mem_cons_of_mem _ i1
      · rw [List.map_cons] at h ⊢
        rcases List.mem_cons.mp h with e | e
        · exact List.mem_cons.mpr (.inl e)
        · exact List.mem_cons_of_mem _ (i2 g e)
theorem length_putF (f : Str) (v : V) : ∀ fs : List (Str × V), (putF f v fs).length ≤ fs.length + 1
  | [] => by simp [putF]
  | (k, x) :: r => by
    have ih := length_putF f v r
    rw [show putF f v ((k, x) :: r) = (if k = f then (k, v) :: r else (k, x) :: putF f v r) from rfl]
    by_cases hk : k = f
    · rw [if_pos hk, List.length_cons, List.length_cons]; omega
    · rw [if_neg hk, List.length_cons, List.length_cons]; omega
theorem RelO.some_of {v : V} {o : Option Value} (r : RelO (some v) o) : ∃ u, o = some u ∧ RelV v u := by
  cases o with
  | none => exact (show False from r).elim
  | some u => exact ⟨u, rfl, r⟩
theorem RelO.none_of {o : Option Value} (r : RelO none o) : o = none := by
  cases o with
  | none => rfl
  | some u => exact (show False from r).elim
theorem handed_of {v : V} {u : Value} (r : RelV v u) : PySem.W.handedIn u = true := by
  cases v with
  | non => cases (show u = Value.none from r); rfl
  | bl b => cases (show u = Value.bool b from r); rfl
  | int i => obtain ⟨t, e⟩ := (show ∃ t, u = Value.int i t from r); cases e; rfl
  | str x => obtain ⟨t, e⟩ := (show ∃ t, u = Value.str x t from r); cases e; rfl
  | byt b => obtain ⟨t, e⟩ := (show ∃ t, u = Value.bytes b t from r); cases e; rfl
  | flt b => obtain ⟨t, e⟩ := (show ∃ t, u = Value.float b t from r); cases e; rfl
  | ref a => cases (show u = Value.ref a from r); rfl
  | ty n => cases (show u = Value.type n from r); rfl
section
variable {P : Program} {w : World} {H H' : Hp} {h h' : Heap} {a C dx : Addr} {fs fs' : List (Str × V)}
theorem ins_get (hok : HOk P w H h) (e : H a = some (.ins C dx fs)) : ∃ mA, ObjM h a dx C mA ∧ (∀ f, RelO (fs.lookup f) (mA f)) ∧ PySem.Within mA (fs.map (·.1)) ∧ fs.length ≤ 1000 ∧ H dx = some (.own a) := by
  obtain ⟨d, z, ne, ob, mA, n, r, q⟩ := (show ObjOk P w H h a (.ins C dx fs) from hok a _ e)
  exact ⟨mA, ⟨ob, n, ne⟩, r, q, z, d⟩
end
structure Cls (K : PySem.W.Frag) (C : Addr) : Prop where
  pg : PySem.W.plainGet K C Str.empty = true
  hd : PySem.W.hasDictIn K C = true
  po : PySem.W.plainOver K C = true
  sa : PySem.W.findIn K (.ref C) "__setattr__" = some (some (.builtin "object.__setattr__"))
theorem Cls.get {K : PySem.W.Frag} {C : Addr} (c : Cls K C) (f : Str) : PySem.W.plainGet K C f = true := c.pg
noncomputable def NoAttr (K : PySem.W.Frag) (C : Addr) (f : Str) : Prop := PySem.W.findIn K (.ref C) f = some none
theorem NoAttr.taker {K : PySem.W.Frag} {C : Addr} {f : Str} (n : NoAttr K C f) : PySem.W.takerIn K C f = some none := by
  unfold PySem.W.takerIn
  rw [show PySem.W.findIn K (.ref C) f = some none from n]
  rfl
structure Meth (K : PySem.W.Frag) (C : Addr) (m : Str) (f : Addr) : Prop where
  at_ : PySem.W.findIn K (.ref C) m = some (some (.ref f))
  fn : PySem.W.isFn K (.ref f) = true
  kp : PySem.W.keepIn K (.ref f) = true
section
variable {X : Cx} {pins : List (Addr × Obj)} {σ : St} {H : Hp} {s : Shared} {a C dx : Addr} {fs : List (Str × V)} {f : Str} {v : V} {A : Around} {E : Value → Shared → Prop}
theorem getattr_ok {b : Bool} {Q : Value → Shared → Prop} (I : Inv X pins σ H s) (e : H a = some (.ins C dx fs)) (c : Cls X.K C) (n : NoAttr X.K C f) (l : fs.lookup f = some v)
    (h : ∀ u s', Inv X pins σ H s' → RelV v u → Q u s') : wpAny (model X.prog X.w) A (getAttr (.ref a) f b) Q E s := by
  obtain ⟨mA, O, r, _, _, _⟩ := ins_get I.hok e
  obtain ⟨u, hu, ru⟩ := RelO.some_of (v := v) (o := mA f) (by rw [← l]; exact r f)
  exact get_map I.kIn O (c.get f) c.hd n hu (handed_of ru) (h u _ (I.tok _) ru)
theorem getmeth_ok {m : Str} {g : Addr} {pl : Sem Bool} {Q : Value × List Value → Shared → Prop} (I : Inv X pins σ H s) (e : H a = some (.ins C dx fs)) (c : Cls X.K C) (k : Meth X.K C m g) (l : fs.lookup m = none)
    (h : Q (.ref g, [.ref a]) s) : wpAny (model X.prog X.w) A (getMethod (.ref a) m pl) Q E s := by
  obtain ⟨mA, O, r, _, _, _⟩ := ins_get I.hok e
  have hn : mA m = none := RelO.none_of (by rw [← l]; exact r m)
  exact get_meth I.kIn O (c.get m) k.at_ k.fn hn h
theorem setattr_ok {y : V} {u : Value} {Q : Unit → Shared → Prop} (I : Inv X pins σ H s) (e : H a = some (.ins C dx fs)) (c : Cls X.K C) (n : NoAttr X.K C f) (hl : fs.length < 1000) (ry : RelV y u)
    (h : ∀ s', Inv X pins σ (upd H a (.ins C dx (putF f y fs))) s' → Q () s') : wpAny (model X.prog X.w) A (setAttr (.ref a) f u) Q E s := by
  obtain ⟨mA, O, r, wi, _, ho⟩ := ins_get I.hok e
  have hz : (fs.map (·.1)).length ≤ sizeLine := by rw [List.length_map, sizeLine_eq]; omega
  refine set_map I.kIn O c.sa c.po n.taker c.hd wi hz fun h' O' sb => h _ ?_
  have hd : ∃ o, h'.get? dx = some o := let ⟨o, _, _, e', _⟩ := O'.ns; ⟨o, e'⟩
  refine I.write (x := a) (e := dx) (by rw [e]; exact True.intro) (.inr ho) (fun b q hb z => (sb.2 b hb).trans z) hd ?_
  refine ⟨by rw [upd_ne O.ne]; exact ho, ?_, O.ne, O'.obj, _, O'.ns, fun g => ?_, fun g hg => ?_⟩
  · have := length_putF f y fs; omega
  · show RelO ((putF f y fs).lookup g) (if g = f then some u else mA g)
    rw [lookup_putF]
    by_cases q : g = f
    · rw [if_pos q, if_pos q]; exact ry
    · rw [if_neg q, if_neg q]; exact r g
  · by_cases q : g = f
    · rw [q]; exact (keys_putF f y fs).1
    · refine (keys_putF f y fs).2 g (wi g fun z => hg ?_)
      show (if g = f then some u else mA g) = none
      rw [if_neg q]; exact z
theorem Inv.made (I : Inv X pins σ H s) : Inv X pins σ (upd (upd H s.heap.objs.size (.own (s.heap.objs.size + 1))) (s.heap.objs.size + 1) (.ins C s.heap.objs.size []))
    { s with heap := (s.heap.push PySem.W.emptyDict).push (PySem.W.instObj C s.heap.objs.size) } := by
  have e1 : (s.heap.push PySem.W.emptyDict).get? s.heap.objs.size = some PySem.W.emptyDict := Heap.get?_push_size s.heap rfl
  have e2 : ((s.heap.push PySem.W.emptyDict).push (PySem.W.instObj C s.heap.objs.size)).get? (s.heap.objs.size + 1) = some (PySem.W.instObj C s.heap.objs.size) := by
    have := Heap.get?_push_size (s.heap.push PySem.W.emptyDict) (o := PySem.W.instObj C s.heap.objs.size) rfl
    rwa [Heap.size_push] at this
  have e3 : (s.heap.push PySem.W.emptyDict).Ns s.heap.objs.size (fun _ => none) := ⟨PySem.W.emptyDict, #[], _, e1, rfl, (fun e he => absurd he (by simp)), fun _ => rfl⟩
  have I1 := I.laid (a := s.heap.objs.size) (o := .own (s.heap.objs.size + 1)) (h' := s.heap.push PySem.W.emptyDict) (t' := s.toks) (fun b u q => Heap.get?_push_of_some _ q) (Nat.le_refl _) ⟨_, e1⟩
  refine I1.laid (a := s.heap.objs.size + 1) (o := .ins C s.heap.objs.size []) (t' := s.toks) (fun b u q => Heap.get?_push_of_some _ q) (Nat.le_of_eq (Heap.size_push _ _)) ?_
  have ne : s.heap.objs.size ≠ s.heap.objs.size + 1 := Nat.ne_of_lt (Nat.lt_succ_self _)
  refine ⟨by rw [upd_ne ne, upd_same], Nat.zero_le _, ne, e2, fun _ => none, (Heap.Ns1.of_empty e3).at fun o q => Heap.get?_push_of_some _ q, fun _ => True.intro, fun y hy => absurd rfl hy⟩
theorem attr_of {prog : Program} {w : World} {env : Env} {e : Expr} {f : Str} {pos : Pos} {s : Shared} {Q : Value → Shared → Prop} (hb : attributeBase e f env (eval e env) = eval e env)
    (h : wpAny (model prog w) A (eval e env) (fun o s₁ => wpAny (model prog w) A (getAttr o f true) Q E s₁) E s) : wpAny (model prog w) A (eval (.Attribute e f pos) env) Q E s :=
  Attribute_any_ h (by rw [arm_eval_Attribute, hb])
end
noncomputable def tFld (K : PySem.W.Frag) (ta : TE) (f : Str) : TE := fun σ H Q => ta σ H fun x H1 => ∃ a C dx fs v, x = .ref a ∧ H1 a = some (.ins C dx fs) ∧ Cls K C ∧ NoAttr K C f ∧ fs.lookup f = some v ∧ Q v H1
noncomputable def sFld (K : PySem.W.Frag) (ta tv : TE) (f : Str) : TS := fun D σ H => tv σ H fun y H1 => ta σ H1 fun x H2 => ∃ a C dx fs, x = .ref a ∧ H2 a = some (.ins C dx fs) ∧ Cls K C ∧ NoAttr K C f ∧ fs.length < 1000 ∧
  D.nx σ (upd H2 a (.ins C dx (putF f y fs)))
section
variable {X : Cx} {o e value : Expr} {f : Str} {pos pos' tpos : Pos} {ta tv : TE}
theorem pe_fld (he : PE X e ta) (hb : attributeBase e f X.env (eval e X.env) = eval e X.env) : PE X (.Attribute e f pos) (tFld X.K ta f) := by
  intro pins s σ H Q I h
  refine attr_of hb (thn (he pins s σ H _ I h) fun u s1 hhx => ?_)
  obtain ⟨x, H1, I1, rx, a, C, dx, fs, v, ex, ea, c, n, l, q⟩ := hhx
  subst ex
  obtain rfl : u = Value.ref a := rx
  exact getattr_ok I1 ea c n l fun u' s2 I2 ru => ⟨v, H1, I2, ru, q⟩
theorem ps_fld (ha : PE X o ta) (hv : PE X value tv) (hs : swapsWith value (some (.Attribute o f pos')) pos.line X.env = pure false) : PS X (.Assign [.Attribute o f pos'] value pos) (sFld X.K ta tv f) := by
  intro pins s σ H D I h
  refine plainObj_wpAny_Assign_Attribute (thn (hv pins s σ H _ I h) fun u s1 ⟨y, H1, I1, ry, q⟩ => thn (ha pins s1 σ H1 _ I1 q) fun ov s2 hhx => ?_) hs
  obtain ⟨x, H2, I2, rx, a, C, dx, fs, ex, ea, c, n, l, q2⟩ := hhx
  subst ex
  obtain rfl : ov = Value.ref a := rx
  exact setattr_ok I2 ea c n l ry fun s3 I3 => ⟨σ, _, I3, q2⟩
theorem methcall_of {pl : Sem Bool} {m : Str} {apos : Pos} {args : List Expr} {pins : List (Addr × Obj)} {s : Shared} {σ : St} {H : Hp} {Q : Value → Shared → Prop} {te : TE} (he : PE X e te) (I : Inv X pins σ H s)
    (h : te σ H fun x H1 => ∃ a C dx fs g, x = .ref a ∧ H1 a = some (.ins C dx fs) ∧ Cls X.K C ∧ Meth X.K C m g ∧ fs.lookup m = none ∧
      ∀ s1, Inv X pins σ H1 s1 → wpAny (model X.prog X.w) X.A (callWith pos (.ref g) [.ref a] (backTo pos (starEach args X.env)) (backToKw pos (keywordEach [] X.env))) Q X.xe s1)
    (ht : eval (.Call (.Attribute e m apos) args [] pos) X.env = (do
      let ov ← eval e X.env
      standAt apos.atName
      let (f, first) ← holding [ov] (getMethod ov m pl)
      callWith pos f first (backTo pos (starEach args X.env)) (backToKw pos (keywordEach [] X.env)))) :
    wpAny (model X.prog X.w) X.A (eval (.Call (.Attribute e m apos) args [] pos) X.env) Q X.xe s := by
  refine PySem.W.methodCall_KW (pl := pl) (thn (he pins s σ H _ I h) fun u s1 hhx => ?_) ht
  obtain ⟨x, H1, I1, rx, a, C, dx, fs, g, ex, ea, c, k, l, q⟩ := hhx
  subst ex
  obtain rfl : u = Value.ref a := rx
  exact getmeth_ok I1 ea c k l (q s1 I1)
end
section
variable {X : Cx} {pins : List (Addr × Obj)} {σ : St} {H : Hp} {s : Shared} {A : Around} {E : Value → Shared → Prop} {Q : Value → Shared → Prop} {c : Value} {b : Bool}
end
end L2
namespace L2
open PySem PySem.Spec PyProof.Rows
structure Room (k : Nat) (A : Around) : Prop where
  hd : A.handled = none
  dp : A.depth + 3 * k + 5 < recursionLimit
  un : A.units + 16 * k + 200 < cLine
theorem Room.mono {j k : Nat} {A : Around} (r : Room k A) (h : j ≤ k) : Room j A := ⟨r.hd, by have := r.dp; omega, by have := r.un; omega⟩
theorem Room.deeper {k : Nat} {A : Around} (r : Room (k + 1) A) (env : Env) : Room k (A.deeper env) :=
  ⟨r.hd, by have := r.dp; show A.depth + 1 + 3 * k + 5 < _; omega, by have := r.un; show A.units + 3 + 16 * k + 200 < _; omega⟩
theorem make_depth {A : Around} {C : Addr} {us : List Value} {kw : List (Str × Value)} : (A.under (.builtin "type.__call__" ⟨.ref C :: us, kw⟩)).depth = A.depth + 1 := by
  first | rfl | simp [Around.under, Code.weight, Code.isCreation, Code.isGuard, Code.isCaller, Code.frames, Code.isFrame, guardIds]
theorem make_units {A : Around} {C : Addr} {us : List Value} {kw : List (Str × Value)} : (A.under (.builtin "type.__call__" ⟨.ref C :: us, kw⟩)).units = A.units + 1 := by
  first | rfl | simp [Around.under, Code.cUnits, Code.frames, Code.isFrame]
theorem Room.make {k : Nat} {A : Around} (r : Room (k + 1) A) (C : Addr) (us : List Value) (kw : List (Str × Value)) : Room k (A.under (.builtin "type.__call__" ⟨.ref C :: us, kw⟩)) :=
  ⟨r.hd, by have := r.dp; rw [make_depth]; omega, by have := r.un; rw [make_units]; omega⟩
theorem Room.depth {k : Nat} {A : Around} (r : Room k A) : A.depth < recursionLimit := by have := r.dp; omega
theorem Room.units {k : Nat} {A : Around} (r : Room k A) : A.units + 64 < cLine := by have := r.un; omega
theorem Room.units0 {k : Nat} {A : Around} (r : Room k A) : A.units < cLine := by have := r.un; omega
noncomputable def tNil : TA := fun _ H Q => Q [] H
noncomputable def tCons (ta : TE) (tr : TA) : TA := fun σ H Q => ta σ H fun x H1 => tr σ H1 fun xs H2 => Q (x :: xs) H2
section
variable {X : Cx} {e : Expr} {es : List Expr} {te : TE} {t : TA} {pos : Pos}
theorem pa_nil : PA X [] tNil := fun _ _ _ _ H Q I h => Calls.spliced_nil ⟨[], H, I, .nil, h⟩
theorem pa_cons (ha : PE X e te) (hr : PA X es t) (hs : starEach (e :: es) X.env = (false, eval e X.env) :: starEach es X.env := by rfl) : PA X (e :: es) (tCons te t) := by
  intro pos pins s σ H Q I h
  rw [hs]
  show wpAny _ _ (spliced ((false, eval e X.env) :: backTo pos (starEach es X.env))) _ _ s
  refine Calls.spliced_cons (thn (ha pins s σ H _ I h) fun u s1 hhx => ?_)
  obtain ⟨x, H1, I1, r1, q1⟩ := hhx
  exact thn (hr pos pins s1 σ H1 _ I1 q1) fun us s2 ⟨xs, H2, I2, r2, q2⟩ => ⟨x :: xs, H2, I2, .cons r1 r2, q2⟩
noncomputable def tTup (t : TA) : TE := fun σ H Q => t σ H fun xs H1 => xs.length ≤ sizeLine ∧ ∀ p, H1 p = none → Q (.ref p) (upd H1 p (.tup xs))
noncomputable def tLst (t : TA) : TE := fun σ H Q => t σ H fun xs H1 => xs.length ≤ sizeLine ∧ ∀ p, H1 p = none → Q (.ref p) (upd H1 p (.lst xs))
theorem pe_tup {x1} (h : PA X es t) : PE X (.Tuple es x1 pos) (tTup t) := by
  intro pins s σ H Q I hq
  refine wpAny_Tuple_spliced (thn (h pos pins s σ H _ I hq) fun us s1 ⟨xs, H1, I1, r, z, q⟩ => ⟨by rw [← r.length]; exact z, ?_⟩)
  have hf : H1 s1.heap.objs.size = none := I1.hok.fresh (Nat.le_refl _)
  refine ⟨.ref s1.heap.objs.size, upd H1 s1.heap.objs.size (.tup xs), I1.laid (t' := s1.toks) (fun b u e => Heap.get?_push_of_some _ e) (Nat.le_refl _) ?_, rfl, q _ hf⟩
  exact ⟨z, us, r, ⟨_, Heap.get?_push_size _ rfl, rfl, _, rfl⟩⟩
theorem pe_lst (h : PA X es t) : PE X (.List es pos) (tLst t) := by
  intro pins s σ H Q I hq
  refine wpAny_List_spliced (thn (h pos pins s σ H _ I hq) fun us s1 ⟨xs, H1, I1, r, z, q⟩ => ⟨by rw [← r.length]; exact z, ?_⟩)
  have hf : H1 s1.heap.objs.size = none := I1.hok.fresh (Nat.le_refl _)
  refine ⟨.ref s1.heap.objs.size, upd H1 s1.heap.objs.size (.lst xs), I1.laid (t' := s1.toks) (fun b u e => Heap.get?_push_of_some _ e) (Nat.le_refl _) ?_, rfl, q _ hf⟩
  exact ⟨z, us, 0, r, Heap.get?_push_size _ rfl⟩
end
noncomputable abbrev Sp := List V → Hp → VK → XK → Prop
noncomputable abbrev CXT := List Env → Hp → Shared → XK → Value → Shared → Prop
structure Env0 (P : Program) (w : World) (K : PySem.W.Frag) (mg : Str → Option Value) (base : Heap) (A : Around) (outer : List Env) (s : Shared) (H : Hp) : Prop where
  frames : A.frames = some outer
  mod : Mod K mg base
  bs : ∀ b o, base.get? b = some o → s.heap.get? b = some o ∧ H b = none
  bsz : base.objs.size ≤ s.heap.objs.size
  funs : s.heap.FunFrames base outer
  frf : ∀ b ∈ frs outer, H b = none
  hok : HOk P w H s.heap
  bare : AllBare s.gens
noncomputable def CE (outer : List Env) (P : Program) (w : World) (H : Hp) (s : Shared) (Q : VK) (u : Value) (s' : Shared) : Prop :=
  ∃ v H', s'.os = s.os ∧ AllBare s'.gens ∧ Un (frs outer) [] H H' s.heap s'.heap ∧ HOk P w H' s'.heap ∧ RelV v u ∧ Q v H'
noncomputable def CR (CX : CXT) (outer : List Env) (P : Program) (w : World) (H : Hp) (s : Shared) (Q : VK) (E : XK) (r : Result) (s' : Shared) : Prop :=
  match r with
  | .ok (.ret u) => CE outer P w H s Q u s'
  | .ok _ => False
  | .error e => CX outer H s E e s'
structure FnOk (P : Program) (w : World) (K : PySem.W.Frag) (mg : Str → Option Value) (base : Heap) (CX : CXT) (k : Nat) (f : Addr) (fd : FuncData) (ps : List Str) (sp : Sp) : Prop where
  len : ∀ vs H Q E, sp vs H Q E → vs.length = ps.length
  run : ∀ (A : Around) (outer : List Env) (s : Shared) (H : Hp) (args : Args) (us : List Value) (vs : List V) (Q : VK) (E : XK), Room k A → Env0 P w K mg base A outer s H → BindsTo s fd args (ps.zip us) → Vals vs us → sp vs H Q E →
    codeAny (model P w) A (.call (.ref f) args) (CR CX outer P w H s Q E) s
theorem FnOk.mono {P : Program} {w : World} {K : PySem.W.Frag} {mg : Str → Option Value} {base : Heap} {CX : CXT} {j k : Nat} {f : Addr} {fd : FuncData} {ps : List Str} {sp : Sp} (F : FnOk P w K mg base CX j f fd ps sp) (h : j ≤ k) :
    FnOk P w K mg base CX k f fd ps sp := ⟨F.len, fun A outer s H args us vs Q E hr => F.run A outer s H args us vs Q E (hr.mono h)⟩
theorem Env0.make {P : Program} {w : World} {K : PySem.W.Frag} {mg : Str → Option Value} {base : Heap} {A : Around} {outer : List Env} {s : Shared} {H : Hp} (e : Env0 P w K mg base A outer s H) (C : Addr) (us : List Value) (kw : List (Str × Value)) :
    Env0 P w K mg base (A.under (.builtin "type.__call__" ⟨.ref C :: us, kw⟩)) outer s H := ⟨by first | exact e.frames | (simpa [Around.under, Code.envs, Code.isFrame, pushEnvs] using e.frames), e.mod, e.bs, e.bsz, e.funs, e.frf, e.hok, e.bare⟩
section
variable {X : Cx} {pins : List (Addr × Obj)} {σ : St} {H : Hp} {s s' : Shared}
theorem Inv.env0 (I : Inv X pins σ H s) : Env0 X.prog X.w X.K X.mg X.base X.A X.stack s H :=
  ⟨I.ok.frames, I.ok.mod, I.bs, Nat.le_trans I.ok.bsz I.sz, I.stack, I.stkFree, I.hok, I.bare⟩
theorem Inv.after {Q : VK} {u : Value} (I : Inv X pins σ H s) (h : CE X.stack X.prog X.w H s Q u s') : EP X pins σ Q u s' := by
  obtain ⟨v, H', os, bare, un, hok, r, q⟩ := h
  obtain ⟨hh, g, d, t, os'⟩ := s'
  obtain rfl : os' = s.os := os
  exact ⟨v, H', I.call (h' := hh) (g' := g) (d' := d) (t' := t) (ch := []) un hok bare (fun b z => absurd z (by simp)), r, q⟩
end
noncomputable def tCall (sp : Sp) (dvs : List V) (E : XK) (t : TA) : TE := fun σ H Q => t σ H fun vs H1 => sp (vs ++ dvs) H1 Q E
noncomputable def tMeth (C : Addr) (m : Str) (sp : Sp) (dvs : List V) (E : XK) (ta : TE) (t : TA) : TE := fun σ H Q => ta σ H fun x H1 => ∃ a dx fs, x = .ref a ∧ H1 a = some (.ins C dx fs) ∧ fs.lookup m = none ∧
  t σ H1 fun vs H2 => sp (x :: (vs ++ dvs)) H2 Q E
noncomputable def tMake (C : Addr) (sp : Sp) (dvs : List V) (E : XK) (t : TA) : TE := fun σ H Q => t σ H fun vs H1 => ∀ x dx, H1 x = none → H1 dx = none → dx ≠ x →
  sp (.ref x :: (vs ++ dvs)) (upd (upd H1 dx (.own x)) x (.ins C dx [])) (fun v H2 => v = .non ∧ Q (.ref x) H2) E
noncomputable def Binds (K : PySem.W.Frag) (fd : FuncData) (ps : List Str) (ds : List Value) : Prop :=
  ∀ (s : Shared) (us : List Value), K.In s.heap → (us ++ ds).length = ps.length → BindsTo s fd ⟨us, []⟩ (ps.zip (us ++ ds))
theorem Binds.all {K : PySem.W.Frag} {fd : FuncData} {ps : List Str} (h : ∀ us : List Value, us.length = ps.length → bindArgs fd ⟨us, []⟩ = pure (ps.zip us)) : Binds K fd ps [] := fun s us _ hl => by
  rw [List.append_nil] at hl ⊢
  exact .of_eq (h us hl)
noncomputable def Passes (CX : CXT) (X : Cx) (E : XK) : Prop := ∀ (pins : List (Addr × Obj)) (σ : St) (H : Hp) (s : Shared) (e : Value) (s' : Shared), Inv X pins σ H s → CX X.stack H s E e s' → X.xe e s'
section
variable {X : Cx} {CX : CXT} {k : Nat} {f C : Addr} {fd : FuncData} {ps : List Str} {sp : Sp} {dvs : List V} {ds : List Value} {E : XK} {x m : Str} {p pos apos : Pos} {e o : Expr} {es : List Expr} {ta : TE} {t : TA}
theorem run_fn {pins : List (Addr × Obj)} {σ : St} {H : Hp} {s : Shared} {Q : VK} {us : List Value} {vs : List V} (F : FnOk X.prog X.w X.K X.mg X.base CX k f fd ps sp) (hr : Room k X.A) (hb : Binds X.K fd ps ds) (hd : Vals dvs ds) (hx : Passes CX X E)
    (I : Inv X pins σ H s) (r : Vals vs us) (h : sp (vs ++ dvs) H Q E) : wpAny (model X.prog X.w) X.A (call (.ref f) us) (EP X pins σ Q) X.xe s := by
  have r2 : Vals (vs ++ dvs) (us ++ ds) := r.append hd
  have hl : (us ++ ds).length = ps.length := by rw [← r2.length]; exact F.len _ _ _ _ h
  refine wpAny_call (codeAny_mono (F.run X.A X.stack s H ⟨us, []⟩ (us ++ ds) (vs ++ dvs) Q E hr I.env0 (hb s us I.kIn hl) r2 h) fun r s' hq => ?_)
  cases r with
  | error e => exact hx pins σ H s e s' I hq
  | ok fl =>
    cases fl with
    | ret u => exact I.after hq
    | next => exact False.elim hq
    | brk => exact False.elim hq
    | cont => exact False.elim hq
theorem pe_call (F : FnOk X.prog X.w X.K X.mg X.base CX k f fd ps sp) (hr : Room k X.A) (hg : Gl X x) (hm : X.mg x = some (.ref f)) (hk : PySem.W.keepIn X.K (.ref f) = true) (hb : Binds X.K fd ps ds) (hd : Vals dvs ds) (hx : Passes CX X E)
    (ha : PA X (e :: es) t) (hdb : (x == ("__debug__" : Str)) = false := by decide) (he : starEach (e :: es) X.env = (false, eval e X.env) :: starEach es X.env := by rfl) (hpl : (backTo pos (starEach es X.env)).any (·.1) = false := by rfl) :
    PE X (.Call (.Name x p) (e :: es) [] pos) (tCall sp dvs E t) := by
  intro pins s σ H Q I h
  refine wpAny_Call_Name_kw (ld_glob I hg hm ?_ hdb)
  refine PySem.W.callWith_K (h₀ := X.base) I.ok.mod.kin hk (thn (ha pos pins s σ H _ I h) fun us s1 ⟨vs, H1, I1, r, q⟩ => ⟨I1.kIn, ?_⟩) he hpl
  exact run_fn F hr hb hd hx I1 r q
theorem pe_meth {pl : Sem Bool} (he : PE X o ta) (c : Cls X.K C) (hm : Meth X.K C m f) (F : FnOk X.prog X.w X.K X.mg X.base CX k f fd ps sp) (hr : Room k X.A) (hb : Binds X.K fd ps ds) (hd : Vals dvs ds) (hx : Passes CX X E) (ha : PA X (e :: es) t)
    (hst : starEach (e :: es) X.env = (false, eval e X.env) :: starEach es X.env := by rfl) (hpl : (backTo pos (starEach es X.env)).any (·.1) = false := by rfl)
    (ht : eval (.Call (.Attribute o m apos) (e :: es) [] pos) X.env = (do
      let ov ← eval o X.env
      standAt apos.atName
      let (f, first) ← holding [ov] (getMethod ov m pl)
      callWith pos f first (backTo pos (starEach (e :: es) X.env)) (backToKw pos (keywordEach [] X.env))) := by rfl) :
    PE X (.Call (.Attribute o m apos) (e :: es) [] pos) (tMeth C m sp dvs E ta t) := by
  intro pins s σ H Q I h
  refine PySem.W.methodCall_KW (pl := pl) (thn (he pins s σ H _ I h) fun u s1 hhx => ?_) ht
  obtain ⟨x, H1, I1, rx, a, dx, fs, ex, ea, l, q⟩ := hhx
  subst ex
  obtain rfl : u = Value.ref a := rx
  refine getmeth_ok I1 ea c hm l ?_
  refine PySem.W.callWith_K (first := [.ref a]) (h₀ := X.base) I.ok.mod.kin hm.kp (thn (ha pos pins s1 σ H1 _ I1 q) fun us s2 ⟨vs, H2, I2, r, q2⟩ => ⟨I2.kIn, ?_⟩) hst hpl
  exact run_fn (us := .ref a :: us) (vs := .ref a :: vs) F hr hb hd hx I2 (.cons rfl r) q2
theorem pe_meth0 {pl : Sem Bool} (he : PE X o ta) (c : Cls X.K C) (hm : Meth X.K C m f) (F : FnOk X.prog X.w X.K X.mg X.base CX k f fd ps sp) (hr : Room k X.A) (hb : Binds X.K fd ps ds) (hd : Vals dvs ds) (hx : Passes CX X E)
    (ht : eval (.Call (.Attribute o m apos) [] [] pos) X.env = (do
      let ov ← eval o X.env
      standAt apos.atName
      let (f, first) ← holding [ov] (getMethod ov m pl)
      callWith pos f first (backTo pos (starEach [] X.env)) (backToKw pos (keywordEach [] X.env))) := by rfl) :
    PE X (.Call (.Attribute o m apos) [] [] pos) (tMeth C m sp dvs E ta tNil) := by
  intro pins s σ H Q I h
  refine PySem.W.methodCall_KW (pl := pl) (thn (he pins s σ H _ I h) fun u s1 hhx => ?_) ht
  obtain ⟨x, H1, I1, rx, a, dx, fs, ex, ea, l, q⟩ := hhx
  subst ex
  obtain rfl : u = Value.ref a := rx
  refine getmeth_ok I1 ea c hm l ?_
  exact PySem.W.callWith_K0 (first := [.ref a]) I1.kIn hm.kp (run_fn (us := [.ref a]) (vs := [.ref a]) F hr hb hd hx I1 (.cons rfl .nil) q)
structure Mk (K : PySem.W.Frag) (C f : Addr) : Prop where
  makes : PySem.W.makesIn K C = true
  init : PySem.W.findIn K (.ref C) "__init__" = some (some (.ref f))
  fn : PySem.W.isFn K (.ref f) = true
  kp : PySem.W.keepIn K (.ref C) = true
theorem run_make {pins : List (Addr × Obj)} {σ : St} {H : Hp} {s : Shared} {Q : VK} {us : List Value} {vs : List V} (M : Mk X.K C f) (F : FnOk X.prog X.w X.K X.mg X.base CX k f fd ps sp) (hr : Room (k + 1) X.A) (hb : Binds X.K fd ps ds) (hd : Vals dvs ds)
    (hx : Passes CX X E) (I : Inv X pins σ H s) (r : Vals vs us)
    (h : ∀ x dx, H x = none → H dx = none → dx ≠ x → sp (.ref x :: (vs ++ dvs)) (upd (upd H dx (.own x)) x (.ins C dx [])) (fun v H2 => v = .non ∧ Q (.ref x) H2) E) :
    wpAny (model X.prog X.w) X.A (call (.ref C) us) (EP X pins σ Q) X.xe s := by
  have hq := h (s.heap.objs.size + 1) s.heap.objs.size (I.hok.fresh (Nat.le_succ _)) (I.hok.fresh (Nat.le_refl _)) (Nat.ne_of_lt (Nat.lt_succ_self _))
  have I2 := Inv.made (C := C) I
  have r2 : Vals (V.ref (s.heap.objs.size + 1) :: (vs ++ dvs)) (Value.ref (s.heap.objs.size + 1) :: (us ++ ds)) := .cons rfl (r.append hd)
  have hl : (Value.ref (s.heap.objs.size + 1) :: us ++ ds).length = ps.length := by
    have e := r2.length
    rw [F.len _ _ _ _ hq] at e
    exact e.symm
  refine wpAny_call (make_map (f := f) I.kIn M.makes M.init (beq_iff_eq.mp M.fn) (codeAny_mono (F.run _ X.stack _ _ ⟨Value.ref (s.heap.objs.size + 1) :: us, []⟩ (Value.ref (s.heap.objs.size + 1) :: (us ++ ds)) _ _ E (hr.make C us [])
    (I2.env0.make C us []) (hb _ (Value.ref (s.heap.objs.size + 1) :: us) I2.kIn hl) r2 hq) fun r s' hq' => ?_))
  cases r with
  | error e => exact hx pins σ _ _ e s' I2 hq'
  | ok fl =>
    cases fl with
    | ret u =>
      obtain ⟨v, H', I3, rv, ev, q3⟩ := I2.after hq'
      subst ev
      exact ⟨rv, ⟨V.ref (s.heap.objs.size + 1), H', I3, rfl, q3⟩⟩
    | next => exact False.elim hq'
    | brk => exact False.elim hq'
    | cont => exact False.elim hq'
theorem pe_make (M : Mk X.K C f) (F : FnOk X.prog X.w X.K X.mg X.base CX k f fd ps sp) (hr : Room (k + 1) X.A) (hg : Gl X x) (hm : X.mg x = some (.ref C)) (hb : Binds X.K fd ps ds) (hd : Vals dvs ds) (hx : Passes CX X E)
    (ha : PA X (e :: es) t) (hdb : (x == ("__debug__" : Str)) = false := by decide) (he : starEach (e :: es) X.env = (false, eval e X.env) :: starEach es X.env := by rfl) (hpl : (backTo pos (starEach es X.env)).any (·.1) = false := by rfl) :
    PE X (.Call (.Name x p) (e :: es) [] pos) (tMake C sp dvs E t) := by
  intro pins s σ H Q I h
  refine wpAny_Call_Name_kw (ld_glob I hg hm ?_ hdb)
  refine PySem.W.callWith_K (h₀ := X.base) I.ok.mod.kin M.kp (thn (ha pos pins s σ H _ I h) fun us s1 ⟨vs, H1, I1, r, q⟩ => ⟨I1.kIn, ?_⟩) he hpl
  exact run_make M F hr hb hd hx I1 r q
theorem pe_make0 (M : Mk X.K C f) (F : FnOk X.prog X.w X.K X.mg X.base CX k f fd ps sp) (hr : Room (k + 1) X.A) (hg : Gl X x) (hm : X.mg x = some (.ref C)) (hb : Binds X.K fd ps ds) (hd : Vals dvs ds) (hx : Passes CX X E)
    (hdb : (x == ("__debug__" : Str)) = false := by decide) : PE X (.Call (.Name x p) [] [] pos) (tMake C sp dvs E tNil) := by
  intro pins s σ H Q I h
  refine wpAny_Call_Name_kw (ld_glob I hg hm ?_ hdb)
  exact PySem.W.callWith_K0 I.kIn M.kp (run_make (us := []) M F hr hb hd hx I .nil h)
end
section
variable {X : Cx} {CX : CXT} {k : Nat} {f C : Addr} {fd : FuncData} {ps ks : List Str} {sp : Sp} {E : XK} {x m : Str} {p pos apos kpos : Pos} {e o : Expr} {es : List Expr} {kws : List Keyword} {te ta : TE} {t tk : TA} {nm : Option Str}
variable {g : List Value → List Value → List Value} {gV : List V → List V → List V}
end
structure FnScope (N P : List Str) (sc : Scope) : Prop where
  kind : sc.kind = .function
  co : sc.isCoroutine = false
  gen : sc.isGenerator = false
  nd : N.Nodup
  pre : N.take P.length = P
  par : ∀ x ∈ P, sc.names.lookup x = some .local ∨ sc.names.lookup x = some .cell
  nofree : ∀ y ∈ sc.names, y.2 ≠ .free
theorem bindL_out {kindOf : Str → Option NameKind} {x : Str} : ∀ {binds : List (Str × Value)} {m : Str → Option Value}, (∀ v, (x, v) ∉ binds) → bindL kindOf binds m x = m x
  | [], _, _ => rfl
  | (n, v) :: r, m, h => by
    unfold bindL
    rw [bindL_out fun w hw => h w (List.mem_cons_of_mem _ hw)]
    split
    · have : x ≠ n := by rintro rfl; exact h v List.mem_cons_self
      simp [this]
    · rfl
theorem bindC_out {kindOf : Str → Option NameKind} {x : Str} : ∀ {binds : List (Str × Value)} {m : Str → Option Value}, (∀ v, (x, v) ∉ binds) → bindC kindOf binds m x = m x
  | [], _, _ => rfl
  | (n, v) :: r, m, h => by
    unfold bindC
    rw [bindC_out fun w hw => h w (List.mem_cons_of_mem _ hw)]
    split
    · rfl
    · have : x ≠ n := by rintro rfl; exact h v List.mem_cons_self
      simp [this]
theorem bindL_get {kindOf : Str → Option NameKind} {x : Str} {v : Value} : ∀ {P : List Str} {vs : List Value} {i : Nat} {m : Str → Option Value}, P.Nodup → P[i]? = some x → vs[i]? = some v → kindOf x = some .local →
    bindL kindOf (P.zip vs) m x = some v
  | [], _, _, _, _, h, _, _ => by simp at h
  | _ :: _, [], _, _, _, _, h, _ => by simp at h
  | p :: P, w :: vs, 0, m, nd, h1, h2, hk => by
    simp at h1 h2; subst h1; subst h2
    show bindL kindOf ((p, w) :: P.zip vs) m p = _
    unfold bindL
    rw [bindL_out fun v hv => (List.nodup_cons.mp nd).1 (List.of_mem_zip hv).1, if_pos hk]
    simp
  | p :: P, w :: vs, i + 1, m, nd, h1, h2, hk => by
    show bindL kindOf ((p, w) :: P.zip vs) m x = _
    unfold bindL
    exact bindL_get (i := i) (List.nodup_cons.mp nd).2 (by simpa using h1) (by simpa using h2) hk
theorem bindC_get {kindOf : Str → Option NameKind} {x : Str} {v : Value} : ∀ {P : List Str} {vs : List Value} {i : Nat} {m : Str → Option Value}, P.Nodup → P[i]? = some x → vs[i]? = some v → kindOf x ≠ some .local →
    bindC kindOf (P.zip vs) m x = some v
  | [], _, _, _, _, h, _, _ => by simp at h
  | _ :: _, [], _, _, _, _, h, _ => by simp at h
  | p :: P, w :: vs, 0, m, nd, h1, h2, hk => by
    simp at h1 h2; subst h1; subst h2
    show bindC kindOf ((p, w) :: P.zip vs) m p = _
    unfold bindC
    rw [bindC_out fun v hv => (List.nodup_cons.mp nd).1 (List.of_mem_zip hv).1, if_neg hk]
    simp
  | p :: P, w :: vs, i + 1, m, nd, h1, h2, hk => by
    show bindC kindOf ((p, w) :: P.zip vs) m x = _
    unfold bindC
    exact bindC_get (i := i) (List.nodup_cons.mp nd).2 (by simpa using h1) (by simpa using h2) hk
noncomputable def start (N : List Str) (vs : List V) : St := vs.map some ++ List.replicate (N.length - vs.length) none
noncomputable def cxOf (CX : CXT) (P : Program) (w : World) (K : PySem.W.Frag) (mg : Str → Option Value) (base : Heap) (N : List Str) (qual : Str) (scope : Scope) (f : Addr) (cd : Value) (A : Around) (outer : List Env) (s : Shared) (H : Hp) (E : XK) : Cx where
  prog := P
  w := w
  K := K
  mg := mg
  base := base
  A := A.deeper (envOfC qual scope s.heap.objs.size f cd)
  N := N
  s₀ := s
  H₀ := H
  env := envOfC qual scope s.heap.objs.size f cd
  outer := outer
  stack := envOfC qual scope s.heap.objs.size f cd :: outer
  ex := []
  calm := true
  fn := fun _ => true
  pn := []
  xe := fun e s' => wpAny (model P w) (A.deeper (envOfC qual scope s.heap.objs.size f cd)) (leaving (envOfC qual scope s.heap.objs.size f cd) e) (fun _ s'' => CX outer H s E e s'') (fun e' s'' => CX outer H s E e' s'') s'
theorem cell_has {sc : Scope} {n : Nat} {x : Str} (h : sc.names.lookup x = some .cell) : ∃ c, (cellsFrom n sc.names []).lookup x = some c := by
  have q := PySem.W.cellsFrom_some sc.names n [] (.inl h)
  exact Option.isSome_iff_exists.mp q
theorem inv_start {CX : CXT} {P : Program} {w : World} {K : PySem.W.Frag} {mg : Str → Option Value} {base : Heap} {N ps : List Str} {qual : Str} {scope : Scope} {f : Addr} {cd : Value} {A : Around} {outer : List Env} {s s1 : Shared} {H : Hp} {E : XK} {us : List Value} {vs : List V}
    (S : FnScope N ps scope) (hd : A.handled = none) (e0 : Env0 P w K mg base A outer s H) (hl : vs.length = ps.length) (r : Vals vs us)
    (x : InCallC s s.heap.objs.size (bindL (envOfC qual scope s.heap.objs.size f cd).kindOf (ps.zip us) fun _ => none) (cellsFrom (s.heap.objs.size + 1) scope.names []) (bindC (envOfC qual scope s.heap.objs.size f cd).kindOf (ps.zip us) fun _ => none) s1) :
    Inv (cxOf CX P w K mg base N qual scope f cd A outer s H E) [] (start N vs) H s1 := by
  have hpl : ps.length ≤ N.length := by have := congrArg List.length S.pre; rw [List.length_take] at this; omega
  obtain ⟨h1, tk, rfl, hk⟩ := x.done
  have noA : ∀ b : Addr, b ∉ (cxOf CX P w K mg base N qual scope f cd A outer s H E).ex := fun b z => absurd (show b ∈ ([] : List Addr) from z) (by simp)
  refine ⟨⟨e0.mod, S.kind, rfl, rfl, Nat.le_refl _, fun y z c h1 h2 => ?_, fun y hy => ?_, fun y c _ h => ?_, fun _ => hd, Around.frames_deeper e0.frames, .inr ⟨rfl, rfl⟩, fun b z => absurd z (noA b), e0.bs, e0.bsz, fun b _ _ => noA b, fun b z => absurd z (noA b), e0.funs, e0.frf⟩,
    rfl, e0.bare, Un.kept hk, ⟨_, x.toInCall.ns, fun i y v h1 h2 h3 => ?_⟩, fun y c h => ⟨_, x.cell y c h⟩, e0.hok.fresh (Nat.le_refl _), fun y c h => ?_, fun p hp => absurd (show p ∈ ([] : List (Addr × Obj)) from hp) (by simp), e0.hok.kept hk, ?_⟩
  · exact name_of_addr x.apart (PySem.mem_of_lookup h1) (PySem.mem_of_lookup h2)
  · have hy : scope.names.lookup y = some .cell ∨ scope.names.lookup y = some .free := hy
    rcases hy with hy | hy
    · exact cell_has hy
    · exact absurd rfl (S.nofree _ (PySem.mem_of_lookup hy))
  · exact Nat.le_of_lt (x.above y c (PySem.mem_of_lookup h))
  · have hi : i < vs.length := by
      unfold start at h2
      by_cases hi : i < vs.length
      · exact hi
      · rw [List.getElem?_append_right (by simpa using hi)] at h2
        rw [List.getElem?_replicate] at h2
        split at h2 <;> cases h2
    have ha : vs[i]? = some v := by
      unfold start at h2
      rw [List.getElem?_append_left (by simpa using hi), List.getElem?_map] at h2
      cases e : vs[i]? with
      | none => rw [e] at h2; cases h2
      | some a => rw [e] at h2; cases h2; rfl
    obtain ⟨u, hu, rv⟩ := r.get ha
    have hp : ps[i]? = some y := by
      rw [← S.pre, List.getElem?_take_of_lt (by omega)]; exact h1
    have ndP : ps.Nodup := by rw [← S.pre]; exact S.nd.sublist (List.take_sublist _ _)
    refine ⟨u, rv, ?_⟩
    rcases S.par y (List.mem_of_getElem? hp) with k | k
    · exact .inl ⟨k, bindL_get ndP hp hu k⟩
    · obtain ⟨c, e⟩ := cell_has (n := s.heap.objs.size + 1) k
      refine .inr ⟨.inl k, c, e, ?_⟩
      have q := x.cell y c e
      rw [bindC_get ndP hp hu (by show scope.names.lookup y ≠ _; rw [k]; decide)] at q
      exact q
  · exact e0.hok.fresh (Nat.le_of_lt (x.above y c (PySem.mem_of_lookup h)))
  · unfold start
    show _ = N.length
    rw [List.length_append, List.length_map, List.length_replicate]
    omega
theorem fn_of {CX : CXT} {P : Program} {w : World} {K : PySem.W.Frag} {mg : Str → Option Value} {base : Heap} {k : Nat} {f : Addr} {name qual : Str} {params : Arguments} {body : List Stmt} {scope : Scope} {dV kV doc pm cdv ct oc : Value} {an od : Option Addr}
    {osl : Array (Option Value)} {N ps : List Str} {sp : Sp} (lk : K.lookup f = some ⟨oc, od, .func (PySem.W.fnOf name qual params body scope dV kV doc pm an cdv ct), osl⟩) (hcd : PySem.W.codeIn K cdv qual = true) (S : FnScope N ps scope)
    (len : ∀ vs H Q E, sp vs H Q E → vs.length = ps.length)
    (hbody : ∀ (A : Around) (outer : List Env) (s : Shared) (H : Hp) (vs : List V) (Q : VK) (E : XK), Room k (A.deeper (envOfC qual scope s.heap.objs.size f cdv)) → sp vs H Q E →
      ∃ t, PSs (cxOf CX P w K mg base N qual scope f cdv A outer s H E) body t ∧ t { nx := fun _ H' => Q .non H', rt := Q } (start N vs) H) :
    FnOk P w K mg base CX (k + 1) f (PySem.W.fnOf name qual params body scope dV kV doc pm an cdv ct) ps sp := by
  refine ⟨len, fun A outer s H args us vs Q E hr e0 hb r hsp => ?_⟩
  have hl := len _ _ _ _ hsp
  have KX : K.In s.heap := e0.mod.kin.keeps fun b o e => (e0.bs b o e).1
  have lim : s.heap.NoLimit := e0.mod.nolimit.keeps fun b o e => (e0.bs b o e).1
  have hkind : ∀ y ∈ ps.zip us, scope.names.lookup y.1 = some .local ∨ (scope.names.lookup y.1 = some .cell ∧ ((cellsFrom (s.heap.objs.size + 1) scope.names []).lookup y.1).isSome = true) := fun ⟨n, v⟩ hy => by
    rcases S.par n (List.of_mem_zip hy).1 with q | q
    · exact .inl q
    · exact .inr ⟨q, PySem.W.cellsFrom_some _ _ _ (.inl q)⟩
  refine codeAny_call_function hr.depth (KX _ _ lk) rfl S.co S.gen rfl (PySem.W.codeRec_of KX hcd) (hb _ _ _ _ ?_)
  refine wpAny_newFunctionEnv_cells S.kind hkind fun env he s1 x => ?_
  subst he
  refine ⟨lim.keeps x.toInCall.keep, codeAny_func ?_⟩
  obtain ⟨t, ht, hq⟩ := hbody A outer s H vs Q E (hr.deeper _) hsp
  have I : Inv (cxOf CX P w K mg base N qual scope f cdv A outer s H E) [] (start N vs) H s1 := inv_start S hr.hd e0 hl r x
  refine wpAny_mono (ht [] s1 (start N vs) H _ I hq) (fun fl s' hs => ?_) fun e s' hs => hs
  have fin : ∀ {σ' : St} {H' : Hp} {v : V} {u : Value}, Inv (cxOf CX P w K mg base N qual scope f cdv A outer s H E) [] σ' H' s' → RelV v u → Q v H' → CE outer P w H s Q u s' :=
    fun {σ' H' v u} J rv q => ⟨v, H', J.os, J.bare, J.base, J.hok, rv, q⟩
  cases fl with
  | ret u =>
    obtain ⟨v, σ', H', J, rv, q⟩ := hs
    exact fin J rv q
  | next =>
    obtain ⟨σ', H', J, q⟩ := hs
    exact fin (v := V.non) (u := Value.none) J rfl q
  | brk =>
    obtain ⟨_, _, _, q⟩ := hs
    exact False.elim q
  | cont =>
    obtain ⟨_, _, _, q⟩ := hs
    exact False.elim q
end L2
namespace L2
open PySem PySem.Spec PyProof.Rows
section
variable {X : Cx} {x : Str} {p pos : Pos} {e : Expr} {es : List Expr} {t : TA} {id T : String} {r : List V → Hp → VK → Prop}
noncomputable def tCB (r : List V → Hp → VK → Prop) (t : TA) : TE := fun σ H Q => t σ H fun vs H1 => r vs H1 Q
theorem pe_callB (hc : CallR X (.builtin id) r) (hg : Gl X x) (hm : X.mg x = none) (hv : bootBuiltins x = some (.builtin id)) (ha : PA X (e :: es) t) (hn : x ≠ "__name__" := by decide) (hdb : (x == ("__debug__" : Str)) = false := by decide)
    (he : starEach (e :: es) X.env = (false, eval e X.env) :: starEach es X.env := by rfl) (hpl : (backTo pos (starEach es X.env)).any (·.1) = false := by rfl) : PE X (.Call (.Name x p) (e :: es) [] pos) (tCB r t) := by
  intro pins s σ H Q I h
  refine wpAny_Call_Name_kw (ld_blt I hg hm hv ?_ hn hdb)
  exact PyProof.Rows.callWith_builtin1 (thn (ha pos pins s σ H _ I h) fun us s1 ⟨vs, H1, I1, r1, q1⟩ => hc pins s1 σ H1 vs us Q I1 r1 q1) he hpl
theorem pe_callTy (hc : CallR X (.type T) r) (hg : Gl X x) (hm : X.mg x = none) (hv : bootBuiltins x = some (.type T)) (ha : PA X (e :: es) t) (hn : x ≠ "__name__" := by decide) (hdb : (x == ("__debug__" : Str)) = false := by decide)
    (he : starEach (e :: es) X.env = (false, eval e X.env) :: starEach es X.env := by rfl) (hpl : (backTo pos (starEach es X.env)).any (·.1) = false := by rfl) : PE X (.Call (.Name x p) (e :: es) [] pos) (tCB r t) := by
  intro pins s σ H Q I h
  refine wpAny_Call_Name_kw (ld_blt I hg hm hv ?_ hn hdb)
  exact PyProof.Rows.callWith_type1 (thn (ha pos pins s σ H _ I h) fun us s1 ⟨vs, H1, I1, r1, q1⟩ => hc pins s1 σ H1 vs us Q I1 r1 q1) he hpl
end
end L2
namespace HT
open PySem PyProof.Rows
section
open PySem.SeqAt
open PySem.AutoSeq1 (wpAny_loadPart')
open PySem.MeetsSeq PySem.MeetsSeq2 PySem.MeetsSeq3
end
section
variable {prog : Program} {w : World} {A : Around} {E : Value → Shared → Prop} {s : Shared}
noncomputable def sIx (n d : Nat) : Option Int → Nat
  | none => d
  | some v => if v < 0 then (v + (n : Int)).toNat else min v.toNat n
theorem sIx_none (n d : Nat) : sIx n d none = d := rfl
theorem sIx_nat (n d k : Nat) : sIx n d (some (k : Int)) = min k n := by
  show (if (k : Int) < 0 then ((k : Int) + (n : Int)).toNat else min (k : Int).toNat n) = min k n
  rw [if_neg (by omega), Int.toNat_natCast]
theorem sIx_le (n d : Nat) (hd : d ≤ n) (o : Option Int) : sIx n d o ≤ n := by
  cases o with
  | none => exact hd
  | some v =>
    show (if v < 0 then (v + (n : Int)).toNat else min v.toNat n) ≤ n
    by_cases hv : v < 0
    · rw [if_pos hv]; omega
    · rw [if_neg hv]; exact Nat.min_le_right _ _
theorem clip_eq (v : Int) (n d : Nat) : (if v < 0 then max (v + (n : Int)) 0 else min v (n : Int)) = ((sIx n d (some v) : Nat) : Int) := by
  show (if v < 0 then max (v + (n : Int)) 0 else min v (n : Int)) = (((if v < 0 then (v + (n : Int)).toNat else min v.toNat n) : Nat) : Int)
  by_cases hv : v < 0
  · simp only [if_pos hv]; omega
  · simp only [if_neg hv]; omega
theorem adjust_gen (lo hi : Option Int) (n : Nat) : Builtin.Slice.sliceAdjust lo hi 1 (n : Int) = (((sIx n 0 lo : Nat) : Int), ((sIx n n hi : Nat) : Int)) := by
  have h1 : ¬ ((1 : Int) < 0) := by omega
  unfold Builtin.Slice.sliceAdjust
  simp only [h1, if_false]
  refine Prod.ext ?_ ?_
  · cases lo with
    | none => rfl
    | some v => exact clip_eq v n 0
  · cases hi with
    | none => rfl
    | some v => exact clip_eq v n n
theorem places_gen (i j : Nat) : Builtin.Slice.slicePlaces (i : Int) (j : Int) 1 = j - i := by
  unfold Builtin.Slice.slicePlaces
  have h1 : (1 : Int) > 0 := by omega
  simp only [h1, if_true, Int.ediv_one]
  split <;> omega
theorem slicePart_ {v : Value} {o : Option Int} {Q : Option Int → Shared → Prop} (p : IsPart v o) (h : Q o s) : wpAny (model prog w) A (Builtin.Slice.slicePartIndex v) Q E s := by
  cases p with
  | none => exact slicePart_none h
  | int i t => exact slicePart_int h
theorem sliceApplied_gen {sl : Addr} {vl vu : Value} {lo hi : Option Int} {n : Nat} {Q : Int × Int × Nat → Shared → Prop} (hs : s.heap.IsSliceOf sl vl vu .none) (pl : IsPart vl lo) (pu : IsPart vu hi)
    (h : Q (((sIx n 0 lo : Nat) : Int), 1, sIx n n hi - sIx n 0 lo) s) : wpAny (model prog w) A (Builtin.Slice.sliceApplied (.ref sl) (pure (n : Int))) Q E s := by
  obtain ⟨os, hos, hcs, hds⟩ := id hs
  unfold Builtin.Slice.sliceApplied Builtin.Slice.sliceFields
  refine wpAny_bind (wpAny_bind (wpAny_field hos hds (x := vl) rfl (wpAny_bind (wpAny_field hos hds (x := vu) rfl (wpAny_bind (wpAny_field hos hds (x := .none) rfl (wpAny_pure ?_)))))))
  refine wpAny_bind (slicePart_none ?_)
  show wpAny _ _ (if ((1 : Int) == 0) = true then _ else _) _ _ s
  rw [if_neg (by decide)]
  refine wpAny_bind (slicePart_ pl (wpAny_bind (slicePart_ pu (wpAny_bind (wpAny_pure ?_)))))
  show wpAny _ _ (match Builtin.Slice.sliceAdjust lo hi 1 (n : Int) with | (lo, hi) => pure (lo, (1 : Int), Builtin.Slice.slicePlaces lo hi 1)) _ _ s
  rw [adjust_gen lo hi n]
  show wpAny _ _ (pure (((sIx n 0 lo : Nat) : Int), (1 : Int), Builtin.Slice.slicePlaces ((sIx n 0 lo : Nat) : Int) ((sIx n n hi : Nat) : Int) 1)) _ _ s
  rw [places_gen]
  exact wpAny_pure h
theorem pick_gen (xs : Array Value) (i k : Nat) : ((List.range k).filterMap fun (m : Nat) => xs[((i : Int) + (m : Int) * 1).toNat]?).toArray = ((xs.toList.drop i).take k).toArray := by
  have e : (fun (m : Nat) => xs[((i : Int) + (m : Int) * 1).toNat]?) = fun m => xs[i + m]? := by
    funext m
    have : ((i : Int) + (m : Int) * 1).toNat = i + m := by omega
    rw [this]
  rw [e]
  have := pick_run xs i k
  rw [List.filterMap_map] at this
  have e2 : ((fun x => xs[x]?) ∘ fun x => i + x) = fun m => xs[i + m]? := rfl
  rw [e2] at this
  rw [this]
theorem getItem_tuple_cut {t sl : Addr} {items : Array Value} {vl vu : Value} {lo hi : Option Int} {Q : Value → Shared → Prop} (ht : IsTup s.heap t items) (hs : s.heap.IsSliceOf sl vl vu .none) (pl : IsPart vl lo) (pu : IsPart vu hi)
    (hw : ¬ (sIx items.size 0 lo = 0 ∧ sIx items.size items.size hi = items.size))
    (h : Q (.ref s.heap.objs.size) { s with heap := s.heap.push { cls := .type "tuple", data := .seq ((items.toList.drop (sIx items.size 0 lo)).take (sIx items.size items.size hi - sIx items.size 0 lo)).toArray } })
    (hsz : items.size ≤ sizeLine) : wpAny (model prog w) A (getItem (.ref t) (.ref sl)) Q E s := by
  have htake : sizeOk (.seq ((items.toList.drop (sIx items.size 0 lo)).take (sIx items.size items.size hi - sIx items.size 0 lo)).toArray) := by
    show ((items.toList.drop (sIx items.size 0 lo)).take (sIx items.size items.size hi - sIx items.size 0 lo)).toArray.size ≤ sizeLine
    rw [List.size_toArray, List.length_take, List.length_drop, Array.length_toList]
    omega
  have hj : sIx items.size items.size hi ≤ items.size := sIx_le _ _ (Nat.le_refl _) hi
  obtain ⟨os, hos, hcs, hds⟩ := id hs
  have hTs : s.TypeIs (.ref sl) "slice" := ⟨os, hos, hcs⟩
  unfold getItem
  try with_reducible refine wpAny_holding ?_
  first | refine wpAny_bind (wpAny_pure ?_) | skip
  refine wpAny_bind (wpAny_sequenceKey ht.typeIs (by decide) ?_)
  refine wpAny_bind (wpAny_callSpecial?_slot (name := Str.ofString "__getitem__") ht.typeIs PyProof.Rows.slot_tuple_getitem
    (wpAny_call_entry PyProof.Rows.slot_tuple_getitem ht.typeIs entry_tuple_getitem ?_ (args_tuple_getitem _ _)))
  show wpAny _ _ (Builtin.Tuple.tupleItemsOf (.ref t) >>= _) _ _ s
  refine wpAny_bind (tupleItemsOf_ ht ?_)
  refine wpAny_bind (wpAny_typeOf hTs ?_)
  rw [if_pos (by decide)]
  refine wpAny_bind (sliceApplied_gen hs pl pu ?_)
  have hno : ¬ ((((sIx items.size 0 lo : Nat) : Int) == 0 && (1 : Int) == 1 && (sIx items.size items.size hi - sIx items.size 0 lo) == items.size) = true) := by
    intro q
    rw [Bool.and_eq_true, Bool.and_eq_true] at q
    have q1 : ((sIx items.size 0 lo : Nat) : Int) = 0 := eq_of_beq q.1.1
    have q2 : sIx items.size items.size hi - sIx items.size 0 lo = items.size := eq_of_beq q.2
    exact hw ⟨by omega, by omega⟩
  show wpAny _ _ (if (((sIx items.size 0 lo : Nat) : Int) == 0 && (1 : Int) == 1 && (sIx items.size items.size hi - sIx items.size 0 lo) == items.size) = true then _ else _) _ _ s
  rw [if_neg hno, pick_gen]
  first
    | exact wpAny_bind (m := Builtin.Tuple.tupleExact _) (wpAny_newObj_type (wpAny_pure ⟨_, rfl, wpAny_pure h⟩) htake)
    | exact wpAny_bind (m := Builtin.Tuple.tupleExact _) (wpAny_newObj_type (wpAny_bind (wpAny_pure (wpAny_pure ⟨_, rfl, wpAny_pure h⟩))) htake)
    | exact wpAny_bind (wpAny_bind (m := Builtin.Tuple.tupleExact _) (wpAny_newObj_type (wpAny_pure (wpAny_pure ⟨_, rfl, wpAny_pure h⟩)) htake))
    | exact wpAny_bind (wpAny_bind (m := Builtin.Tuple.tupleExact _) (wpAny_newObj_type (wpAny_pure ⟨_, rfl, wpAny_pure h⟩) htake))
end
end HT
namespace L2
open PySem PySem.Spec PyProof.Rows
noncomputable abbrev TO := St → Hp → (Option Int → Hp → Prop) → Prop
noncomputable def PO (X : Cx) (e : Option Expr) (t : TO) : Prop :=
  ∀ (pins : List (Addr × Obj)) (s : Shared) (σ : St) (H : Hp) (Q : Option Int → Hp → Prop), Inv X pins σ H s → t σ H Q →
    wpAny (model X.prog X.w) X.A (evalPart e X.env) (fun u s' => ∃ o H', Inv X pins σ H' s' ∧ IsPart u o ∧ Q o H') X.xe s
noncomputable def tNoPart : TO := fun _ H Q => Q none H
noncomputable def tPart (t : TE) : TO := fun σ H Q => t σ H fun x H1 => ∃ i, x = .int i ∧ Q (some i) H1
section
variable {X : Cx} {e : Expr} {te : TE} {lo hi : Option Expr} {tl th : TO} {pos p2 : Pos}
theorem po_none : PO X none tNoPart := by
  intro pins s σ H Q I h
  rw [evalPart_none]
  exact wpAny_pure ⟨none, H, I, .none, h⟩
theorem po_some (h : PE X e te) : PO X (some e) (tPart te) := by
  intro pins s σ H Q I hw
  rw [evalPart_some]
  refine thn (h pins s σ H _ I hw) fun u s1 hhx => ?_
  obtain ⟨x, H1, I1, r1, q1⟩ := hhx
  obtain ⟨i, rfl, q⟩ := q1
  obtain ⟨t, rfl⟩ := r1
  exact ⟨some i, H1, I1, .int i t, q⟩
noncomputable def SlR (X : Cx) (r : V → Option Int → Option Int → Hp → VK → Prop) : Prop :=
  ∀ (pins : List (Addr × Obj)) (s : Shared) (σ : St) (H : Hp) (x : V) (v vl vu : Value) (lo hi : Option Int) (sl : Addr) (Q : VK), Inv X pins σ H s → RelV x v → s.heap.IsSliceOf sl vl vu .none → IsPart vl lo → IsPart vu hi → r x lo hi H Q →
    ∃ T id, typeLookup (.type T) "__getitem__" = pure (some (.builtin id)) ∧ s.TypeIs v T ∧ wpAny (model X.prog X.w) X.A (getItem v (.ref sl)) (EP X pins σ Q) X.xe s
noncomputable def tSl (r : V → Option Int → Option Int → Hp → VK → Prop) (te : TE) (tl th : TO) : TE := fun σ H Q => te σ H fun x H1 => tl σ H1 fun l H2 => th σ H2 fun u H3 => r x l u H3 Q
theorem pe_slice {r : V → Option Int → Option Int → Hp → VK → Prop} (hr : SlR X r) (he : PE X e te) (hl : PO X lo tl) (hu : PO X hi th) : PE X (.Subscript e (.Slice lo hi none p2) pos) (tSl r te tl th) := by
  intro pins s σ H Q I h
  refine Subscript_ (thn (he pins s σ H _ I h) fun v s1 hhx => ?_)
  obtain ⟨x, H1, I1, r1, q1⟩ := hhx
  refine wpAny_Slice (thn (hl pins s1 σ H1 _ I1 q1) fun vl s2 ⟨l, H2, I2, pl, q2⟩ => thn (hu pins s2 σ H2 _ I2 q2) fun vu s3 hhx => ?_)
  obtain ⟨u, H3, I3, pu, q3⟩ := hhx
  rw [evalPart_none]
  refine wpAny_pure ?_
  have I4 : Inv X pins σ H3 { s3 with heap := s3.heap.push { cls := .type "slice", data := .fields #[vl, vu, .none] } } := I3.kept (t' := s3.toks) fun b ob q => Heap.get?_push_of_some _ q
  obtain ⟨T, id, hT, ht, hg⟩ := hr pins { s3 with heap := s3.heap.push { cls := .type "slice", data := .fields #[vl, vu, .none] } } σ H3 x v vl vu l u s3.heap.objs.size Q I4 r1 (Heap.IsSliceOf.new ..) pl pu q3
  show wpAny (model X.prog X.w) X.A (subscriptTail e (.Slice lo hi none p2) v (.ref s3.heap.objs.size)) (EP X pins σ Q) X.xe { s3 with heap := s3.heap.push { cls := .type "slice", data := .fields #[vl, vu, .none] } }
  exact tail_any (ops := [.ref s3.heap.objs.size, v]) ht hT hg (by with_unfolding_all rfl)
noncomputable def cutV (xs : List V) (lo hi : Option Int) : List V := (xs.drop (HT.sIx xs.length 0 lo)).take (HT.sIx xs.length xs.length hi - HT.sIx xs.length 0 lo)
theorem cutV_length (xs : List V) (lo hi : Option Int) : (cutV xs lo hi).length ≤ xs.length := by
  unfold cutV
  rw [List.length_take, List.length_drop]
  omega
noncomputable def rSlT (K : PySem.W.Frag) : V → Option Int → Option Int → Hp → VK → Prop := fun x lo hi H Q => ∃ a xs, x = .ref a ∧ SqT K H a xs ∧
  ¬ (HT.sIx xs.length 0 lo = 0 ∧ HT.sIx xs.length xs.length hi = xs.length) ∧ ∀ p, H p = none → Q (.ref p) (upd H p (.tup (cutV xs lo hi)))
theorem sl_tup : SlR X (rSlT X.K) := by
  intro pins s σ H x v vl vu lo hi sl Q I rx hs pl pu h
  obtain ⟨a, xs, rfl, hx, hw, q⟩ := h
  cases rx
  obtain ⟨its, r, ht, hz⟩ := I.tuple hx
  have hlen : its.toArray.size = xs.length := by rw [List.size_toArray]; exact r.length.symm
  refine ⟨"tuple", _, PyProof.Rows.slot_tuple_getitem.lookup, ht.typeIs, ?_⟩
  refine HT.getItem_tuple_cut ht hs pl pu (by rw [hlen]; exact hw) ?_ (by rw [hlen]; exact hz)
  rw [hlen]
  refine ⟨.ref s.heap.objs.size, _, I.laid (t' := s.toks) (o := .tup (cutV xs lo hi)) (fun b ob q => Heap.get?_push_of_some _ q) (Nat.le_refl _) ?_, rfl, q _ (I.hok.fresh (Nat.le_refl _))⟩
  exact ⟨Nat.le_trans (cutV_length xs lo hi) hz, _, (r.drop (HT.sIx xs.length 0 lo)).take (HT.sIx xs.length xs.length hi - HT.sIx xs.length 0 lo), IsTup.new _ _⟩
end
end L2
namespace L2
open PySem PySem.Spec PyProof.Rows
noncomputable def ixN (n : Nat) (i : Int) : Option Nat := if 0 ≤ i then (if i < n then some i.toNat else none) else if -(n : Int) ≤ i then some (i + n).toNat else none
noncomputable def atI {α : Type} (xs : List α) (i : Int) : Option α := (ixN xs.length i).bind fun j => xs[j]?
theorem ixN_seq {n : Nat} {i : Int} {j : Nat} (h : ixN n i = some j) : seqIndex? i n = some j ∧ j < n ∧ -(n : Int) ≤ i ∧ i < n := by
  unfold ixN at h
  by_cases h0 : 0 ≤ i
  · rw [if_pos h0] at h
    by_cases h1 : i < n
    · rw [if_pos h1] at h
      have e : i.toNat = j := Option.some.inj h
      exact ⟨by rw [seqIndex_of h0 h1, e], by omega, by omega, h1⟩
    · rw [if_neg h1] at h; cases h
  · rw [if_neg h0] at h
    by_cases h1 : -(n : Int) ≤ i
    · rw [if_pos h1] at h
      have e : (i + n).toNat = j := Option.some.inj h
      exact ⟨by rw [seqIndex_neg (by omega) h1, e], by omega, h1, by omega⟩
    · rw [if_neg h1] at h; cases h
theorem atI_get {α : Type} {xs : List α} {i : Int} {v : α} (h : atI xs i = some v) : ∃ j, seqIndex? i xs.length = some j ∧ xs[j]? = some v ∧ j < xs.length ∧ -(xs.length : Int) ≤ i ∧ i < xs.length := by
  unfold atI at h
  cases e : ixN xs.length i with
  | none => rw [e] at h; cases h
  | some j =>
    rw [e] at h
    obtain ⟨h1, h2, h3, h4⟩ := ixN_seq e
    exact ⟨j, h1, h, h2, h3, h4⟩
theorem atI_nat {α : Type} {xs : List α} {j : Nat} {v : α} (h : xs[j]? = some v) : atI xs (j : Int) = some v := by
  have hj : j < xs.length := (List.getElem?_eq_some_iff.mp h).1
  have e : ixN xs.length (j : Int) = some j := by
    unfold ixN
    rw [if_pos (by omega), if_pos (by omega)]; simp
  unfold atI; rw [e]; exact h
noncomputable def PlainIx (b : Expr) : Prop := ∀ o i, subscripted b false o i = operate [o, i] (getItem o i)
noncomputable def IxR (X : Cx) (r : R2) : Prop :=
  ∀ (value slice : Expr) (pins : List (Addr × Obj)) (s : Shared) (σ : St) (H : Hp) (x y : V) (v u : Value) (Q : VK), Inv X pins σ H s → RelV x v → RelV y u → r x y H Q →
    subscripted slice false v u = operate [v, u] (getItem v u) → wpAny (model X.prog X.w) X.A (subscriptTail value slice v u) (EP X pins σ Q) X.xe s
noncomputable def MtR (X : Cx) (id : String) (r : V → List V → Hp → VK → Prop) : Prop :=
  ∀ (pins : List (Addr × Obj)) (s : Shared) (σ : St) (H : Hp) (x : V) (xs : List V) (v : Value) (us : List Value) (Q : VK), Inv X pins σ H s → RelV x v → Vals xs us → r x xs H Q →
    wpAny (model X.prog X.w) X.A (call (.builtin id) (v :: us)) (EP X pins σ Q) X.xe s
section
variable {X : Cx} {a b : Expr} {ta tb : TE} {pos : Pos}
theorem pe_ix {r : R2} (hr : IxR X r) (ha : PE X a ta) (hb : PE X b tb) (hs : PlainIx b) : PE X (.Subscript a b pos) (tOp r ta tb) := by
  intro pins s σ H Q I h
  exact Subscript_ (binT ha hb I h fun v u s2 x y H2 I2 rx ry q => hr a b pins s2 σ H2 x y v u Q I2 rx ry q (hs _ _))
noncomputable def rIxL (K : PySem.W.Frag) : R2 := fun x y H Q => ∃ p xs i v, x = .ref p ∧ y = .int i ∧ SqL K H p xs ∧ atI xs i = some v ∧ Q v H
noncomputable def rIxT (K : PySem.W.Frag) : R2 := fun x y H Q => ∃ p xs i v, x = .ref p ∧ y = .int i ∧ SqT K H p xs ∧ atI xs i = some v ∧ Q v H
noncomputable def rIxS : R2 := fun x y H Q => ∃ z i c, x = .str z ∧ y = .int i ∧ z.length ≤ sizeLine ∧ atI z.cps.toList i = some c ∧ Q (.str ⟨#[c]⟩) H
theorem ix_list : IxR X (rIxL X.K) := by
  intro value slice pins s σ H x y v u Q I rx ry h hs
  obtain ⟨p, xs, i, z, rfl, rfl, hq, he, q⟩ := h
  cases rx
  obtain ⟨t, rfl⟩ := ry
  obtain ⟨its, r, pl, hz⟩ := I.list hq
  obtain ⟨j, h1, h2, h3, h4, h5⟩ := atI_get he
  obtain ⟨w, ew, rw'⟩ := r.get h2
  have hl := r.length
  have hn := line63
  have fin : EP X pins σ Q w s := ⟨z, H, I, rw', q⟩
  by_cases h0 : 0 ≤ i
  · have hj : i.toNat = j := by
      rw [seqIndex_of h0 h5] at h1
      exact Option.some.inj h1
    exact item_listR pl.isList h0 (by omega) (by rw [hj]; simpa using ew) fin hs
  · have hj : (i + (its.toArray.size : Int)).toNat = j := by
      rw [seqIndex_neg (by omega) h4] at h1
      rw [List.size_toArray, ← hl]
      exact Option.some.inj h1
    exact subscriptTail_builtinR (x := w) pl.isList.typeIs slot_list_getitem.lookup
      (wpAny_getItem_list_neg (Q := fun r s' => r = w ∧ EP X pins σ Q r s') pl.isList (by omega) (by rw [List.size_toArray] <;> omega) (by omega) (by rw [hj]; simpa using ew) ⟨rfl, fin⟩) hs
theorem ix_tup : IxR X (rIxT X.K) := by
  intro value slice pins s σ H x y v u Q I rx ry h hs
  obtain ⟨p, xs, i, z, rfl, rfl, hq, he, q⟩ := h
  cases rx
  obtain ⟨t, rfl⟩ := ry
  obtain ⟨its, r, pl, hz⟩ := I.tuple hq
  obtain ⟨j, h1, h2, h3, h4, h5⟩ := atI_get he
  obtain ⟨w, ew, rw'⟩ := r.get h2
  have hl := r.length
  have hn := line63
  have fin : EP X pins σ Q w s := ⟨z, H, I, rw', q⟩
  exact subscriptTail_builtinR (x := w) pl.typeIs slot_tuple_getitem.lookup
    (getItem_tuple (j := j) (Q := fun r s' => r = w ∧ EP X pins σ Q r s') pl (by omega) (by omega) (by rw [List.size_toArray, ← hl]; exact h1) (by simpa using ew) ⟨rfl, fin⟩) hs
theorem ix_str : IxR X rIxS := by
  intro value slice pins s σ H x y v u Q I rx ry h hs
  obtain ⟨z, i, c, rfl, rfl, hz, he, q⟩ := h
  obtain ⟨t, rfl⟩ := rx
  obtain ⟨t', rfl⟩ := ry
  obtain ⟨j, h1, h2, h3, h4, h5⟩ := atI_get he
  have hl : z.cps.toList.length = z.length := by simp [Str.length]
  rw [hl] at h1 h4 h5
  have hn := line63
  exact tail_any (typeIs_str s z t) slot_str_getitem.lookup (getItem_str (c := c) (by
    have e1 : decide (i < -(2 ^ 63 : Int)) = false := decide_eq_false (by omega)
    have e2 : decide (i ≥ 2 ^ 63) = false := decide_eq_false (by omega)
    rw [e1, e2, Bool.or_false]) (by rw [h1]; simpa using h2) ⟨.str ⟨#[c]⟩, H, I.tok _, ⟨_, rfl⟩, q⟩) hs
theorem mapSeq_set (its : List Value) (n j : Nat) (u : Value) : Obj.mapSeq (·.setIfInBounds j u) { cls := .type "list", data := .seq its.toArray n } = { cls := .type "list", data := .seq (its.set j u).toArray n } := by
  simp [Obj.mapSeq]
theorem Inv.lst {pins : List (Addr × Obj)} {σ : St} {H : Hp} {s : Shared} {p : Addr} {xs : List V} (I : Inv X pins σ H s) (h : H p = some (.lst xs)) :
    ∃ (its : List Value) (n : Nat), Vals xs its ∧ s.heap.get? p = some { cls := .type "list", data := .seq its.toArray n } ∧ xs.length ≤ sizeLine := by
  obtain ⟨z, its, n, r, e⟩ := I.hok p _ h
  exact ⟨its, n, r, e, z⟩
theorem Inv.lstUpd {pins : List (Addr × Obj)} {σ : St} {H : Hp} {s : Shared} {p : Addr} {xs ys : List V} {its its' : List Value} {n n' : Nat} {f : Obj → Obj} (I : Inv X pins σ H s) (h : H p = some (.lst xs))
    (ho : s.heap.get? p = some { cls := .type "list", data := .seq its.toArray n }) (hf : f { cls := .type "list", data := .seq its.toArray n } = { cls := .type "list", data := .seq its'.toArray n' }) (r : Vals ys its') (hz : ys.length ≤ sizeLine) (t : Nat) :
    Inv X pins σ (upd H p (.lst ys)) { s with heap := s.heap.update p f, toks := t } := by
  have e : (s.heap.update p f).get? p = some { cls := .type "list", data := .seq its'.toArray n' } := by
    rw [Heap.get?_update_self f ho (by rw [hf] <;> rfl), hf]
  refine I.write (x := p) (e := p) (by rw [h]; trivial) (.inl rfl) (fun b u hb q => (Heap.get?_update_other _ _ (Ne.symm hb)).trans q) ⟨_, e⟩ ?_
  exact ⟨hz, its', n', r, e⟩
noncomputable def rSetL : V → V → V → Hp → (Hp → Prop) → Prop := fun o i v H Q => ∃ p xs k j, o = .ref p ∧ i = .int k ∧ H p = some (.lst xs) ∧ ixN xs.length k = some j ∧ Q (upd H p (.lst (xs.set j v)))
theorem set_list : PSet X rSetL := by
  intro pins s σ H o i v ov iv u Q I ro ri rv h
  obtain ⟨p, xs, k, j, rfl, rfl, hp, hj, q⟩ := h
  cases ro
  obtain ⟨t, rfl⟩ := ri
  obtain ⟨its, n, r, ho, hz⟩ := I.lst hp
  obtain ⟨h1, h2, h3, h4⟩ := ixN_seq hj
  have hl := r.length
  have hn := line63
  have I' : Inv X pins σ (upd H p (.lst (xs.set j v))) { s with heap := s.heap.update p (Obj.mapSeq (·.setIfInBounds j u)) } :=
    I.lstUpd hp ho (mapSeq_set its n j u) (r.set rv j) (by rw [List.length_set]; exact hz) s.toks
  by_cases h0 : 0 ≤ k
  · have hk : k.toNat = j := by
      rw [seqIndex_of h0 h4] at h1
      exact Option.some.inj h1
    exact PySem.W.ki_setAt ho h0 (by omega) (by rw [List.size_toArray, ← hl]; exact h4) (by rw [hk]; exact ⟨_, I', q⟩)
  · have hk : (k + (its.toArray.size : Int)).toNat = j := by
      rw [seqIndex_neg (by omega) h3] at h1
      rw [List.size_toArray, ← hl]
      exact Option.some.inj h1
    exact PySem.W.ki_setBack ho (by omega) (by rw [List.size_toArray, ← hl]; exact h3) (by omega) (by rw [hk]; exact ⟨_, I', q⟩)
theorem slice_bounds (lo hi : Option Int) (n : Nat) : (sliceBounds lo hi none n).1 = ((HT.sIx n 0 lo : Nat) : Int) ∧ (sliceBounds lo hi none n).2.1 = ((HT.sIx n n hi : Nat) : Int) ∧ (sliceBounds lo hi none n).2.2 = 1 := by
  refine ⟨?_, ?_, rfl⟩
  · cases lo with
    | none => simp [sliceBounds, HT.sIx]
    | some i =>
      simp only [sliceBounds, HT.sIx, Option.getD_none, show (1 : Int) > 0 by decide, if_true]
      by_cases h : i < 0
      · simp only [h, if_true] <;> omega
      · simp only [h, if_false] <;> omega
  · cases hi with
    | none => simp [sliceBounds, HT.sIx]
    | some i =>
      simp only [sliceBounds, HT.sIx, Option.getD_none, show (1 : Int) > 0 by decide, if_true]
      by_cases h : i < 0
      · simp only [h, if_true] <;> omega
      · simp only [h, if_false] <;> omega
theorem slicePick_cut (its : List Value) (lo hi : Option Int) : slicePick its.toArray lo hi none = ((its.drop (HT.sIx its.length 0 lo)).take (HT.sIx its.length its.length hi - HT.sIx its.length 0 lo)).toArray := by
  obtain ⟨h1, h2, h3⟩ := slice_bounds lo hi its.toArray.size
  unfold slicePick
  rw [h1, h2, h3]
  simp only [sliceRange_one, pick_run, List.size_toArray] <;> rfl
noncomputable def rSlL (K : PySem.W.Frag) : V → Option Int → Option Int → Hp → VK → Prop := fun x lo hi H Q => ∃ a xs, x = .ref a ∧ SqL K H a xs ∧ ∀ p, H p = none → Q (.ref p) (upd H p (.lst (cutV xs lo hi)))
theorem sl_list : SlR X (rSlL X.K) := by
  intro pins s σ H x v vl vu lo hi sl Q I rx hs pl pu h
  obtain ⟨a, xs, rfl, hx, q⟩ := h
  cases rx
  obtain ⟨its, r, ht, hz⟩ := I.list hx
  have hlen := r.length
  refine ⟨"list", _, slot_list_getitem.lookup, ht.isList.typeIs, ?_⟩
  refine wpAny_getItem_list_slice ht.isList hs pl pu .none (by simp) ?_ (by rw [List.size_toArray] <;> omega)
  rw [slicePick_cut, ← hlen]
  refine ⟨.ref s.heap.objs.size, _, I.laid (t' := s.toks) (o := .lst (cutV xs lo hi)) (fun b ob q => Heap.get?_push_of_some _ q) (Nat.le_refl _) ?_, rfl, q _ (I.hok.fresh (Nat.le_refl _))⟩
  exact ⟨Nat.le_trans (cutV_length xs lo hi) hz, _, 0, (r.drop (HT.sIx xs.length 0 lo)).take (HT.sIx xs.length xs.length hi - HT.sIx xs.length 0 lo), Heap.get?_push_size _ rfl⟩
noncomputable def flatV : V → Bool
  | .non => true
  | .bl _ => true
  | .int _ => true
  | .str _ => true
  | _ => false
noncomputable def eqV : V → V → Bool
  | .non, .non => true
  | .bl a, .bl b => a == b
  | .bl a, .int b => (if a then 1 else 0) == b
  | .int a, .bl b => a == (if b then 1 else 0)
  | .int a, .int b => a == b
  | .str a, .str b => a == b
  | _, _ => false
theorem eqAt_V {A : Around} {s : Shared} {y x : V} {u v : Value} (ry : RelV y u) (rx : RelV x v) (fy : flatV y = true) (fx : flatV x = true) : SeqAt.EqAt A s u v (eqV y x) := by
  cases y with
  | non =>
    cases ry
    cases x with
    | non => cases rx; exact SeqAt.EqAt.same _
    | bl b => cases rx; exact SeqAt.EqAt.none_bool b
    | int b => obtain ⟨t, rfl⟩ := rx; exact SeqAt.EqAt.none_int b t
    | str b => obtain ⟨t, rfl⟩ := rx; exact SeqAt.EqAt.none_str b t
    | _ => exact absurd (show false = true from fx) Bool.false_ne_true
  | bl a =>
    cases ry
    cases x with
    | non => cases rx; exact SeqAt.EqAt.bool_none a
    | bl b => cases rx; exact SeqAt.EqAt.bool_bool a b
    | int b => obtain ⟨t, rfl⟩ := rx; exact SeqAt.EqAt.bool_int a b t
    | str b => obtain ⟨t, rfl⟩ := rx; exact SeqAt.EqAt.bool_str a b t
    | _ => exact absurd (show false = true from fx) Bool.false_ne_true
  | int a =>
    obtain ⟨t', rfl⟩ := ry
    cases x with
    | non => cases rx; exact SeqAt.EqAt.int_none a t'
    | bl b => cases rx; exact SeqAt.EqAt.int_bool a t' b
    | int b => obtain ⟨t, rfl⟩ := rx; exact SeqAt.EqAt.int_int a t' b t
    | str b => obtain ⟨t, rfl⟩ := rx; exact SeqAt.EqAt.int_str a t' b t
    | _ => exact absurd (show false = true from fx) Bool.false_ne_true
  | str a =>
    obtain ⟨t', rfl⟩ := ry
    cases x with
    | non => cases rx; exact SeqAt.EqAt.str_none a t'
    | bl b => cases rx; exact SeqAt.EqAt.str_bool a t' b
    | int b => obtain ⟨t, rfl⟩ := rx; exact SeqAt.EqAt.str_int a t' b t
    | str b => obtain ⟨t, rfl⟩ := rx; exact SeqAt.EqAt.str_str a t' b t
    | _ => exact absurd (show false = true from fx) Bool.false_ne_true
  | _ => exact absurd (show false = true from fy) Bool.false_ne_true
noncomputable def eqU (x : V) (u : Value) : Bool := match u with
  | .none => eqV .non x
  | .bool b => eqV (.bl b) x
  | .int i _ => eqV (.int i) x
  | .str z _ => eqV (.str z) x
  | _ => false
theorem eqU_of {x y : V} {u : Value} (r : RelV y u) (f : flatV y = true) : eqU x u = eqV y x := by
  cases y with
  | non => cases r; rfl
  | bl b => cases r; rfl
  | int i => obtain ⟨t, rfl⟩ := r; rfl
  | str z => obtain ⟨t, rfl⟩ := r; rfl
  | _ => exact absurd (show false = true from f) Bool.false_ne_true
theorem any_eqU {x : V} : ∀ {xs : List V} {us : List Value}, Vals xs us → xs.all flatV = true → us.any (eqU x) = xs.any fun y => eqV y x
  | _, _, .nil, _ => rfl
  | y :: xs, u :: us, .cons r t, f => by
    rw [List.all_cons, Bool.and_eq_true] at f
    rw [List.any_cons, List.any_cons, eqU_of r f.1, any_eqU t f.2]
theorem mem_eqAt {A : Around} {s : Shared} {x : V} {v : Value} (rx : RelV x v) (fx : flatV x = true) : ∀ {xs : List V} {us : List Value}, Vals xs us → xs.all flatV = true → ∀ u ∈ us, SeqAt.EqAt A s u v (eqU x u)
  | _, _, .nil, _ => fun u hu => by cases hu
  | y :: xs, u :: us, .cons r t, f => fun u' hu => by
    rw [List.all_cons, Bool.and_eq_true] at f
    rcases List.mem_cons.mp hu with rfl | hu
    · rw [eqU_of r f.1]; exact eqAt_V r rx f.1 fx
    · exact mem_eqAt rx fx t f.2 u' hu
noncomputable def inV (x : V) (xs : List V) : Bool := xs.any fun y => eqV y x
noncomputable def rIn (K : PySem.W.Frag) (neg : Bool) : R2 := fun x y H Q => ∃ p xs, y = .ref p ∧ (SqL K H p xs ∨ SqT K H p xs) ∧ flatV x = true ∧ xs.all flatV = true ∧ Q (.bl (if neg then !inV x xs else inV x xs)) H
theorem op_in_seq : OpR X (compareOp .In) (rIn X.K false) := by
  intro pins s σ H x y v u Q I rx ry h
  obtain ⟨p, xs, rfl, hq, fx, fs, q⟩ := h
  cases ry
  rcases hq with hq | hq
  · obtain ⟨its, r, pl, hz⟩ := I.list hq
    refine SeqAt.in_listAt (eqU x) pl.isList (fun w hw => mem_eqAt rx fx r fs w (by simpa using hw)) ⟨.bl _, H, I, rfl, ?_⟩
    rw [show its.toArray.any (eqU x) = its.any (eqU x) by simp, any_eqU r fs]
    exact q
  · obtain ⟨its, r, pl, hz⟩ := I.tuple hq
    refine SeqAt.in_tupleAt (eqU x) pl (fun w hw => mem_eqAt rx fx r fs w (by simpa using hw)) ⟨.bl _, H, I, rfl, ?_⟩
    rw [show its.toArray.any (eqU x) = its.any (eqU x) by simp, any_eqU r fs]
    exact q
theorem op_notIn_seq : OpR X (compareOp .NotIn) (rIn X.K true) := by
  intro pins s σ H x y v u Q I rx ry h
  obtain ⟨p, xs, rfl, hq, fx, fs, q⟩ := h
  cases ry
  rcases hq with hq | hq
  · obtain ⟨its, r, pl, hz⟩ := I.list hq
    refine SeqAt.notIn_listAt (eqU x) pl.isList (fun w hw => mem_eqAt rx fx r fs w (by simpa using hw)) ⟨.bl _, H, I, rfl, ?_⟩
    rw [show its.toArray.any (eqU x) = its.any (eqU x) by simp, any_eqU r fs]
    exact q
  · obtain ⟨its, r, pl, hz⟩ := I.tuple hq
    refine SeqAt.notIn_tupleAt (eqU x) pl (fun w hw => mem_eqAt rx fx r fs w (by simpa using hw)) ⟨.bl _, H, I, rfl, ?_⟩
    rw [show its.toArray.any (eqU x) = its.any (eqU x) by simp, any_eqU r fs]
    exact q
theorem call_len_seq : CallR X (.builtin "len") (fun xs H Q => ∃ p ys, xs = [.ref p] ∧ (SqL X.K H p ys ∨ SqT X.K H p ys) ∧ Q (.int ys.length) H) := by
  intro pins s σ H xs us Q I r h
  obtain ⟨p, ys, rfl, hq, q⟩ := h
  obtain ⟨u, rfl, rx⟩ := vals1 r
  cases rx
  have hn := line63
  rcases hq with hq | hq
  · obtain ⟨its, r', pl, hz⟩ := I.list hq
    have hlen := r'.length
    exact Calls.call_len_list pl.isList (by simp only [List.size_toArray] <;> omega) ⟨.int ys.length, H, I.tok _, ⟨s.toks + 1, by rw [List.size_toArray, hlen]⟩, q⟩
  · obtain ⟨its, r', pl, hz⟩ := I.tuple hq
    have hlen := r'.length
    exact len_tuple pl (by simp only [List.size_toArray] <;> omega) ⟨.int ys.length, H, I.tok _, ⟨s.toks + 1, by rw [List.size_toArray, hlen]⟩, q⟩
theorem call_list_of : CallR X (.type "list") (fun xs H Q => ∃ p ys, xs = [.ref p] ∧ (SqL X.K H p ys ∨ SqT X.K H p ys) ∧ ∀ l, H l = none → Q (.ref l) (upd H l (.lst ys))) := by
  intro pins s σ H xs us Q I r h
  obtain ⟨p, ys, rfl, hq, q⟩ := h
  obtain ⟨u, rfl, rx⟩ := vals1 r
  cases rx
  have fin : ∀ (its : List Value), Vals ys its → ys.length ≤ sizeLine → ∀ (h' : Heap) (c' : Nat), (∀ b o', s.heap.get? b = some o' → h'.get? b = some o') →
      h'.get? s.heap.objs.size = some { cls := .type "list", dict := none, data := .seq its.toArray c', slots := #[] } → EP X pins σ Q (.ref s.heap.objs.size) { s with heap := h' } := fun its r' hz h' c' kp e =>
    ⟨.ref s.heap.objs.size, _, I.laid (t' := s.toks) kp (Nat.le_refl _) (show ObjOk X.prog X.w _ h' _ (.lst ys) from ⟨hz, its, c', r', e⟩), rfl, q _ (I.hok.fresh (Nat.le_refl _))⟩
  rcases hq with hq | hq
  · obtain ⟨its, r', pl, hz⟩ := I.list hq
    have hlen := r'.length
    obtain ⟨o, ho, hc, n, hd⟩ := pl.isList
    exact call_list_seq p (.inl rfl) ho hc hd (fun h' c' kp e => fin its r' hz h' c' kp e) (by simp only [List.size_toArray] <;> omega)
  · obtain ⟨its, r', pl, hz⟩ := I.tuple hq
    have hlen := r'.length
    obtain ⟨o, ho, hc, n, hd⟩ := pl
    exact call_list_seq p (.inr rfl) ho hc hd (fun h' c' kp e => fin its r' hz h' c' kp e) (by simp only [List.size_toArray] <;> omega)
noncomputable def tyV (K : PySem.W.Frag) (T : String) (x : V) (H : Hp) : Prop := match x with
  | .str _ => T = "str"
  | .int _ => T = "int"
  | .ref p => (T = "list" ∧ ∃ xs, SqL K H p xs) ∨ (T = "tuple" ∧ ∃ o, K.lookup p = some o ∧ o.cls = .type "tuple" ∧ o.dict = none) ∨
      (T = "dict" ∧ ((∃ kvs, H p = some (.dK kvs)) ∨ ∃ kvs, H p = some (.dT kvs))) ∨ (T = "set" ∧ ∃ S n, H p = some (.set S n))
  | _ => False
theorem tyV_is {pins : List (Addr × Obj)} {σ : St} {H : Hp} {s : Shared} {T : String} {x : V} {v : Value} (I : Inv X pins σ H s) (r : RelV x v) (ty : tyV X.K T x H) :
    s.TypeIs v T ∧ ∀ a, v = .ref a → ∃ ob, s.heap.get? a = some ob ∧ ob.dict = none := by
  cases x with
  | str z =>
    obtain ⟨t, rfl⟩ := r
    cases (show T = "str" from ty)
    exact ⟨typeIs_str s z t, fun _ e => nomatch e⟩
  | int i =>
    obtain ⟨t, rfl⟩ := r
    cases (show T = "int" from ty)
    exact ⟨typeIs_int s i t, fun _ e => nomatch e⟩
  | ref p =>
    cases r
    rcases ty with ⟨rfl, xs, hq⟩ | ⟨rfl, o, hk, hc, hd⟩ | ⟨rfl, hk⟩ | ⟨rfl, S, n, hk⟩
    · obtain ⟨its, _, pl, _⟩ := I.list hq
      refine ⟨pl.isList.typeIs, fun a e => ?_⟩
      cases e
      obtain ⟨o, n, e, c, hd, _⟩ := pl
      exact ⟨o, e, hd⟩
    · refine ⟨⟨o, I.kIn p o hk, hc⟩, fun a e => ?_⟩
      cases e
      exact ⟨o, I.kIn _ o hk, hd⟩
    · have z : ∃ o, s.heap.get? p = some o ∧ o.ExactDict := by
        rcases hk with ⟨kvs, hk⟩ | ⟨kvs, hk⟩
        · obtain ⟨_, _, _, _, o, _, _, e, ex, _⟩ := I.hok p _ hk
          exact ⟨o, e, ex⟩
        · obtain ⟨_, _, _, _, o, _, _, e, ex, _⟩ := I.hok p _ hk
          exact ⟨o, e, ex⟩
      obtain ⟨o, e, ex⟩ := z
      refine ⟨⟨o, e, ex.1⟩, fun a e2 => ?_⟩
      cases e2
      exact ⟨o, e, ex.2.1⟩
    · obtain ⟨o, _, _, _, e, ex, _⟩ := I.hok p _ hk
      refine ⟨⟨o, e, ex.1⟩, fun a e2 => ?_⟩
      cases e2
      exact ⟨o, e, ex.2.1⟩
  | _ => exact False.elim ty
noncomputable def tBM0 (K : PySem.W.Frag) (T : String) (r : V → List V → Hp → VK → Prop) (to : TE) : TE := fun σ H Q => to σ H fun x H1 => tyV K T x H1 ∧ r x [] H1 Q
noncomputable def tBM (K : PySem.W.Frag) (T : String) (r : V → List V → Hp → VK → Prop) (to : TE) (t : TA) : TE := fun σ H Q => to σ H fun x H1 => tyV K T x H1 ∧ t σ H1 fun xs H2 => r x xs H2 Q
variable {o e : Expr} {es : List Expr} {to : TE} {t : TA} {name : Str} {apos cpos : Pos} {T id : String} {r : V → List V → Hp → VK → Prop}
theorem pe_bm0 (pa : PlainAttrs T) (slot : Slot T name id) (hty : typeOf (.builtin id) = pure (.type "method_descriptor")) (hm : MtR X id r) (ho : PE X o to)
    (hbase : attributeBase o name X.env (eval o X.env) = eval o X.env := by rfl) (hline : (apos.endLine == cpos.line) = true := by rfl) : PE X (.Call (.Attribute o name apos) [] [] cpos) (tBM0 X.K T r to) := by
  intro pins s σ H Q I h
  refine wpAny_Call_method0_late hbase hline (thn (ho pins s σ H _ I h) fun v s1 hhx => ?_)
  obtain ⟨x, H1, I1, r1, ty, q1⟩ := hhx
  obtain ⟨h1, h2⟩ := tyV_is I1 r1 ty
  exact ⟨T, id, pa, slot, hty, h1, h2, Calls.callWith_builtin rfl (PySem.evalArgs_none (hm pins s1 σ H1 x [] v [] Q I1 r1 .nil q1))⟩
theorem pe_bm (pa : PlainAttrs T) (slot : Slot T name id) (hty : typeOf (.builtin id) = pure (.type "method_descriptor")) (hm : MtR X id r) (ho : PE X o to) (ha : PA X (e :: es) t)
    (hbase : attributeBase o name X.env (eval o X.env) = eval o X.env := by rfl)
    (hfew : ((backTo cpos (starEach (e :: es) X.env)).all (fun x => !x.1) && (backToKw cpos (keywordEach [] X.env)).all (fun x => x.1.isSome)
      && decide ((e :: es).length + ([] : List Keyword).length + (if ([] : List Keyword).isEmpty then 0 else 1) < 30)) = true := by rfl)
    (hline : (apos.endLine == cpos.line) = true := by rfl) (hs : starEach (e :: es) X.env = (false, eval e X.env) :: starEach es X.env := by rfl) (hplain : (backTo cpos (starEach es X.env)).any (·.1) = false := by rfl) :
    PE X (.Call (.Attribute o name apos) (e :: es) [] cpos) (tBM X.K T r to t) := by
  intro pins s σ H Q I h
  refine wpAny_Call_method_late hbase hfew hline rfl (thn (ho pins s σ H _ I h) fun v s1 hhx => ?_)
  obtain ⟨x, H1, I1, r1, ty, q1⟩ := hhx
  obtain ⟨h1, h2⟩ := tyV_is I1 r1 ty
  refine ⟨T, id, pa, slot, hty, h1, h2, ?_⟩
  have hA := ha cpos pins s1 σ H1 _ I1 q1
  rw [hs] at hA ⊢
  refine Calls.callWith_builtin (by show (false || (backTo cpos (starEach es X.env)).any (·.1)) = false; rw [hplain] <;> rfl) (Calls.evalArgs_plain ?_)
  exact thn hA fun us s2 ⟨vs, H2, I2, r2, q2⟩ => hm pins s2 σ H2 x vs v us Q I2 r1 r2 q2
/- xs.append(e), list.index on a module's tuple .. are MtR facts of 06m -/
end
end L2
namespace L2
open PySem PySem.Spec PyProof.Rows
noncomputable def MtM (X : Cx) (id : String) (r : V → List V → Hp → VK → Prop) : Prop :=
  ∀ (pins : List (Addr × Obj)) (s : Shared) (σ : St) (H : Hp) (x : V) (xs : List V) (v : Value) (us : List Value) (Q : VK), Inv X pins σ H s → RelV x v → Vals xs us → r x xs H Q →
    wpAny (model X.prog X.w) X.A (call (.builtin id) (v :: us)) (EP X pins σ Q) X.xe s
theorem Vals.one : ∀ {x : V} {us : List Value}, Vals [x] us → ∃ u, us = [u] ∧ RelV x u
  | _, _, .cons r .nil => ⟨_, rfl, r⟩
theorem Vals.zero : ∀ {us : List Value}, Vals [] us → us = []
  | _, .nil => rfl
section
variable {X : Cx} {pins : List (Addr × Obj)} {σ : St} {H : Hp} {s : Shared} {l b : Addr} {xs ys zs : List V}
theorem Inv.lset {its its' : List Value} {n : Nat} {f : Array Value → Array Value} {t' : Nat} (I : Inv X pins σ H s) (hH : H l = some (.lst xs))
    (e : s.heap.get? l = some { cls := .type "list", data := .seq its.toArray n }) (hf : f its.toArray = its'.toArray) (hv : Vals ys its') (hz : ys.length ≤ sizeLine) :
    Inv X pins σ (upd H l (.lst ys)) { s with heap := s.heap.update l (Obj.mapSeq f), toks := t' } := by
  have q := PySem.IsL.update e f
  rw [hf] at q
  refine I.write (x := l) (e := l) (by rw [hH]; exact trivial) (.inl rfl) (fun b' u hb hu => (Heap.get?_update_other s.heap (Obj.mapSeq f) (Ne.symm hb)).trans hu) ⟨_, q⟩ ?_
  exact ⟨hz, its', _, hv, q⟩
theorem Inv.lnew {its : List Value} {t' : Nat} (I : Inv X pins σ H s) (hv : Vals ys its) (hz : ys.length ≤ sizeLine) :
    Inv X pins σ (upd H s.heap.objs.size (.lst ys)) { s with heap := s.heap.push { cls := .type "list", data := .seq its.toArray }, toks := t' } :=
  I.laid (fun _ _ q => Heap.get?_push_of_some _ q) (Nat.le_refl _) ⟨hz, its, 0, hv, Heap.get?_push_size _ rfl⟩
theorem Inv.fresh (I : Inv X pins σ H s) : H s.heap.objs.size = none := I.hok.fresh (Nat.le_refl _)
theorem Inv.lstM (I : Inv X pins σ H s) (hH : H l = some (.lst xs)) : xs.length ≤ sizeLine ∧ ∃ (its : List Value) (n : Nat), Vals xs its ∧ xs.length = its.length ∧ s.heap.get? l = some { cls := .type "list", data := .seq its.toArray n } := by
  obtain ⟨z, its, n, r, e⟩ := I.hok l _ hH
  exact ⟨z, its, n, r, r.length, e⟩
theorem notLongL {n : Nat} (h : n ≤ sizeLine) : Builtin.List.listTooLong n = false := by
  unfold Builtin.List.listTooLong
  exact decide_eq_false (by omega)
end
section
variable {X : Cx}
noncomputable def rAppend : V → List V → Hp → VK → Prop := fun x vs H Q => ∃ l xs y, x = .ref l ∧ vs = [y] ∧ H l = some (.lst xs) ∧ xs.length < sizeLine ∧ Q .non (upd H l (.lst (xs ++ [y])))
theorem mt_append : MtM X "list.append" rAppend := by
  intro pins s σ H x vs v us Q I rx rv h
  obtain ⟨l, xs, y, rfl, rfl, hH, hz, q⟩ := h
  cases rx
  obtain ⟨u, rfl, ru⟩ := rv.one
  obtain ⟨z, its, n, r, hl, e⟩ := I.lstM hH
  refine call_meets F.slot_list_append ⟨_, e, rfl⟩ F.entry_list_append (F.args_list_append_2 _ _) (PySem.list_append l its.toArray n u (by rw [List.size_toArray]; omega)) ⟨e, ?_⟩
  refine ⟨.non, _, I.lset (its' := its ++ [u]) hH e (by simp) (r.append (.cons ru .nil)) ?_, rfl, q⟩
  rw [List.length_append, List.length_singleton]
  omega
noncomputable def rExtend : V → List V → Hp → VK → Prop := fun x vs H Q => ∃ l b xs zs, x = .ref l ∧ vs = [.ref b] ∧ H l = some (.lst xs) ∧ H b = some (.lst zs) ∧ xs.length + zs.length ≤ sizeLine ∧ Q .non (upd H l (.lst (xs ++ zs)))
theorem mt_extend : MtM X "list.extend" rExtend := by
  intro pins s σ H x vs v us Q I rx rv h
  obtain ⟨l, b, xs, zs, rfl, rfl, hH, hB, hz, q⟩ := h
  cases rx
  obtain ⟨u, rfl, ru⟩ := rv.one
  cases ru
  obtain ⟨z, its, n, r, hl, e⟩ := I.lstM hH
  obtain ⟨z2, its2, n2, r2, hl2, e2⟩ := I.lstM hB
  have hsz : its.toArray.size + its2.toArray.size ≤ sizeLine := by rw [List.size_toArray, List.size_toArray]; omega
  have hlong : ¬ (!its.toArray.isEmpty && Builtin.List.listTooLong (its.toArray.size + its2.toArray.size)) = true := by
    rw [notLongL hsz, Bool.and_false]
    exact Bool.false_ne_true
  refine call_meets F.slot_list_extend ⟨_, e, rfl⟩ F.entry_list_extend (F.args_list_extend_2 _ _)
    (AutoSeq1.list_extend_list_list_0 l its.toArray n b its2.toArray n2 hlong (by rw [List.size_toArray]; omega) (by omega)) ⟨e, e2, ?_⟩
  refine ⟨.non, _, I.lset (its' := its ++ its2) hH e (by simp) (r.append r2) ?_, rfl, q⟩
  rw [List.length_append]
  omega
noncomputable def rCat : R2 := fun x y H Q => ∃ l b xs zs, x = .ref l ∧ y = .ref b ∧ H l = some (.lst xs) ∧ H b = some (.lst zs) ∧ xs.length + zs.length ≤ sizeLine ∧ ∀ p, H p = none → Q (.ref p) (upd H p (.lst (xs ++ zs)))
theorem op_cat : OpR X (binaryOp .Add) rCat := by
  intro pins s σ H x y v u Q I rx ry h
  obtain ⟨l, b, xs, zs, rfl, rfl, hH, hB, hz, q⟩ := h
  cases rx
  cases ry
  obtain ⟨z, its, n, r, hl, e⟩ := I.lstM hH
  obtain ⟨z2, its2, n2, r2, hl2, e2⟩ := I.lstM hB
  refine PySem.P.add_list e e2 ?_ (by rw [List.size_toArray, List.size_toArray]; omega)
  have ea : its.toArray ++ its2.toArray = (its ++ its2).toArray := by simp
  rw [ea]
  exact ⟨.ref _, _, I.lnew (t' := s.toks) (r.append r2) (by rw [List.length_append]; omega), rfl, q _ I.fresh⟩
end
section
variable {prog : Program} {w : World} {A : Around} {E : Value → Shared → Prop} {s : Shared}
end
section
variable {X : Cx}
end
end L2
namespace L2
open PySem PySem.Spec PyProof.Rows
section
variable {κ : Type} [DecidableEq κ]
noncomputable def valV (kvs : List (κ × V)) (k : κ) : Option V := (kvs.find? fun kv => decide (kv.1 = k)).map (·.2)
noncomputable def putK (kvs : List (κ × V)) (k : κ) (v : V) : List (κ × V) :=
  if (kvs.any fun kv => decide (kv.1 = k)) = true then kvs.map (fun kv => if kv.1 = k then (kv.1, v) else kv) else kvs ++ [(k, v)]
theorem valV_pos {p : κ × V} {r : List (κ × V)} {k : κ} (e : p.1 = k) : valV (p :: r) k = some p.2 := by simp [valV, List.find?_cons, e]
theorem valV_neg {p : κ × V} {r : List (κ × V)} {k : κ} (e : ¬ p.1 = k) : valV (p :: r) k = valV r k := by simp [valV, List.find?_cons, e]
theorem valV_any (k : κ) : ∀ kvs : List (κ × V), (kvs.any fun kv => decide (kv.1 = k)) = (valV kvs k).isSome
  | [] => rfl
  | p :: r => by
    rw [List.any_cons]
    by_cases e : p.1 = k
    · simp only [valV_pos e, decide_eq_true e, Bool.true_or, Option.isSome_some]
    · rw [valV_neg e, decide_eq_false e, Bool.false_or]; exact valV_any k r
theorem valV_map (k j : κ) (y : V) : ∀ kvs : List (κ × V), valV (kvs.map fun kv => if kv.1 = k then (kv.1, y) else kv) j = (valV kvs j).map fun x => if j = k then y else x
  | [] => rfl
  | p :: r => by
    have ih := valV_map k j y r
    rw [List.map_cons]
    by_cases h : p.1 = k
    · rw [if_pos h]
      by_cases e : p.1 = j
      · rw [valV_pos (p := (p.1, y)) e, valV_pos e, Option.map_some, if_pos (e.symm.trans h)]
      · rw [valV_neg (p := (p.1, y)) e, valV_neg e, ih]
    · rw [if_neg h]
      by_cases e : p.1 = j
      · rw [valV_pos (p := p) e, valV_pos e, Option.map_some, if_neg (fun z => h (e.trans z))]
      · rw [valV_neg (p := p) e, valV_neg e, ih]
theorem valV_snoc (k j : κ) (y : V) : ∀ kvs : List (κ × V), valV kvs k = none → valV (kvs ++ [(k, y)]) j = if j = k then some y else valV kvs j
  | [], _ => by
    by_cases e : k = j
    · rw [if_pos e.symm]; exact valV_pos (p := (k, y)) e
    · rw [if_neg (fun z => e z.symm)]; exact valV_neg (p := (k, y)) e
  | p :: r, hn => by
    rw [List.cons_append]
    have hk : ¬ p.1 = k := fun z => by rw [valV_pos z] at hn; cases hn
    rw [valV_neg hk] at hn
    have ih := valV_snoc k j y r hn
    by_cases e : p.1 = j
    · rw [valV_pos e, valV_pos e, if_neg (fun z => hk (e.trans z))]
    · rw [valV_neg e, valV_neg e, ih]
theorem valV_put (kvs : List (κ × V)) (k j : κ) (y : V) : valV (putK kvs k y) j = if j = k then some y else valV kvs j := by
  unfold putK
  by_cases a : (kvs.any fun kv => decide (kv.1 = k)) = true
  · rw [if_pos a, valV_map]
    rw [valV_any] at a
    by_cases e : j = k
    · obtain ⟨x, hx⟩ := Option.isSome_iff_exists.mp a
      rw [if_pos e, e, hx, Option.map_some, if_pos rfl]
    · rw [if_neg e]
      cases valV kvs j with
      | none => rfl
      | some x => rw [Option.map_some, if_neg e]
  · rw [if_neg a]
    refine valV_snoc k j y kvs ?_
    rw [valV_any] at a
    cases q : valV kvs k with
    | none => rfl
    | some x => rw [q] at a; exact (a rfl).elim
theorem length_putK (kvs : List (κ × V)) (k : κ) (v : V) : (putK kvs k v).length ≤ kvs.length + 1 := by
  unfold putK
  split
  · rw [List.length_map]; omega
  · rw [List.length_append, List.length_cons, List.length_nil]; omega
theorem putK_new {kvs : List (κ × V)} {k : κ} (v : V) (h : valV kvs k = none) : putK kvs k v = kvs ++ [(k, v)] := by
  unfold putK
  rw [valV_any, h]
  exact if_neg (by decide)
theorem RelO.isSome_eq {o : Option V} {u : Option Value} (r : RelO o u) : o.isSome = u.isSome := by
  cases o with
  | none => cases u with
    | none => rfl
    | some _ => exact (show False from r).elim
  | some _ => cases u with
    | none => exact (show False from r).elim
    | some _ => rfl
theorem RelO.getD {o : Option V} {u : Option Value} {d : V} {d' : Value} (r : RelO o u) (rd : RelV d d') : RelV (o.getD d) (u.getD d') := by
  cases o with
  | none => cases u with
    | none => exact rd
    | some _ => exact (show False from r).elim
  | some _ => cases u with
    | none => exact (show False from r).elim
    | some _ => exact r
theorem KV.val {kvs : List (κ × V)} {vs : List (κ × Value)} (r : KV kvs vs) (k : κ) : RelO (valV kvs k) (valueAt vs k) := by
  unfold KV at r
  induction r with
  | nil => exact True.intro
  | @cons p q ps qs h t ih =>
    obtain ⟨h1, h2⟩ := h
    by_cases e : p.1 = k
    · have e' : q.1 = k := h1.symm.trans e
      have b : valueAt (q :: qs) k = some q.2 := by simp [valueAt, List.find?_cons, e']
      rw [valV_pos e, b]; exact h2
    · have e' : ¬ q.1 = k := fun z => e (h1.trans z)
      have b : valueAt (q :: qs) k = valueAt qs k := by simp [valueAt, List.find?_cons, e']
      rw [valV_neg e, b]; exact ih
theorem KV.any {kvs : List (κ × V)} {vs : List (κ × Value)} (r : KV kvs vs) (k : κ) : (kvs.any fun kv => decide (kv.1 = k)) = vs.any fun kv => decide (kv.1 = k) := by
  unfold KV at r
  induction r with
  | nil => rfl
  | cons h t ih => rw [List.any_cons, List.any_cons, ih, h.1]
theorem KV.repl {kvs : List (κ × V)} {vs : List (κ × Value)} (r : KV kvs vs) (k : κ) {y : V} {u : Value} (ry : RelV y u) :
    KV (kvs.map fun kv => if kv.1 = k then (kv.1, y) else kv) (vs.map fun kv => if kv.1 = k then (kv.1, u) else kv) := by
  unfold KV at r ⊢
  induction r with
  | nil => exact .nil
  | @cons p q ps qs h t ih =>
    rw [List.map_cons, List.map_cons]
    refine .cons ?_ ih
    obtain ⟨h1, h2⟩ := h
    by_cases e : p.1 = k
    · rw [if_pos e, if_pos (h1.symm.trans e)]; exact ⟨h1, ry⟩
    · rw [if_neg e, if_neg (fun z => e (h1.trans z))]; exact ⟨h1, h2⟩
theorem KV.put {kvs : List (κ × V)} {vs : List (κ × Value)} (r : KV kvs vs) (k : κ) {y : V} {u : Value} (ry : RelV y u) : KV (putK kvs k y) (stored vs k u) := by
  unfold putK stored
  rw [r.any k]
  by_cases e : (vs.any fun kv => decide (kv.1 = k)) = true
  · rw [if_pos e, if_pos e]; exact r.repl k ry
  · rw [if_neg e, if_neg e]; exact Paired.snoc r ⟨rfl, ry⟩
theorem KV.length {kvs : List (κ × V)} {vs : List (κ × Value)} (r : KV kvs vs) : kvs.length = vs.length := Paired.length r
end
theorem kV_is {P : Program} {w : World} {k : Key} {u : Value} (r : RelV (kV k) u) : (mixKind P w).is k u = true := by
  cases k with
  | inl i => obtain ⟨t, e⟩ := (show ∃ t, u = Value.int i t from r); subst e; exact mixKind_int P w i t
  | inr x => obtain ⟨t, e⟩ := (show ∃ t, u = Value.str x t from r); subst e; exact mixKind_str P w x t
theorem items_are {P : Program} {w : World} : ∀ {ks : List Key} {us : List Value}, Vals (ks.map kV) us → ItemsAre (mixKind P w) ks us
  | [], _, r => by rw [List.map_nil] at r; cases r; exact .nil
  | k :: ks, _, r => by
    rw [List.map_cons] at r
    cases r with
    | cons h t => exact .cons (kV_is h) (items_are t)
noncomputable abbrev KT (H : Hp) : List (List Key × V) → List (List Key × Addr × Value) → Prop := Paired fun p q => p.1 = q.1 ∧ H q.2.1 = some (.tup (p.1.map kV)) ∧ RelV p.2 q.2.2
theorem KT.val {H : Hp} {kvs : List (List Key × V)} {xs : List (List Key × Addr × Value)} (r : KT H kvs xs) (k : List Key) : RelO (valV kvs k) ((atKey xs k).map (·.2)) := by
  induction r with
  | nil => exact True.intro
  | @cons p q ps qs h t ih =>
    obtain ⟨h1, _, h2⟩ := h
    by_cases e : p.1 = k
    · have e' : q.1 = k := h1.symm.trans e
      have b : atKey (q :: qs) k = some q.2 := by simp [atKey, List.find?_cons, e']
      rw [valV_pos e, b]; exact h2
    · have e' : ¬ q.1 = k := fun z => e (h1.trans z)
      have b : atKey (q :: qs) k = atKey qs k := by simp [atKey, List.find?_cons, e']
      rw [valV_neg e, b]; exact ih
theorem KT.repl {H : Hp} {kvs : List (List Key × V)} {xs : List (List Key × Addr × Value)} (r : KT H kvs xs) (k : List Key) {y : V} {u : Value} (ry : RelV y u) :
    KT H (kvs.map fun kv => if kv.1 = k then (kv.1, y) else kv) (xs.map (putAt k u)) := by
  induction r with
  | nil => exact .nil
  | @cons p q ps qs h t ih =>
    rw [List.map_cons, List.map_cons]
    refine .cons ?_ ih
    obtain ⟨h1, h2, h3⟩ := h
    unfold putAt
    by_cases e : p.1 = k
    · rw [if_pos e, if_pos (h1.symm.trans e)]; exact ⟨h1, h2, ry⟩
    · rw [if_neg e, if_neg (fun z => e (h1.trans z))]; exact ⟨h1, h2, h3⟩
theorem KT.put {H : Hp} {kvs : List (List Key × V)} {xs : List (List Key × Addr × Value)} (r : KT H kvs xs) (k : List Key) {b : Addr} {y : V} {u : Value} (hb : H b = some (.tup (k.map kV))) (ry : RelV y u) :
    KT H (putK kvs k y) (storedH xs k b u) := by
  have e : (kvs.any fun kv => decide (kv.1 = k)) = (atKey xs k).isSome := by
    rw [valV_any, (r.val k).isSome_eq, Option.isSome_map]
  unfold putK storedH
  rw [e]
  by_cases q : (atKey xs k).isSome = true
  · rw [if_pos q, if_pos q]; exact r.repl k ry
  · rw [if_neg q, if_neg q]; exact Paired.snoc r ⟨rfl, hb, ry⟩
theorem KT.keeps {H H' : Hp} {kvs : List (List Key × V)} {xs : List (List Key × Addr × Value)} (r : KT H kvs xs) (ht : ∀ b ys, H b = some (.tup ys) → H' b = some (.tup ys)) : KT H' kvs xs :=
  Paired.mapP r fun _ _ z => ⟨z.1, ht _ _ z.2.1, z.2.2⟩
section
variable {P : Program} {w : World} {H : Hp} {h : Heap} {a : Addr}
theorem rd_of {u : HO} (ok : HOk P w H h) (e : Rd H a u) : ObjOk P w H h a u := e.ok ok
theorem dk_rd {kvs : List (Key × V)} (ok : HOk P w H h) (e : Rd H a (.dK kvs)) : kvs.length ≤ sizeLine ∧ (a == sysModules) = false ∧ ∃ vs, KV kvs vs ∧ h.DictOf (mixKind P w) a vs :=
  show ObjOk P w H h a (.dK kvs) from rd_of ok e
theorem dk_of {kvs : List (Key × V)} (ok : HOk P w H h) (e : H a = some (.dK kvs)) : kvs.length ≤ sizeLine ∧ (a == sysModules) = false ∧ ∃ vs, KV kvs vs ∧ h.DictOf (mixKind P w) a vs := dk_rd ok (.inl e)
theorem key_of {ks : List Key} (ok : HOk P w H h) (e : H a = some (.tup (ks.map kV))) : (tupleKind (mixKind P w)).is h ks a := by
  obtain ⟨_, its, r, o, h1, h2, n, h3⟩ := (show ObjOk P w H h a (.tup (ks.map kV)) from ok a _ e)
  exact ⟨o, its.toArray, n, h1, h2, h3, by simpa using items_are r⟩
theorem dt_rd {kvs : List (List Key × V)} (ok : HOk P w H h) (e : Rd H a (.dT kvs)) : kvs.length ≤ sizeLine ∧ (a == sysModules) = false ∧
    ∃ xs, KT H kvs xs ∧ h.DictOfH (tupleKind (mixKind P w)) a xs := by
  obtain ⟨z, y, xs, r, o, es, ep, h1, h2, h3, h4, h5⟩ := (show ObjOk P w H h a (.dT kvs) from rd_of ok e)
  refine ⟨z, y, xs, r, o, es, ep, h1, h2, h3, h4, fun x hx => ?_, h5⟩
  have all : ∀ {l : List (List Key × V)} {m : List (List Key × Addr × Value)}, KT H l m → ∀ x ∈ m, (tupleKind (mixKind P w)).is h x.1 x.2.1 := by
    intro l m q
    induction q with
    | nil => intro x hx; exact nomatch hx
    | @cons p q ps qs hq t ih =>
      intro x hx
      rcases List.mem_cons.mp hx with e | hx
      · subst e
        exact key_of ok (by rw [← hq.1]; exact hq.2.1)
      · exact ih x hx
  exact all r x hx
theorem dt_of {kvs : List (List Key × V)} (ok : HOk P w H h) (e : H a = some (.dT kvs)) : kvs.length ≤ sizeLine ∧ (a == sysModules) = false ∧
    ∃ xs, KT H kvs xs ∧ h.DictOfH (tupleKind (mixKind P w)) a xs := dt_rd ok (.inl e)
end
noncomputable def DGet (H : Hp) (a : Addr) (y : V) (r : Option V) : Prop :=
  (∃ kvs k, Rd H a (.dK kvs) ∧ y = kV k ∧ r = valV kvs k) ∨ ∃ kvs k b, Rd H a (.dT kvs) ∧ y = .ref b ∧ H b = some (.tup (k.map kV)) ∧ r = valV kvs k
noncomputable def DPut (H : Hp) (a : Addr) (y v : V) (H' : Hp) : Prop :=
  (∃ kvs k, H a = some (.dK kvs) ∧ y = kV k ∧ kvs.length < sizeLine ∧ H' = upd H a (.dK (putK kvs k v))) ∨
  ∃ kvs k b, H a = some (.dT kvs) ∧ y = .ref b ∧ H b = some (.tup (k.map kV)) ∧ kvs.length < sizeLine ∧ H' = upd H a (.dT (putK kvs k v))
theorem DPut.k {H : Hp} {a : Addr} {kvs : List (Key × V)} {k : Key} {v : V} (e : H a = some (.dK kvs)) (hl : kvs.length < sizeLine) : DPut H a (kV k) v (upd H a (.dK (putK kvs k v))) := .inl ⟨kvs, k, e, rfl, hl, rfl⟩
section
variable {X : Cx} {pins : List (Addr × Obj)} {σ : St} {H : Hp} {s : Shared} {a : Addr} {y v : V} {u r : Value} {o : Option V} {A : Around} {E : Value → Shared → Prop}
theorem Inv.big (I : Inv X pins σ H s) : sysModules < s.heap.objs.size := by
  have h : mainGlobals < s.heap.objs.size := (I.mod.glob.keeps I.bk).lt
  exact Nat.lt_trans (by decide) h
theorem d_getItem {Q : Value → Shared → Prop} (hu : A.units + 1 < cLine) (I : Inv X pins σ H s) (g : DGet H a y (some v)) (ry : RelV y u) (h : ∀ w' s', Inv X pins σ H s' → RelV v w' → Q w' s') :
    wpAny (model X.prog X.w) A (getItem (.ref a) u) Q E s := by
  rcases g with ⟨kvs, k, e, ey, l⟩ | ⟨kvs, k, b, e, ey, eb, l⟩
  · subst ey
    obtain ⟨z, hd, vs, rel, dd⟩ := dk_rd I.hok e
    obtain ⟨w', hw, rw'⟩ := RelO.some_of (v := v) (o := valueAt vs k) (by rw [l]; exact rel.val k)
    exact wpAny_getItem_of (kV_is ry) dd.mapOf hw (h w' _ (I.tok _) rw')
  · subst ey
    cases (show u = Value.ref b from ry)
    obtain ⟨z, hd, xs, rel, dd⟩ := dt_rd I.hok e
    obtain ⟨w', hw, rw'⟩ := RelO.some_of (v := v) (o := (atKey xs k).map (·.2)) (by rw [l]; exact rel.val k)
    obtain ⟨p, hp, hp2⟩ := Option.map_eq_some_iff.mp hw
    refine wpAny_getItem_heap (tupleKind_room_in1 hu) (key_of I.hok eb) dd hp ?_
    rw [hp2]
    exact h w' _ (I.tok _) rw'
theorem d_write {h' : Heap} {t' : Nat} {ob : HO} (I : Inv X pins σ H s) (mu : Mut (H a)) (hs : Heap.SameBut a s.heap h') (he : ∃ q, h'.get? a = some q) (new : ObjOk X.prog X.w (upd H a ob) h' a ob) :
    Inv X pins σ (upd H a ob) { s with heap := h', toks := t' } :=
  I.write (x := a) (e := a) mu (.inl rfl) (fun b q hb z => (hs.2 b hb).trans z) he new
theorem dk_new {P : Program} {w : World} {H' : Hp} {h' : Heap} {kvs : List (Key × V)} {vs : List (Key × Value)} (z : kvs.length ≤ sizeLine) (hd : (a == sysModules) = false) (rel : KV kvs vs) (dd : h'.DictOf (mixKind P w) a vs) :
    ObjOk P w H' h' a (.dK kvs) := ⟨z, hd, vs, rel, dd⟩
theorem d_setItem {H' : Hp} {Q : Unit → Shared → Prop} (hu : A.units + 1 < cLine) (I : Inv X pins σ H s) (g : DPut H a y v H') (ry : RelV y u) (rv : RelV v r) (h : ∀ s', Inv X pins σ H' s' → Q () s') :
    wpAny (model X.prog X.w) A (setItem (.ref a) u r) Q E s := by
  rcases g with ⟨kvs, k, e, ey, l, eH⟩ | ⟨kvs, k, b, e, ey, eb, l, eH⟩
  · subst ey eH
    obtain ⟨z, hd, vs, rel, dd⟩ := dk_of I.hok e
    have hz : vs.length ≤ sizeLine := by rw [← rel.length]; exact z
    have hl : (putK kvs k v).length ≤ sizeLine := by have := length_putK kvs k v; omega
    refine wpAny_setItem_pairs (hsz := hz) (kV_is ry) dd fun h' dd' hs => h _ ?_
    have he : ∃ q, h'.get? a = some q := let ⟨q, _, _, hq, _⟩ := dd'; ⟨q, hq⟩
    exact d_write I (by rw [e]; exact True.intro) hs he (dk_new hl hd (rel.put k rv) dd')
  · subst ey eH
    cases (show u = Value.ref b from ry)
    obtain ⟨z, hd, xs, rel, dd⟩ := dt_of I.hok e
    have hz : xs.length ≤ sizeLine := by rw [← Paired.length rel]; exact z
    have hl : (putK kvs k v).length ≤ sizeLine := by have := length_putK kvs k v; omega
    refine wpAny_setItem_heap (hsz := hz) (tupleKind_room_in1 hu) (key_of I.hok eb) dd fun h' dd' hs => h _ ?_
    obtain ⟨q, es, ep, hq, h2, h3, h4, _, h5⟩ := dd'
    refine d_write I (by rw [e]; exact True.intro) hs ⟨q, hq⟩ ⟨hl, hd, _, (rel.put k eb rv).keeps fun c ys ec => ?_, q, es, ep, hq, h2, h3, h4, h5⟩
    rw [upd_ne (ne_of ec e (fun z => nomatch z))]
    exact ec
end
section
variable {X : Cx} {pins : List (Addr × Obj)} {σ : St} {H : Hp} {s : Shared} {a : Addr} {kvs : List (Key × V)} {k : Key} {u : Value} {A : Around} {E : Value → Shared → Prop}
end
noncomputable def NoSl (i : Expr) : Prop := ∀ ov iv, subscripted i false ov iv = operate [ov, iv] (getItem ov iv)
theorem subD_of {prog : Program} {w : World} {A : Around} {E : Value → Shared → Prop} {s : Shared} {env : Env} {value slice : Expr} {pos : Pos} {T id : String} {Q : Value → Shared → Prop}
    (hl : typeLookup (.type T) "__getitem__" = pure (some (.builtin id))) (hs : NoSl slice)
    (h : wpAny (model prog w) A (eval value env) (fun o s₁ => wpAny (model prog w) A (eval slice env) (fun i s₂ => s₂.TypeIs o T ∧ wpAny (model prog w) A (getItem o i) Q E s₂) E s₁) E s) :
    wpAny (model prog w) A (eval (.Subscript value slice pos) env) Q E s := by
  refine Subscript_ (wpAny_mono h (fun o s₁ h₁ => wpAny_mono h₁ (fun i s₂ h₂ => ?_) fun _ _ x => x) fun _ _ x => x)
  obtain ⟨hT, h₂⟩ := h₂
  unfold subscriptTail
  refine wpAny_bind ?_
  rw [getitemInPython_of_ne hT.not_modules]
  refine wpAny_bind (wpAny_specialOf hT hl ?_)
  have fin : wpAny (model prog w) A (subscripted slice false o i) (fun r s₃ => wpAny (model prog w) A (letTemporaryGo value o r >>= fun _ => pure r) Q E s₃) E s₂ := by
    rw [hs o i]
    exact wpAny_operating (wpAny_mono h₂ (fun r s₃ h₃ => wpAny_bind (wpAny_letTemporaryGo (wpAny_pure h₃))) fun _ _ x => x)
  first
    | exact wpAny_pure (wpAny_bind fin)
    | exact wpAny_bind (wpAny_pure (wpAny_bind fin))
    | exact wpAny_bind fin
theorem dict_typeIs {X : Cx} {pins : List (Addr × Obj)} {σ : St} {H : Hp} {s : Shared} {a : Addr} {y : V} {o : Option V} (I : Inv X pins σ H s) (g : DGet H a y o) : s.TypeIs (.ref a) "dict" := by
  rcases g with ⟨kvs, k, e, _, _⟩ | ⟨kvs, k, b, e, _, _, _⟩
  · obtain ⟨_, _, vs, _, dd⟩ := dk_rd I.hok e
    exact dd.typeIs
  · obtain ⟨_, _, xs, _, dd⟩ := dt_rd I.hok e
    exact dd.typeIs
noncomputable def tDGet (td ty : TE) : TE := fun σ H Q => td σ H fun x H1 => ty σ H1 fun y H2 => ∃ a v, x = .ref a ∧ DGet H2 a y (some v) ∧ Q v H2
noncomputable def sDPut (td ty tv : TE) : TS := fun D σ H => tv σ H fun v H1 => td σ H1 fun x H2 => ty σ H2 fun y H3 => ∃ a H4, x = .ref a ∧ DPut H3 a y v H4 ∧ D.nx σ H4
section
variable {X : Cx} {o i e value : Expr} {pos pos' tpos : Pos} {td ty tv : TE}
theorem pe_dget (hu : X.A.units + 1 < cLine) (ho : PE X o td) (hi : PE X i ty) (hs : NoSl i) : PE X (.Subscript o i pos) (tDGet td ty) := by
  intro pins s σ H Q I h
  refine subD_of PySem.F.slot_dict_getitem.lookup hs (thn (ho pins s σ H _ I h) fun u s1 ⟨x, H1, I1, rx, q1⟩ => thn (hi pins s1 σ H1 _ I1 q1) fun iv s2 hhx => ?_)
  obtain ⟨y, H2, I2, ry, a, v, ex, g, q2⟩ := hhx
  subst ex
  obtain rfl : u = Value.ref a := rx
  exact ⟨dict_typeIs I2 g, d_getItem hu I2 g ry fun w' s3 I3 rw' => ⟨v, H2, I3, rw', q2⟩⟩
theorem ps_dput (hu : X.A.units + 1 < cLine) (ho : PE X o td) (hi : PE X i ty) (hv : PE X value tv) (hs : swapsWith value (some (.Subscript o i pos')) pos.line X.env = pure false) :
    PS X (.Assign [.Subscript o i pos'] value pos) (sDPut td ty tv) := by
  intro pins s σ H D I h
  refine wpAny_Assign_Subscript (thn (hv pins s σ H _ I h) fun r s1 ⟨v, H1, I1, rv, q1⟩ => thn (ho pins s1 σ H1 _ I1 q1) fun u s2 ⟨x, H2, I2, rx, q2⟩ => thn (hi pins s2 σ H2 _ I2 q2) fun iv s3 hhx => ?_) hs
  obtain ⟨y, H3, I3, ry, a, H4, ex, g, q3⟩ := hhx
  subst ex
  obtain rfl : u = Value.ref a := rx
  exact d_setItem hu I3 g ry rv fun s4 I4 => ⟨σ, H4, I4, q3⟩
end
theorem dk_empty {P : Program} {w : World} {H : Hp} (h : Heap) (hb : sysModules < h.objs.size) : ObjOk P w H (h.push { cls := .type "dict", data := .dict #[] }) h.objs.size (.dK []) :=
  ⟨Nat.zero_le _, beq_eq_false_iff_ne.mpr (Ne.symm (Nat.ne_of_lt hb)), [], .nil, Heap.DictOf.new h⟩
noncomputable def tDNewK : TE := fun _ H Q => ∀ p, H p = none → Q (.ref p) (upd H p (.dK []))
section
variable {X : Cx} {pos : Pos}
theorem pe_dnewK : PE X (.Dict [] [] pos) tDNewK := fun pins s σ H Q I h =>
  wpAny_Dict_empty ⟨.ref s.heap.objs.size, _, I.laid (a := s.heap.objs.size) (o := .dK []) (t' := s.toks) (fun _ _ q => Heap.get?_push_of_some _ q) (Nat.le_refl _) (dk_empty s.heap I.big), rfl, h _ (I.hok.fresh (Nat.le_refl _))⟩
end
noncomputable def tPairs : List (TE × TE) → St → Hp → (List (V × V) → Hp → Prop) → Prop
  | [], _, H, Q => Q [] H
  | (tk, tv) :: r, σ, H, Q => tk σ H fun x H1 => tv σ H1 fun y H2 => tPairs r σ H2 fun ps H3 => Q ((x, y) :: ps) H3
noncomputable def mergeK (kvs more : List (Key × V)) : List (Key × V) := more.foldl (fun acc kv => putK acc kv.1 kv.2) kvs
noncomputable def tDisp (trs : List (TE × TE)) : TE := fun σ H Q => ∀ p, H p = none → tPairs trs σ (upd H p (.dK [])) fun ps H2 => H2 p = some (.dK []) ∧ ∃ kvs : List (Key × V), ps = kvs.map (fun kv => (kV kv.1, kv.2)) ∧ kvs.length ≤ 15 ∧ Q (.ref p) (upd H2 p (.dK (mergeK [] kvs)))
structure M2 (X : Cx) (o : Expr) (m : Str) (apos : Pos) (e f : Expr) (cpos : Pos) : Prop where
  base : attributeBase o m X.env (eval o X.env) = eval o X.env
  few : ((backTo cpos (starEach [e, f] X.env)).all (fun x => !x.1) && (backToKw cpos (keywordEach [] X.env)).all (fun x => x.1.isSome)
    && decide (([e, f] : List Expr).length + ([] : List Keyword).length + (if ([] : List Keyword).isEmpty then 0 else 1) < 30)) = true
  line : (apos.endLine == cpos.line) = true
  trees : backTo cpos (starEach [e, f] X.env) = [(false, eval e X.env), (false, eval f X.env)]
noncomputable def IsD (H : Hp) (a : Addr) : Prop := (∃ kvs, Rd H a (.dK kvs)) ∨ ∃ kvs, Rd H a (.dT kvs)
theorem isD_at {X : Cx} {pins : List (Addr × Obj)} {σ : St} {H : Hp} {s : Shared} {a : Addr} (I : Inv X pins σ H s) (d : IsD H a) :
    s.TypeIs (.ref a) "dict" ∧ (∀ b, Value.ref a = .ref b → ∃ ob, s.heap.get? b = some ob ∧ ob.dict = none) ∧ (a == sysModules) = false := by
  rcases d with ⟨kvs, e⟩ | ⟨kvs, e⟩
  · obtain ⟨_, hd, vs, _, dd⟩ := dk_rd I.hok e
    refine ⟨dd.typeIs, fun b q => ?_, hd⟩
    cases q
    obtain ⟨ob, _, _, h1, h2, _⟩ := dd
    exact ⟨ob, h1, h2.2.1⟩
  · obtain ⟨_, hd, xs, _, dd⟩ := dt_rd I.hok e
    refine ⟨dd.typeIs, fun b q => ?_, hd⟩
    cases q
    obtain ⟨ob, _, _, h1, h2, _⟩ := dd
    exact ⟨ob, h1, h2.2.1⟩
section
variable {X : Cx} {pins : List (Addr × Obj)} {σ : St} {H : Hp} {s : Shared} {a : Addr} {y d : V} {u r : Value} {o : Option V} {A : Around} {E : Value → Shared → Prop}
theorem d_get2 {Q : Value → Shared → Prop} (hu : A.units + 1 < cLine) (I : Inv X pins σ H s) (g : DGet H a y o) (ry : RelV y u) (rd : RelV d r) (h : ∀ w' s', Inv X pins σ H s' → RelV (o.getD d) w' → Q w' s') :
    wpAny (model X.prog X.w) A (call (.builtin "dict.get") [.ref a, u, r]) Q E s := by
  rcases g with ⟨kvs, k, e, ey, l⟩ | ⟨kvs, k, b, e, ey, eb, l⟩
  · subst ey
    obtain ⟨z, hd, vs, rel, dd⟩ := dk_rd I.hok e
    refine call_meetsIn PySem.F.slot_dict_get dd.typeIs PySem.F.entry_dict_get (PySem.F.args_dict_get_3 _ _ _) (meets_dict_get_default (mixKind X.prog X.w) a (kV_is ry) hd r) ⟨_, dd.mapOf, h _ _ (I.tok _) ?_⟩
    rw [l]
    exact (rel.val k).getD rd
  · subst ey
    cases (show u = Value.ref b from ry)
    obtain ⟨z, hd, xs, rel, dd⟩ := dt_rd I.hok e
    refine call_meetsIn PySem.F.slot_dict_get dd.typeIs PySem.F.entry_dict_get (PySem.F.args_dict_get_3 _ _ _) (meetsH_dict_get_default (tupleKind (mixKind X.prog X.w)) a b hd r) ⟨tupleKind_room_in1 hu, k, xs, key_of I.hok eb, dd, h _ _ (I.tok _) ?_⟩
    rw [l]
    exact (rel.val k).getD rd
end
noncomputable def tDGet2 (td ty tx : TE) : TE := fun σ H Q => td σ H fun x H1 => ∃ a, x = .ref a ∧ IsD H1 a ∧ ty σ H1 fun y H2 => tx σ H2 fun z H3 => ∃ o, DGet H3 a y o ∧ Q (o.getD z) H3
section
variable {X : Cx} {o e f : Expr} {apos cpos : Pos} {td ty tx : TE}
theorem pe_dget2 (hu : X.A.units + 1 < cLine) (ho : PE X o td) (he : PE X e ty) (hf : PE X f tx) (m : M2 X o "get" apos e f cpos) : PE X (.Call (.Attribute o "get" apos) [e, f] [] cpos) (tDGet2 td ty tx) := by
  intro pins s σ H Q I h
  refine wpAny_Call_method m.base m.few m.line PySem.F.plainAttrs_dict PySem.F.slot_dict_get PySem.F.type_dict_get (thn (ho pins s σ H _ I h) fun u s1 hhx => ?_)
  obtain ⟨x, H1, I1, rx, a, ex, d, q1⟩ := hhx
  subst ex
  obtain rfl : u = Value.ref a := rx
  obtain ⟨t1, t2, _⟩ := isD_at I1 d
  refine ⟨t1, t2, ?_⟩
  rw [m.trees]
  refine Calls.callWith_builtin rfl (Calls.evalArgs_plain (Calls.spliced_cons (thn (he pins s1 σ H1 _ I1 q1) fun iv s2 ⟨y, H2, I2, ry, q2⟩ =>
    Calls.spliced_cons (thn (hf pins s2 σ H2 _ I2 q2) fun fv s3 ⟨z, H3, I3, rz, ov, g, q3⟩ => Calls.spliced_nil ?_))))
  exact d_get2 hu I3 g ry rz fun w' s4 I4 rw' => ⟨_, H3, I4, rw', q3⟩
end
section
variable {X : Cx} {pins : List (Addr × Obj)} {σ : St} {H : Hp} {s : Shared} {a : Addr} {kvs : List (Key × V)} {A : Around} {E : Value → Shared → Prop}
end
section
variable {X : Cx} {pins : List (Addr × Obj)} {σ : St} {H : Hp} {s : Shared} {a : Addr} {y : V} {u : Value} {A : Around} {E : Value → Shared → Prop}
end
end L2
namespace Att
open PySem PySem.W PySem.Calls PyProof.Rows
theorem ints_of_wellAll {P : Params} {h : Heap} : ∀ (ns : List Int) (vs : List Value), WellAll P h vs (ns.map WData.int) → IntsAre vs ns := by
  intro ns
  induction ns with
  | nil =>
    intro vs w
    rw [List.map_nil] at w
    cases w
    exact .nil
  | cons n ns ih =>
    intro vs w
    rw [List.map_cons] at w
    cases w with
    | cons a b =>
      cases a
      exact .cons _ _ (ih _ b)
theorem script_of {l : OpenLaw} {n : Nat} (hn : l.most = some n) {P : Params} {h : Heap} {args : List WData} {vals : List Value}
    (hpre : l.row.toRowW.claim.pre args = true) (hwl : WellAll P h vals args) :
    ∃ a vs ns, vals = [Value.ref a] ∧ args = [WData.list (ns.map WData.int)] ∧ h.get? a = some { cls := .type "list", data := .seq vs.toArray } ∧ IntsAre vs ns ∧ ns.length ≤ n := by
  have hsh : WShape.hasAll [] args [.list .int] = true := (pre_splitW hpre).1
  have hc : l.pre.holds [] { args := args } = true := (pre_splitW hpre).2
  obtain ⟨d, r, rfl, h1, h2⟩ := hasAllW_cons hsh
  obtain rfl := hasAllW_nil h2
  obtain ⟨xs, rfl, h3⟩ := hasW_list h1
  obtain ⟨ns, rfl⟩ := items_int h3
  have hlen : ns.length ≤ n := by
    unfold OpenLaw.pre at hc
    have h4 : (WTm.not (.lt (.lit (.int (n : Int))) (.len (.arg 0)))).holds [] { args := [.list (ns.map .int)] } = true := by
      have h4 := (holds_andW hc).1
      rw [hn] at h4
      exact h4
    have h5 := condW_of h4 (w_not (w_lt w_lit (w_len_list (w_arg rfl))))
    rw [List.length_map] at h5
    refine Nat.le_of_not_lt fun q => ?_
    have q' : (n : Int) < ((ns.length : Nat) : Int) := by omega
    first
      | (rw [decide_eq_true q'] at h5; exact absurd h5 (by decide))
      | (simp at h5; omega)
  cases hwl with
  | cons w1 w2 =>
    cases w2
    cases w1 with
    | list ho hall => exact ⟨_, _, ns, rfl, rfl, ho, ints_of_wellAll ns _ hall, hlen⟩
theorem post_true (l : OpenLaw) (args : List WData) : l.row.toRowW.claim.post args (.bool true) args = true :=
  postW_of (r := l.row.toRowW) (X := (true == true))
    (show WShape.has [] (.bool true) .bool = true by first | rfl | decide | simp [WShape.has, WShape.arms, WShape.armsAll])
    (show (WTm.eq .res (.lit (.bool true))).value [] { args := args, res := some (.bool true), after := args } = some (.bool (true == true)) from w_eq_bool (w_res rfl) w_lit) rfl
section
variable {prog : Program} {w : World} {A : Around} {E : Value → Shared → Prop} {s : Shared} {K : Frag}
end
end Att
namespace L2
open PySem PySem.Spec PyProof.Rows
theorem vals_ints : ∀ {vs : List Value} {ns : List Int}, IntsAre vs ns → Vals (ns.map V.int) vs
  | _, _, .nil => .nil
  | _, _, .cons n t h => .cons ⟨t, rfl⟩ (vals_ints h)
noncomputable def Only (H : Hp) : Prop := ∀ b, H b = none ∨ ∃ o xs, H b = some (.frz o (.lst xs))
theorem law_call {P : Program} {w : World} {K : PySem.W.Frag} {mg mb : Str → Option Value} {CX : CXT} {k : Nat} {fa a : Addr} {fd : FuncData} {x : Str} {sp : Sp} {s₁ : Shared} {vs : List Value} {ns : List Int}
    (KX : K.In s₁.heap) (hns : s₁.heap.Ns mainGlobals mg) (hb : s₁.heap.Ns builtinsNs mb) (hbb : ∀ x : Str, x ≠ "__name__" → mb x = bootBuiltins x) (hlim : s₁.heap.NoLimit) (hg : s₁.gens = #[])
    (ha : s₁.heap.get? a = some { cls := .type "list", data := .seq vs.toArray }) (hi : IntsAre vs ns) (hl : ns.length ≤ sizeLine) (hr : Room k callerA)
    (F : ∀ base : Heap, K.In base → base.Ns mainGlobals mg → FnOk P w K mg base CX k fa fd [x] sp) (hbind : ∀ (s : Shared) (u : Value), BindsTo s fd ⟨[u], []⟩ [(x, u)])
    (hsp : ∀ H : Hp, Only H → SqL K H a (ns.map V.int) → sp [.ref a] H (fun v _ => v = .bl true) fun _ _ _ => False)
    (hCX : ∀ H e s', CX [] H s₁ (fun _ _ _ => False) e s' → False) :
    codeAny (model P w) callerA (.call (.ref fa) ⟨[.ref a], []⟩) (fun r s' => r = .ok (.ret (.bool true)) ∧ OldK s₁.heap s'.heap ∧ s'.os = s₁.os ∧ AllBare s'.gens) s₁ := by
  have rv := vals_ints hi
  have lenV := hi.length
  -- from an abstract heap in which nothing but the script may be tracked
  have core : ∀ H : Hp, Only H → SqL K H a (ns.map V.int) → HOk P w H s₁.heap → (∀ b, H b ≠ none → b = a) → (H a ≠ none → K.lookup a = none) →
      codeAny (model P w) callerA (.call (.ref fa) ⟨[.ref a], []⟩) (fun r s' => r = .ok (.ret (.bool true)) ∧ OldK s₁.heap s'.heap ∧ s'.os = s₁.os ∧ AllBare s'.gens) s₁ := by
    intro H hO hS hok hA hK
    have base_of : ∀ {b : Addr} {o : Obj}, s₁.heap.get? b = some o → H b = none → (hidT s₁.heap H).get? b = some o := fun e n => hidT_get e n
    have noA : ∀ {b : Addr} {o : Obj} {es : Array DictEntry} {ep : Nat}, s₁.heap.get? b = some o → o.data = .dict es ep → H b = none := fun {b o es ep} e d => by
      cases q : H b with
      | none => rfl
      | some u =>
        have e' : b = a := hA b (by rw [q]; simp)
        subst e'
        rw [ha] at e; cases e
        have d' : Data.seq vs.toArray _ = Data.dict es ep := d
        cases d'
    have nsK : ∀ {b : Addr} {m : Str → Option Value}, s₁.heap.Ns b m → (hidT s₁.heap H).Ns b m := fun {b m} ⟨o, es, ep, e, d, r⟩ => ⟨o, es, ep, base_of e (noA e d), d, r⟩
    have hKb : K.In (hidT s₁.heap H) := fun b o e => base_of (KX b o e) (by
      cases q : H b with
      | none => rfl
      | some u =>
        have e' : b = a := hA b (by rw [q]; simp)
        subst e'
        rw [hK (by rw [q]; simp)] at e; cases e)
    have hM : Mod K mg (hidT s₁.heap H) := ⟨hKb, nsK hns, ⟨mb, nsK hb, hbb⟩, let ⟨mc, h1, h2⟩ := hlim; ⟨mc, nsK h1, h2⟩⟩
    have e0 : Env0 P w K mg (hidT s₁.heap H) callerA [] s₁ H := ⟨rfl, hM, fun b o e => of_hidT e, Nat.le_of_eq (hidT_size _ _), trivial, fun b hb => absurd (show b ∈ ([] : List Addr) from hb) (by simp), hok, .of_eq hg⟩
    refine codeAny_mono ((F _ hKb (nsK hns)).run callerA [] s₁ H ⟨[.ref a], []⟩ [.ref a] [.ref a] _ _ hr e0 (hbind s₁ (.ref a)) (.cons rfl .nil) (hsp H hO hS)) fun r s' h => ?_
    cases r with
    | error e => exact (hCX H e s' h).elim
    | ok fl =>
      cases fl with
      | next => exact False.elim h
      | brk => exact False.elim h
      | cont => exact False.elim h
      | ret u =>
        obtain ⟨v, H', os, bare, un, hok', r', q⟩ := h
        have q' : v = .bl true := q
        subst q'
        obtain rfl : u = Value.bool true := r'
        refine ⟨rfl, OldK.of_keep fun b o e => ?_, os, bare⟩
        cases q : H b with
        | none => exact un.keep b o e q (by intro z; exact absurd (show b ∈ ([] : List Addr) from z) (by simp)) (by simp)
        | some u =>
          rcases hO b with z | ⟨ob, xs, z⟩
          · rw [q] at z; cases z
          · have z2 := un.frzs b ob _ z
            obtain ⟨e1, _⟩ := hok b _ z
            obtain ⟨e2, _⟩ := hok' b _ z2
            rw [e] at e1; cases e1
            exact e2
  cases hk : K.lookup a with
  | some o =>
    -- the script is one of the module's own objects
    have e := KX a o hk
    rw [ha] at e
    cases e
    refine core (fun _ => none) (fun _ => .inl rfl) (.inr ⟨_, vs.toArray, _, hk, rfl, rfl, rfl, by rw [List.size_toArray, lenV]; exact hl, by simpa using rv⟩) (fun b u z => by have z' : (none : Option HO) = some u := z; cases z') (fun b z => absurd rfl z) fun z => absurd rfl z
  | none =>
    refine core (fun b => if b = a then some (.frz { cls := .type "list", data := .seq vs.toArray } (.lst (ns.map V.int))) else none) (fun b => ?_) (.inl (.inr ⟨{ cls := .type "list", data := .seq vs.toArray }, if_pos rfl⟩)) (fun b u z => ?_) (fun b z => ?_) fun _ => hk
    · by_cases hb : b = a
      · exact .inr ⟨_, _, if_pos hb⟩
      · exact .inl (if_neg hb)
    · by_cases hb : b = a
      · have z' := (if_pos hb).symm.trans z
        cases z'
        subst hb
        exact ⟨ha, by rw [List.length_map]; exact hl, vs, _, rv, ha⟩
      · have z' := (if_neg hb).symm.trans z
        cases z'
    · by_cases hb : b = a
      · exact hb
      · exact absurd (if_neg hb) z
end L2
namespace L2
open PySem PySem.Spec PyProof.Rows
end L2
/- THE LAST THEOREM (shape; LID, My.* are yours):
   My.Adr: a structure of the addresses that your layer names (classes, functions); My.Txt K t: a structure (Prop) of the equations over K;
   My.txt_mk : {K} {implicit addresses ..} (e1 : nsIn K mainGlobals "law" = some (some (.ref f))) (e2 : K.lookup f = some ⟨oc, od, .func (fnOf "law" "law" params body scope dV kV doc pm an cdv ct), sl⟩) (e3 : codeIn K cdv "law" = true) .. : ∃ t, My.Txt K t
set_option maxRecDepth 100000 in
set_option maxHeartbeats 0 in
theorem PySem.Challenge.cw_LID_holds : PySem.Challenge.rw_LID.Holds := by
  w_on; o_law; k_head; (case hw => w_witness2)
  k_fill
  refine L2.walk_of (l := PySem.Challenge.rw_LID) (n := 63) (k := 40) (x := "script") (CX := fun w => ..) (sp := fun _ => My.sp_law) rfl (by decide) rfl ⟨rfl, by decide, by decide⟩ (fun w h Y => PySem.W.kIn_of Y) ?F ?S ?C
  case F =>
    intro w mg fa h KX G hmg
    have T : ∃ t, My.Txt (L2.KOf KX) t := by
      dsimp only [L2.KOf]                          -- K must stand as «<heap const> w.params» for k_is
      refine' My.txt_mk ?e1 ?e2 ?e3 ..
      (case e1 => PySem.W.k_is)                    -- in the order: a name -> its address -> its object -> its parts
      (case e2 => PySem.W.k_is)
      ..
    obtain ⟨t, T⟩ := T
    have e0 := hmg.symm.trans (PySem.W.mg_of KX G T.law)
    cases e0                                       -- fa is the law's own address
    exact ⟨_, fun s u => .of_eq rfl, fun base kb nb => My.law_fn T kb nb⟩     -- if «.of_eq rfl» comes too early: refine' ⟨_, ?b, fun base kb nb => My.law_fn T kb nb⟩; exact fun s u => .of_eq rfl
  case S => exact fun w H a ns hl hO hS => ..
  case C => exact ..
(the tactic k_is has no namespace: write k_is) -/
namespace L2
open PySem PySem.Spec PyProof.Rows
noncomputable def inClass (s : Stmt) (j : Nat) : Stmt := match s with
  | .ClassDef _ _ _ body _ _ _ _ _ _ _ => body.getD j (.Pass ⟨0, 0, 0, 0⟩)
  | _ => .Pass ⟨0, 0, 0, 0⟩
noncomputable def defArgs (s : Stmt) : Arguments := match s with
  | .FunctionDef _ a _ _ _ _ _ _ _ _ => a
  | _ => { posonlyargs := [], args := [], vararg := none, kwonlyargs := [], kw_defaults := [], kwarg := none, defaults := [] }
noncomputable def defBody (s : Stmt) : List Stmt := match s with
  | .FunctionDef _ _ b _ _ _ _ _ _ _ => b
  | _ => []
noncomputable def defScope (s : Stmt) : Scope := match s with
  | .FunctionDef _ _ _ _ _ _ sc _ _ _ => sc
  | _ => { kind := .function, names := [], isGenerator := false, isCoroutine := false }
noncomputable abbrev CX0 : CXT := fun _ _ _ _ _ _ => False
noncomputable abbrev E0 : XK := fun _ _ _ => False
theorem pass0 {X : Cx} : Passes CX0 X E0 := fun _ _ _ _ _ _ _ h => h.elim
structure Fun (K : PySem.W.Frag) (x qual : Str) (st : Stmt) (f : Addr) (fd : FuncData) : Prop where
  ex : ∃ (oc : Value) (od : Option Addr) (kV doc pm : Value) (an : Option Addr) (cdv ct : Value) (osl : Array (Option Value)),
    fd = PySem.W.fnOf x qual (defArgs st) (defBody st) (defScope st) .none kV doc pm an cdv ct ∧ K.lookup f = some ⟨oc, od, .func fd, osl⟩ ∧ PySem.W.codeIn K cdv qual = true
  kp : PySem.W.keepIn K (.ref f) = true
section
variable {P : Program} {w : World} {K : PySem.W.Frag} {mg : Str → Option Value} {base : Heap}
theorem Fun.ok {x qual : Str} {st : Stmt} {f : Addr} {fd : FuncData} {N ps : List Str} {k : Nat} {sp : Sp} (F : Fun K x qual st f fd) (S : FnScope N ps (defScope st)) (len : ∀ vs H Q E, sp vs H Q E → vs.length = ps.length)
    (hbody : ∀ (cdv : Value) (A : Around) (outer : List Env) (s : Shared) (H : Hp) (vs : List V) (Q : VK) (E : XK), Room k (A.deeper (envOfC qual (defScope st) s.heap.objs.size f cdv)) → sp vs H Q E →
      ∃ t, PSs (cxOf CX0 P w K mg base N qual (defScope st) f cdv A outer s H E).nox (defBody st) t ∧ t { nx := fun _ H' => Q .non H', rt := Q } (start N vs) H) : FnOk P w K mg base CX0 (k + 1) f fd ps sp := by
  obtain ⟨oc, od, kV, doc, pm, an, cdv, ct, osl, rfl, lk, hcd⟩ := F.ex
  refine fn_of lk hcd S len fun A outer s H vs Q E hr hsp => ?_
  obtain ⟨t, h, q⟩ := hbody cdv A outer s H vs Q E hr hsp
  exact ⟨t, h.nox, q⟩
theorem Fun.binds {x qual : Str} {st : Stmt} {f : Addr} {fd : FuncData} {ps : List Str} (F : Fun K x qual st f fd)
    (h : ∀ (kV doc pm : Value) (an : Option Addr) (cdv ct : Value) (us : List Value), us.length = ps.length → bindArgs (PySem.W.fnOf x qual (defArgs st) (defBody st) (defScope st) .none kV doc pm an cdv ct) ⟨us, []⟩ = pure (ps.zip us)) : Binds K fd ps [] := by
  obtain ⟨oc, od, kV, doc, pm, an, cdv, ct, osl, rfl, lk, hcd⟩ := F.ex
  exact .all (h kV doc pm an cdv ct)
theorem fun_mk {x qual : Str} {st : Stmt} {f : Addr} {oc : Value} {od an : Option Addr} {osl : Array (Option Value)} {kV doc pm cdv ct : Value} (l : K.lookup f = some ⟨oc, od, .func (PySem.W.fnOf x qual (defArgs st) (defBody st) (defScope st) .none kV doc pm an cdv ct), osl⟩)
    (c : PySem.W.codeIn K cdv qual = true) (k : PySem.W.keepIn K (.ref f) = true) : Fun K x qual st f (PySem.W.fnOf x qual (defArgs st) (defBody st) (defScope st) .none kV doc pm an cdv ct) := ⟨⟨oc, od, kV, doc, pm, an, cdv, ct, osl, rfl, l, c⟩, k⟩
end
theorem hu_of {A : Around} {k : Nat} (hr : Room k A) : A.units + 1 < cLine := Nat.lt_of_le_of_lt (Nat.add_le_add_left (by decide : 1 ≤ 64) _) hr.units
section
variable {X : Cx}
end
noncomputable def Same (H H' : Hp) : Prop := ∀ b o, H b = some o → H' b = some o
theorem Same.refl (H : Hp) : Same H H := fun _ _ h => h
theorem Same.trans {H H1 H2 : Hp} (a : Same H H1) (b : Same H1 H2) : Same H H2 := fun c o h => b c o (a c o h)
theorem Same.free {H H' : Hp} (e : Same H H') {l : Addr} (h : H' l = Option.none) : H l = Option.none := by
  cases q : H l with
  | none => rfl
  | some o =>
    rw [e l o q] at h
    cases h
theorem Same.seq {K : PySem.W.Frag} {H H' : Hp} {a : Addr} {xs : List V} (e : Same H H') (h : SqL K H a xs) : SqL K H' a xs := by
  rcases h with (h | ⟨o, h⟩) | h
  · exact .inl (.inl (e _ _ h))
  · exact .inl (.inr ⟨o, e _ _ h⟩)
  · exact .inr h
end L2
namespace L2
open PySem PySem.Spec PyProof.Rows
section
variable {X : Cx}
end
section
variable {κ : Type} [DecidableEq κ]
theorem valV_not {kvs : List (κ × V)} {k : κ} (h : valV kvs k = none) : ¬ k ∈ kvs.map (·.1) := by
  intro m
  obtain ⟨p, hp, e⟩ := List.mem_map.mp m
  have q : (kvs.any fun kv => decide (kv.1 = k)) = true := List.any_eq_true.mpr ⟨p, hp, decide_eq_true e⟩
  rw [valV_any, h] at q
  exact absurd q (by simp)
theorem nd_snoc : ∀ {l : List κ} {k : κ}, l.Nodup → ¬ k ∈ l → (l ++ [k]).Nodup
  | [], k, _, _ => by simp
  | a :: r, k, h, hk => by
    obtain ⟨h1, h2⟩ := List.nodup_cons.mp h
    show (a :: (r ++ [k])).Nodup
    refine List.nodup_cons.mpr ⟨fun m => ?_, nd_snoc h2 fun m => hk (List.mem_cons.mpr (Or.inr m))⟩
    rcases List.mem_append.mp m with q | q
    · exact h1 q
    · exact hk (List.mem_cons.mpr (Or.inl (List.mem_singleton.mp q).symm))
theorem nd_putK {kvs : List (κ × V)} {k : κ} (v : V) (hn : (kvs.map (·.1)).Nodup) (h : valV kvs k = none) : ((putK kvs k v).map (·.1)).Nodup := by
  rw [putK_new v h, List.map_append]
  exact nd_snoc hn (valV_not h)
end
end L2
namespace L2
open PySem PySem.Spec PyProof.Rows
section
variable {X : Cx}
noncomputable def CDivB (i j : Int) : Prop := 0 < j ∧ j.natAbs.log2 < 9000
theorem op_fdivB : OpR X (binaryOp .FloorDiv) (rI CDivB fun i j => .int (i / j)) := opI fun i j _ _ _ _ _ hc q => by
  have h1 : (0 : Int) < j := hc.1
  exact floordiv_int (by omega) (by rw [Int.fdiv_eq_ediv_of_nonneg i (by omega)]; exact q) (.inl (PyProof.noPylong_of_log2 hc.2))
theorem CDivB.small {i j : Int} (h : 0 < j) (h2 : j < 1073741824) : CDivB i j := ⟨h, by
  have h3 : j.natAbs.log2 < 30 := (Nat.log2_lt (by omega)).mpr (by omega)
  omega⟩
end
theorem ite_dec {c A B : Prop} [Decidable c] (h1 : c → A) (h2 : ¬ c → B) : if decide c = true then A else B := by
  by_cases h : c
  · rw [if_pos (decide_eq_true h)]; exact h1 h
  · rw [if_neg (fun q => h (of_decide_eq_true q))]; exact h2 h
structure DefAt (K : PySem.W.Frag) (mg : Str → Option Value) (x : Str) (st : Stmt) (ps : List Str) (f : Addr) (fd : FuncData) : Prop where
  F : Fun K x x st f fd
  B : Binds K fd ps []
  M : mg x = some (.ref f)
theorem pe_callD {X : Cx} {k : Nat} {f : Addr} {fd : FuncData} {ps : List Str} {sp : Sp} {x : Str} {st : Stmt} {p pos : Pos} {e : Expr} {es : List Expr} {t : TA} (D : DefAt X.K X.mg x st ps f fd) (G : FnOk X.prog X.w X.K X.mg X.base CX0 k f fd ps sp) (hr : Room k X.A)
    (ha : PA X (e :: es) t) (hg : Gl X x := by rfl) (hdb : (x == ("__debug__" : Str)) = false := by decide) (he : starEach (e :: es) X.env = (false, eval e X.env) :: starEach es X.env := by rfl) (hpl : (backTo pos (starEach es X.env)).any (·.1) = false := by rfl) :
    PE X (.Call (.Name x p) (e :: es) [] pos) (tCall sp [] E0 t) := pe_call G hr hg D.M D.F.kp D.B .nil pass0 ha hdb he hpl
noncomputable def Ite (K : PySem.W.Frag) (a : Addr) : It :=
  ⟨fun i H => ∃ xs x, SqL K H a xs ∧ xs[i]? = some x,
   fun i H x H' => ∃ p y, x = .ref p ∧ H p = none ∧ H' = upd H p (.tup [.int i, y]) ∧ ∀ xs, SqL K H a xs → xs[i]? = some y,
   fun i H => ∃ xs, SqL K H a xs ∧ xs.length ≤ i⟩
noncomputable def iEnum (K : PySem.W.Frag) (ta : TA) : TI := fun σ H R => ta σ H fun vs H1 => ∃ a, vs = [.ref a] ∧ (∃ xs, SqL K H1 a xs) ∧ R (Ite K a) H1
theorem bits_of_lay {ns : List Int} (h : PySem.W.WData.layableAll [PySem.W.WData.list (ns.map PySem.W.WData.int)] = true) : ∀ n ∈ ns, Builtin.Int.intBits n ≤ 2 ^ 20 := fun n hn => by
  have h1 := (PySem.W.layW_cons h).1
  have h2 := PySem.W.layableW_item h1 (PySem.W.WData.int n) (List.mem_map.mpr ⟨n, hn, rfl⟩)
  exact PyData.bits_of_layable (PySem.W.layable0_of_all (PySem.W.lay0_int h2))
section
open PySem.W PySem.Calls
theorem walk_ofL {l : PySem.W.OpenLaw} {n k : Nat} {q : Program} {loose : List Str} {XP : (Str → Option Value) → Heap → Prop} {YP : World → Heap → Prop} {d : DefRec} {K : Params → PySem.W.Frag} {CX : World → CXT} {sp : World → Sp} {x : Str}
    (hn : l.most = some n) (hn2 : n ≤ sizeLine) (hdf : d.params.defaults = []) (hr : Room k callerA)
    (hY : ∀ (w : World) (h : Heap), YP w h → (K w.params).In h)
    (F : ∀ (w : World) (mg : Str → Option Value) (fa : Addr) (h : Heap), (K w.params).In h → h.Ns mainGlobals mg → mg d.name = some (.ref fa) →
      ∃ fd : FuncData, (∀ (s : Shared) (u : Value), BindsTo s fd ⟨[u], []⟩ [(x, u)]) ∧
        ∀ base : Heap, (K w.params).In base → base.Ns mainGlobals mg → FnOk l.prog w (K w.params) mg base (CX w) k fa fd [x] (sp w))
    (hsp : ∀ (w : World) (H : Hp) (a : Addr) (ns : List Int), ns.length ≤ n → (∀ z ∈ ns, Builtin.Int.intBits z ≤ 2 ^ 20) → Only H → SqL (K w.params) H a (ns.map V.int) → sp w [.ref a] H (fun v _ => v = .bl true) fun _ _ _ => False)
    (hCX : ∀ (w : World) (H : Hp) (s : Shared) (e : Value) (s' : Shared), CX w [] H s (fun _ _ _ => False) e s' → False) :
    PySem.W.WalkO q loose XP YP l.row.toRowW d [] (fun f vs => PySem.call f vs) := by
  intro w s₀ s₁ mg mb G Y fa o pm cd doc dV kV ho hd hcd hD hmg hg args vals as hpre hlay hrd hwl hlo
  obtain rfl : dV = .none := Dflts.none hD hdf
  obtain rfl : kV = .none := Dflts.noKw hD
  obtain ⟨a, vs, ns, rfl, rfl, hobj, hints, hlen⟩ := Att.script_of hn hpre hwl
  have KX := hY w _ Y
  obtain ⟨fd, hb, hF⟩ := F w mg fa _ KX G.T.g hmg
  refine enter_call (codeAny_mono (law_call KX G.T.g G.T.b G.T.builtins G.T.nolimit hg hobj hints (Nat.le_trans hlen hn2) hr hF hb (fun H hO hS => hsp w H a ns hlen (bits_of_lay hlay) hO hS) fun H e s' => hCX w H s₁ e s') fun r s' hq => ?_)
  obtain ⟨rfl, h2, h3, h4⟩ := hq
  exact ⟨.inl ⟨.bool true, .bool true, [], rfl, fun _ => rfl, .bool true, Att.post_true l _, fun _ => ⟨List.Pairwise.nil, fun _ hm => (nomatch hm)⟩⟩, h2, h3, h4⟩
end
end L2
namespace L2
open PySem PySem.Spec PyProof.Rows
section
variable {H : Hp} {Q : VK} {σ : St} {D : Ends}
theorem r_g0 {v : V} {b : Option V} {r : St} {Z : St → Hp → Prop}  : gName 0 v (b :: r) H Z = Z (some v :: r) H := rfl
theorem r_g1 {v : V} {b : Option V} {r : St} {Z : St → Hp → Prop} {a0 : Option V} : gName 1 v (a0 :: b :: r) H Z = Z (a0 :: some v :: r) H := rfl
theorem r_g2 {v : V} {b : Option V} {r : St} {Z : St → Hp → Prop} {a0 : Option V} {a1 : Option V} : gName 2 v (a0 :: a1 :: b :: r) H Z = Z (a0 :: a1 :: some v :: r) H := rfl
theorem r_g3 {v : V} {b : Option V} {r : St} {Z : St → Hp → Prop} {a0 : Option V} {a1 : Option V} {a2 : Option V} : gName 3 v (a0 :: a1 :: a2 :: b :: r) H Z = Z (a0 :: a1 :: a2 :: some v :: r) H := rfl
theorem r_g4 {v : V} {b : Option V} {r : St} {Z : St → Hp → Prop} {a0 : Option V} {a1 : Option V} {a2 : Option V} {a3 : Option V} : gName 4 v (a0 :: a1 :: a2 :: a3 :: b :: r) H Z = Z (a0 :: a1 :: a2 :: a3 :: some v :: r) H := rfl
theorem r_g5 {v : V} {b : Option V} {r : St} {Z : St → Hp → Prop} {a0 : Option V} {a1 : Option V} {a2 : Option V} {a3 : Option V} {a4 : Option V} : gName 5 v (a0 :: a1 :: a2 :: a3 :: a4 :: b :: r) H Z = Z (a0 :: a1 :: a2 :: a3 :: a4 :: some v :: r) H := rfl
theorem r_g6 {v : V} {b : Option V} {r : St} {Z : St → Hp → Prop} {a0 : Option V} {a1 : Option V} {a2 : Option V} {a3 : Option V} {a4 : Option V} {a5 : Option V} : gName 6 v (a0 :: a1 :: a2 :: a3 :: a4 :: a5 :: b :: r) H Z = Z (a0 :: a1 :: a2 :: a3 :: a4 :: a5 :: some v :: r) H := rfl
theorem r_g7 {v : V} {b : Option V} {r : St} {Z : St → Hp → Prop} {a0 : Option V} {a1 : Option V} {a2 : Option V} {a3 : Option V} {a4 : Option V} {a5 : Option V} {a6 : Option V} : gName 7 v (a0 :: a1 :: a2 :: a3 :: a4 :: a5 :: a6 :: b :: r) H Z = Z (a0 :: a1 :: a2 :: a3 :: a4 :: a5 :: a6 :: some v :: r) H := rfl
theorem r_g8 {v : V} {b : Option V} {r : St} {Z : St → Hp → Prop} {a0 : Option V} {a1 : Option V} {a2 : Option V} {a3 : Option V} {a4 : Option V} {a5 : Option V} {a6 : Option V} {a7 : Option V} : gName 8 v (a0 :: a1 :: a2 :: a3 :: a4 :: a5 :: a6 :: a7 :: b :: r) H Z = Z (a0 :: a1 :: a2 :: a3 :: a4 :: a5 :: a6 :: a7 :: some v :: r) H := rfl
theorem r_g9 {v : V} {b : Option V} {r : St} {Z : St → Hp → Prop} {a0 : Option V} {a1 : Option V} {a2 : Option V} {a3 : Option V} {a4 : Option V} {a5 : Option V} {a6 : Option V} {a7 : Option V} {a8 : Option V} : gName 9 v (a0 :: a1 :: a2 :: a3 :: a4 :: a5 :: a6 :: a7 :: a8 :: b :: r) H Z = Z (a0 :: a1 :: a2 :: a3 :: a4 :: a5 :: a6 :: a7 :: a8 :: some v :: r) H := rfl
theorem r_g10 {v : V} {b : Option V} {r : St} {Z : St → Hp → Prop} {a0 : Option V} {a1 : Option V} {a2 : Option V} {a3 : Option V} {a4 : Option V} {a5 : Option V} {a6 : Option V} {a7 : Option V} {a8 : Option V} {a9 : Option V} : gName 10 v (a0 :: a1 :: a2 :: a3 :: a4 :: a5 :: a6 :: a7 :: a8 :: a9 :: b :: r) H Z = Z (a0 :: a1 :: a2 :: a3 :: a4 :: a5 :: a6 :: a7 :: a8 :: a9 :: some v :: r) H := rfl
theorem r_g11 {v : V} {b : Option V} {r : St} {Z : St → Hp → Prop} {a0 : Option V} {a1 : Option V} {a2 : Option V} {a3 : Option V} {a4 : Option V} {a5 : Option V} {a6 : Option V} {a7 : Option V} {a8 : Option V} {a9 : Option V} {a10 : Option V} : gName 11 v (a0 :: a1 :: a2 :: a3 :: a4 :: a5 :: a6 :: a7 :: a8 :: a9 :: a10 :: b :: r) H Z = Z (a0 :: a1 :: a2 :: a3 :: a4 :: a5 :: a6 :: a7 :: a8 :: a9 :: a10 :: some v :: r) H := rfl
theorem r_g12 {v : V} {b : Option V} {r : St} {Z : St → Hp → Prop} {a0 : Option V} {a1 : Option V} {a2 : Option V} {a3 : Option V} {a4 : Option V} {a5 : Option V} {a6 : Option V} {a7 : Option V} {a8 : Option V} {a9 : Option V} {a10 : Option V} {a11 : Option V} : gName 12 v (a0 :: a1 :: a2 :: a3 :: a4 :: a5 :: a6 :: a7 :: a8 :: a9 :: a10 :: a11 :: b :: r) H Z = Z (a0 :: a1 :: a2 :: a3 :: a4 :: a5 :: a6 :: a7 :: a8 :: a9 :: a10 :: a11 :: some v :: r) H := rfl
theorem r_g13 {v : V} {b : Option V} {r : St} {Z : St → Hp → Prop} {a0 : Option V} {a1 : Option V} {a2 : Option V} {a3 : Option V} {a4 : Option V} {a5 : Option V} {a6 : Option V} {a7 : Option V} {a8 : Option V} {a9 : Option V} {a10 : Option V} {a11 : Option V} {a12 : Option V} : gName 13 v (a0 :: a1 :: a2 :: a3 :: a4 :: a5 :: a6 :: a7 :: a8 :: a9 :: a10 :: a11 :: a12 :: b :: r) H Z = Z (a0 :: a1 :: a2 :: a3 :: a4 :: a5 :: a6 :: a7 :: a8 :: a9 :: a10 :: a11 :: a12 :: some v :: r) H := rfl
theorem r_g14 {v : V} {b : Option V} {r : St} {Z : St → Hp → Prop} {a0 : Option V} {a1 : Option V} {a2 : Option V} {a3 : Option V} {a4 : Option V} {a5 : Option V} {a6 : Option V} {a7 : Option V} {a8 : Option V} {a9 : Option V} {a10 : Option V} {a11 : Option V} {a12 : Option V} {a13 : Option V} : gName 14 v (a0 :: a1 :: a2 :: a3 :: a4 :: a5 :: a6 :: a7 :: a8 :: a9 :: a10 :: a11 :: a12 :: a13 :: b :: r) H Z = Z (a0 :: a1 :: a2 :: a3 :: a4 :: a5 :: a6 :: a7 :: a8 :: a9 :: a10 :: a11 :: a12 :: a13 :: some v :: r) H := rfl
theorem r_g15 {v : V} {b : Option V} {r : St} {Z : St → Hp → Prop} {a0 : Option V} {a1 : Option V} {a2 : Option V} {a3 : Option V} {a4 : Option V} {a5 : Option V} {a6 : Option V} {a7 : Option V} {a8 : Option V} {a9 : Option V} {a10 : Option V} {a11 : Option V} {a12 : Option V} {a13 : Option V} {a14 : Option V} : gName 15 v (a0 :: a1 :: a2 :: a3 :: a4 :: a5 :: a6 :: a7 :: a8 :: a9 :: a10 :: a11 :: a12 :: a13 :: a14 :: b :: r) H Z = Z (a0 :: a1 :: a2 :: a3 :: a4 :: a5 :: a6 :: a7 :: a8 :: a9 :: a10 :: a11 :: a12 :: a13 :: a14 :: some v :: r) H := rfl
theorem r_g16 {v : V} {b : Option V} {r : St} {Z : St → Hp → Prop} {a0 : Option V} {a1 : Option V} {a2 : Option V} {a3 : Option V} {a4 : Option V} {a5 : Option V} {a6 : Option V} {a7 : Option V} {a8 : Option V} {a9 : Option V} {a10 : Option V} {a11 : Option V} {a12 : Option V} {a13 : Option V} {a14 : Option V} {a15 : Option V} : gName 16 v (a0 :: a1 :: a2 :: a3 :: a4 :: a5 :: a6 :: a7 :: a8 :: a9 :: a10 :: a11 :: a12 :: a13 :: a14 :: a15 :: b :: r) H Z = Z (a0 :: a1 :: a2 :: a3 :: a4 :: a5 :: a6 :: a7 :: a8 :: a9 :: a10 :: a11 :: a12 :: a13 :: a14 :: a15 :: some v :: r) H := rfl
theorem r_g17 {v : V} {b : Option V} {r : St} {Z : St → Hp → Prop} {a0 : Option V} {a1 : Option V} {a2 : Option V} {a3 : Option V} {a4 : Option V} {a5 : Option V} {a6 : Option V} {a7 : Option V} {a8 : Option V} {a9 : Option V} {a10 : Option V} {a11 : Option V} {a12 : Option V} {a13 : Option V} {a14 : Option V} {a15 : Option V} {a16 : Option V} : gName 17 v (a0 :: a1 :: a2 :: a3 :: a4 :: a5 :: a6 :: a7 :: a8 :: a9 :: a10 :: a11 :: a12 :: a13 :: a14 :: a15 :: a16 :: b :: r) H Z = Z (a0 :: a1 :: a2 :: a3 :: a4 :: a5 :: a6 :: a7 :: a8 :: a9 :: a10 :: a11 :: a12 :: a13 :: a14 :: a15 :: a16 :: some v :: r) H := rfl
theorem r_g18 {v : V} {b : Option V} {r : St} {Z : St → Hp → Prop} {a0 : Option V} {a1 : Option V} {a2 : Option V} {a3 : Option V} {a4 : Option V} {a5 : Option V} {a6 : Option V} {a7 : Option V} {a8 : Option V} {a9 : Option V} {a10 : Option V} {a11 : Option V} {a12 : Option V} {a13 : Option V} {a14 : Option V} {a15 : Option V} {a16 : Option V} {a17 : Option V} : gName 18 v (a0 :: a1 :: a2 :: a3 :: a4 :: a5 :: a6 :: a7 :: a8 :: a9 :: a10 :: a11 :: a12 :: a13 :: a14 :: a15 :: a16 :: a17 :: b :: r) H Z = Z (a0 :: a1 :: a2 :: a3 :: a4 :: a5 :: a6 :: a7 :: a8 :: a9 :: a10 :: a11 :: a12 :: a13 :: a14 :: a15 :: a16 :: a17 :: some v :: r) H := rfl
theorem r_g19 {v : V} {b : Option V} {r : St} {Z : St → Hp → Prop} {a0 : Option V} {a1 : Option V} {a2 : Option V} {a3 : Option V} {a4 : Option V} {a5 : Option V} {a6 : Option V} {a7 : Option V} {a8 : Option V} {a9 : Option V} {a10 : Option V} {a11 : Option V} {a12 : Option V} {a13 : Option V} {a14 : Option V} {a15 : Option V} {a16 : Option V} {a17 : Option V} {a18 : Option V} : gName 19 v (a0 :: a1 :: a2 :: a3 :: a4 :: a5 :: a6 :: a7 :: a8 :: a9 :: a10 :: a11 :: a12 :: a13 :: a14 :: a15 :: a16 :: a17 :: a18 :: b :: r) H Z = Z (a0 :: a1 :: a2 :: a3 :: a4 :: a5 :: a6 :: a7 :: a8 :: a9 :: a10 :: a11 :: a12 :: a13 :: a14 :: a15 :: a16 :: a17 :: a18 :: some v :: r) H := rfl
theorem r_g20 {v : V} {b : Option V} {r : St} {Z : St → Hp → Prop} {a0 : Option V} {a1 : Option V} {a2 : Option V} {a3 : Option V} {a4 : Option V} {a5 : Option V} {a6 : Option V} {a7 : Option V} {a8 : Option V} {a9 : Option V} {a10 : Option V} {a11 : Option V} {a12 : Option V} {a13 : Option V} {a14 : Option V} {a15 : Option V} {a16 : Option V} {a17 : Option V} {a18 : Option V} {a19 : Option V} : gName 20 v (a0 :: a1 :: a2 :: a3 :: a4 :: a5 :: a6 :: a7 :: a8 :: a9 :: a10 :: a11 :: a12 :: a13 :: a14 :: a15 :: a16 :: a17 :: a18 :: a19 :: b :: r) H Z = Z (a0 :: a1 :: a2 :: a3 :: a4 :: a5 :: a6 :: a7 :: a8 :: a9 :: a10 :: a11 :: a12 :: a13 :: a14 :: a15 :: a16 :: a17 :: a18 :: a19 :: some v :: r) H := rfl
theorem r_g21 {v : V} {b : Option V} {r : St} {Z : St → Hp → Prop} {a0 : Option V} {a1 : Option V} {a2 : Option V} {a3 : Option V} {a4 : Option V} {a5 : Option V} {a6 : Option V} {a7 : Option V} {a8 : Option V} {a9 : Option V} {a10 : Option V} {a11 : Option V} {a12 : Option V} {a13 : Option V} {a14 : Option V} {a15 : Option V} {a16 : Option V} {a17 : Option V} {a18 : Option V} {a19 : Option V} {a20 : Option V} : gName 21 v (a0 :: a1 :: a2 :: a3 :: a4 :: a5 :: a6 :: a7 :: a8 :: a9 :: a10 :: a11 :: a12 :: a13 :: a14 :: a15 :: a16 :: a17 :: a18 :: a19 :: a20 :: b :: r) H Z = Z (a0 :: a1 :: a2 :: a3 :: a4 :: a5 :: a6 :: a7 :: a8 :: a9 :: a10 :: a11 :: a12 :: a13 :: a14 :: a15 :: a16 :: a17 :: a18 :: a19 :: a20 :: some v :: r) H := rfl
theorem r_g22 {v : V} {b : Option V} {r : St} {Z : St → Hp → Prop} {a0 : Option V} {a1 : Option V} {a2 : Option V} {a3 : Option V} {a4 : Option V} {a5 : Option V} {a6 : Option V} {a7 : Option V} {a8 : Option V} {a9 : Option V} {a10 : Option V} {a11 : Option V} {a12 : Option V} {a13 : Option V} {a14 : Option V} {a15 : Option V} {a16 : Option V} {a17 : Option V} {a18 : Option V} {a19 : Option V} {a20 : Option V} {a21 : Option V} : gName 22 v (a0 :: a1 :: a2 :: a3 :: a4 :: a5 :: a6 :: a7 :: a8 :: a9 :: a10 :: a11 :: a12 :: a13 :: a14 :: a15 :: a16 :: a17 :: a18 :: a19 :: a20 :: a21 :: b :: r) H Z = Z (a0 :: a1 :: a2 :: a3 :: a4 :: a5 :: a6 :: a7 :: a8 :: a9 :: a10 :: a11 :: a12 :: a13 :: a14 :: a15 :: a16 :: a17 :: a18 :: a19 :: a20 :: a21 :: some v :: r) H := rfl
theorem r_g23 {v : V} {b : Option V} {r : St} {Z : St → Hp → Prop} {a0 : Option V} {a1 : Option V} {a2 : Option V} {a3 : Option V} {a4 : Option V} {a5 : Option V} {a6 : Option V} {a7 : Option V} {a8 : Option V} {a9 : Option V} {a10 : Option V} {a11 : Option V} {a12 : Option V} {a13 : Option V} {a14 : Option V} {a15 : Option V} {a16 : Option V} {a17 : Option V} {a18 : Option V} {a19 : Option V} {a20 : Option V} {a21 : Option V} {a22 : Option V} : gName 23 v (a0 :: a1 :: a2 :: a3 :: a4 :: a5 :: a6 :: a7 :: a8 :: a9 :: a10 :: a11 :: a12 :: a13 :: a14 :: a15 :: a16 :: a17 :: a18 :: a19 :: a20 :: a21 :: a22 :: b :: r) H Z = Z (a0 :: a1 :: a2 :: a3 :: a4 :: a5 :: a6 :: a7 :: a8 :: a9 :: a10 :: a11 :: a12 :: a13 :: a14 :: a15 :: a16 :: a17 :: a18 :: a19 :: a20 :: a21 :: a22 :: some v :: r) H := rfl
theorem r_c {v : V} : tC v σ H Q = Q v H := rfl
theorem r_op {r : R2} {ta tb : TE} : tOp r ta tb σ H Q = ta σ H fun x H1 => tb σ H1 fun y H2 => r x y H2 Q := rfl
theorem r_un {r : V → Hp → VK → Prop} {ta : TE} : tUn r ta σ H Q = ta σ H fun x H1 => r x H1 Q := rfl
theorem decq_int {i j : Int} : decide (V.int i = V.int j) = decide (i = j) := by
  by_cases h : i = j
  · rw [decide_eq_true h, decide_eq_true (congrArg V.int h)]
  · rw [decide_eq_false h, decide_eq_false fun q => h (V.int.inj q)]
theorem decq_str {i j : Str} : decide (V.str i = V.str j) = decide (i = j) := by
  by_cases h : i = j
  · rw [decide_eq_true h, decide_eq_true (congrArg V.str h)]
  · rw [decide_eq_false h, decide_eq_false fun q => h (V.str.inj q)]
theorem r_eqI {i j : Int} : rEq (.int i) (.int j) H Q = Q (.bl (decide (i = j))) H := by
  show (scal (.int i) (.int j) = true ∧ Q (.bl (decide (V.int i = V.int j))) H) = _
  rw [decq_int]; exact propext ⟨fun h => h.2, fun h => ⟨rfl, h⟩⟩
theorem r_eqS {i j : Str} : rEq (.str i) (.str j) H Q = Q (.bl (decide (i = j))) H := by
  show (scal (.str i) (.str j) = true ∧ Q (.bl (decide (V.str i = V.str j))) H) = _
  rw [decq_str]; exact propext ⟨fun h => h.2, fun h => ⟨rfl, h⟩⟩
theorem r_neI {i j : Int} : rNe (.int i) (.int j) H Q = Q (.bl (!decide (i = j))) H := by
  show (scal (.int i) (.int j) = true ∧ Q (.bl (!decide (V.int i = V.int j))) H) = _
  rw [decq_int]; exact propext ⟨fun h => h.2, fun h => ⟨rfl, h⟩⟩
theorem r_neS {i j : Str} : rNe (.str i) (.str j) H Q = Q (.bl (!decide (i = j))) H := by
  show (scal (.str i) (.str j) = true ∧ Q (.bl (!decide (V.str i = V.str j))) H) = _
  rw [decq_str]; exact propext ⟨fun h => h.2, fun h => ⟨rfl, h⟩⟩
theorem r_exbl {c : Bool} {Z : Bool → Prop} : (∃ k, V.bl c = V.bl k ∧ Z k) = Z c := propext ⟨by rintro ⟨_, e, q⟩; cases e; exact q, by intro q; exact ⟨c, rfl, q⟩⟩
theorem r_exint {c : Int} {Z : Int → Prop} : (∃ k, V.int c = V.int k ∧ Z k) = Z c := propext ⟨by rintro ⟨_, e, q⟩; cases e; exact q, by intro q; exact ⟨c, rfl, q⟩⟩
theorem r_test {t : TE} {Z : Bool → Hp → Prop} : tTest t σ H Z = t σ H fun x H' => ∃ k, x = .bl k ∧ Z k H' := rfl
theorem r_B {t : TE} {Z : Bool → Hp → Prop} : tB t σ H Z = t σ H fun x H' => ∃ k, x = .bl k ∧ Z k H' := rfl
theorem r_and {t u : TT} {Z : Bool → Hp → Prop} : tAnd t u σ H Z = t σ H fun c H1 => if c = true then u σ H1 Z else Z false H1 := rfl
theorem r_or {t u : TT} {Z : Bool → Hp → Prop} : tOr t u σ H Z = t σ H fun c H1 => if c = true then Z true H1 else u σ H1 Z := rfl
theorem r_not {t : TT} {Z : Bool → Hp → Prop} : tNot t σ H Z = t σ H fun c H1 => Z (!c) H1 := rfl
theorem r_andV {ta tb : TE} : tAndV ta tb σ H Q = ta σ H fun x H1 => ∃ c, x = .bl c ∧ if c = true then tb σ H1 Q else Q (.bl false) H1 := rfl
theorem r_orV {ta tb : TE} : tOrV ta tb σ H Q = ta σ H fun x H1 => ∃ c, x = .bl c ∧ if c = true then Q (.bl true) H1 else tb σ H1 Q := rfl
theorem r_notV {ta : TE} : tNotV ta σ H Q = ta σ H fun x H1 => ∃ c, x = .bl c ∧ Q (.bl (!c)) H1 := rfl
theorem r_if {t : TT} {ta tb : TE} : tIf t ta tb σ H Q = t σ H fun c H1 => if c = true then ta σ H1 Q else tb σ H1 Q := rfl
theorem r_next : tNext D σ H = D.nx σ H := rfl
theorem r_seq {t u : TS} : tSeq t u D σ H = t { D with nx := u D } σ H := rfl
theorem r_brk : tBreak D σ H = D.bk σ H := rfl
theorem r_cont : tCont D σ H = D.ct σ H := rfl
theorem r_drop {te : TE} : tDrop te D σ H = te σ H fun _ H1 => D.nx σ H1 := rfl
theorem r_ret {te : TE} : tRet te D σ H = te σ H D.rt := rfl
theorem r_retN : tRetN D σ H = D.rt .non H := rfl
theorem r_ifS {c : TT} {t u : TS} : tIfS c t u D σ H = c σ H fun b H1 => if b = true then t D σ H1 else u D σ H1 := rfl
theorem r_asg {te : TE} {g : TG} : tAsg te g D σ H = te σ H fun x H1 => g x σ H1 D.nx := rfl
theorem r_CB {r : List V → Hp → VK → Prop} {t : TA} : tCB r t σ H Q = t σ H fun vs H1 => r vs H1 Q := rfl
theorem r_nil {Z : List V → Hp → Prop} : tNil σ H Z = Z [] H := rfl
theorem r_cons {ta : TE} {tr : TA} {Z : List V → Hp → Prop} : tCons ta tr σ H Z = ta σ H fun x H1 => tr σ H1 fun xs H2 => Z (x :: xs) H2 := rfl
theorem r_call {sp : Sp} {E : XK} {t : TA} : tCall sp [] E t σ H Q = t σ H fun vs H1 => sp vs H1 Q E := by
  show (t σ H fun vs H1 => sp (vs ++ []) H1 Q E) = _
  simp only [List.append_nil]
theorem r_tup {t : TA} : tTup t σ H Q = t σ H fun xs H1 => xs.length ≤ sizeLine ∧ ∀ p, H1 p = none → Q (.ref p) (upd H1 p (.tup xs)) := rfl
theorem r_lst {t : TA} : tLst t σ H Q = t σ H fun xs H1 => xs.length ≤ sizeLine ∧ ∀ p, H1 p = none → Q (.ref p) (upd H1 p (.lst xs)) := rfl
theorem r_p0 {Z : List (V × V) → Hp → Prop} : tPairs [] σ H Z = Z [] H := rfl
theorem r_pS {tk tv : TE} {r : List (TE × TE)} {Z : List (V × V) → Hp → Prop} : tPairs ((tk, tv) :: r) σ H Z = tk σ H fun x H1 => tv σ H1 fun y H2 => tPairs r σ H2 fun ps H3 => Z ((x, y) :: ps) H3 := rfl
theorem r_disp {trs : List (TE × TE)} : tDisp trs σ H Q = ∀ p, H p = none → tPairs trs σ (upd H p (.dK [])) fun ps H2 => H2 p = some (.dK []) ∧ ∃ kvs : List (Key × V), ps = kvs.map (fun kv => (kV kv.1, kv.2)) ∧ kvs.length ≤ 15 ∧ Q (.ref p) (upd H2 p (.dK (mergeK [] kvs))) := rfl
theorem r_dget {td ty : TE} : tDGet td ty σ H Q = td σ H fun x H1 => ty σ H1 fun y H2 => ∃ a v, x = .ref a ∧ DGet H2 a y (some v) ∧ Q v H2 := rfl
theorem r_sl {r : V → Option Int → Option Int → Hp → VK → Prop} {te : TE} {tl th : TO} : tSl r te tl th σ H Q = te σ H fun x H1 => tl σ H1 fun l H2 => th σ H2 fun u H3 => r x l u H3 Q := rfl
theorem r_noPart {Z : Option Int → Hp → Prop} : tNoPart σ H Z = Z none H := rfl
theorem r_part {te : TE} {Z : Option Int → Hp → Prop} : tPart te σ H Z = te σ H fun x H1 => ∃ i, x = .int i ∧ Z (some i) H1 := rfl
theorem r_gNil {Z : St → Hp → Prop} : gNil [] σ H Z = Z σ H := propext ⟨fun h => h.2, fun h => ⟨rfl, h⟩⟩
theorem r_gCons {t : TG} {u : TGs} {v : V} {r : List V} {Z : St → Hp → Prop} : gCons t u (v :: r) σ H Z = t v σ H fun σ' H' => u r σ' H' Z := propext ⟨by rintro ⟨_, _, e, q⟩; cases e; exact q, by intro q; exact ⟨v, r, rfl, q⟩⟩
theorem r_itF {A B : Prop} : (if false = true then A else B) = B := if_neg Bool.false_ne_true
theorem r_nT : (!true) = false := rfl
theorem r_nF : (!false) = true := rfl
theorem r_len0 : (([] : List V).length ≤ sizeLine) = True := eq_true (by show 0 ≤ sizeLine; decide)
theorem r_len1 {a0 : V} : (([a0] : List V).length ≤ sizeLine) = True := eq_true (by show 1 ≤ sizeLine; decide)
theorem r_len2 {a0 a1 : V} : (([a0, a1] : List V).length ≤ sizeLine) = True := eq_true (by show 2 ≤ sizeLine; decide)
theorem r_len3 {a0 a1 a2 : V} : (([a0, a1, a2] : List V).length ≤ sizeLine) = True := eq_true (by show 3 ≤ sizeLine; decide)
theorem r_len4 {a0 a1 a2 a3 : V} : (([a0, a1, a2, a3] : List V).length ≤ sizeLine) = True := eq_true (by show 4 ≤ sizeLine; decide)
theorem r_len7 {a0 a1 a2 a3 a4 a5 a6 : V} : (([a0, a1, a2, a3, a4, a5, a6] : List V).length ≤ sizeLine) = True := eq_true (by show 7 ≤ sizeLine; decide)
theorem r_len8 {a0 a1 a2 a3 a4 a5 a6 a7 : V} : (([a0, a1, a2, a3, a4, a5, a6, a7] : List V).length ≤ sizeLine) = True := eq_true (by show 8 ≤ sizeLine; decide)
end
noncomputable def ForW (J : It) (g : TG) (tb : TS) (D : Ends) (σ : St) (H1 : Hp) : Prop := ∃ W : Nat → Nat → St → Hp → Prop, (∃ m, W 0 m σ H1) ∧ ∀ i m σ H, W i m σ H →
  (J.stop i H ∧ D.nx σ H) ∨ (J.go i H ∧ ∃ N : St → Hp → Prop, (∀ σ' H', N σ' H' → ∃ m', m' < m ∧ W (i + 1) m' σ' H') ∧ ∀ x H', J.yld i H x H' → g x σ H' fun σ2 H2 => tb { D with nx := N, ct := N, bk := D.nx } σ2 H2)
section
variable {g : TG} {tb : TS} {D : Ends} {σ : St} {H : Hp}
theorem r_for {wi : TI} : tFor wi g tb D σ H = wi σ H fun J H1 => ForW J g tb D σ H1 := rfl
theorem r_iEnum {K : PySem.W.Frag} {ta : TA} {R : It → Hp → Prop} : iEnum K ta σ H R = ta σ H fun vs H1 => ∃ a, vs = [.ref a] ∧ (∃ xs, SqL K H1 a xs) ∧ R (Ite K a) H1 := rfl
theorem r_iList {K : PySem.W.Frag} {tl : TE} {R : It → Hp → Prop} : iList K tl σ H R = tl σ H fun x H1 => ∃ a, x = .ref a ∧ (∃ xs, SqL K H1 a xs) ∧ R (Itl K a) H1 := rfl
theorem r_iTup {K : PySem.W.Frag} {tl : TE} {R : It → Hp → Prop} : iTup K tl σ H R = tl σ H fun x H1 => ∃ a, x = .ref a ∧ (∃ xs, SqT K H1 a xs) ∧ R (Itt K a) H1 := rfl
theorem r_iRng1 {ta : TA} {R : It → Hp → Prop} : iRng1 ta σ H R = ta σ H fun vs H1 => ∃ j : Int, vs = [.int j] ∧ -(2 ^ 62) ≤ j ∧ j < 2 ^ 62 ∧ R (Itr 0 j.toNat) H1 := rfl
theorem r_iRng2 {ta : TA} {R : It → Hp → Prop} : iRng2 ta σ H R = ta σ H fun vs H1 => ∃ i j : Int, vs = [.int i, .int j] ∧ (-(2 ^ 62) ≤ i ∧ i < 2 ^ 62 ∧ -(2 ^ 62) ≤ j ∧ j < 2 ^ 62) ∧ R (Itr i (j - i).toNat) H1 := rfl
theorem r_exI1 {c : Int} {Z : Int → Prop} : (∃ k, [V.int c] = [V.int k] ∧ Z k) = Z c := propext ⟨by rintro ⟨_, e, q⟩; cases e; exact q, by intro q; exact ⟨c, rfl, q⟩⟩
theorem r_exI2 {c d : Int} {Z : Int → Int → Prop} : (∃ k l, [V.int c, V.int d] = [V.int k, V.int l] ∧ Z k l) = Z c d := propext ⟨by rintro ⟨_, _, e, q⟩; cases e; exact q, by intro q; exact ⟨c, d, rfl, q⟩⟩
theorem r_exR {c : Addr} {Z : Addr → Prop} : (∃ k, V.ref c = V.ref k ∧ Z k) = Z c := propext ⟨by rintro ⟨_, e, q⟩; cases e; exact q, by intro q; exact ⟨c, rfl, q⟩⟩
theorem fw_range {lo : Int} {n : Nat} (Pv : Nat → St → Hp → Prop) (h0 : Pv 0 σ H)
    (hs : ∀ (i : Nat) σ H, i < n → Pv i σ H → g (.int (lo + i)) σ H fun σ2 H2 => tb { D with nx := Pv (i + 1), ct := Pv (i + 1), bk := D.nx } σ2 H2) (hd : ∀ σ H, Pv n σ H → D.nx σ H) : ForW (Itr lo n) g tb D σ H := for_range Pv h0 hs hd
theorem fw_range0 {n : Nat} (Pv : Nat → St → Hp → Prop) (h0 : Pv 0 σ H)
    (hs : ∀ (i : Nat) σ H, i < n → Pv i σ H → g (.int (i : Int)) σ H fun σ2 H2 => tb { D with nx := Pv (i + 1), ct := Pv (i + 1), bk := D.nx } σ2 H2) (hd : ∀ σ H, Pv n σ H → D.nx σ H) : ForW (Itr 0 n) g tb D σ H :=
  fw_range Pv h0 (fun i σ H hi p => by rw [Int.zero_add]; exact hs i σ H hi p) hd
theorem fw_list {K : PySem.W.Frag} {a : Addr} {xs : List V} (Pv : Nat → St → Hp → Prop) (h0 : Pv 0 σ H) (hl : ∀ i σ H, i ≤ xs.length → Pv i σ H → SqL K H a xs)
    (hs : ∀ (i : Nat) x σ H, xs[i]? = some x → Pv i σ H → g x σ H fun σ2 H2 => tb { D with nx := Pv (i + 1), ct := Pv (i + 1), bk := D.nx } σ2 H2) (hd : ∀ σ H, Pv xs.length σ H → D.nx σ H) : ForW (Itl K a) g tb D σ H := for_list Pv h0 hl hs hd
theorem Same.upd {H : Hp} {p : Addr} {o : HO} (h : H p = none) : Same H (upd H p o) := fun b u e => by rw [upd_ne (ne_of_none e h)]; exact e
theorem Same.seqT {K : PySem.W.Frag} {H H' : Hp} {a : Addr} {xs : List V} (e : Same H H') (h : SqT K H a xs) : SqT K H' a xs := by
  rcases h with (h | ⟨o, h⟩) | h
  · exact .inl (.inl (e _ _ h))
  · exact .inl (.inr ⟨o, e _ _ h⟩)
  · exact .inr h
end
section
variable {H : Hp} {Q : VK} {σ : St} {D : Ends} {K : PySem.W.Frag}
theorem r_bm {T : String} {r : V → List V → Hp → VK → Prop} {to : TE} {t : TA} : tBM K T r to t σ H Q = to σ H fun x H1 => tyV K T x H1 ∧ t σ H1 fun xs H2 => r x xs H2 Q := rfl
theorem r_bm0 {T : String} {r : V → List V → Hp → VK → Prop} {to : TE} : tBM0 K T r to σ H Q = to σ H fun x H1 => tyV K T x H1 ∧ r x [] H1 Q := rfl
theorem r_ixS {z : Str} {i : Int} : rIxS (.str z) (.int i) H Q = (z.length ≤ sizeLine ∧ ∃ c, atI z.cps.toList i = some c ∧ Q (.str ⟨#[c]⟩) H) := propext ⟨by rintro ⟨_, _, c, e1, e2, h1, h2, q⟩; cases e1; cases e2; exact ⟨h1, c, h2, q⟩, by rintro ⟨h1, c, h2, q⟩; exact ⟨_, _, c, rfl, rfl, h1, h2, q⟩⟩
theorem r_ixL {p : Addr} {i : Int} : rIxL K (.ref p) (.int i) H Q = ∃ xs v, SqL K H p xs ∧ atI xs i = some v ∧ Q v H := propext ⟨by rintro ⟨_, xs, _, v, e1, e2, h1, h2, q⟩; cases e1; cases e2; exact ⟨xs, v, h1, h2, q⟩, by rintro ⟨xs, v, h1, h2, q⟩; exact ⟨_, xs, _, v, rfl, rfl, h1, h2, q⟩⟩
theorem r_ixT {p : Addr} {i : Int} : rIxT K (.ref p) (.int i) H Q = ∃ xs v, SqT K H p xs ∧ atI xs i = some v ∧ Q v H := propext ⟨by rintro ⟨_, xs, _, v, e1, e2, h1, h2, q⟩; cases e1; cases e2; exact ⟨xs, v, h1, h2, q⟩, by rintro ⟨xs, v, h1, h2, q⟩; exact ⟨_, xs, _, v, rfl, rfl, h1, h2, q⟩⟩
theorem r_cat {a b : Addr} : rCat (.ref a) (.ref b) H Q = ∃ xs zs, H a = some (.lst xs) ∧ H b = some (.lst zs) ∧ xs.length + zs.length ≤ sizeLine ∧ ∀ p, H p = none → Q (.ref p) (upd H p (.lst (xs ++ zs))) := propext ⟨by rintro ⟨_, _, xs, zs, e1, e2, h⟩; cases e1; cases e2; exact ⟨xs, zs, h⟩, by rintro ⟨xs, zs, h⟩; exact ⟨_, _, xs, zs, rfl, rfl, h⟩⟩
theorem r_slL {a : Addr} {lo hi : Option Int} : rSlL K (.ref a) lo hi H Q = ∃ xs, SqL K H a xs ∧ ∀ p, H p = none → Q (.ref p) (upd H p (.lst (cutV xs lo hi))) := propext ⟨by rintro ⟨_, xs, e1, h⟩; cases e1; exact ⟨xs, h⟩, by rintro ⟨xs, h⟩; exact ⟨_, xs, rfl, h⟩⟩
theorem r_append {a : Addr} {y : V} : rAppend (.ref a) [y] H Q = ∃ xs, H a = some (.lst xs) ∧ xs.length < sizeLine ∧ Q .non (upd H a (.lst (xs ++ [y]))) := propext ⟨by rintro ⟨_, xs, _, e1, e2, h⟩; cases e1; cases e2; exact ⟨xs, h⟩, by rintro ⟨xs, h⟩; exact ⟨_, xs, _, rfl, rfl, h⟩⟩
theorem r_exRl {a : Addr} {Z : Addr → List V → Prop} : (∃ p ys, [V.ref a] = [V.ref p] ∧ Z p ys) = ∃ ys, Z a ys := propext ⟨by rintro ⟨_, ys, e1, q⟩; cases e1; exact ⟨ys, q⟩, by rintro ⟨ys, q⟩; exact ⟨a, ys, rfl, q⟩⟩
theorem r_intB {c : Bool} {Z : Int → Prop} {Y : Bool → Prop} : ((∃ i, [V.bl c] = [V.int i] ∧ Z i) ∨ ∃ k, [V.bl c] = [V.bl k] ∧ Y k) = Y c := propext ⟨fun h => (by rcases h with ⟨_, e, q⟩ | ⟨_, e, q⟩ <;> cases e <;> exact q), fun q => Or.inr ⟨c, rfl, q⟩⟩
end
end L2
namespace L2
open PySem PySem.Spec PyProof.Rows
section
variable {prog : Program} {w : World} {A : Around} {R : Result → Shared → Prop} {s : Shared}
end
end L2
namespace L2
open PySem PySem.Spec PyProof.Rows
inductive Dq (K : PySem.W.Frag) (H : Hp) : Nat → V → V → Bool → Prop where
  | flat {n : Nat} {x y : V} (fx : flatV x = true) (fy : flatV y = true) : Dq K H n x y (eqV x y)
  | same {n : Nat} {a : Addr} : Dq K H n (.ref a) (.ref a) true
  | lists {n : Nat} {a b : Addr} {xs ys : List V} (e : Nat → Bool) (ne : a ≠ b) (ha : SqL K H a xs) (hb : SqL K H b ys) (hl : xs.length = ys.length)
      (he : ∀ (j : Nat) x y, xs[j]? = some x → ys[j]? = some y → Dq K H n x y (e j)) : Dq K H (n + 1) (.ref a) (.ref b) ((List.range xs.length).all e)
  | lens {n : Nat} {a b : Addr} {xs ys : List V} (ne : a ≠ b) (ha : SqL K H a xs) (hb : SqL K H b ys) (hl : ¬ xs.length = ys.length) : Dq K H (n + 1) (.ref a) (.ref b) false
  | tups {n : Nat} {a b : Addr} {xs ys : List V} (e : Nat → Bool) (ne : a ≠ b) (ha : SqT K H a xs) (hb : SqT K H b ys)
      (he : ∀ (j : Nat) x y, xs[j]? = some x → ys[j]? = some y → Dq K H n x y (e j)) : Dq K H (n + 1) (.ref a) (.ref b) ((List.range (min xs.length ys.length)).all e && xs.length == ys.length)
section
variable {X : Cx} {pins : List (Addr × Obj)} {σ : St} {H : Hp} {s : Shared}
theorem el_of {xs : List V} {its : List Value} (r : Vals xs its) {j : Nat} (h : j < its.toArray.size) : ∃ x, xs[j]? = some x ∧ RelV x its.toArray[j] := by
  have hl := r.length
  have hj : j < xs.length := by simpa [hl] using h
  obtain ⟨u, hu, ru⟩ := r.get (List.getElem?_eq_getElem hj)
  have e : its.toArray[j] = u := by
    have h2 : its[j]? = some u := hu
    have h3 : j < its.length := by simpa using h
    rw [List.getElem?_eq_getElem h3] at h2
    simpa using h2
  exact ⟨xs[j], List.getElem?_eq_getElem hj, by rw [e]; exact ru⟩
theorem Dq.at (I : Inv X pins σ H s) {n : Nat} {x y : V} {b : Bool} (d : Dq X.K H n x y b) : ∀ {A : Around} {v u : Value}, RelV x v → RelV y u → A.units + n < cLine → SeqAt.EqAt A s v u b := by
  induction d with
  | flat fx fy => intro A v u rv ru _; exact eqAt_V rv ru fx fy
  | same => intro A v u rv ru _; cases rv; cases ru; exact SeqAt.EqAt.same _
  | @lists n a b xs ys e ne ha hb hl he ih =>
    intro A v u rv ru hu
    cases rv; cases ru
    obtain ⟨its, r, p, _⟩ := I.list ha
    obtain ⟨its2, r2, p2, _⟩ := I.list hb
    have e1 := r.length
    have e2 := r2.length
    have z := SeqAt.RcAt.lists (A := A) (e := e) p.isList p2.isList (by simp; omega) (by omega) fun j h1 h2 => by
      obtain ⟨x, hx, rx⟩ := el_of r h1
      obtain ⟨y, hy, ry⟩ := el_of r2 h2
      exact ih j x y hx hy rx ry (by show A.units + 1 + n < cLine; omega)
    have e3 : its.toArray.size = xs.length := by simp [e1]
    rw [e3] at z
    exact SeqAt.EqAt.of_refs ne z
  | @lens n a b xs ys ne ha hb hl =>
    intro A v u rv ru hu
    cases rv; cases ru
    obtain ⟨its, r, p, _⟩ := I.list ha
    obtain ⟨its2, r2, p2, _⟩ := I.list hb
    have e1 := r.length
    have e2 := r2.length
    exact SeqAt.EqAt.of_refs ne (SeqAt.RcAt.lists_lengths (A := A) p.isList p2.isList (by simp; omega) (by omega))
  | @tups n a b xs ys e ne ha hb he ih =>
    intro A v u rv ru hu
    cases rv; cases ru
    obtain ⟨its, r, p, _⟩ := I.tuple ha
    obtain ⟨its2, r2, p2, _⟩ := I.tuple hb
    have e1 := r.length
    have e2 := r2.length
    have z := SeqAt.RcAt.tuples (A := A) (e := e) (show s.heap.IsTuple a its.toArray from p) (show s.heap.IsTuple b its2.toArray from p2) (by omega) fun j h1 h2 => by
      obtain ⟨x, hx, rx⟩ := el_of r h1
      obtain ⟨y, hy, ry⟩ := el_of r2 h2
      exact ih j x y hx hy rx ry (by show A.units + 1 + n < cLine; omega)
    have e3 : its.toArray.size = xs.length := by simp [e1]
    have e4 : its2.toArray.size = ys.length := by simp [e2]
    rw [e3, e4] at z
    exact SeqAt.EqAt.of_refs ne z
end
inductive Rq (K : PySem.W.Frag) (H : Hp) (n : Nat) : V → V → Bool → Prop where
  | lists {a b : Addr} {xs ys : List V} (e : Nat → Bool) (ha : SqL K H a xs) (hb : SqL K H b ys) (hl : xs.length = ys.length)
      (he : ∀ (j : Nat) x y, xs[j]? = some x → ys[j]? = some y → Dq K H n x y (e j)) : Rq K H n (.ref a) (.ref b) ((List.range xs.length).all e)
  | lens {a b : Addr} {xs ys : List V} (ha : SqL K H a xs) (hb : SqL K H b ys) (hl : ¬ xs.length = ys.length) : Rq K H n (.ref a) (.ref b) false
  | tups {a b : Addr} {xs ys : List V} (e : Nat → Bool) (ha : SqT K H a xs) (hb : SqT K H b ys)
      (he : ∀ (j : Nat) x y, xs[j]? = some x → ys[j]? = some y → Dq K H n x y (e j)) : Rq K H n (.ref a) (.ref b) ((List.range (min xs.length ys.length)).all e && xs.length == ys.length)
noncomputable def rEqD (K : PySem.W.Frag) (n : Nat) : R2 := fun x y H Q => ∃ b, Rq K H n x y b ∧ Q (.bl b) H
noncomputable def rNeD (K : PySem.W.Frag) (n : Nat) : R2 := fun x y H Q => ∃ b, Rq K H n x y b ∧ Q (.bl (!b)) H
section
variable {X : Cx}
theorem op_eqD {n : Nat} (hu : X.A.units + (n + 1) < cLine) : OpR X (compareOp .Eq) (rEqD X.K n) := by
  intro pins s σ H x y v u Q I rx ry h
  obtain ⟨b, d, q⟩ := h
  cases d with
  | @lists a c xs ys e ha hb hl he =>
    cases rx; cases ry
    obtain ⟨its, r, p, _⟩ := I.list ha
    obtain ⟨its2, r2, p2, _⟩ := I.list hb
    have e1 := r.length
    have e2 := r2.length
    have e3 : its.toArray.size = xs.length := by simp [e1]
    refine SeqAt.eq_listAt (e := e) p.isList p2.isList (by simp; omega) (by omega) (fun j h1 h2 => ?_) ⟨.bl _, H, I, rfl, by rw [e3]; exact q⟩
    obtain ⟨x, hx, rx⟩ := el_of r h1
    obtain ⟨y, hy, ry⟩ := el_of r2 h2
    exact (he j x y hx hy).at I rx ry (by show X.A.units + 1 + n < cLine; omega)
  | @lens a c xs ys ha hb hl =>
    cases rx; cases ry
    obtain ⟨its, r, p, _⟩ := I.list ha
    obtain ⟨its2, r2, p2, _⟩ := I.list hb
    have e1 := r.length
    have e2 := r2.length
    exact SeqAt.eq_list_lengthsAt p.isList p2.isList (by simp; omega) (by omega) ⟨.bl _, H, I, rfl, q⟩
  | @tups a c xs ys e ha hb he =>
    cases rx; cases ry
    obtain ⟨its, r, p, _⟩ := I.tuple ha
    obtain ⟨its2, r2, p2, _⟩ := I.tuple hb
    have e1 := r.length
    have e2 := r2.length
    have e3 : its.toArray.size = xs.length := by simp [e1]
    have e4 : its2.toArray.size = ys.length := by simp [e2]
    refine SeqAt.eq_tupleAt (e := e) (show s.heap.IsTuple a its.toArray from p) (show s.heap.IsTuple c its2.toArray from p2) (by omega) (fun j h1 h2 => ?_) ⟨.bl _, H, I, rfl, by rw [e3, e4]; exact q⟩
    obtain ⟨x, hx, rx⟩ := el_of r h1
    obtain ⟨y, hy, ry⟩ := el_of r2 h2
    exact (he j x y hx hy).at I rx ry (by show X.A.units + 1 + n < cLine; omega)
theorem op_neD {n : Nat} (hu : X.A.units + (n + 1) < cLine) : OpR X (compareOp .NotEq) (rNeD X.K n) := by
  intro pins s σ H x y v u Q I rx ry h
  obtain ⟨b, d, q⟩ := h
  cases d with
  | @lists a c xs ys e ha hb hl he =>
    cases rx; cases ry
    obtain ⟨its, r, p, _⟩ := I.list ha
    obtain ⟨its2, r2, p2, _⟩ := I.list hb
    have e1 := r.length
    have e2 := r2.length
    have e3 : its.toArray.size = xs.length := by simp [e1]
    refine SeqAt.RcNeAt.lists (A := X.A) (e := e) p.isList p2.isList (by simp; omega) (by omega) (fun j h1 h2 => ?_) X.prog X.w X.xe _ ⟨.bl _, H, I, rfl, by rw [e3]; exact q⟩
    obtain ⟨x, hx, rx⟩ := el_of r h1
    obtain ⟨y, hy, ry⟩ := el_of r2 h2
    exact (he j x y hx hy).at I rx ry (by show X.A.units + 1 + n < cLine; omega)
  | @lens a c xs ys ha hb hl =>
    cases rx; cases ry
    obtain ⟨its, r, p, _⟩ := I.list ha
    obtain ⟨its2, r2, p2, _⟩ := I.list hb
    have e1 := r.length
    have e2 := r2.length
    exact SeqAt.RcNeAt.lists_lengths (A := X.A) p.isList p2.isList (by simp; omega) (by omega) X.prog X.w X.xe _ ⟨.bl _, H, I, rfl, q⟩
  | @tups a c xs ys e ha hb he =>
    cases rx; cases ry
    obtain ⟨its, r, p, _⟩ := I.tuple ha
    obtain ⟨its2, r2, p2, _⟩ := I.tuple hb
    have e1 := r.length
    have e2 := r2.length
    have e3 : its.toArray.size = xs.length := by simp [e1]
    have e4 : its2.toArray.size = ys.length := by simp [e2]
    refine SeqAt.RcNeAt.tuples (A := X.A) (e := e) (show s.heap.IsTuple a its.toArray from p) (show s.heap.IsTuple c its2.toArray from p2) (by omega) (fun j h1 h2 => ?_) X.prog X.w X.xe _ ⟨.bl _, H, I, rfl, by rw [e3, e4]; exact q⟩
    obtain ⟨x, hx, rx⟩ := el_of r h1
    obtain ⟨y, hy, ry⟩ := el_of r2 h2
    exact (he j x y hx hy).at I rx ry (by show X.A.units + 1 + n < cLine; omega)
end
theorem eqV_self {x : V} (h : flatV x = true) : eqV x x = true := by
  cases x <;> first | rfl | (exact absurd h Bool.false_ne_true) | (simp [eqV])
end L2
namespace L2
open PySem PySem.Spec PyProof.Rows
noncomputable def clOf (cells : List (Str × Addr)) : List (Str × NameKind) → List (Str × Addr) → List (Str × Addr)
  | [], acc => acc
  | (n, k) :: r, acc => if k == .free then clOf cells r ((n, (cells.lookup n).getD 0) :: acc) else clOf cells r acc
theorem closureFor_cl {scope : Scope} {env : Env} (h : ∀ y ∈ scope.names, y.2 = .free → ∃ c, env.cells.lookup y.1 = some c) : closureFor scope env = pure (clOf env.cells scope.names []) := by
  have key : ∀ (names : List (Str × NameKind)) (acc : List (Str × Addr)), (∀ y ∈ names, y.2 = .free → ∃ c, env.cells.lookup y.1 = some c) →
      (forIn names acc fun x (r : List (Str × Addr)) => match x with
        | (name, kind) => if (kind == .free) = true then do let c ← cellOf env name; pure (ForInStep.yield ((name, c) :: r)) else pure (ForInStep.yield r)) = (pure (clOf env.cells names acc) : Sem (List (Str × Addr))) := by
    intro names
    induction names with
    | nil => intro acc _; rfl
    | cons y r ih =>
      intro acc hy
      obtain ⟨n, k⟩ := y
      rw [List.forIn_cons]
      cases hk : (k == NameKind.free) with
      | true =>
        have hk' : k = .free := by simpa using hk
        obtain ⟨c, hc⟩ := hy (n, k) List.mem_cons_self hk'
        have e : cellOf env n = pure c := by unfold cellOf; rw [show env.cells.lookup n = some c from hc]
        simp only [hk, if_true, e, pure_bind]
        rw [ih _ fun z hz => hy z (List.mem_cons_of_mem _ hz)]
        simp only [clOf, hk, if_true]
        rw [show env.cells.lookup n = some c from hc]
        rfl
      | false =>
        simp only [hk, Bool.false_eq_true, if_false, pure_bind]
        rw [ih _ fun z hz => hy z (List.mem_cons_of_mem _ hz)]
        simp only [clOf, hk, Bool.false_eq_true, if_false]
  refine (show closureFor scope env = ((forIn scope.names [] fun x (r : List (Str × Addr)) => match x with
        | (name, kind) => if (kind == .free) = true then do let c ← cellOf env name; pure (ForInStep.yield ((name, c) :: r)) else pure (ForInStep.yield r)) >>= fun cs => pure cs) from rfl).trans ?_
  rw [key scope.names [] h]
  rfl
theorem clOf_sub {cells : List (Str × Addr)} : ∀ {names : List (Str × NameKind)} {acc : List (Str × Addr)}, (∀ y ∈ names, y.2 = .free → ∃ c, cells.lookup y.1 = some c) → (∀ y c, acc.lookup y = some c → cells.lookup y = some c) →
    ∀ y c, (clOf cells names acc).lookup y = some c → cells.lookup y = some c
  | [], _, _, ha => ha
  | (n, k) :: r, acc, hn, ha => by
    intro y c
    unfold clOf
    split
    · next hk =>
      refine clOf_sub (fun z hz => hn z (List.mem_cons_of_mem _ hz)) (fun z d hz => ?_) y c
      obtain ⟨e, he⟩ := hn (n, k) List.mem_cons_self (by simpa using hk)
      rw [List.lookup_cons] at hz
      split at hz
      · next hq =>
        have : z = n := by simpa using hq
        subst this
        have he' : cells.lookup z = some e := he
        rw [he'] at hz ⊢
        exact hz
      · exact ha z d hz
    · exact clOf_sub (fun z hz => hn z (List.mem_cons_of_mem _ hz)) ha y c
theorem clOf_acc {cells : List (Str × Addr)} {y : Str} : ∀ {names : List (Str × NameKind)} {acc : List (Str × Addr)}, (∃ c, acc.lookup y = some c) → ∃ c, (clOf cells names acc).lookup y = some c
  | [], _, h => h
  | (n, k) :: r, acc, h => by
    unfold clOf
    split
    · refine clOf_acc ?_
      rw [List.lookup_cons]
      split
      · exact ⟨_, rfl⟩
      · exact h
    · exact clOf_acc h
theorem clOf_has {cells : List (Str × Addr)} {y : Str} : ∀ {names : List (Str × NameKind)} {acc : List (Str × Addr)}, (y, NameKind.free) ∈ names → ∃ c, (clOf cells names acc).lookup y = some c
  | (n, k) :: r, acc, h => by
    unfold clOf
    rcases List.mem_cons.mp h with e | e
    · cases e
      rw [if_pos (by rfl)]
      exact clOf_acc ⟨(cells.lookup y).getD 0, by rw [List.lookup_cons, beq_self_eq_true]⟩
    · split
      · exact clOf_has e
      · exact clOf_has e
structure Bk where
  C : Addr
  fp : List Addr
  s₂ : Shared
  H₂ : Hp
noncomputable def Cx.blk (X : Cx) (N' : List Str) (scope : Scope) (b : Bk) : Cx :=
  { prog := X.prog, w := X.w, K := X.K, mg := X.mg, base := X.base, A := X.A, N := N', s₀ := b.s₂, H₀ := b.H₂, env := compEnvC scope (clOf X.env.cells scope.names []) b.C X.env, outer := X.stack, stack := X.stack, ex := b.fp, fn := fun _ => false, calm := X.calm, pn := [], xe := fun _ _ => False }
noncomputable def blkSt (os : List (Option V)) (ci : List Nat) (σ : St) : St := none :: (os ++ ci.map fun i => (σ[i]?).join)
noncomputable def CompGW (J : It) (g : TG) (tt : TT) (te : TE) (nt : Nat) (ci : List Nat) (σ : St) (acc : Addr) (Q : Hp → Prop) (H0 : Hp) : Prop := ∃ W : Nat → Nat → List V → Hp → Prop, (∃ m, W 0 m [] H0) ∧ ∀ i m ys H, W i m ys H →
  (J.stop i H ∧ Q H) ∨ (J.go i H ∧ ∃ N : List V → Hp → Prop, (∀ zs H', N zs H' → ∃ m', m' < m ∧ W (i + 1) m' zs H') ∧ ∀ y H' os, os.length = nt → J.yld i H y H' → g y (blkSt os ci σ) H' fun σ1 H1 => (∃ os', os'.length = nt ∧ σ1 = blkSt os' ci σ) ∧ tt σ1 H1 fun b H2 =>
    if b = true then te σ1 H2 fun z H3 => H3 acc = some (.lst ys) ∧ ys.length < sizeLine ∧ N (ys ++ [z]) (upd H3 acc (.lst (ys ++ [z]))) else N ys H2)
noncomputable def tCompG (wi : TI) (g : Bk → TG) (tt : Bk → TT) (te : Bk → TE) (nt : Nat) (ci : List Nat) : TE := fun σ H Q => wi σ H fun J H1 => ∀ acc, H1 acc = none → ∀ bk : Bk, CompGW J (g bk) (tt bk) (te bk) nt ci σ acc (fun H' => Q (.ref acc) H') (upd H1 acc (.lst []))
noncomputable def PIfs (X : Cx) (ifs : List Expr) (t : TT) : Prop :=
  ∀ (pins : List (Addr × Obj)) (s : Shared) (σ : St) (H : Hp) (Q : Bool → Hp → Prop), Inv X pins σ H s → t σ H Q →
    wpAny (model X.prog X.w) X.A (forIn ifs true fun c r => if r = true then do let ok ← isTrue c X.env (eval c X.env); pure (ForInStep.yield ok) else pure (ForInStep.yield r)) (TP X pins σ Q) X.xe s
noncomputable def tYes : TT := fun _ H Q => Q true H
theorem pf_nil {X : Cx} : PIfs X [] tYes := fun pins s σ H Q I h => wpAny_tests_nil ⟨H, I, h⟩
theorem pf_one {X : Cx} {c : Expr} {t : TT} (h : PT X c t) : PIfs X [c] t := fun pins s σ H Q I q => wpAny_tests_one (h pins s σ H Q I q)
structure CompSc (X : Cx) (scope : Scope) (cns : List Str) (ci : List Nat) : Prop where
  kind : scope.kind = .function
  cell : ∀ y ∈ scope.names, y.2 ≠ .cell
  names : ∀ y ∈ scope.names, y.2 = .local → scope.names.lookup y.1 = some .local
  free : ∀ y ∈ scope.names, y.2 = .free → X.env.kindOf y.1 = some .cell ∨ X.env.kindOf y.1 = some .free
  cap : ∀ (j : Nat) x, cns[j]? = some x → ∃ i, ci[j]? = some i ∧ X.N[i]? = some x ∧ (x, NameKind.free) ∈ scope.names
  len : cns.length = ci.length
  noloc : ∀ y, (y, NameKind.free) ∈ scope.names → ¬ (relabel scope X.env).names.lookup y = some .local
theorem relabel_cell {env : Env} : ∀ {names : List (Str × NameKind)} {y : Str} {k : NameKind}, (names.map fun (n, k) => if (k == NameKind.free && env.scope.kind == .function && env.kindOf n == some .cell) then (n, NameKind.cell) else (n, k)).lookup y = some k → k = .cell ∨ k = .free →
    (∀ z ∈ names, z.2 ≠ .cell) → (y, NameKind.free) ∈ names
  | [], _, _, h, _, _ => by simp at h
  | (n, k0) :: r, y, k, h, hk, hc => by
    rw [List.map_cons, List.lookup_cons] at h
    by_cases hf : (k0 == NameKind.free && env.scope.kind == .function && env.kindOf n == some .cell) = true
    · simp only [hf, if_true] at h
      have k0f : k0 = .free := by
        have := hf
        simp only [Bool.and_eq_true] at this
        simpa using this.1.1
      split at h
      · next hq =>
        have : y = n := by simpa using hq
        subst this; subst k0f
        exact List.mem_cons_self
      · exact List.mem_cons_of_mem _ (relabel_cell h hk fun z hz => hc z (List.mem_cons_of_mem _ hz))
    · simp only [hf] at h
      split at h
      · next hq =>
        have : y = n := by simpa using hq
        subst this
        have e : k0 = k := by simpa using h
        subst e
        rcases hk with z | z
        · exact absurd z (hc _ List.mem_cons_self)
        · subst z; exact List.mem_cons_self
      · exact List.mem_cons_of_mem _ (relabel_cell h hk fun z hz => hc z (List.mem_cons_of_mem _ hz))
section
variable {prog : Program} {w : World} {A : Around} {R : Result → Shared → Prop} {s : Shared}
theorem compLoop_goT {elt target iter : Expr} {ifs : List Expr} {scope : Scope} {pos : Pos} {it acc : Value} {env : Env} (I : Nat → Shared → Prop)
    (turn : ∀ n s, I n s → wpAny (model prog w) A (pyNext it) (fun r s₁ => match r with
      | none => R (.ok .next) s₁
      | some v => wpAny (model prog w) A (letOwnedTupleGo target it v) (fun _ s₅ => wpAny (model prog w) A (assign target env v) (fun _ s₂ =>
          wpAny (model prog w) A (forIn ifs true fun c r => if r = true then do let ok ← isTrue c env (eval c env); pure (ForInStep.yield ok) else pure (ForInStep.yield r)) (fun ok s₃ =>
            if ok = true then wpAny (model prog w) A (eval elt env) (fun x s₄ =>
              wpAny (model prog w) A (call (.builtin "list.append") [acc, x]) (fun _ s₅ => ∃ m, m < n ∧ I m s₅) (fun _ _ => False) s₄) (fun _ _ => False) s₃
            else ∃ m, m < n ∧ I m s₃) (fun _ _ => False) s₂) (fun _ _ => False) s₅) (fun _ _ => False) s₁) (fun _ _ => False) s)
    (n : Nat) (h : I n s) :
    codeAny (model prog w) A (.compLoop (.ListComp elt [⟨target, iter, ifs, 0⟩] scope pos) 0 it acc env) R s := by
  refine codeAny_loop rfl I (fun n s hI => ?_) n h
  show wpAny _ _ ((compTurn (.ListComp elt [⟨target, iter, ifs, 0⟩] scope pos) 0 it acc env).onRaise (fun x => do noteFrame x env; theTreesLotGoes x)) _ _ s
  refine wpAny_noted ?_
  rw [compTurn_list]
  refine wpAny_bind (wpAny_standAt (wpAny_bind (wpAny_mono (turn n s hI) (fun r s₁ h₁ => ?_) fun _ _ h' => h'.elim)))
  cases r with
  | none => exact wpAny_pure h₁
  | some v =>
    refine wpAny_bind (wpAny_mono h₁ (fun _ s₅ h₅ => ?_) fun _ _ h' => h'.elim)
    refine wpAny_bind (wpAny_mono h₅ (fun _ s₂ h₂ => wpAny_bind (wpAny_mono h₂ (fun ok s₃ h₃ => ?_) fun _ _ h' => h'.elim)) fun _ _ h' => h'.elim)
    cases ok with
    | true =>
      rw [if_pos rfl] at h₃
      exact wpAny_bind (wpAny_bind (wpAny_mono h₃ (fun x s₃ h₃ => wpAny_bind (wpAny_mono h₃ (fun _ s₄ h₄ => wpAny_pure (wpAny_pure ⟨rfl, h₄⟩)) fun _ _ h' => h'.elim)) fun _ _ h' => h'.elim))
    | false =>
      rw [if_neg Bool.false_ne_true] at h₃
      exact wpAny_bind (wpAny_pure (wpAny_pure ⟨rfl, h₃⟩))
end
theorem comp_core {X : Cx} {elt iter tgt : Expr} {ifs : List Expr} {pos : Pos} {scope : Scope} {g : Bk → TG} {tt : Bk → TT} {te : Bk → TE} {tns cns : List Str} {ci : List Nat} {RR : Value → Addr → Result → Shared → Prop} {E : Value → Shared → Prop}
    {pins : List (Addr × Obj)} {σ : St} {H2 : Hp} {s2 : Shared} {it : Addr} {fp : List Addr} {tn : Nat → Heap → Prop} {J : It} {Q : Addr → Hp → Prop}
    (hc : X.calm = true) (S : CompSc X scope cns ci)
    (hg : ∀ bk : Bk, PG (X.blk (".0" :: (tns ++ cns)) scope bk) tgt (g bk))
    (ht : ∀ bk : Bk, PIfs (X.blk (".0" :: (tns ++ cns)) scope bk) ifs (tt bk))
    (he : ∀ bk : Bk, PE (X.blk (".0" :: (tns ++ cns)) scope bk) elt (te bk))
    (I2 : Inv X pins σ H2 s2) (T : Turn X.prog X.w X.K tgt J fp it tn) (st2 : tn 0 s2.heap) (f2 : ∀ b ∈ fp, FpOk X pins H2 b)
    (hcw : ∀ acc, H2 acc = none → ∀ bk : Bk, CompGW J (g bk) (tt bk) (te bk) tns.length ci σ acc (Q acc) (upd H2 acc (.lst [])))
    (fin : ∀ D C s5 H4 m, Inv X pins σ H4 s5 → s5.heap.Ns C m → FpOk X pins H4 C → Q D H4 → RR (.ref D) C (.ok .next) s5) :
    wpAny (model X.prog X.w) X.A (newList []) (fun acc s₃ => wpAny (model X.prog X.w) X.A (newFunctionEnv scope X.env.globals (clOf X.env.cells scope.names []) [] X.env.qual none .none (some X.env)) (fun cenv s₄ =>
      codeAny (model X.prog X.w) X.A (.compStart (.ListComp elt [⟨tgt, iter, ifs, 0⟩] scope pos) 0 (.ref it) acc { cenv with scope := relabel scope X.env }) (RR acc cenv.locals) s₄) E s₃) E s2 := by
  have hfc : ∀ y ∈ scope.names, y.2 = .free → ∃ c, X.env.cells.lookup y.1 = some c := fun y hy hk => I2.ok.has _ (S.free y hy hk)
  have hsub : ∀ y c, (clOf X.env.cells scope.names []).lookup y = some c → X.env.cells.lookup y = some c := clOf_sub hfc (fun y c e => by simp at e)
  refine wpAny_newObj_type (wpAny_newFunctionEnv S.cell (by intro y hy; simp at hy) (fun h₁ hns₁ hsb₁ => ?_) S.kind)
  dsimp only at hns₁ hsb₁ ⊢
  generalize hH2 : s2.heap.push { cls := .type "list", dict := none, data := .seq ([] : List Value).toArray } = G2 at hns₁ hsb₁ ⊢
  have hCz : G2.objs.size = s2.heap.objs.size + 1 := by rw [← hH2, Heap.size_push]
  have hDC : s2.heap.objs.size ≠ G2.objs.size := by rw [hCz]; exact Nat.ne_of_lt (Nat.lt_succ_self _)
  have below : ∀ b, b < s2.heap.objs.size → b ≠ G2.objs.size := fun b hb => by omega
  have old : ∀ b o, s2.heap.get? b = some o → h₁.get? b = some o := fun b o e => hsb₁.extBut b o (below b (Heap.lt_size e)) (Heap.get?_push_of_some _ (hH2 ▸ Heap.get?_push_of_some _ e))
  have hacc : h₁.get? s2.heap.objs.size = some { cls := .type "list", dict := none, data := .seq ([] : List Value).toArray } := hsb₁.extBut _ _ hDC (Heap.get?_push_of_some _ (hH2 ▸ Heap.get?_push_size _ rfl))
  have hnD : H2 s2.heap.objs.size = none := I2.hok.fresh (Nat.le_refl _)
  have hnC : H2 G2.objs.size = none := I2.hok.fresh (by omega)
  obtain ⟨W, ⟨m0, w0⟩, turn⟩ := hcw s2.heap.objs.size hnD ⟨G2.objs.size, fp, s2, H2⟩
  have nlt : ∀ {b : Addr} {o : Obj}, s2.heap.get? b = some o → b ≠ s2.heap.objs.size := fun q => Nat.ne_of_lt (Heap.lt_size q)
  have fpl : ∀ b ∈ fp, b < s2.heap.objs.size := fun b hb => by
    obtain ⟨o, e, _⟩ := T.obj _ _ st2 b hb
    exact Heap.lt_size e
  have clt : ∀ y c, (clOf X.env.cells scope.names []).lookup y = some c → c < s2.heap.objs.size := fun y c e => by
    obtain ⟨v, q⟩ := I2.cell y c (hsub y c e)
    exact q.lt
  have hasC : ∀ y, ((relabel scope X.env).names.lookup y = some .cell ∨ (relabel scope X.env).names.lookup y = some .free) → ∃ c, (clOf X.env.cells scope.names []).lookup y = some c := fun y hk => by
    rcases hk with z | z
    · exact clOf_has (relabel_cell z (.inl rfl) S.cell)
    · exact clOf_has (relabel_cell z (.inr rfl) S.cell)
  have ok : (X.blk (".0" :: (tns ++ cns)) scope ⟨G2.objs.size, fp, s2, H2⟩).Ok := {
    mod := I2.ok.mod
    kind := S.kind
    glob := I2.ok.glob
    blt := I2.ok.blt
    above := by show s2.heap.objs.size ≤ G2.objs.size; omega
    inj := fun y z c e1 e2 => I2.ok.inj y z c (hsub y c e1) (hsub z c e2)
    has := fun y hk => hasC y hk
    cab := fun y c e => by
      have e' : (false = true) := e
      cases e'
    hd := I2.ok.hd
    frames := I2.ok.frames
    stk := .inl rfl
    exf := fun b hb => ⟨below b (fpl b hb), fun y c e => (f2 b hb).2.2.2.2.1 y c (hsub y c e)⟩
    bs := I2.bs
    bsz := Nat.le_trans I2.ok.bsz I2.sz
    noex := fun b o e hb => by
      rcases (f2 b hb).2.2.2.1 with z | z
      · exact I2.ok.noex b o e z
      · exact absurd (Nat.lt_of_lt_of_le (Heap.lt_size e) (Nat.le_trans I2.ok.bsz z)) (Nat.lt_irrefl _)
    exfs := fun b hb hf => by
      rcases List.mem_cons.mp (I2.stkSub b hf) with z | z
      · exact (f2 b hb).2.1 z
      · exact (f2 b hb).2.2.1 z
    funs := I2.stack
    frf := I2.stkFree }
  have hokD : HOk X.prog X.w (upd H2 s2.heap.objs.size (.lst [])) h₁ := I2.hok.laid old (Nat.le_refl _) ⟨Nat.zero_le _, [], 0, .nil, hacc⟩
  have clD : ∀ y c, (clOf X.env.cells scope.names []).lookup y = some c → c ≠ s2.heap.objs.size := fun y c e => Nat.ne_of_lt (clt y c e)
  have I3 : Inv (X.blk (".0" :: (tns ++ cns)) scope ⟨G2.objs.size, fp, s2, H2⟩) [] (blkSt (List.replicate tns.length none) ci σ) (upd H2 s2.heap.objs.size (.lst [])) { s2 with heap := h₁, toks := s2.toks + ([] : List (Str × Value)).length } := {
    ok := ok
    os := rfl
    bare := I2.bare
    base := ⟨fun b o e n _ _ => old b o e, fun b o e n _ _ => ⟨o.slots, old b o e⟩, fun b o e n _ => by rw [upd_ne (nlt e)]; exact n, fun b o e _ => ⟨o, old b o e⟩,
      fun b ys e => by rw [upd_ne (ne_of_none e hnD)]; exact e, fun b o u e => by rw [upd_ne (ne_of_none e hnD)]; exact e, fun b ps e => ⟨#[], by rw [upd_ne (ne_of_none e hnD), Array.append_empty]; exact e⟩⟩
    loc := ⟨_, hns₁, fun i y v e1 e2 e3 => by
      have e1' : ((".0" : Str) :: (tns ++ cns))[i]? = some y := e1
      unfold blkSt at e2
      cases i with
      | zero => simp at e2
      | succ i =>
        rw [List.getElem?_cons_succ] at e1' e2
        by_cases hi : i < tns.length
        · rw [List.getElem?_append_left (by simpa using hi), List.getElem?_replicate, if_pos hi] at e2
          cases e2
        · rw [List.getElem?_append_right (by omega)] at e1'
          rw [List.getElem?_append_right (by simp; omega), List.length_replicate] at e2
          obtain ⟨q, hq, hN, hm⟩ := S.cap _ _ e1'
          rw [List.getElem?_map, hq] at e2
          have e2' : (σ[q]?).join = some v := by simpa using e2
          have e4 : σ[q]? = some (some v) := by
            cases z : σ[q]? with
            | none => rw [z] at e2'; cases e2'
            | some o => rw [z] at e2'; rw [show o = some v from e2']
          obtain ⟨m, hns, hl⟩ := I2.loc
          have hvis : Vis X.env.scope y := by
            rcases S.free (y, .free) hm rfl with z | z
            · exact .inr (.inl z)
            · exact .inr (.inr z)
          obtain ⟨u, ru, lk⟩ := hl q y v hN e4 hvis
          refine ⟨u, ru, .inr ?_⟩
          have hkk : X.env.kindOf y = some .cell ∨ X.env.kindOf y = some .free := S.free (y, .free) hm rfl
          rcases lk with ⟨k1, _⟩ | ⟨_, c, hc1, hc2⟩
          · rcases hkk with z | z <;> (rw [k1] at z; cases z)
          · obtain ⟨c', hc'⟩ := clOf_has (cells := X.env.cells) (acc := []) hm
            have ecc : c' = c := by
              have := hsub y c' hc'
              rw [hc1] at this; cases this; rfl
            subst ecc
            have e3' : Vis (relabel scope X.env) y := e3
            refine ⟨?_, c', hc', ?_⟩
            · rcases e3' with z | z | z
              · exfalso
                exact S.noloc y hm z
              · exact .inl z
              · exact .inr z
            · exact hc2.keeps old⟩
    cell := fun y c e => by
      obtain ⟨v, q⟩ := I2.cell y c (hsub y c e)
      exact ⟨v, q.keeps old⟩
    free := by show upd H2 s2.heap.objs.size (.lst []) G2.objs.size = none; rw [upd_ne (Ne.symm hDC)]; exact hnC
    freeC := fun y c e => by rw [upd_ne (clD y c e)]; exact I2.freeC y c (hsub y c e)
    pin := fun p hp => by
      have hp' : p ∈ ([] : List (Addr × Obj)) ++ [] := hp
      simp at hp'
    hok := hokD
    len := by
      show (blkSt _ ci σ).length = ((".0" : Str) :: (tns ++ cns)).length
      unfold blkSt
      simp [S.len] }
  have st3 : tn 0 h₁ := T.keep _ _ _ st2 fun b _ o e => old b o e
  have fr3 : ∀ b ∈ fp, upd H2 s2.heap.objs.size (.lst []) b = none := fun b hb => by rw [upd_ne (Nat.ne_of_lt (fpl b hb))]; exact (f2 b hb).1
  have stat : ∀ {H' : Hp}, (∀ b ∈ fp, H' b = none) → ∀ b ∈ fp, FpOk (X.blk (".0" :: (tns ++ cns)) scope ⟨G2.objs.size, fp, s2, H2⟩) [] H' b := fun hn b hb =>
    ⟨hn b hb, below b (fpl b hb), ok.exfs b hb, .inl hb, fun y c e => (f2 b hb).2.2.2.2.1 y c (hsub y c e), fun p hp => by
      have hp' : p ∈ ([] : List (Addr × Obj)) ++ [] := hp
      simp at hp'⟩
  have loop : ∀ s₃ : Shared, s₃ = { s2 with heap := h₁, toks := s2.toks + ([] : List (Str × Value)).length } →
      codeAny (model X.prog X.w) X.A (.compLoop (.ListComp elt [⟨tgt, iter, ifs, 0⟩] scope pos) 0 (.ref it) (.ref s2.heap.objs.size) (compEnvC scope (clOf X.env.cells scope.names []) G2.objs.size X.env))
        (RR (.ref s2.heap.objs.size) G2.objs.size) s₃ := by
    rintro s₃ rfl
    refine compLoop_goT (fun n s' => ∃ (i : Nat) (os : List (Option V)) (ys : List V) (H' : Hp), os.length = tns.length ∧ Inv (X.blk (".0" :: (tns ++ cns)) scope ⟨G2.objs.size, fp, s2, H2⟩) [] (blkSt os ci σ) H' s' ∧ tn i s'.heap ∧ (∀ b ∈ fp, H' b = none) ∧ W i n ys H') ?_ m0 ⟨0, _, [], _, by simp, I3, st3, fr3, w0⟩
    rintro n s4 ⟨i, os, ys, H4, hos, I4, st4, fr4, w4⟩
    rcases turn i n ys H4 w4 with ⟨stop, q⟩ | ⟨go, N, hN, step⟩
    · refine thn (T.done (X.blk (".0" :: (tns ++ cns)) scope ⟨G2.objs.size, fp, s2, H2⟩) rfl rfl rfl hc i [] s4 _ H4 (fun _ _ => False) I4 (stat fr4) st4 stop) fun r s5 ⟨hr, I5⟩ => ?_
      subst hr
      obtain ⟨m, hm, _⟩ := I5.loc
      have fC : H4 G2.objs.size = none := I5.free
      have ub : Un (frs X.stack) fp H2 H4 s2.heap s5.heap := I5.base
      have IX : Inv X pins σ H4 s5 := I2.call' (s' := s5) (show s5.os = s2.os from I5.os) ub I5.hok I5.bare fun b hb => ⟨(f2 b hb).2.2.2.1, (f2 b hb).2.1, (f2 b hb).2.2.2.2.1, (f2 b hb).2.2.2.2.2⟩
      exact fin _ _ s5 H4 m IX hm (I2.fpOk (by omega) fC) q
    · refine thn (T.item (X.blk (".0" :: (tns ++ cns)) scope ⟨G2.objs.size, fp, s2, H2⟩) rfl rfl rfl hc i [] s4 _ H4 (fun _ _ => False) I4 (stat fr4) st4 go) fun r s5 ⟨u, hr, h5⟩ => ?_
      subst hr
      refine thn h5 fun _ s6 hhx => ?_
      obtain ⟨y, H6, I6, r6, y6, st6, fr6⟩ := hhx
      have I6' := I6.pinned (stat fr6) (T.obj _ _ st6)
      refine thn (hg _ _ s6 _ H6 y u _ I6' r6 (step y H6 os hos y6)) fun _ s7 ⟨σ7, H7, I7, ⟨os', hos', e7⟩, q7⟩ => ?_
      subst e7
      have back : ∀ {H9 : Hp} {s9 : Shared}, Inv (X.blk (".0" :: (tns ++ cns)) scope ⟨G2.objs.size, fp, s2, H2⟩) ([] ++ pinsAt fp s6.heap) (blkSt os' ci σ) H9 s9 → tn (i + 1) s9.heap ∧ ∀ b ∈ fp, H9 b = none := fun {H9 s9} I9 =>
        ⟨T.keep _ _ _ st6 fun b hb ob e => (I9.pin (b, ob) (List.mem_append_right _ (List.mem_append_right _ (mem_pinsAt hb e)))).1, fun b hb => by
          obtain ⟨ob, e, d⟩ := T.obj _ _ st6 b hb
          exact (I9.pin (b, ob) (List.mem_append_right _ (List.mem_append_right _ (mem_pinsAt hb e)))).2.1⟩
      refine thn (ht _ _ s7 _ H7 _ I7 q7) fun b s8 hhx => ?_
      obtain ⟨H8, I8, q8⟩ := hhx
      cases b with
      | false =>
        rw [if_neg Bool.false_ne_true] at q8 ⊢
        obtain ⟨m', hm', w8⟩ := hN _ _ q8
        exact ⟨m', hm', i + 1, os', ys, _, hos', I8.unpinned, (back I8).1, (back I8).2, w8⟩
      | true =>
        rw [if_pos rfl] at q8 ⊢
        refine thn (he _ _ s8 _ H8 _ I8 q8) fun zv s8 hhx => ?_
        obtain ⟨z, H8, I8, rz, ha8, hl8, n8⟩ := hhx
        obtain ⟨m', hm', w8⟩ := hN _ _ n8
        refine thn (mt_append (X := X.blk (".0" :: (tns ++ cns)) scope ⟨G2.objs.size, fp, s2, H2⟩) _ s8 _ H8 (.ref s2.heap.objs.size) [z] (.ref s2.heap.objs.size) [zv] (fun _ H9 => H9 = upd H8 s2.heap.objs.size (.lst (ys ++ [z]))) I8 rfl (.cons rz .nil) ⟨_, ys, z, rfl, rfl, ha8, hl8, rfl⟩) fun _ s9 hhx => ?_
        obtain ⟨_, H9, I9, _, e9⟩ := hhx
        subst e9
        exact ⟨m', hm', i + 1, os', ys ++ [z], _, hos', I9.unpinned, (back I9).1, (back I9).2, w8⟩
  exact codeAny_compStart_list (loop _ rfl) (T.self _ 0 _ _ _ st3 (loop _ rfl))
theorem pe_compG {X : Cx} {elt iter tgt : Expr} {ifs : List Expr} {pos : Pos} {scope : Scope} {wi : TI} {g : Bk → TG} {tt : Bk → TT} {te : Bk → TE} {tns cns : List Str} {ci : List Nat} (hc : X.calm = true) (S : CompSc X scope cns ci) (hi : PI X tgt iter wi)
    (hg : ∀ bk : Bk, PG (X.blk (".0" :: (tns ++ cns)) scope bk) tgt (g bk))
    (ht : ∀ bk : Bk, PIfs (X.blk (".0" :: (tns ++ cns)) scope bk) ifs (tt bk))
    (he : ∀ bk : Bk, PE (X.blk (".0" :: (tns ++ cns)) scope bk) elt (te bk))
    (hs : ∀ v, foldedSetIterable iter X.env v = pure v := by intro _; rfl) :
    PE X (.ListComp elt [⟨tgt, iter, ifs, 0⟩] scope pos) (tCompG wi g tt te tns.length ci) := by
  intro pins s σ H Q I h
  have hfc : ∀ y ∈ scope.names, y.2 = .free → ∃ c, X.env.cells.lookup y.1 = some c := fun y hy hk => I.ok.has _ (S.free y hy hk)
  rw [eval_ListComp]
  refine wpAny_comprehension_free (use := none) rfl hs (closureFor_cl hfc) S.kind S.names (thn (hi pins s σ H _ I h) fun v s1 h1 => thn h1 fun itv s2 h2 => ?_)
  obtain ⟨it, fp, tn, J, H2, rfl, I2, T, st2, f2, hcw⟩ := h2
  refine comp_core (RR := fun acc C => compPost (model X.prog X.w) X.A X.xe none (EP X pins σ Q) acc C) hc S hg ht he I2 T st2 f2 hcw fun D C s5 H4 m I5 hm fo q => ?_
  refine ⟨m, hm, fun h' hs' => ⟨.ref D, H4, ?_, rfl, q⟩⟩
  exact I5.turned (t' := s5.toks) (it := C) (fun b o hb e => (hs'.2 b hb).trans e) fo.1 fo.2.1 fo.2.2.2.1 fo.2.2.2.2.1 fo.2.2.2.2.2
noncomputable def sSetComp (i : Nat) (wi : TI) (g : Bk → TG) (tt : Bk → TT) (te : Bk → TE) (nt : Nat) (ci : List Nat) : TS := fun D σ H => wi σ H fun J H1 => ∀ acc, H1 acc = none → ∀ bk : Bk, CompGW J (g bk) (tt bk) (te bk) nt ci σ acc (fun H' => D.nx (σ.set i (some (.ref acc))) H') (upd H1 acc (.lst []))
theorem ps_setComp {X : Cx} {i : Nat} {x : Str} {px pos' : Pos} {elt iter tgt : Expr} {ifs : List Expr} {pos : Pos} {scope : Scope} {wi : TI} {g : Bk → TG} {tt : Bk → TT} {te : Bk → TE} {tns cns : List Str} {ci : List Nat}
    (hN : X.N.Nodup) (hx : X.N[i]? = some x) (hl : Loc X.env.scope x) (hf : X.fn x = true) (hsw : swapsWith (.ListComp elt [⟨tgt, iter, ifs, 0⟩] scope pos) (some (.Name x px)) pos'.line X.env = pure true)
    (hc : X.calm = true) (S : CompSc X scope cns ci) (hi : PI X tgt iter wi)
    (hg : ∀ bk : Bk, PG (X.blk (".0" :: (tns ++ cns)) scope bk) tgt (g bk))
    (ht : ∀ bk : Bk, PIfs (X.blk (".0" :: (tns ++ cns)) scope bk) ifs (tt bk))
    (he : ∀ bk : Bk, PE (X.blk (".0" :: (tns ++ cns)) scope bk) elt (te bk))
    (hs : ∀ v, foldedSetIterable iter X.env v = pure v := by intro _; rfl) :
    PS X (.Assign [.Name x px] (.ListComp elt [⟨tgt, iter, ifs, 0⟩] scope pos) pos') (sSetComp i wi g tt te tns.length ci) := by
  intro pins s σ H D I h
  have hfc : ∀ y ∈ scope.names, y.2 = .free → ∃ c, X.env.cells.lookup y.1 = some c := fun y hy hk => I.ok.has _ (S.free y hy hk)
  rw [exec_Assign_Name_used _ _ _ _ hsw]
  refine wpAny_bind (wpAny_standAt (wpAny_bind ?_))
  show wpAny _ _ (do let _ ← comprehension (.ListComp elt [⟨tgt, iter, ifs, 0⟩] scope pos) scope X.env _ (newList []) false (eval iter X.env) (some (assign (.Name x px) X.env))) _ _ s
  refine wpAny_bind (wpAny_mono (wpAny_comprehension_free (use := some (assign (.Name x px) X.env)) (Q := fun _ s' => SP X pins D .next s') rfl hs (closureFor_cl hfc) S.kind S.names
    (thn (hi pins s σ H _ I h) fun v s1 h1 => thn h1 fun itv s2 h2 => ?_)) (fun _ s' hq => wpAny_pure (wpAny_pure hq)) fun _ _ e => e)
  obtain ⟨it, fp, tn, J, H2, rfl, I2, T, st2, f2, hcw⟩ := h2
  refine comp_core (RR := fun acc C => compPost (model X.prog X.w) X.A X.xe (some (assign (.Name x px) X.env)) (fun _ s' => SP X pins D .next s') acc C) hc S hg ht he I2 T st2 f2 hcw fun D' C s5 H4 m I5 hm fo q => ?_
  obtain ⟨o, es, ep, ho, hd, hr⟩ := id hm
  have IP : Inv X (pins ++ pinsAt [C] s5.heap) σ H4 s5 := I5.pinned (fp := [C]) (fun b hb => by rw [List.mem_singleton.mp hb]; exact fo) fun b hb => by
    rw [List.mem_singleton.mp hb]
    exact ⟨o, ho, fun v z => by rw [hd] at z; cases z⟩
  show wpAny _ _ (assign (.Name x px) X.env (.ref D')) _ _ s5
  refine thn (pg_name (X := X) (i := i) hN hx hl (.inl hf) _ s5 σ H4 (.ref D') (.ref D') (fun σ' H' => σ' = σ.set i (some (.ref D')) ∧ H' = H4) IP rfl ⟨rfl, rfl⟩) fun _ s6 hhx => ?_
  obtain ⟨σ6, H6, I6, e1, e2⟩ := hhx
  subst e1 e2
  have hC6 : s6.heap.get? C = some o := (I6.pin (C, o) (List.mem_append_right _ (List.mem_append_right _ (mem_pinsAt (List.mem_singleton.mpr rfl) ho)))).1
  refine ⟨m, ⟨o, es, ep, hC6, hd, hr⟩, fun h' hs' => ⟨_, _, ?_, q⟩⟩
  exact I6.unpinned.turned (t' := s6.toks) (it := C) (fun b o hb e => (hs'.2 b hb).trans e) fo.1 fo.2.1 fo.2.2.2.1 fo.2.2.2.2.1 fo.2.2.2.2.2
noncomputable def relS (scope osc : Scope) : List (Str × NameKind) := scope.names.map fun (n, k) => if (k == NameKind.free && osc.kind == .function && osc.names.lookup n == some .cell) then (n, NameKind.cell) else (n, k)
noncomputable def capOk (N : List Str) (names : List (Str × NameKind)) : List Str → List Nat → Bool
  | [], [] => true
  | x :: xs, i :: is => N[i]? == some x && names.any (fun y => y.1 == x && y.2 == .free) && capOk N names xs is
  | _, _ => false
noncomputable def chkC (osc : Scope) (N : List Str) (scope : Scope) (cns : List Str) (ci : List Nat) : Bool :=
  scope.kind == .function && scope.names.all (fun y => y.2 != .cell) && scope.names.all (fun y => y.2 != .local || scope.names.lookup y.1 == some .local) &&
  scope.names.all (fun y => y.2 != .free || (osc.names.lookup y.1 == some .cell || osc.names.lookup y.1 == some .free)) && capOk N scope.names cns ci &&
  scope.names.all (fun y => y.2 != .free || (relS scope osc).lookup y.1 != some .local)
theorem capOk_get {N : List Str} {names : List (Str × NameKind)} : ∀ {cns : List Str} {ci : List Nat}, capOk N names cns ci = true → cns.length = ci.length ∧ ∀ (j : Nat) x, cns[j]? = some x → ∃ i, ci[j]? = some i ∧ N[i]? = some x ∧ (x, NameKind.free) ∈ names
  | [], [], _ => ⟨rfl, fun j x e => by simp at e⟩
  | [], _ :: _, h => by simp [capOk] at h
  | _ :: _, [], h => by simp [capOk] at h
  | x :: xs, i :: is, h => by
    unfold capOk at h
    rw [Bool.and_eq_true, Bool.and_eq_true] at h
    obtain ⟨⟨h1, h2⟩, h3⟩ := h
    obtain ⟨l, r⟩ := capOk_get h3
    refine ⟨by simp [l], fun j y e => ?_⟩
    cases j with
    | zero =>
      have e' : x = y := by simpa using e
      subst e'
      refine ⟨i, by simp, by simpa using h1, ?_⟩
      obtain ⟨z, hz, hq⟩ := List.any_eq_true.mp h2
      rw [Bool.and_eq_true] at hq
      obtain ⟨a, b⟩ := z
      have e1 : a = x := by simpa using hq.1
      have e2 : b = .free := by simpa using hq.2
      subst e1 e2
      exact hz
    | succ j =>
      obtain ⟨k, hk⟩ := r j y (by simpa using e)
      exact ⟨k, by simpa using hk.1, hk.2⟩
theorem CompSc.of {X : Cx} {scope : Scope} {cns : List Str} {ci : List Nat} (h : chkC X.env.scope X.N scope cns ci = true) : CompSc X scope cns ci := by
  unfold chkC at h
  rw [Bool.and_eq_true, Bool.and_eq_true, Bool.and_eq_true, Bool.and_eq_true, Bool.and_eq_true] at h
  obtain ⟨⟨⟨⟨⟨h1, h2⟩, h3⟩, h4⟩, h5⟩, h6⟩ := h
  obtain ⟨l, r⟩ := capOk_get h5
  refine ⟨by simpa using h1, fun y hy => ?_, fun y hy hk => ?_, fun y hy hk => ?_, r, l, fun y hy z => ?_⟩
  · simpa using List.all_eq_true.mp h2 y hy
  · have := List.all_eq_true.mp h3 y hy
    rw [Bool.or_eq_true] at this
    rcases this with q | q
    · exact absurd hk (by simpa using q)
    · simpa using q
  · have := List.all_eq_true.mp h4 y hy
    rw [Bool.or_eq_true, Bool.or_eq_true] at this
    rcases this with q | q | q
    · exact absurd hk (by simpa using q)
    · exact .inl (show X.env.scope.names.lookup y.1 = _ by simpa using q)
    · exact .inr (show X.env.scope.names.lookup y.1 = _ by simpa using q)
  · have := List.all_eq_true.mp h6 _ hy
    rw [Bool.or_eq_true] at this
    rcases this with q | q
    · simp at q
    · have z' : (relS scope X.env.scope).lookup y = some .local := z
      have q' : ((relS scope X.env.scope).lookup y != some .local) = true := q
      rw [z'] at q'
      exact absurd q' (by decide)
section
variable {K : PySem.W.Frag} {g : TG} {tt : TT} {te : TE} {nt : Nat} {ci : List Nat} {σ : St} {acc : Addr} {Q : Hp → Prop} {H0 : Hp}
theorem cg_list {a : Addr} {xs : List V} (Pv : Nat → List V → Hp → Prop) (h0 : Pv 0 [] H0) (hl : ∀ i ys H, i ≤ xs.length → Pv i ys H → SqL K H a xs)
    (hs : ∀ (i : Nat) x ys H os, xs[i]? = some x → os.length = nt → Pv i ys H → g x (blkSt os ci σ) H fun σ1 H1 => (∃ os', os'.length = nt ∧ σ1 = blkSt os' ci σ) ∧ tt σ1 H1 fun b H2 =>
      if b = true then te σ1 H2 fun z H3 => H3 acc = some (.lst ys) ∧ ys.length < sizeLine ∧ Pv (i + 1) (ys ++ [z]) (upd H3 acc (.lst (ys ++ [z]))) else Pv (i + 1) ys H2)
    (hd : ∀ ys H, Pv xs.length ys H → Q H) : CompGW (Itl K a) g tt te nt ci σ acc Q H0 := by
  refine ⟨fun i m ys H => m = xs.length - i ∧ i ≤ xs.length ∧ Pv i ys H, ⟨xs.length, by simp, Nat.zero_le _, h0⟩, ?_⟩
  rintro i m ys H ⟨rfl, hi, p⟩
  have q := hl i ys H hi p
  by_cases hlt : i < xs.length
  · refine .inr ⟨⟨xs, xs[i], q, by simp [hlt]⟩, Pv (i + 1), fun ys' H' p' => ⟨xs.length - (i + 1), by omega, rfl, hlt, p'⟩, fun y H' os ho yl => ?_⟩
    obtain ⟨rfl, yl⟩ := yl
    exact hs i y ys H' os (yl xs q) ho p
  · have e : i = xs.length := by omega
    subst e
    exact .inl ⟨⟨xs, q, Nat.le_refl _⟩, hd ys H p⟩
theorem cg_tup {a : Addr} {xs : List V} (Pv : Nat → List V → Hp → Prop) (h0 : Pv 0 [] H0) (hl : ∀ i ys H, i ≤ xs.length → Pv i ys H → SqT K H a xs)
    (hs : ∀ (i : Nat) x ys H os, xs[i]? = some x → os.length = nt → Pv i ys H → g x (blkSt os ci σ) H fun σ1 H1 => (∃ os', os'.length = nt ∧ σ1 = blkSt os' ci σ) ∧ tt σ1 H1 fun b H2 =>
      if b = true then te σ1 H2 fun z H3 => H3 acc = some (.lst ys) ∧ ys.length < sizeLine ∧ Pv (i + 1) (ys ++ [z]) (upd H3 acc (.lst (ys ++ [z]))) else Pv (i + 1) ys H2)
    (hd : ∀ ys H, Pv xs.length ys H → Q H) : CompGW (Itt K a) g tt te nt ci σ acc Q H0 := by
  refine ⟨fun i m ys H => m = xs.length - i ∧ i ≤ xs.length ∧ Pv i ys H, ⟨xs.length, by simp, Nat.zero_le _, h0⟩, ?_⟩
  rintro i m ys H ⟨rfl, hi, p⟩
  have q := hl i ys H hi p
  by_cases hlt : i < xs.length
  · refine .inr ⟨⟨xs, xs[i], q, by simp [hlt]⟩, Pv (i + 1), fun ys' H' p' => ⟨xs.length - (i + 1), by omega, rfl, hlt, p'⟩, fun y H' os ho yl => ?_⟩
    obtain ⟨rfl, yl⟩ := yl
    exact hs i y ys H' os (yl xs q) ho p
  · have e : i = xs.length := by omega
    subst e
    exact .inl ⟨⟨xs, q, Nat.le_refl _⟩, hd ys H p⟩
theorem cg_range {lo : Int} {n : Nat} (Pv : Nat → List V → Hp → Prop) (h0 : Pv 0 [] H0)
    (hs : ∀ (i : Nat) ys H os, i < n → os.length = nt → Pv i ys H → g (.int (lo + i)) (blkSt os ci σ) H fun σ1 H1 => (∃ os', os'.length = nt ∧ σ1 = blkSt os' ci σ) ∧ tt σ1 H1 fun b H2 =>
      if b = true then te σ1 H2 fun z H3 => H3 acc = some (.lst ys) ∧ ys.length < sizeLine ∧ Pv (i + 1) (ys ++ [z]) (upd H3 acc (.lst (ys ++ [z]))) else Pv (i + 1) ys H2)
    (hd : ∀ ys H, Pv n ys H → Q H) : CompGW (Itr lo n) g tt te nt ci σ acc Q H0 := by
  refine ⟨fun i m ys H => m = n - i ∧ i ≤ n ∧ Pv i ys H, ⟨n, by simp, Nat.zero_le _, h0⟩, ?_⟩
  rintro i m ys H ⟨rfl, hi, p⟩
  by_cases hlt : i < n
  · refine .inr ⟨hlt, Pv (i + 1), fun ys' H' p' => ⟨n - (i + 1), by omega, rfl, hlt, p'⟩, fun y H' os ho yl => ?_⟩
    obtain ⟨rfl, rfl⟩ := yl
    exact hs i ys H' os hlt ho p
  · have e : i = n := by omega
    subst e
    exact .inl ⟨Nat.le_refl _, hd ys H p⟩
end
end L2
namespace L2
open PySem PySem.Spec PyProof.Rows
noncomputable def isiT : List String := ["int", "bool", "str", "list", "tuple", "dict"]
inductive KindV (K : PySem.W.Frag) (H : Hp) : V → String → Prop where
  | non : KindV K H .non "NoneType"
  | bl {b : Bool} : KindV K H (.bl b) "bool"
  | int {i : Int} : KindV K H (.int i) "int"
  | str {x : Str} : KindV K H (.str x) "str"
  | lst {a : Addr} {xs : List V} (h : SqL K H a xs) : KindV K H (.ref a) "list"
  | tup {a : Addr} {xs : List V} (h : SqT K H a xs) : KindV K H (.ref a) "tuple"
  | dic {a : Addr} (h : IsD H a) : KindV K H (.ref a) "dict"
noncomputable def kindIs (k T : String) : Bool := k == T || (k == "bool" && T == "int")
noncomputable def rIsi (K : PySem.W.Frag) : List V → Hp → VK → Prop := fun xs H Q => ∃ x T k, xs = [x, .ty T] ∧ isiT.contains T = true ∧ KindV K H x k ∧ Q (.bl (kindIs k T)) H
section
variable {X : Cx}
theorem call_isi : CallR X (.builtin "isinstance") (rIsi X.K) := by
  intro pins s σ H xs us Q I r h
  obtain ⟨x, T, k, rfl, hT, hk, q⟩ := h
  obtain ⟨u, v, rfl, ru, rv⟩ := vals2 r
  cases rv
  have hT' : T = "int" ∨ T = "bool" ∨ T = "str" ∨ T = "list" ∨ T = "tuple" ∨ T = "dict" := by simpa [isiT] using hT
  have fin : ∀ {b : Bool}, b = kindIs k T → EP X pins σ Q (.bool b) s := fun e => ⟨.bl _, H, I, rfl, by rw [e]; exact q⟩
  have finT : ∀ {b : Bool}, b = kindIs k T → EP X pins σ Q (.bool b) { s with toks := s.toks + 1 } := fun e => ⟨.bl _, H, I.tok _, rfl, by rw [e]; exact q⟩
  cases hk with
  | non =>
    cases ru
    rcases hT' with rfl | rfl | rfl | rfl | rfl | rfl
    · exact IsiPair.NoneType_int (finT (by decide +kernel))
    · exact IsiPair.NoneType_bool (finT (by decide +kernel))
    · exact IsiPair.NoneType_str (finT (by decide +kernel))
    · exact IsiPair.NoneType_list (finT (by decide +kernel))
    · exact IsiPair.NoneType_tuple (finT (by decide +kernel))
    · exact IsiPair.NoneType_dict (finT (by decide +kernel))
  | bl =>
    cases ru
    rcases hT' with rfl | rfl | rfl | rfl | rfl | rfl
    · exact IsiPair.bool_int (fin (by decide +kernel))
    · exact IsiPair.bool_bool (fin (by decide +kernel))
    · exact IsiPair.bool_str (finT (by decide +kernel))
    · exact IsiPair.bool_list (finT (by decide +kernel))
    · exact IsiPair.bool_tuple (finT (by decide +kernel))
    · exact IsiPair.bool_dict (finT (by decide +kernel))
  | int =>
    obtain ⟨t, rfl⟩ := ru
    rcases hT' with rfl | rfl | rfl | rfl | rfl | rfl
    · exact IsiPair.int_int (fin (by decide +kernel))
    · exact IsiPair.int_bool (finT (by decide +kernel))
    · exact IsiPair.int_str (finT (by decide +kernel))
    · exact IsiPair.int_list (finT (by decide +kernel))
    · exact IsiPair.int_tuple (finT (by decide +kernel))
    · exact IsiPair.int_dict (finT (by decide +kernel))
  | str =>
    obtain ⟨t, rfl⟩ := ru
    rcases hT' with rfl | rfl | rfl | rfl | rfl | rfl
    · exact IsiPair.str_int (finT (by decide +kernel))
    · exact IsiPair.str_bool (finT (by decide +kernel))
    · exact IsiPair.str_str (fin (by decide +kernel))
    · exact IsiPair.str_list (finT (by decide +kernel))
    · exact IsiPair.str_tuple (finT (by decide +kernel))
    · exact IsiPair.str_dict (finT (by decide +kernel))
  | lst hl =>
    cases ru
    obtain ⟨its, _, ⟨o, n, e, c, _⟩, _⟩ := I.list hl
    rcases hT' with rfl | rfl | rfl | rfl | rfl | rfl
    · exact IsiPair.list_int e c (finT (by decide +kernel))
    · exact IsiPair.list_bool e c (finT (by decide +kernel))
    · exact IsiPair.list_str e c (finT (by decide +kernel))
    · exact IsiPair.list_list e c (fin (by decide +kernel))
    · exact IsiPair.list_tuple e c (finT (by decide +kernel))
    · exact IsiPair.list_dict e c (finT (by decide +kernel))
  | tup hl =>
    cases ru
    obtain ⟨its, _, ⟨o, e, c, _⟩, _⟩ := I.tuple hl
    rcases hT' with rfl | rfl | rfl | rfl | rfl | rfl
    · exact IsiPair.tuple_int e c (finT (by decide +kernel))
    · exact IsiPair.tuple_bool e c (finT (by decide +kernel))
    · exact IsiPair.tuple_str e c (finT (by decide +kernel))
    · exact IsiPair.tuple_list e c (finT (by decide +kernel))
    · exact IsiPair.tuple_tuple e c (fin (by decide +kernel))
    · exact IsiPair.tuple_dict e c (finT (by decide +kernel))
  | dic hl =>
    cases ru
    obtain ⟨o, e, c⟩ := (isD_at I hl).1
    rcases hT' with rfl | rfl | rfl | rfl | rfl | rfl
    · exact IsiPair.dict_int e c (finT (by decide +kernel))
    · exact IsiPair.dict_bool e c (finT (by decide +kernel))
    · exact IsiPair.dict_str e c (finT (by decide +kernel))
    · exact IsiPair.dict_list e c (finT (by decide +kernel))
    · exact IsiPair.dict_tuple e c (finT (by decide +kernel))
    · exact IsiPair.dict_dict e c (fin (by decide +kernel))
end
section
variable {H : Hp} {Q : VK} {σ : St} {D : Ends} {K : PySem.W.Frag}
theorem r_compG {wi : TI} {g : Bk → TG} {tt : Bk → TT} {te : Bk → TE} {nt : Nat} {ci : List Nat} : tCompG wi g tt te nt ci σ H Q = wi σ H fun J H1 => ∀ acc, H1 acc = none → ∀ bk : Bk, CompGW J (g bk) (tt bk) (te bk) nt ci σ acc (fun H' => Q (.ref acc) H') (upd H1 acc (.lst [])) := rfl
theorem r_setComp {i : Nat} {wi : TI} {g : Bk → TG} {tt : Bk → TT} {te : Bk → TE} {nt : Nat} {ci : List Nat} : sSetComp i wi g tt te nt ci D σ H = wi σ H fun J H1 => ∀ acc, H1 acc = none → ∀ bk : Bk, CompGW J (g bk) (tt bk) (te bk) nt ci σ acc (fun H' => D.nx (σ.set i (some (.ref acc))) H') (upd H1 acc (.lst [])) := rfl
theorem r_yes {Q : Bool → Hp → Prop} : tYes σ H Q = Q true H := rfl
end
end L2
namespace L2
open PySem PySem.Spec PyProof.Rows
section
variable {H : Hp} {Q : VK} {σ : St} {D : Ends} {K : PySem.W.Frag}
theorem r_slT {a : Addr} {lo hi : Option Int} : rSlT K (.ref a) lo hi H Q = ∃ xs, SqT K H a xs ∧ ¬ (HT.sIx xs.length 0 lo = 0 ∧ HT.sIx xs.length xs.length hi = xs.length) ∧ ∀ p, H p = none → Q (.ref p) (upd H p (.tup (cutV xs lo hi))) := propext ⟨by rintro ⟨_, xs, e1, h⟩; cases e1; exact ⟨xs, h⟩, by rintro ⟨xs, h⟩; exact ⟨_, xs, rfl, h⟩⟩
theorem r_inR {x : V} {p : Addr} : rIn K false x (.ref p) H Q = ∃ xs, (SqL K H p xs ∨ SqT K H p xs) ∧ flatV x = true ∧ xs.all flatV = true ∧ Q (.bl (inV x xs)) H := propext ⟨by rintro ⟨_, xs, e1, h⟩; cases e1; exact ⟨xs, h⟩, by rintro ⟨xs, h⟩; exact ⟨_, xs, rfl, h⟩⟩
theorem r_notInR {x : V} {p : Addr} : rIn K true x (.ref p) H Q = ∃ xs, (SqL K H p xs ∨ SqT K H p xs) ∧ flatV x = true ∧ xs.all flatV = true ∧ Q (.bl (!inV x xs)) H := propext ⟨by rintro ⟨_, xs, e1, h⟩; cases e1; exact ⟨xs, h⟩, by rintro ⟨xs, h⟩; exact ⟨_, xs, rfl, h⟩⟩
end
theorem Paired.get {α β : Type} {F : α → β → Prop} : ∀ {l₁ : List α} {l₂ : List β} {i : Nat} {a : α}, Paired F l₁ l₂ → l₁[i]? = some a → ∃ b, l₂[i]? = some b ∧ F a b
  | _, _, _, _, .nil, e => by simp at e
  | _, _, 0, _, .cons h _, e => by simp at e; subst e; exact ⟨_, rfl, h⟩
  | _, _, i + 1, a, .cons _ t, e => by
    obtain ⟨b, h1, h2⟩ := Paired.get (i := i) (a := a) t (by simpa using e)
    exact ⟨b, by simpa using h1, h2⟩
theorem Same.updM {H0 H : Hp} {p : Addr} {o : HO} (s : Same H0 H) (h : H0 p = none) : Same H0 (L2.upd H p o) := fun b u e => by rw [upd_ne (ne_of_none e h)]; exact s b u e
theorem Same.updN {H0 H : Hp} {p : Addr} {o : HO} (s : Same H0 H) (h : H p = none) : Same H0 (L2.upd H p o) := s.updM (s.free h)
theorem ite_bool {b : Bool} {A B : Prop} (h1 : b = true → A) (h2 : b = false → B) : if b = true then A else B := by
  cases b
  · rw [if_neg Bool.false_ne_true]; exact h2 rfl
  · rw [if_pos rfl]; exact h1 rfl
theorem cxOf_K {CX : CXT} {P : Program} {w : World} {K : PySem.W.Frag} {mg : Str → Option Value} {base : Heap} {N : List Str} {qual : Str} {scope : Scope} {f : Addr} {cd : Value} {A : Around} {outer : List Env} {s : Shared} {H : Hp} {E : XK} : (cxOf CX P w K mg base N qual scope f cd A outer s H E).K = K := rfl
theorem wish_K {X : Cx} {E : Value → Shared → Prop} : (X.wish E).K = X.K := rfl
theorem blk_K {X : Cx} {N' : List Str} {scope : Scope} {b : Bk} : (X.blk N' scope b).K = X.K := rfl
theorem r_blk1 {o : Option V} {ci : List Nat} {σ : St} : blkSt [o] ci σ = none :: o :: ci.map fun i => (σ[i]?).join := rfl
theorem r_blk2 {o o' : Option V} {ci : List Nat} {σ : St} : blkSt [o, o'] ci σ = none :: o :: o' :: ci.map fun i => (σ[i]?).join := rfl
noncomputable def isStrV : V → Bool
  | .str _ => true
  | _ => false
section
variable {K : PySem.W.Frag} {tt : TT} {te : TE} {ci : List Nat} {σ : St} {acc : Addr} {Q : Hp → Prop} {H1 : Hp} {a : Addr} {xs : List V}
theorem flat_turn (p : V → Bool) (f : V → V) {x : V} {ys : List V} {H : Hp} {os : List (Option V)} {i : Nat} {Pv : Nat → List V → Hp → Prop} (ho : os.length = 1) (hi : xs[i]? = some x)
    (hp : ∀ Q', Q' (p x) H → tt (blkSt [some x] ci σ) H Q') (hf : ∀ Q', p x = true → Q' (f x) H → te (blkSt [some x] ci σ) H Q') (hacc : H acc = some (.lst ys)) (hlen : ys.length < sizeLine)
    (h1 : p x = true → Pv (i + 1) (ys ++ [f x]) (upd H acc (.lst (ys ++ [f x])))) (h2 : p x = false → Pv (i + 1) ys H) :
    gName 1 x (blkSt os ci σ) H fun σ1 H1 => (∃ os', os'.length = 1 ∧ σ1 = blkSt os' ci σ) ∧ tt σ1 H1 fun b H2 =>
      if b = true then te σ1 H2 fun z H3 => H3 acc = some (.lst ys) ∧ ys.length < sizeLine ∧ Pv (i + 1) (ys ++ [z]) (upd H3 acc (.lst (ys ++ [z]))) else Pv (i + 1) ys H2 := by
  have e : (blkSt os ci σ).set 1 (some x) = blkSt [some x] ci σ := by
    match os, ho with
    | [o], _ => rfl
  show (∃ os', os'.length = 1 ∧ (blkSt os ci σ).set 1 (some x) = blkSt os' ci σ) ∧ tt ((blkSt os ci σ).set 1 (some x)) H _
  rw [e]
  refine ⟨⟨[some x], rfl, rfl⟩, hp _ ?_⟩
  cases hb : p x with
  | true => rw [if_pos rfl]; exact hf _ hb ⟨hacc, hlen, h1 hb⟩
  | false => rw [if_neg Bool.false_ne_true]; exact h2 hb
theorem take_filter_map {p : V → Bool} {f : V → V} {xs : List V} {i : Nat} {x : V} (hi : xs[i]? = some x) : ((xs.take (i + 1)).filter p).map f = ((xs.take i).filter p).map f ++ (if p x = true then [f x] else []) := by
  obtain ⟨h, e⟩ := List.getElem?_eq_some_iff.mp hi
  rw [List.take_succ_eq_append_getElem h, e, List.filter_append, List.map_append]
  congr 1
  cases hb : p x <;> simp [hb]
theorem flat_len {p : V → Bool} {f : V → V} {xs : List V} {i : Nat} {x : V} (hi : xs[i]? = some x) (hz : xs.length ≤ sizeLine) : (((xs.take i).filter p).map f).length < sizeLine := by
  obtain ⟨h, e⟩ := List.getElem?_eq_some_iff.mp hi
  rw [List.length_map]
  have := List.length_filter_le p (xs.take i)
  rw [List.length_take] at this
  omega
theorem cg_flat {J : It} (p : V → Bool) (f : V → V) (hz : xs.length ≤ sizeLine) (hacc : H1 acc = none)
    (hJ : ∀ (Pv : Nat → List V → Hp → Prop), Pv 0 [] (upd H1 acc (.lst [])) → (∀ i ys H, Pv i ys H → ∃ ys', H = upd H1 acc (.lst ys')) →
      (∀ (i : Nat) x ys H os, xs[i]? = some x → os.length = 1 → Pv i ys H → gName 1 x (blkSt os ci σ) H fun σ1 H1 => (∃ os', os'.length = 1 ∧ σ1 = blkSt os' ci σ) ∧ tt σ1 H1 fun b H2 =>
        if b = true then te σ1 H2 fun z H3 => H3 acc = some (.lst ys) ∧ ys.length < sizeLine ∧ Pv (i + 1) (ys ++ [z]) (upd H3 acc (.lst (ys ++ [z]))) else Pv (i + 1) ys H2) →
      (∀ ys H, Pv xs.length ys H → Q H) → CompGW J (gName 1) tt te 1 ci σ acc Q (upd H1 acc (.lst [])))
    (hp : ∀ x ∈ xs, ∀ H Q', Same H1 H → Q' (p x) H → tt (blkSt [some x] ci σ) H Q') (hf : ∀ x ∈ xs, ∀ H Q', Same H1 H → p x = true → Q' (f x) H → te (blkSt [some x] ci σ) H Q')
    (q : Q (upd H1 acc (.lst ((xs.filter p).map f)))) : CompGW J (gName 1) tt te 1 ci σ acc Q (upd H1 acc (.lst [])) := by
  refine hJ (fun i ys H => ys = ((xs.take i).filter p).map f ∧ H = upd H1 acc (.lst ys)) ⟨by simp, rfl⟩ (fun i ys H h => ⟨ys, h.2⟩) ?_ ?_
  · rintro i x ys H os hi ho ⟨rfl, rfl⟩
    have hm := List.mem_of_getElem? hi
    refine flat_turn (xs := xs) (Pv := fun i ys H => ys = ((xs.take i).filter p).map f ∧ H = upd H1 acc (.lst ys)) p f ho hi (fun Q' h => hp x hm _ _ (Same.upd hacc) h) (fun Q' hb h => hf x hm _ _ (Same.upd hacc) hb h) upd_same (flat_len hi hz) (fun hb => ?_) (fun hb => ?_)
    · rw [take_filter_map hi, if_pos hb]; exact ⟨rfl, by rw [upd_upd]⟩
    · rw [take_filter_map hi, if_neg (by rw [hb]; exact Bool.false_ne_true), List.append_nil]; exact ⟨rfl, rfl⟩
  · rintro ys H ⟨rfl, rfl⟩
    rw [List.take_length]
    exact q
theorem cg_flatL (p : V → Bool) (f : V → V) (hz : xs.length ≤ sizeLine) (hl : SqL K H1 a xs) (hacc : H1 acc = none) 
    (hp : ∀ x ∈ xs, ∀ H Q', Same H1 H → Q' (p x) H → tt (blkSt [some x] ci σ) H Q') (hf : ∀ x ∈ xs, ∀ H Q', Same H1 H → p x = true → Q' (f x) H → te (blkSt [some x] ci σ) H Q')
    (q : Q (upd H1 acc (.lst ((xs.filter p).map f)))) : CompGW (Itl K a) (gName 1) tt te 1 ci σ acc Q (upd H1 acc (.lst [])) :=
  cg_flat p f hz hacc (fun Pv h0 hH hs hd => cg_list Pv h0 (fun i ys H _ h => by obtain ⟨ys', rfl⟩ := hH i ys H h; exact (Same.upd hacc).seq hl) hs hd) hp hf q
theorem cg_flatT (p : V → Bool) (f : V → V) (hz : xs.length ≤ sizeLine) (hl : SqT K H1 a xs) (hacc : H1 acc = none) 
    (hp : ∀ x ∈ xs, ∀ H Q', Same H1 H → Q' (p x) H → tt (blkSt [some x] ci σ) H Q') (hf : ∀ x ∈ xs, ∀ H Q', Same H1 H → p x = true → Q' (f x) H → te (blkSt [some x] ci σ) H Q')
    (q : Q (upd H1 acc (.lst ((xs.filter p).map f)))) : CompGW (Itt K a) (gName 1) tt te 1 ci σ acc Q (upd H1 acc (.lst [])) :=
  cg_flat p f hz hacc (fun Pv h0 hH hs hd => cg_tup Pv h0 (fun i ys H _ h => by obtain ⟨ys', rfl⟩ := hH i ys H h; exact (Same.upd hacc).seqT hl) hs hd) hp hf q
theorem cg_flatR {lo : Int} {n : Nat} (p : Int → Bool) (f : Int → V) (hz : n ≤ sizeLine) (hacc : H1 acc = none) 
    (hp : ∀ i : Nat, i < n → ∀ H Q', Same H1 H → Q' (p (lo + i)) H → tt (blkSt [some (.int (lo + i))] ci σ) H Q') (hf : ∀ i : Nat, i < n → ∀ H Q', Same H1 H → p (lo + i) = true → Q' (f (lo + i)) H → te (blkSt [some (.int (lo + i))] ci σ) H Q')
    (q : Q (upd H1 acc (.lst (((List.range n).filter fun i : Nat => p (lo + i)).map fun i : Nat => f (lo + i))))) : CompGW (Itr lo n) (gName 1) tt te 1 ci σ acc Q (upd H1 acc (.lst [])) := by
  have hx : ∀ (i : Nat), i < n → ((List.range n).map fun k : Nat => V.int (lo + k))[i]? = some (.int (lo + i)) := fun i hi => by simp [hi]
  have key := cg_flat (xs := (List.range n).map fun k : Nat => V.int (lo + k)) (J := Itr lo n) (tt := tt) (te := te) (ci := ci) (σ := σ) (acc := acc) (Q := Q) (H1 := H1)
    (fun x => match x with | .int i => p i | _ => false) (fun x => match x with | .int i => f i | _ => .non) (by simpa using hz) hacc
    (fun Pv h0 hH hs hd => cg_range Pv h0 (fun i ys H os hi ho h => hs i _ ys H os (hx i hi) ho h) (fun ys H h => hd ys H (by simpa using h)))
    (fun x hm H Q' sm h => by
      obtain ⟨k, hk, rfl⟩ := List.mem_map.mp hm
      exact hp k (List.mem_range.mp hk) H Q' sm h)
    (fun x hm H Q' sm hb h => by
      obtain ⟨k, hk, rfl⟩ := List.mem_map.mp hm
      exact hf k (List.mem_range.mp hk) H Q' sm hb h)
  refine key ?_
  have e : (((List.range n).map fun k : Nat => V.int (lo + k)).filter (fun x => match x with | .int i => p i | _ => false)).map (fun x => match x with | .int i => f i | _ => .non) = ((List.range n).filter fun i : Nat => p (lo + i)).map fun i : Nat => f (lo + i) := by
    rw [List.filter_map, List.map_map]
    rfl
  rw [e]
  exact q
end
end L2
namespace FB
open PySem L2
inductive Opd where
  | box (n : Str)
  | word (i : Int)
  deriving DecidableEq
noncomputable def Opd.v : Opd → V
  | .box n => .str n
  | .word i => .int i
inductive Deed where
  | tell (a : Opd)
  | copy (d : Str) (a : Opd)
  | op (f d : Str) (a b : Opd)
  deriving DecidableEq
noncomputable def opsL : List Str := ["plus", "less", "and", "or", "xor", "below", "same"]
noncomputable def Deed.vs : Deed → List V
  | .tell a => [.str "tell", a.v]
  | .copy d a => [.str "copy", .str d, a.v]
  | .op f d a b => [.str f, .str d, a.v, b.v]
noncomputable def Deed.fine : Deed → Prop
  | .op f _ _ _ => f ∈ opsL
  | _ => True
end FB
namespace L2
open PySem PySem.Spec PyProof.Rows
section
variable {X : Cx}
theorem vals_strs : ∀ {ns : List Str} {us : List Value}, Vals (ns.map V.str) us → StrsAre us ns
  | [], _, r => by cases r; exact .nil
  | n :: ns, _, r => by
    cases r with
    | cons r0 rr =>
      obtain ⟨t, rfl⟩ := r0
      exact StrsAre.cons _ _ (vals_strs rr)
noncomputable def rJoin (K : PySem.W.Frag) : V → List V → Hp → VK → Prop := fun x vs H Q => ∃ (z : Str) (p : Addr) (ys : List Str), x = .str z ∧ vs = [.ref p] ∧ SqL K H p (ys.map V.str) ∧ (ys.map (·.length)).sum + ys.length * z.length ≤ 16777216 ∧ Q (.str (Txt.join z ys)) H
theorem mt_join : MtR X "str.join" (rJoin X.K) := by
  intro pins s σ H x vs v us Q I rx rv h
  obtain ⟨z, p, ys, rfl, rfl, hq, hz, q⟩ := h
  obtain ⟨t, rfl⟩ := rx
  obtain ⟨u, rfl, ru⟩ := rv.one
  cases ru
  obtain ⟨its, r, pl, _⟩ := I.list hq
  exact join_list pl.isList (by simpa using vals_strs r) hz fun t' k => ⟨.str _, H, I.tok _, ⟨_, rfl⟩, q⟩
theorem sys_new {pins : List (Addr × Obj)} {σ : St} {H : Hp} {s : Shared} (I : Inv X pins σ H s) : (s.heap.objs.size == sysModules) = false := by
  have := I.big
  simp only [beq_eq_false_iff_ne, ne_eq]
  exact fun e => by rw [e] at this; exact absurd this (Nat.lt_irrefl _)
noncomputable def rCopyD : V → List V → Hp → VK → Prop := fun x vs H Q => ∃ p kvs, x = .ref p ∧ vs = [] ∧ Rd H p (.dK kvs) ∧ ∀ l, H l = none → Q (.ref l) (upd H l (.dK kvs))
noncomputable def eqDV (ka kb : List (Key × V)) : Bool := ka.length == kb.length && ka.all fun kv => match valV kb kv.1 with | none => false | some y => eqV kv.2 y
theorem valAt {kvs : List (Key × V)} {vs : List (Key × Value)} (r : KV kvs vs) (k : Key) : (valV kvs k = none ∧ valueAt vs k = none) ∨ ∃ v u, valV kvs k = some v ∧ valueAt vs k = some u ∧ RelV v u := by
  induction r with
  | nil => exact .inl ⟨rfl, rfl⟩
  | @cons a b l1 l2 h t ih =>
    obtain ⟨h1, h2⟩ := h
    by_cases e : a.1 = k
    · refine .inr ⟨a.2, b.2, valV_pos e, ?_, h2⟩
      unfold valueAt
      rw [List.find?_cons]
      simp [h1.symm.trans e]
    · rw [valV_neg e]
      have e' : valueAt (b :: l2) k = valueAt l2 k := by
        unfold valueAt
        rw [List.find?_cons]
        have : ¬ b.1 = k := fun z => e (h1.trans z)
        simp [this]
      rw [e']
      exact ih
theorem hits_of {A : Around} {s : Shared} {kb : List (Key × V)} {wb : List (Key × Value)} (rb : KV kb wb) (fb : kb.all (fun kv => flatV kv.2) = true) : ∀ {ka : List (Key × V)} {wa : List (Key × Value)}, KV ka wa → ka.all (fun kv => flatV kv.2) = true →
    PySem.W.KeqHits A s wb wa (ka.all fun kv => match valV kb kv.1 with | none => false | some y => eqV kv.2 y)
  | _, _, .nil, _ => .nil
  | a :: ka, b :: wa, .cons ⟨h1, h2⟩ t, hf => by
    rw [List.all_cons, Bool.and_eq_true] at hf
    rw [List.all_cons]
    rcases valAt rb a.1 with ⟨e1, e2⟩ | ⟨v, u, e1, e2, r⟩
    · rw [e1]
      obtain ⟨k, y⟩ := b
      have hk : a.1 = k := h1
      subst hk
      rw [Bool.false_and]
      exact .miss e2
    · rw [e1]
      obtain ⟨k, y⟩ := b
      have hk : a.1 = k := h1
      subst hk
      refine .hit e2 ?_ (hits_of rb fb t hf.2)
      have fv : flatV v = true := by
        have hm : ∃ kv ∈ kb, kv.2 = v := by
          unfold valV at e1
          obtain ⟨kv, hkv, e⟩ := Option.map_eq_some_iff.mp e1
          exact ⟨kv, List.mem_of_find?_eq_some hkv, e⟩
        obtain ⟨kv, hm, rfl⟩ := hm
        exact List.all_eq_true.mp fb kv hm
      exact eqAt_V h2 r hf.1 fv
theorem eqDV_self {ka : List (Key × V)} (hn : (ka.map (·.1)).Nodup) (hf : ka.all (fun kv => flatV kv.2) = true) : eqDV ka ka = true := by
  unfold eqDV
  rw [beq_self_eq_true, Bool.true_and, List.all_eq_true]
  intro kv hm
  have e : valV ka kv.1 = some kv.2 := by
    clear hf
    induction ka with
    | nil => cases hm
    | cons p r ih =>
      rw [List.map_cons, List.nodup_cons] at hn
      rcases List.mem_cons.mp hm with rfl | hm
      · exact valV_pos rfl
      · rw [valV_neg (fun z => hn.1 (by rw [z]; exact List.mem_map.mpr ⟨kv, hm, rfl⟩))]
        exact ih hn.2 hm
  rw [e]
  exact eqV_self (List.all_eq_true.mp hf kv hm)
end
end L2
namespace L2
open PySem PySem.Spec PyProof.Rows
section
variable {X : Cx} {x : Str} {p pos : Pos} {e : Expr} {es : List Expr} {t : TA} {id T : String} {r : List V → Hp → VK → Prop}
theorem qv (i : Nat) {x : Str} {pos : Pos} (hv : Vis X.env.scope x) (hN : X.N[i]? = some x := by rfl) (hd : (x == ("__debug__" : Str)) = false := by kernel_rfl) (hcd : (x == ("__classdict__" : Str)) = false := by kernel_rfl) : PE X (.Name x pos) (tVar i) := pe_var hN hv hd hcd
theorem vl {sc : Scope} {x : Str} (h : sc.names.lookup x = some .local := by kernel_rfl) : Vis sc x := .inl h
theorem vc {sc : Scope} {x : Str} (h : sc.names.lookup x = some .cell := by kernel_rfl) : Vis sc x := .inr (.inl h)
theorem ll {sc : Scope} {x : Str} (h : sc.names.lookup x = some .local := by kernel_rfl) : Loc sc x := .inl h
theorem lc {sc : Scope} {x : Str} (h : sc.names.lookup x = some .cell := by kernel_rfl) : Loc sc x := .inr h
theorem gl {X : Cx} {x : Str} (h : X.env.scope.names.lookup x = some .globalImplicit := by kernel_rfl) : Gl X x := h
theorem ne_name {x : Str} (h : (x == ("__name__" : Str)) = false := by kernel_rfl) : x ≠ "__name__" := fun z => by subst z; exact absurd h (by decide +kernel)
theorem qe_callB (hc : CallR X (.builtin id) r) (hg : Gl X x) (hm : X.mg x = none) (hv : bootBuiltins x = some (.builtin id)) (ha : PA X (e :: es) t) (hn : (x == ("__name__" : Str)) = false := by kernel_rfl) (hdb : (x == ("__debug__" : Str)) = false := by kernel_rfl)
    (he : starEach (e :: es) X.env = (false, eval e X.env) :: starEach es X.env := by rfl) (hpl : (backTo pos (starEach es X.env)).any (·.1) = false := by rfl) : PE X (.Call (.Name x p) (e :: es) [] pos) (tCB r t) := pe_callB hc hg hm hv ha (ne_name hn) hdb he hpl
theorem qe_callTy (hc : CallR X (.type T) r) (hg : Gl X x) (hm : X.mg x = none) (hv : bootBuiltins x = some (.type T)) (ha : PA X (e :: es) t) (hn : (x == ("__name__" : Str)) = false := by kernel_rfl) (hdb : (x == ("__debug__" : Str)) = false := by kernel_rfl)
    (he : starEach (e :: es) X.env = (false, eval e X.env) :: starEach es X.env := by rfl) (hpl : (backTo pos (starEach es X.env)).any (·.1) = false := by rfl) : PE X (.Call (.Name x p) (e :: es) [] pos) (tCB r t) := pe_callTy hc hg hm hv ha (ne_name hn) hdb he hpl
theorem qe_bltn {x : Str} {v : V} {u : Value} {pos : Pos} (hg : Gl X x) (hm : X.mg x = none) (hv : bootBuiltins x = some u) (r : RelV v u) (hn : (x == ("__name__" : Str)) = false := by kernel_rfl) (hd : (x == ("__debug__" : Str)) = false := by kernel_rfl) : PE X (.Name x pos) (tC v) := pe_bltn hg hm hv r (ne_name hn) hd
theorem qe_glob {x : Str} {v : V} {u : Value} {pos : Pos} (hg : Gl X x) (hm : X.mg x = some u) (r : RelV v u) (hd : (x == ("__debug__" : Str)) = false := by kernel_rfl) : PE X (.Name x pos) (tC v) := pe_glob hg hm r hd
theorem qe_callD {k : Nat} {f : Addr} {fd : FuncData} {ps : List Str} {sp : Sp} {x : Str} {st : Stmt} {p pos : Pos} {e : Expr} {es : List Expr} {t : TA} (D : DefAt X.K X.mg x st ps f fd) (G : FnOk X.prog X.w X.K X.mg X.base CX0 k f fd ps sp) (hr : Room k X.A)
    (ha : PA X (e :: es) t) (hg : Gl X x) (hdb : (x == ("__debug__" : Str)) = false := by kernel_rfl) (he : starEach (e :: es) X.env = (false, eval e X.env) :: starEach es X.env := by rfl) (hpl : (backTo pos (starEach es X.env)).any (·.1) = false := by rfl) :
    PE X (.Call (.Name x p) (e :: es) [] pos) (tCall sp [] E0 t) := pe_callD D G hr ha hg hdb he hpl
noncomputable def constV : Expr → Option V
  | .Constant (.int i) _ _ => some (.int i)
  | .Constant (.str x) _ _ => some (.str x)
  | .Constant (.bool b) _ _ => some (.bl b)
  | .Constant .none _ _ => some .non
  | _ => none
noncomputable def constVs : List Expr → Option (List V)
  | [] => some []
  | e :: es => (constV e).bind fun v => (constVs es).map fun vs => v :: vs
noncomputable def tVs (vs : List V) : TA := fun _ H Q => Q vs H
theorem constV_pe {e : Expr} {v : V} (h : constV e = some v) : PE X e (tC v) ∧ ∀ es, starEach (e :: es) X.env = (false, eval e X.env) :: starEach es X.env := by
  unfold constV at h
  split at h
  · cases h; exact ⟨pe_int, fun _ => rfl⟩
  · cases h; exact ⟨pe_str, fun _ => rfl⟩
  · cases h; exact ⟨pe_bl, fun _ => rfl⟩
  · cases h; exact ⟨pe_non, fun _ => rfl⟩
  · cases h
theorem pa_const : ∀ {es : List Expr} {vs : List V}, constVs es = some vs → PA X es (tVs vs)
  | [], _, h => by cases h; exact pa_nil
  | e :: es, vs, h => by
    unfold constVs at h
    obtain ⟨v, h1, h2⟩ := Option.bind_eq_some_iff.mp h
    obtain ⟨ws, h3, h4⟩ := Option.map_eq_some_iff.mp h2
    subst h4
    obtain ⟨p1, p2⟩ := constV_pe (X := X) h1
    exact pa_cons p1 (pa_const h3) (p2 es)
theorem r_Vs {vs : List V} {σ : St} {H : Hp} {Z : List V → Hp → Prop} : tVs vs σ H Z = Z vs H := rfl
theorem r_join {z : Str} {p : Addr} {K : PySem.W.Frag} {H : Hp} {Q : VK} : rJoin K (.str z) [.ref p] H Q = ∃ ys : List Str, SqL K H p (ys.map V.str) ∧ (ys.map (·.length)).sum + ys.length * z.length ≤ 16777216 ∧ Q (.str (Txt.join z ys)) H := propext ⟨by rintro ⟨_, _, ys, e1, e2, h⟩; cases e1; cases e2; exact ⟨ys, h⟩, by rintro ⟨ys, h⟩; exact ⟨_, _, ys, rfl, rfl, h⟩⟩
theorem r_tyStr {z : Str} {K : PySem.W.Frag} {H : Hp} : tyV K "str" (.str z) H = True := eq_true (show ("str" : String) = "str" from rfl)
theorem r_dnewK {σ : St} {H : Hp} {Q : VK} : tDNewK σ H Q = ∀ p, H p = none → Q (.ref p) (upd H p (.dK [])) := rfl
theorem r_dput {td ty tv : TE} {D : Ends} {σ : St} {H : Hp} : sDPut td ty tv D σ H = tv σ H fun v H1 => td σ H1 fun x H2 => ty σ H2 fun y H3 => ∃ a H4, x = .ref a ∧ DPut H3 a y v H4 ∧ D.nx σ H4 := rfl
theorem r_exRp {c : Addr} {Z : Addr → Hp → Prop} : (∃ a H4, V.ref c = .ref a ∧ Z a H4) = ∃ H4, Z c H4 := propext ⟨by rintro ⟨_, H4, e, q⟩; cases e; exact ⟨H4, q⟩, by rintro ⟨H4, q⟩; exact ⟨c, H4, rfl, q⟩⟩
theorem r_gSub {to ti : TE} {ts : TSet} {v : V} {σ : St} {H : Hp} {Q : St → Hp → Prop} : gSub to ti ts v σ H Q = to σ H fun o H1 => ti σ H1 fun i H2 => ts o i v H2 fun H3 => Q σ H3 := rfl
noncomputable def tMid (t u : TS) : TS := fun D σ H => ∃ Mid : St → Hp → Prop, t { D with nx := Mid } σ H ∧ ∀ σ' H', Mid σ' H' → u D σ' H'
theorem pss_mid {st : Stmt} {ss : List Stmt} {ta tb : TS} (h1 : PS X st ta) (h2 : PSs X ss tb) : PSs X (st :: ss) (tMid ta tb) := by
  intro pins s σ H D I h
  obtain ⟨Mid, a, b⟩ := h
  refine wpAny_execs_cons (thn (h1 pins s σ H { D with nx := Mid } I a) fun f s1 q => ?_)
  cases f with
  | next =>
    obtain ⟨σ', H', I', q⟩ := q
    exact h2 pins s1 σ' H' D I' (b σ' H' q)
  | ret v => exact q
  | brk => exact q
  | cont => exact q
theorem r_mid {ta tb : TS} {D : Ends} {σ : St} {H : Hp} : tMid ta tb D σ H = ∃ Mid : St → Hp → Prop, ta { D with nx := Mid } σ H ∧ ∀ σ' H', Mid σ' H' → tb D σ' H' := rfl
end
end L2
namespace L2
open PySem PySem.Spec PyProof.Rows
structure KlsAt (K : PySem.W.Frag) (mg : Str → Option Value) (x : Str) (C : Addr) : Prop where
  cl : Cls K C
  mks : PySem.W.makesIn K C = true
  kp : PySem.W.keepIn K (.ref C) = true
  M : mg x = some (.ref C)
structure MethAt (K : PySem.W.Frag) (C : Addr) (m qual : Str) (st : Stmt) (ps : List Str) (f : Addr) (fd : FuncData) : Prop where
  F : Fun K m qual st f fd
  B : Binds K fd ps []
  M : Meth K C m f
theorem KlsAt.make {K : PySem.W.Frag} {mg : Str → Option Value} {x qual : Str} {C f : Addr} {st : Stmt} {ps : List Str} {fd : FuncData} (c : KlsAt K mg x C) (m : MethAt K C "__init__" qual st ps f fd) : Mk K C f := ⟨c.mks, m.M.at_, m.M.fn, c.kp⟩
section
variable {X : Cx} {k : Nat} {f C : Addr} {fd : FuncData} {ps : List Str} {sp : Sp} {x m qual : Str} {st : Stmt} {p pos apos : Pos} {e o : Expr} {es : List Expr} {ta : TE} {t : TA}
theorem qe_makeD (c : KlsAt X.K X.mg x C) (D : MethAt X.K C "__init__" qual st ps f fd) (G : FnOk X.prog X.w X.K X.mg X.base CX0 k f fd ps sp) (hr : Room (k + 1) X.A)
    (ha : PA X (e :: es) t) (hg : Gl X x) (hdb : (x == ("__debug__" : Str)) = false := by kernel_rfl) (he : starEach (e :: es) X.env = (false, eval e X.env) :: starEach es X.env := by rfl) (hpl : (backTo pos (starEach es X.env)).any (·.1) = false := by rfl) :
    PE X (.Call (.Name x p) (e :: es) [] pos) (tMake C sp [] E0 t) := pe_make (c.make D) G hr hg c.M D.B .nil pass0 ha hdb he hpl
theorem qe_make0D (c : KlsAt X.K X.mg x C) (D : MethAt X.K C "__init__" qual st ps f fd) (G : FnOk X.prog X.w X.K X.mg X.base CX0 k f fd ps sp) (hr : Room (k + 1) X.A)
    (hg : Gl X x) (hdb : (x == ("__debug__" : Str)) = false := by kernel_rfl) : PE X (.Call (.Name x p) [] [] pos) (tMake C sp [] E0 tNil) := pe_make0 (c.make D) G hr hg c.M D.B .nil pass0 hdb
theorem qe_methD {pl : Sem Bool} (c : Cls X.K C) (D : MethAt X.K C m qual st ps f fd) (G : FnOk X.prog X.w X.K X.mg X.base CX0 k f fd ps sp) (hr : Room k X.A) (he : PE X o ta) (ha : PA X (e :: es) t)
    (hst : starEach (e :: es) X.env = (false, eval e X.env) :: starEach es X.env := by rfl) (hpl : (backTo pos (starEach es X.env)).any (·.1) = false := by rfl)
    (ht : eval (.Call (.Attribute o m apos) (e :: es) [] pos) X.env = (do
      let ov ← eval o X.env
      standAt apos.atName
      let (f, first) ← holding [ov] (getMethod ov m pl)
      callWith pos f first (backTo pos (starEach (e :: es) X.env)) (backToKw pos (keywordEach [] X.env))) := by rfl) :
    PE X (.Call (.Attribute o m apos) (e :: es) [] pos) (tMeth C m sp [] E0 ta t) := pe_meth he c D.M G hr D.B .nil pass0 ha hst hpl ht
theorem qe_meth0D {pl : Sem Bool} (c : Cls X.K C) (D : MethAt X.K C m qual st ps f fd) (G : FnOk X.prog X.w X.K X.mg X.base CX0 k f fd ps sp) (hr : Room k X.A) (he : PE X o ta)
    (ht : eval (.Call (.Attribute o m apos) [] [] pos) X.env = (do
      let ov ← eval o X.env
      standAt apos.atName
      let (f, first) ← holding [ov] (getMethod ov m pl)
      callWith pos f first (backTo pos (starEach [] X.env)) (backToKw pos (keywordEach [] X.env))) := by rfl) :
    PE X (.Call (.Attribute o m apos) [] [] pos) (tMeth C m sp [] E0 ta tNil) := pe_meth0 he c D.M G hr D.B .nil pass0 ht
end
section
variable {H : Hp} {Q : VK} {σ : St} {D : Ends} {K : PySem.W.Frag}
noncomputable def FldPut (K : PySem.W.Frag) (x : V) (f : Str) (y : V) (H : Hp) (Z : Hp → Prop) : Prop := ∃ a C dx fs, x = .ref a ∧ H a = some (.ins C dx fs) ∧ Cls K C ∧ NoAttr K C f ∧ fs.length < 1000 ∧ Z (upd H a (.ins C dx (putF f y fs)))
noncomputable def FldGet (K : PySem.W.Frag) (x : V) (f : Str) (H : Hp) (Q : VK) : Prop := ∃ a C dx fs v, x = .ref a ∧ H a = some (.ins C dx fs) ∧ Cls K C ∧ NoAttr K C f ∧ fs.lookup f = some v ∧ Q v H
noncomputable def MethOf (C : Addr) (m : Str) (x : V) (H : Hp) (Z : Prop) : Prop := ∃ a dx fs, x = .ref a ∧ H a = some (.ins C dx fs) ∧ fs.lookup m = none ∧ Z
noncomputable def Make (C : Addr) (sp : Sp) (vs : List V) (H : Hp) (Q : VK) (E : XK) : Prop := ∀ x dx, H x = none → H dx = none → dx ≠ x → sp (.ref x :: vs) (upd (upd H dx (.own x)) x (.ins C dx [])) (fun v H2 => v = .non ∧ Q (.ref x) H2) E
theorem r_sfld {ta tv : TE} {f : Str} : sFld K ta tv f D σ H = tv σ H fun y H1 => ta σ H1 fun x H2 => FldPut K x f y H2 (D.nx σ) := rfl
theorem r_gfld {ta : TE} {f : Str} : tFld K ta f σ H Q = ta σ H fun x H1 => FldGet K x f H1 Q := rfl
theorem r_meth {C : Addr} {m : Str} {sp : Sp} {E : XK} {ta : TE} {t : TA} : tMeth C m sp [] E ta t σ H Q = ta σ H fun x H1 => MethOf C m x H1 (t σ H1 fun vs H2 => sp (x :: vs) H2 Q E) := by
  unfold tMeth MethOf; simp only [List.append_nil]
theorem r_make {C : Addr} {sp : Sp} {E : XK} {t : TA} : tMake C sp [] E t σ H Q = t σ H fun vs H1 => Make C sp vs H1 Q E := by
  unfold tMake Make; simp only [List.append_nil]
theorem fput {p C dx : Addr} {fs : List (Str × V)} {f : Str} {y : V} {Z : Hp → Prop} (e : H p = some (.ins C dx fs)) (c : Cls K C) (n : NoAttr K C f) (l : fs.length < 1000) (h : Z (upd H p (.ins C dx (putF f y fs)))) : FldPut K (.ref p) f y H Z := ⟨p, C, dx, fs, rfl, e, c, n, l, h⟩
theorem fget {p C dx : Addr} {fs : List (Str × V)} {f : Str} {v : V} (e : H p = some (.ins C dx fs)) (c : Cls K C) (n : NoAttr K C f) (l : fs.lookup f = some v) (h : Q v H) : FldGet K (.ref p) f H Q := ⟨p, C, dx, fs, v, rfl, e, c, n, l, h⟩
theorem methOf {p C dx : Addr} {fs : List (Str × V)} {m : Str} {Z : Prop} (e : H p = some (.ins C dx fs)) (l : fs.lookup m = none) (h : Z) : MethOf C m (.ref p) H Z := ⟨p, dx, fs, rfl, e, l, h⟩
end
end L2
namespace L2
open PySem PySem.Spec PyProof.Rows
section
variable {X : Cx}
end
end L2
namespace L2
open PySem PySem.Spec PyProof.Rows
section
variable {X : Cx}
end
end L2
namespace L2
open PySem PySem.Spec PyProof.Rows
open AutoSeq1 (wpAny_loadPart')
theorem rev_mro : mroOf (.type "reversed") = pure [.type "reversed", .type "object"] := by rw [mroOf_type]; kernel_rfl
theorem rev_new : typeLookup (.type "reversed") "__new__" = pure (some (.builtin "reversed.__new__")) := by rw [typeLookup_type, builtinLookup_eq_fast]; kernel_rfl
theorem rev_made : Bind.madeBy (.type "reversed") = pure (some "reversed.__new__") := madeBy_type rev_mro rev_new (by decide +kernel)
theorem rev_sub : isSubtype (.type "list_reverseiterator") (.type "reversed") = pure false := by rw [isSubtype_type]; kernel_rfl
theorem rev_sub2 : isSubtype (.type "reversed") (.type "reversed") = pure true := by rw [isSubtype_type]; kernel_rfl
theorem rev_entry : entryFor table "reversed.__new__" = some Builtin.«reversed.__new__» := entryFor_of_tree (by kernel_rfl)
theorem meets_reversed_new (l : Addr) (items : Array Value) (n : Nat) (dct : Option Addr) (sl : Array (Option Value)) :
    Meets (Builtin.«reversed.__new__» ⟨[.type "reversed", .ref l], []⟩) (fun _ R s => s.heap.get? l = some { cls := .type "list", dict := dct, data := .seq items n, slots := sl } ∧
      R (.ok (.ret (.ref s.heap.objs.size))) { s with heap := s.heap.push { cls := .type "list_reverseiterator", data := .fields #[.ref l, rawInt (((items.size : Nat) : Int) - 1)] } }) :=
  .of_wp fun prog w A R s h => by
    obtain ⟨hp, g, d, tk, os⟩ := s; obtain ⟨hl, h⟩ := h
    have hsub := rev_sub2
    have hL : Heap.IsList (Shared.heap ⟨hp, g, d, tk, os⟩) l items := ⟨_, hl, rfl, n, rfl⟩
    wp_walk using wpAny_loadPart' hl
    refine wpAny_of_eq PySem.F.slot_list_reversed.lookup ?_
    refine wpAny_bind ?_
    unfold bindSpecial
    refine wpAny_bind (wpAny_of_eq PySem.F.type_list_reversed ?_)
    rw [if_pos (by decide)]
    refine wpAny_pure ?_
    show wpAny _ _ (if (Value.builtin "list.__reversed__" == Value.none) = true then _ else _) _ _ _
    rw [if_neg (by decide)]
    refine wpAny_bind (wpAny_rule ?_)
    refine wpAny_bind ?_
    show wpAny (model prog w) A.in1 (call (.builtin "list.__reversed__") [.ref l]) _ _ _
    refine wpAny_call_entry PySem.F.slot_list_reversed hL.typeIs PySem.F.entry_list_reversed ?_ (PySem.F.args_list_reversed_1 _)
    wp_walk using wpAny_loadPart' hl
    exact ⟨_, rfl, wpAny_pure ⟨_, rfl, h⟩⟩
noncomputable def IsRev (h : Heap) (it l : Addr) (k : Int) : Prop := ∃ o, h.get? it = some o ∧ o.cls = .type "list_reverseiterator" ∧ o.data = .fields #[.ref l, .int k 0]
section
variable {prog : Program} {w : World} {A : Around} {E : Value → Shared → Prop} {s : Shared}
theorem call_reversed_list {l : Addr} {items : Array Value} {Q : Value → Shared → Prop} (hL : s.heap.IsList l items)
    (h : ∀ h', IsRev h' s.heap.objs.size l (((items.size : Nat) : Int) - 1) → h'.objs.size = s.heap.objs.size + 1 → (∀ b o, s.heap.get? b = some o → h'.get? b = some o) → Q (.ref s.heap.objs.size) { s with heap := h' }) :
    wpAny (model prog w) A (call (.type "reversed") [.ref l]) Q E s := by
  obtain ⟨⟨c, dct, dt, sl⟩, hl, hc, n, hd⟩ := hL
  replace hc : c = .type "list" := hc
  replace hd : dt = .seq items n := hd
  subst hc hd
  have hmro := rev_mro
  have hmade := rev_made
  have hsub := rev_sub
  refine wpAny_call (codeAny_of_tree ?_)
  show wpAny _ _ (callAny (.type "reversed") _) _ _ _
  refine wpAny_pure ⟨Code.quiet_builtin _ (by decide +kernel), codeAny_builtin F.entry_type_call ?_⟩
  rw [Around.under_plain (weight_type_call_type "reversed" [.ref l] []) (units_type_call_type "reversed" [.ref l] [])]
  have h1 : (Value.type "reversed" == Value.type "type") = false := by decide +kernel
  have h2 : ((Manifest.find? "reversed").bind (·.mro.findSome? fun t => (Manifest.find? t).bind fun b => if b.noNew then some true else if b.attrs.any (·.1 == "__new__") then some false else none)).getD false = false := by decide +kernel
  have hct : checkTypeCall "reversed" ⟨[.ref l], []⟩ = pure () := by kernel_rfl
  have hcn : checkBuiltinCall "reversed.__new__" ⟨[.type "reversed", .ref l], []⟩ = pure () := by kernel_rfl
  repeat (any_goals (first | assumption | wp_step))
  have key := meets_reversed_new l items n dct sl prog w A.in1 (wants (fun v s' => v = .ref s.heap.objs.size ∧ s' = { s with heap := s.heap.push { cls := .type "list_reverseiterator", data := .fields #[.ref l, rawInt (((items.size : Nat) : Int) - 1)] } }) E) s ⟨hl, rfl, rfl⟩
  refine codeAny_mono (codeAny_call_builtin (by decide +kernel) rev_entry (wpAny_of_eq hcn key)) fun r s₁ hr => ?_
  cases r with
  | error e => exact hr
  | ok fl =>
    cases fl with
    | ret obj =>
      obtain ⟨rfl, rfl⟩ := hr
      have hT : Shared.TypeIs { s with heap := s.heap.push { cls := .type "list_reverseiterator", data := .fields #[.ref l, rawInt (((items.size : Nat) : Int) - 1)] } } (.ref s.heap.objs.size) "list_reverseiterator" := ⟨_, Heap.get?_push_size _ rfl, rfl⟩
      repeat (any_goals (first | assumption | wp_step))
      exact h _ ⟨_, Heap.get?_push_size _ rfl, rfl, rfl⟩ (Heap.size_push ..) (fun b o x => Heap.get?_push_of_some _ x)
    | _ => exact hr.elim
end
end L2
namespace L2
open PySem PySem.Spec PyProof.Rows
theorem slot_rev_next : Slot "list_reverseiterator" "__next__" "list_reverseiterator.__next__" :=
  .of (owner := "list_reverseiterator") (n := "__next__") (by rw [typeLookup_type, builtinLookup_eq_fast]; kernel_rfl) (by decide +kernel) (by decide +kernel) (by decide +kernel)
    (by first | exact .inl (by decide +kernel) | exact .inr (by decide +kernel)) (by rw [isSubtype_type]; kernel_rfl)
theorem slot_rev_iter : Slot "list_reverseiterator" "__iter__" "list_reverseiterator.__iter__" :=
  .of (owner := "list_reverseiterator") (n := "__iter__") (by rw [typeLookup_type, builtinLookup_eq_fast]; kernel_rfl) (by decide +kernel) (by decide +kernel) (by decide +kernel)
    (by first | exact .inl (by decide +kernel) | exact .inr (by decide +kernel)) (by rw [isSubtype_type]; kernel_rfl)
theorem entry_rev_next : entryFor table "list_reverseiterator.__next__" = some Builtin.«list_reverseiterator.__next__» := entryFor_of_tree (by kernel_rfl)
theorem entry_rev_iter : entryFor table "list_reverseiterator.__iter__" = some Builtin.«dict_keyiterator.__iter__» :=
  entryFor_alias (id' := "dict_keyiterator.__iter__") (by kernel_rfl) (by first | rfl | decide +kernel | (unfold String.splitOn; simp +decide [String.splitOnAux])) (by decide +kernel) (by kernel_rfl)
theorem args_rev_next (a : Value) : argsOk "list_reverseiterator.__next__" ⟨[a], []⟩ := by unfold argsOk; kernel_rfl
theorem args_rev_iter (a : Value) : argsOk "list_reverseiterator.__iter__" ⟨[a], []⟩ := by unfold argsOk; kernel_rfl
theorem IsRev.typeIs {s : Shared} {it l : Addr} {k : Int} (x : IsRev s.heap it l k) : s.TypeIs (.ref it) "list_reverseiterator" := let ⟨o, ho, hc, _⟩ := x; ⟨o, ho, hc⟩
section
variable {prog : Program} {w : World} {A : Around} {E : Value → Shared → Prop} {s : Shared}
theorem pyIter_rev {it l : Addr} {k : Int} {Q : Value → Shared → Prop} (hi : IsRev s.heap it l k) (h : Q (.ref it) s) : wpAny (model prog w) A (pyIter (.ref it)) Q E s := by
  refine wpAny_pyIter_slot hi.typeIs slot_rev_iter (wpAny_call_entry slot_rev_iter hi.typeIs entry_rev_iter ?_ (args_rev_iter _))
  show wpAny _ _ (ret (.ref it)) _ _ s
  exact wpAny_pure ⟨_, rfl, "list_reverseiterator", _, hi.typeIs, slot_rev_next.lookup, h⟩
theorem pyNext_rev_item {it l : Addr} {i : Nat} {items : Array Value} {x : Value} {Q : Option Value → Shared → Prop} (hit : IsRev s.heap it l (i : Int)) (hl : s.heap.IsList l items) (hx : items[i]? = some x)
    (hQ : ∀ h', IsRev h' it l ((i : Int) - 1) → Heap.SameBut it s.heap h' → Q (some x) { s with heap := h' }) : wpAny (model prog w) A (pyNext (.ref it)) Q E s := by
  obtain ⟨o, ho, hc, hd⟩ := id hit
  obtain ⟨ol, hol, _, nl, hdl⟩ := hl
  unfold pyNext
  refine wpAny_bind (wpAny_attempt (wpAny_callSpecial?_slot (name := Str.ofString "__next__") hit.typeIs slot_rev_next (wpAny_call_entry slot_rev_next hit.typeIs entry_rev_next ?_ (args_rev_next _))))
  show wpAny _ _ (field (.ref it) 1 >>= _) _ _ s
  refine wpAny_bind (wpAny_field ho hd (x := .int i 0) rfl ?_)
  show wpAny _ _ (if (i : Int) < 0 then _ else _) _ _ s
  rw [if_neg (by omega)]
  show wpAny _ _ (field (.ref it) 0 >>= _) _ _ s
  refine wpAny_bind (wpAny_field ho hd (x := .ref l) rfl ?_)
  show wpAny _ _ (seqItems? (.ref l) >>= _) _ _ s
  refine wpAny_bind (wpAny_seqItems hol hdl ?_)
  simp only [Int.toNat_natCast, hx]
  refine wpAny_bind (wpAny_setField ho hd (by simp) (wpAny_pure ⟨x, rfl, wpAny_pure (hQ _ ?_ (Heap.SameBut.update ..))⟩))
  exact ⟨_, Heap.get?_update_self _ ho (Obj.isFreed_of_fields (Obj.data_mapFields hd _)), (Obj.cls_mapFields ..).trans hc, by
    rw [Obj.data_mapFields hd]; simp [rawInt]⟩
theorem pyNext_rev_end {it l : Addr} {Q : Option Value → Shared → Prop} (hh : A.handled = none) (hit : IsRev s.heap it l (-1))
    (hQ : ∀ h', Heap.ExtBut it s.heap h' → Q none { s with heap := h' }) : wpAny (model prog w) A (pyNext (.ref it)) Q E s := by
  obtain ⟨o, ho, hc, hd⟩ := id hit
  unfold pyNext
  refine wpAny_bind (wpAny_attempt (wpAny_callSpecial?_slot (name := Str.ofString "__next__") hit.typeIs slot_rev_next (wpAny_call_entry slot_rev_next hit.typeIs entry_rev_next ?_ (args_rev_next _))))
  show wpAny _ _ (field (.ref it) 1 >>= _) _ _ s
  refine wpAny_bind (wpAny_field ho hd (x := .int (-1) 0) rfl ?_)
  show wpAny _ _ (if (-1 : Int) < 0 then _ else _) _ _ s
  rw [if_pos (by decide)]
  refine wpAny_bind (wpAny_rule ?_)
  refine wpAny_bind ?_
  show wpAny _ _ (newExc (.type "StopIteration") [] >>= _) _ _ _
  refine wpAny_bind ?_
  simp only [newExc, newTuple]
  refine wpAny_bind (wpAny_newObj_type ?_ (by size_fits))
  refine wpAny_bind (m := firstArgMember _ _) (wpAny_of_eq (a := Value.none) (by first | rfl | (simp only [firstArgMember]; rfl)) ?_)
  refine wpAny_newObj_type ?_ (by size_fits)
  simp only [raiseNew]
  refine wpAny_bind (wpAny_handled ?_)
  rw [show A.in1.handled = none from hh]
  refine wpAny_bind (wpAny_pure (wpAny_throw ?_))
  refine wpAny_bind (wpAny_isInstance (T := "StopIteration") (b := true) ⟨_, Heap.get?_push_size _ rfl, rfl⟩ isSubtype_stop ?_)
  exact wpAny_pure (hQ _ (fun b o _ e => Heap.get?_push_of_some _ (Heap.get?_push_of_some _ e)))
end
end L2
namespace L2
open PySem PySem.Spec PyProof.Rows
noncomputable def Itv (K : PySem.W.Frag) (a : Addr) (n : Nat) : It :=
  ⟨fun i H => ∃ xs, SqL K H a xs ∧ xs.length = n ∧ i < n, fun i H x H' => H' = H ∧ ∀ xs, SqL K H a xs → xs.reverse[i]? = some x, fun i _ => n ≤ i⟩
theorem rev_at {α : Type} {xs : List α} {i : Nat} (h : i < xs.length) : xs.reverse[i]? = xs[xs.length - 1 - i]? := by
  rw [List.getElem?_reverse h]
theorem IsRev.keep {h h' : Heap} {it l : Addr} {k : Int} (x : IsRev h it l k) (hk : ∀ o, h.get? it = some o → h'.get? it = some o) : IsRev h' it l k := let ⟨o, ho, r⟩ := x; ⟨o, hk o ho, r⟩
theorem turn_rev {P : Program} {w : World} {K : PySem.W.Frag} {tg : Expr} (a it : Addr) (n : Nat) : Turn P w K tg (Itv K a n) [it] it (fun i h => i ≤ n ∧ IsRev h it a ((n : Int) - 1 - (i : Nat))) where
  mem := by simp
  obj := fun i h st b hb => by
    have e : b = it := by simpa using hb
    subst e
    obtain ⟨_, o, e, c, d⟩ := st
    exact ⟨o, e, fun v z => by rw [d] at z; cases z⟩
  keep := fun i h h' st k => ⟨st.1, st.2.keep fun o e => k it (by simp) o e⟩
  item := by
    intro X hP hw hK hc i pins s σ H E I hf st hg
    subst hP hw hK
    obtain ⟨xs, hq, hn, hi⟩ := hg
    subst hn
    obtain ⟨x, hx⟩ : ∃ x, xs[xs.length - 1 - i]? = some x := ⟨_, List.getElem?_eq_getElem (by omega)⟩
    obtain ⟨its, rv, p, hz⟩ := I.list hq
    obtain ⟨u, hu, ru⟩ := rv.get hx
    obtain ⟨f0, f1, f2, f3, f4, f5⟩ := hf it (by simp)
    have st0 : IsRev s.heap it a ((xs.length - 1 - i : Nat) : Int) := by
      have := st.2
      rw [show ((xs.length : Int) - 1 - (i : Nat)) = ((xs.length - 1 - i : Nat) : Int) by omega] at this
      exact this
    refine pyNext_rev_item st0 p.isList (x := u) (by simpa using hu) fun h' st' sb => ?_
    have I1 : Inv X pins σ H { s with heap := h' } := I.turned (t' := s.toks) (fun b o hb e => (sb.2 b hb).trans e) f0 f1 f3 f4 f5
    obtain ⟨o, e, c, d⟩ := id st'
    have st2 : IsRev h' it a ((xs.length : Int) - 1 - ((i + 1 : Nat) : Int)) := by
      rw [show ((xs.length : Int) - 1 - ((i + 1 : Nat) : Int)) = ((xs.length - 1 - i : Nat) : Int) - 1 by omega]
      exact st'
    exact ⟨u, rfl, go_of (s := { s with heap := h' }) e c d (by decide) ⟨x, H, I1, ru, ⟨rfl, fun ys hy => by rw [I.list_inj hy hq, rev_at hi]; exact hx⟩, ⟨hi, st2⟩, fun b hb => (hf b hb).1⟩⟩
  done := by
    intro X hP hw hK hc i pins s σ H E I hf st hg
    subst hP hw hK
    obtain ⟨f0, f1, f2, f3, f4, f5⟩ := hf it (by simp)
    have hg' : n ≤ i := hg
    have e : i = n := Nat.le_antisymm st.1 hg'
    have st0 : IsRev s.heap it a (-1) := by
      have := st.2
      rw [show ((n : Int) - 1 - (i : Nat)) = -1 by omega] at this
      exact this
    exact pyNext_rev_end (I.ok.hd hc) st0 fun h' eb => ⟨rfl, I.turned (t' := s.toks) (fun b o hb e => eb b o hb e) f0 f1 f3 f4 f5⟩
  self := fun _ _ _ _ _ st h => pyIter_rev st.2 h
noncomputable def iRev (K : PySem.W.Frag) (ta : TA) : TI := fun σ H R => ta σ H fun vs H1 => ∃ a xs, vs = [.ref a] ∧ SqL K H1 a xs ∧ R (Itv K a xs.length) H1
theorem pi_rev {X : Cx} {tg a : Expr} {ta : TA} {p pos : Pos} (hm : X.mg "reversed" = none) (ha : PA X [a] ta) (hg : Gl X "reversed" := by rfl) (hs : starEach [a] X.env = [(false, eval a X.env)] := by rfl) :
    PI X tg (.Call (.Name "reversed" p) [a] [] pos) (iRev X.K ta) := by
  intro pins s σ H R I h
  refine Call_ (ld_blt I hg hm boot_reversed (PyProof.Rows.callWith_type1 (thn (ha pos pins s σ H _ I h) fun us s1 hhx => ?_) hs rfl))
  obtain ⟨vs, H1, I1, r1, q1⟩ := hhx
  obtain ⟨l, xs, e, hq, q⟩ := q1
  subst e
  cases r1 with
  | cons r rr =>
    cases rr
    cases r
    obtain ⟨its, rv, pl, hz⟩ := I1.list hq
    have hlen := rv.length
    refine call_reversed_list pl.isList fun h' hit hsz hk => ?_
    refine pyIter_rev hit ?_
    have I2 : Inv X pins σ H1 { s1 with heap := h' } := I1.kept (t' := s1.toks) hk
    refine ⟨s1.heap.objs.size, [s1.heap.objs.size], _, _, H1, rfl, I2, turn_rev l _ xs.length, ⟨Nat.zero_le _, ?_⟩, fun b hb => ?_, q⟩
    · have e : (((its.toArray.size : Nat) : Int) - 1) = ((xs.length : Int) - 1 - ((0 : Nat) : Int)) := by simp [hlen]
      rw [e] at hit
      exact hit
    · rw [List.mem_singleton.mp hb]
      exact I1.fpOk (Nat.le_refl _) (I1.hok.fresh (Nat.le_refl _))
section
variable {g : TG} {tb : TS} {D : Ends} {σ : St} {H : Hp}
theorem r_iRev {K : PySem.W.Frag} {ta : TA} {R : It → Hp → Prop} : iRev K ta σ H R = ta σ H fun vs H1 => ∃ a xs, vs = [.ref a] ∧ SqL K H1 a xs ∧ R (Itv K a xs.length) H1 := rfl
theorem fw_rev {K : PySem.W.Frag} {a : Addr} {xs : List V} (Pv : Nat → St → Hp → Prop) (h0 : Pv 0 σ H) (hl : ∀ i σ H, i ≤ xs.length → Pv i σ H → SqL K H a xs)
    (hs : ∀ (i : Nat) x σ H, xs.reverse[i]? = some x → Pv i σ H → g x σ H fun σ2 H2 => tb { D with nx := Pv (i + 1), ct := Pv (i + 1), bk := D.nx } σ2 H2) (hd : ∀ σ H, Pv xs.length σ H → D.nx σ H) : ForW (Itv K a xs.length) g tb D σ H := by
  refine ⟨fun i m σ H => m = xs.length - i ∧ i ≤ xs.length ∧ Pv i σ H, ⟨xs.length, by simp, Nat.zero_le _, h0⟩, ?_⟩
  rintro i m σ H ⟨rfl, hi, p⟩
  have q := hl i σ H hi p
  by_cases hlt : i < xs.length
  · refine .inr ⟨⟨xs, q, rfl, hlt⟩, Pv (i + 1), fun σ' H' p' => ⟨xs.length - (i + 1), by omega, rfl, hlt, p'⟩, fun x H' y => ?_⟩
    obtain ⟨eH, y⟩ := y
    subst eH
    exact hs i x σ H' (y xs q) p
  · have e : i = xs.length := by omega
    subst e
    exact .inl ⟨Nat.le_refl _, hd σ H p⟩
end
end L2
namespace L2
open PySem PySem.Spec PyProof.Rows
section
variable {prog : Program} {w : World} {A : Around} {E : Value → Shared → Prop} {s : Shared}
end
end L2
namespace L2
open PySem PySem.Spec PyProof.Rows
noncomputable def tListRev (K : PySem.W.Frag) (ta : TA) : TE := fun σ H Q => ta σ H fun vs H1 => ∃ a xs, vs = [.ref a] ∧ SqL K H1 a xs ∧ ∀ l, H1 l = none → Q (.ref l) (upd H1 l (.lst xs.reverse))
theorem r_listRev {K : PySem.W.Frag} {ta : TA} {σ : St} {H : Hp} {Q : VK} : tListRev K ta σ H Q = ta σ H fun vs H1 => ∃ a xs, vs = [.ref a] ∧ SqL K H1 a xs ∧ ∀ l, H1 l = none → Q (.ref l) (upd H1 l (.lst xs.reverse)) := rfl
section
variable {X : Cx}
theorem mt_dcopy : MtM X "dict.copy" rCopyD := by
  intro pins s σ H x vs v us Q I rx rv h
  obtain ⟨l, kvs, rfl, rfl, hH, q⟩ := h
  cases rx
  have hus := rv.zero
  subst hus
  obtain ⟨z, hd, ws, rel, dd⟩ := dk_rd I.hok hH
  refine call_meetsIn PySem.F.slot_dict_copy dd.typeIs PySem.F.entry_dict_copy (PySem.F.args_dict_copy_1 _) (meets_dict_copy (mixKind X.prog X.w) l hd) ⟨ws, dd, by rw [← rel.length]; exact z, fun h' dn _ hk => ?_⟩
  exact ⟨.ref s.heap.objs.size, _, I.laid (t' := s.toks) hk (Nat.le_refl _) (dk_new z (sys_new I) rel dn), rfl, q _ (I.hok.fresh (Nat.le_refl _))⟩
end
noncomputable def tListVals (to : TE) : TE := fun σ H Q => to σ H fun x H1 => ∃ a kvs, x = .ref a ∧ H1 a = some (.dK kvs) ∧ ∀ l, H1 l = none → Q (.ref l) (upd H1 l (.lst (kvs.map (·.2))))
theorem r_listVals {to : TE} {σ : St} {H : Hp} {Q : VK} : tListVals to σ H Q = to σ H fun x H1 => ∃ a kvs, x = .ref a ∧ H1 a = some (.dK kvs) ∧ ∀ l, H1 l = none → Q (.ref l) (upd H1 l (.lst (kvs.map (·.2)))) := rfl
end L2
namespace L2
open PySem PySem.Spec PyProof.Rows
noncomputable def tSlRev (K : PySem.W.Frag) (te tst : TE) : TE := fun σ H Q => te σ H fun x H1 => tst σ H1 fun y H2 => ∃ a xs, x = .ref a ∧ y = .int (-1) ∧ SqL K H2 a xs ∧ ∀ l, H2 l = none → Q (.ref l) (upd H2 l (.lst xs.reverse))
noncomputable def rNeDict : R2 := fun x y H Q => ∃ a b ka kb, x = .ref a ∧ y = .ref b ∧ Rd H a (.dK ka) ∧ Rd H b (.dK kb) ∧ ka.all (fun kv => flatV kv.2) = true ∧ kb.all (fun kv => flatV kv.2) = true ∧ Q (.bl (!eqDV ka kb)) H
theorem op_neDict {X : Cx} (hu : X.A.units < cLine) : OpR X (compareOp .NotEq) rNeDict := by
  intro pins s σ H x y v u Q I rx ry h
  obtain ⟨a, b, ka, kb, rfl, rfl, ha, hb, fa, fb, q⟩ := h
  cases rx; cases ry
  obtain ⟨za, hda, va, ra, da⟩ := dk_rd I.hok ha
  obtain ⟨zb, hdb, vb, rb, db⟩ := dk_rd I.hok hb
  refine PySem.W.keq_ne hda hdb da db hu (fun _ => hits_of rb fb ra fa) ?_
  rw [← ra.length, ← rb.length]
  exact ⟨.bl _, H, I, rfl, q⟩
theorem r_dget2 {td ty tx : TE} {σ : St} {H : Hp} {Q : VK} : tDGet2 td ty tx σ H Q = td σ H fun x H1 => ∃ a, x = .ref a ∧ IsD H1 a ∧ ty σ H1 fun y H2 => tx σ H2 fun z H3 => ∃ o, DGet H3 a y o ∧ Q (o.getD z) H3 := rfl
theorem r_slRev {K : PySem.W.Frag} {te tst : TE} {σ : St} {H : Hp} {Q : VK} : tSlRev K te tst σ H Q = te σ H fun x H1 => tst σ H1 fun y H2 => ∃ a xs, x = .ref a ∧ y = .int (-1) ∧ SqL K H2 a xs ∧ ∀ l, H2 l = none → Q (.ref l) (upd H2 l (.lst xs.reverse)) := rfl
end L2
namespace L2
open PySem PySem.Spec PyProof.Rows
structure XE (X : Cx) (e : Expr) (t : TE) : Prop where
  h : PE X e t
structure XT (X : Cx) (e : Expr) (t : TT) : Prop where
  h : PT X e t
structure XW (X : Cx) (e : Expr) (t : TT) : Prop where
  h : PW X e t
structure XA (X : Cx) (es : List Expr) (t : TA) : Prop where
  h : PA X es t
structure XS (X : Cx) (st : Stmt) (t : TS) : Prop where
  h : PS X st t
structure XSs (X : Cx) (st : List Stmt) (t : TS) : Prop where
  h : PSs X st t
structure XG (X : Cx) (target : Expr) (t : TG) : Prop where
  h : PG X target t
structure XGs (X : Cx) (ts : List Expr) (t : TGs) : Prop where
  h : PGs X ts t
structure XI (X : Cx) (tg iter : Expr) (wi : TI) : Prop where
  h : PI X tg iter wi
structure XO (X : Cx) (e : Option Expr) (t : TO) : Prop where
  h : PO X e t
structure XIfs (X : Cx) (ifs : List Expr) (t : TT) : Prop where
  h : PIfs X ifs t
theorem xpe_int {X : Cx} {i j pos} : XE X (.Constant (.int i) j pos) (tC (.int i)) := ⟨pe_int ⟩
theorem xpe_bl {X : Cx} {b j pos} : XE X (.Constant (.bool b) j pos) (tC (.bl b)) := ⟨pe_bl ⟩
theorem xpe_str {X : Cx} {x j pos} : XE X (.Constant (.str x) j pos) (tC (.str x)) := ⟨pe_str ⟩
theorem xpe_op {X : Cx} {a b : Expr} {ta tb : TE} {pos : Pos} {op : Operator} {r : R2} (ho : OpR X (binaryOp op) r) (ha : XE X a ta) (hb : XE X b tb) : XE X (.BinOp a op b pos) (tOp r ta tb) := ⟨pe_op ho ha.h hb.h⟩
theorem xpe_un {X : Cx} {a : Expr} {ta : TE} {pos : Pos} {op : UnaryOp} {r : V → Hp → VK → Prop} (ho : UnR X (unaryOp op) r) (ha : XE X a ta) : XE X (.UnaryOp op a pos) (tUn r ta) := ⟨pe_un ho ha.h⟩
theorem xpe_cmpR {X : Cx} {a b : Expr} {ta tb : TE} {pos : Pos} {op : CmpOp} {r : R2} (ho : OpR X (compareOp op) r) (ha : XE X a ta) (hb : XE X b tb) (hm : behindInMarks op b = false) : XE X (.Compare a [op] [b] pos) (tOp r ta tb) := ⟨pe_cmpR ho ha.h hb.h hm⟩
theorem xpe_and {X : Cx} {a b : Expr} {ta tb : TE} {pos : Pos} {rest : List Expr} (ha : XE X a ta) (hb : XE X (.BoolOp .And (b :: rest) pos) tb) : XE X (.BoolOp .And (a :: b :: rest) pos) (tAndV ta tb) := ⟨pe_and ha.h hb.h⟩
theorem xpe_one {X : Cx} {a : Expr} {pos : Pos} {op} {t : TE} (h : XE X a t) : XE X (.BoolOp op [a] pos) t := ⟨pe_one h.h⟩
theorem xpe_not {X : Cx} {a : Expr} {ta : TE} {pos : Pos} (ha : XE X a ta) : XE X (.UnaryOp .Not a pos) (tNotV ta) := ⟨pe_not ha.h⟩
theorem xpe_lst {X : Cx} {es : List Expr} {t : TA} {pos : Pos} (h : XA X es t) : XE X (.List es pos) (tLst t) := ⟨pe_lst h.h⟩
theorem xpe_tup {X : Cx} {es : List Expr} {t : TA} {pos : Pos} {x1} (h : XA X es t) : XE X (.Tuple es x1 pos) (tTup t) := ⟨pe_tup h.h⟩
theorem xpe_dnewK {X : Cx} {pos : Pos}  : XE X (.Dict [] [] pos) tDNewK := ⟨pe_dnewK ⟩
theorem xqe_callB {X : Cx} {x : Str} {p pos : Pos} {e : Expr} {es : List Expr} {t : TA} {id : String} {r : List V → Hp → VK → Prop} (hc : CallR X (.builtin id) r) (hg : Gl X x) (hm : X.mg x = none) (hv : bootBuiltins x = some (.builtin id)) (ha : XA X (e :: es) t) (hn : (x == ("__name__" : Str)) = false := by kernel_rfl) (hdb : (x == ("__debug__" : Str)) = false := by kernel_rfl) (he : starEach (e :: es) X.env = (false, eval e X.env) :: starEach es X.env := by rfl) (hpl : (backTo pos (starEach es X.env)).any (·.1) = false := by rfl) : XE X (.Call (.Name x p) (e :: es) [] pos) (tCB r t) := ⟨qe_callB hc hg hm hv ha.h hn hdb he hpl⟩
theorem xqe_callTy {X : Cx} {x : Str} {p pos : Pos} {e : Expr} {es : List Expr} {t : TA} {T : String} {r : List V → Hp → VK → Prop} (hc : CallR X (.type T) r) (hg : Gl X x) (hm : X.mg x = none) (hv : bootBuiltins x = some (.type T)) (ha : XA X (e :: es) t) (hn : (x == ("__name__" : Str)) = false := by kernel_rfl) (hdb : (x == ("__debug__" : Str)) = false := by kernel_rfl) (he : starEach (e :: es) X.env = (false, eval e X.env) :: starEach es X.env := by rfl) (hpl : (backTo pos (starEach es X.env)).any (·.1) = false := by rfl) : XE X (.Call (.Name x p) (e :: es) [] pos) (tCB r t) := ⟨qe_callTy hc hg hm hv ha.h hn hdb he hpl⟩
theorem xqe_callD {X : Cx} {k : Nat} {f : Addr} {fd : FuncData} {ps : List Str} {sp : Sp} {x : Str} {st : Stmt} {p pos : Pos} {e : Expr} {es : List Expr} {t : TA} (D : DefAt X.K X.mg x st ps f fd) (G : FnOk X.prog X.w X.K X.mg X.base CX0 k f fd ps sp) (hr : Room k X.A) (ha : XA X (e :: es) t) (hg : Gl X x) (hdb : (x == ("__debug__" : Str)) = false := by kernel_rfl) (he : starEach (e :: es) X.env = (false, eval e X.env) :: starEach es X.env := by rfl) (hpl : (backTo pos (starEach es X.env)).any (·.1) = false := by rfl) : XE X (.Call (.Name x p) (e :: es) [] pos) (tCall sp [] E0 t) := ⟨qe_callD D G hr ha.h hg hdb he hpl⟩
theorem xpe_bm {X : Cx} {o e : Expr} {es : List Expr} {to : TE} {t : TA} {name : Str} {apos cpos : Pos} {T id : String} {r : V → List V → Hp → VK → Prop} (pa : PlainAttrs T) (slot : Slot T name id) (hty : typeOf (.builtin id) = pure (.type "method_descriptor")) (hm : MtR X id r) (ho : XE X o to) (ha : XA X (e :: es) t) (hbase : attributeBase o name X.env (eval o X.env) = eval o X.env := by rfl) (hfew : ((backTo cpos (starEach (e :: es) X.env)).all (fun x => !x.1) && (backToKw cpos (keywordEach [] X.env)).all (fun x => x.1.isSome)
      && decide ((e :: es).length + ([] : List Keyword).length + (if ([] : List Keyword).isEmpty then 0 else 1) < 30)) = true := by rfl) (hline : (apos.endLine == cpos.line) = true := by rfl) (hs : starEach (e :: es) X.env = (false, eval e X.env) :: starEach es X.env := by rfl) (hplain : (backTo cpos (starEach es X.env)).any (·.1) = false := by rfl) : XE X (.Call (.Attribute o name apos) (e :: es) [] cpos) (tBM X.K T r to t) := ⟨pe_bm pa slot hty hm ho.h ha.h hbase hfew hline hs hplain⟩
theorem xpe_bm0 {X : Cx} {o : Expr} {to : TE} {name : Str} {apos cpos : Pos} {T id : String} {r : V → List V → Hp → VK → Prop} (pa : PlainAttrs T) (slot : Slot T name id) (hty : typeOf (.builtin id) = pure (.type "method_descriptor")) (hm : MtR X id r) (ho : XE X o to) (hbase : attributeBase o name X.env (eval o X.env) = eval o X.env := by rfl) (hline : (apos.endLine == cpos.line) = true := by rfl) : XE X (.Call (.Attribute o name apos) [] [] cpos) (tBM0 X.K T r to) := ⟨pe_bm0 pa slot hty hm ho.h hbase hline⟩
theorem xpe_slice {X : Cx} {e : Expr} {te : TE} {lo hi : Option Expr} {tl th : TO} {pos p2 : Pos} {r : V → Option Int → Option Int → Hp → VK → Prop} (hr : SlR X r) (he : XE X e te) (hl : XO X lo tl) (hu : XO X hi th) : XE X (.Subscript e (.Slice lo hi none p2) pos) (tSl r te tl th) := ⟨pe_slice hr he.h hl.h hu.h⟩
theorem xpe_dget {X : Cx} {o i : Expr} {pos : Pos} {td ty : TE} (hu : X.A.units + 1 < cLine) (ho : XE X o td) (hi : XE X i ty) (hs : NoSl i) : XE X (.Subscript o i pos) (tDGet td ty) := ⟨pe_dget hu ho.h hi.h hs⟩
theorem xpe_dget2 {X : Cx} {o e f : Expr} {apos cpos : Pos} {td ty tx : TE} (hu : X.A.units + 1 < cLine) (ho : XE X o td) (he : XE X e ty) (hf : XE X f tx) (m : M2 X o "get" apos e f cpos) : XE X (.Call (.Attribute o "get" apos) [e, f] [] cpos) (tDGet2 td ty tx) := ⟨pe_dget2 hu ho.h he.h hf.h m⟩
theorem xpe_ix {X : Cx} {a b : Expr} {ta tb : TE} {pos : Pos} {r : R2} (hr : IxR X r) (ha : XE X a ta) (hb : XE X b tb) (hs : PlainIx b) : XE X (.Subscript a b pos) (tOp r ta tb) := ⟨pe_ix hr ha.h hb.h hs⟩
theorem xpe_fld {X : Cx} {e : Expr} {f : Str} {pos : Pos} {ta : TE} (he : XE X e ta) (hb : attributeBase e f X.env (eval e X.env) = eval e X.env) : XE X (.Attribute e f pos) (tFld X.K ta f) := ⟨pe_fld he.h hb⟩
theorem xpe_compG  {X : Cx} {elt iter tgt : Expr} {ifs : List Expr} {pos : Pos} {scope : Scope} {wi : TI} {g : Bk → TG} {tt : Bk → TT} {te : Bk → TE} {tns cns : List Str} {ci : List Nat} (hc : X.calm = true) (S : CompSc X scope cns ci) (hi : XI X tgt iter wi) (hg : ∀ bk : Bk, XG (X.blk (".0" :: (tns ++ cns)) scope bk) tgt (g bk)) (ht : ∀ bk : Bk, XIfs (X.blk (".0" :: (tns ++ cns)) scope bk) ifs (tt bk)) (he : ∀ bk : Bk, XE (X.blk (".0" :: (tns ++ cns)) scope bk) elt (te bk)) (hs : ∀ v, foldedSetIterable iter X.env v = pure v := by intro _; rfl) : XE X (.ListComp elt [⟨tgt, iter, ifs, 0⟩] scope pos) (tCompG wi g tt te tns.length ci) := ⟨pe_compG hc S hi.h (fun bk => (hg bk).h) (fun bk => (ht bk).h) (fun bk => (he bk).h) hs⟩
theorem xqe_bltn {X : Cx} {x : Str} {v : V} {u : Value} {pos : Pos} (hg : Gl X x) (hm : X.mg x = none) (hv : bootBuiltins x = some u) (r : RelV v u) (hn : (x == ("__name__" : Str)) = false := by kernel_rfl) (hd : (x == ("__debug__" : Str)) = false := by kernel_rfl) : XE X (.Name x pos) (tC v) := ⟨qe_bltn hg hm hv r hn hd⟩
theorem xqe_glob {X : Cx} {x : Str} {v : V} {u : Value} {pos : Pos} (hg : Gl X x) (hm : X.mg x = some u) (r : RelV v u) (hd : (x == ("__debug__" : Str)) = false := by kernel_rfl) : XE X (.Name x pos) (tC v) := ⟨qe_glob hg hm r hd⟩
theorem xpt_cmpR {X : Cx} {a b : Expr} {ta tb : TE} {pos : Pos} {op : CmpOp} {r : R2} (ho : OpR X (compareOp op) r) (ha : XE X a ta) (hb : XE X b tb) (hm : behindInMarks op b = false) : XT X (.Compare a [op] [b] pos) (tTest (tOp r ta tb)) := ⟨pt_cmpR ho ha.h hb.h hm⟩
theorem xpt_val {X : Cx} {e : Expr} {t : TE} (h : XE X e t) (he : ∀ whole, isTrue e X.env whole = (do let v ← whole; standAt e.pos; holding [v] (truthy v)) := by intro _; rfl) : XT X e (tB t) := ⟨pt_val h.h he⟩
theorem xpt_not {X : Cx} {a : Expr} {pos : Pos} {tA : TT} (ha : XT X a tA) : XT X (.UnaryOp .Not a pos) (tNot tA) := ⟨pt_not ha.h⟩
theorem xPW_pt  {X : Cx} {e : Expr} {t : TT} (h : XW X e t) : XT X e t := ⟨PW.pt h.h⟩
theorem xpw_and {X : Cx} {a b : Expr} {pos : Pos} {tA tB' : TT} {rest : List Expr} (ha : XT X a tA) (hb : XW X (.BoolOp .And (b :: rest) pos) tB') : XW X (.BoolOp .And (a :: b :: rest) pos) (tAnd tA tB') := ⟨pw_and ha.h hb.h⟩
theorem xpw_and1 {X : Cx} {a : Expr} {pos : Pos} {tA : TT} (ha : XT X a tA) : XW X (.BoolOp .And [a] pos) tA := ⟨pw_and1 ha.h⟩
theorem xpw_or {X : Cx} {a b : Expr} {pos : Pos} {tA tB' : TT} {rest : List Expr} (ha : XT X a tA) (hb : XW X (.BoolOp .Or (b :: rest) pos) tB') : XW X (.BoolOp .Or (a :: b :: rest) pos) (tOr tA tB') := ⟨pw_or ha.h hb.h⟩
theorem xpw_or1 {X : Cx} {a : Expr} {pos : Pos} {tA : TT} (ha : XT X a tA) : XW X (.BoolOp .Or [a] pos) tA := ⟨pw_or1 ha.h⟩
theorem xpa_nil {X : Cx}  : XA X [] tNil := ⟨pa_nil ⟩
theorem xpa_cons {X : Cx} {e : Expr} {es : List Expr} {te : TE} {t : TA} (ha : XE X e te) (hr : XA X es t) (hs : starEach (e :: es) X.env = (false, eval e X.env) :: starEach es X.env := by rfl) : XA X (e :: es) (tCons te t) := ⟨pa_cons ha.h hr.h hs⟩
theorem xpo_none {X : Cx}  : XO X none tNoPart := ⟨po_none ⟩
theorem xpo_some {X : Cx} {e : Expr} {te : TE} (h : XE X e te) : XO X (some e) (tPart te) := ⟨po_some h.h⟩
theorem xpg_name {X : Cx} {pos : Pos} {i : Nat} {x : Str} (hN : X.N.Nodup) (hi : X.N[i]? = some x) (hx : Loc X.env.scope x) (hf : X.fn x = true ∨ X.env.scope.names.lookup x = some .local := by first | exact .inl rfl | exact .inr rfl | assumption) : XG X (.Name x pos) (gName i) := ⟨pg_name hN hi hx hf⟩
theorem xpg_tup {X : Cx} {pos : Pos} {es : List Expr} {k : Nat} {t : TGs} {n : Nat} (hc : X.calm = true) (h : XGs X es t) (hn : (assignEach es X.env).length = n := by rfl) (hst : (assignEach es X.env).findIdx? (·.1) = none := by rfl) : XG X (.Tuple es k pos) (gTup X.K n t) := ⟨pg_tup hc h.h hn hst⟩
theorem xpgs_nil {X : Cx}  : XGs X [] gNil := ⟨pgs_nil ⟩
theorem xpgs_cons {X : Cx} {e : Expr} {es : List Expr} {t : TG} {u : TGs} (h1 : XG X e t) (h2 : XGs X es u) (hs : (assignEach (e :: es) X.env).map (·.2) = assign e X.env :: (assignEach es X.env).map (·.2) := by rfl) : XGs X (e :: es) (gCons t u) := ⟨pgs_cons h1.h h2.h hs⟩
theorem xpg_sub {X : Cx} {pos : Pos} {o i : Expr} {to ti : TE} {t : TSet} (ho : XE X o to) (hi : XE X i ti) (hs : PSet X t) (ha : ∀ v, assign (.Subscript o i pos) X.env v = (do
      let ov ← holding [v] (eval o X.env)
      let iv ← holding [v, ov] (eval i X.env)
      standAt pos
      holding [v, ov, iv] (setItem ov iv v)
      release [v, ov, iv] []) := by intro _; rfl) : XG X (.Subscript o i pos) (gSub to ti t) := ⟨pg_sub ho.h hi.h hs ha⟩
theorem xpi_range1 {X : Cx} {tg : Expr} {a : Expr} {ta : TA} {p pos : Pos} (hg : Gl X "range") (hm : X.mg "range" = none) (ha : XA X [a] ta) (hs : starEach [a] X.env = [(false, eval a X.env)] := by rfl) : XI X tg (.Call (.Name "range" p) [a] [] pos) (iRng1 ta) := ⟨pi_range1 hg hm ha.h hs⟩
theorem xpi_range2 {X : Cx} {tg : Expr} {a b : Expr} {ta : TA} {p pos : Pos} (hg : Gl X "range") (hm : X.mg "range" = none) (ha : XA X [a, b] ta) (hs : starEach [a, b] X.env = [(false, eval a X.env), (false, eval b X.env)] := by rfl) (hs2 : starEach [b] X.env = [(false, eval b X.env)] := by rfl) : XI X tg (.Call (.Name "range" p) [a, b] [] pos) (iRng2 ta) := ⟨pi_range2 hg hm ha.h hs hs2⟩
theorem xpi_list {X : Cx} {tg : Expr} {l : Expr} {tl : TE} (hl : XE X l tl) : XI X tg l (iList X.K tl) := ⟨pi_list hl.h⟩
theorem xpi_tup {X : Cx} {tg : Expr} {l : Expr} {tl : TE} (hl : XE X l tl) : XI X tg l (iTup X.K tl) := ⟨pi_tup hl.h⟩
theorem xps_set {X : Cx} {pos : Pos} {i : Nat} {x : Str} {e : Expr} {te : TE} {pos' : Pos} (hN : X.N.Nodup) (hi : X.N[i]? = some x) (hx : Loc X.env.scope x) (he : XE X e te) (hs : swapsWith e (some (.Name x pos')) pos.line X.env = pure false := by rfl) (hf : X.fn x = true ∨ X.env.scope.names.lookup x = some .local := by first | exact .inl rfl | exact .inr rfl | assumption) : XS X (.Assign [.Name x pos'] e pos) (tAsg te (gName i)) := ⟨ps_set hN hi hx he.h hs hf⟩
theorem xps_setComp  {X : Cx} {i : Nat} {x : Str} {px pos' : Pos} {elt iter tgt : Expr} {ifs : List Expr} {pos : Pos} {scope : Scope} {wi : TI} {g : Bk → TG} {tt : Bk → TT} {te : Bk → TE} {tns cns : List Str} {ci : List Nat} (hN : X.N.Nodup) (hx : X.N[i]? = some x) (hl : Loc X.env.scope x) (hf : X.fn x = true) (hsw : swapsWith (.ListComp elt [⟨tgt, iter, ifs, 0⟩] scope pos) (some (.Name x px)) pos'.line X.env = pure true) (hc : X.calm = true) (S : CompSc X scope cns ci) (hi : XI X tgt iter wi) (hg : ∀ bk : Bk, XG (X.blk (".0" :: (tns ++ cns)) scope bk) tgt (g bk)) (ht : ∀ bk : Bk, XIfs (X.blk (".0" :: (tns ++ cns)) scope bk) ifs (tt bk)) (he : ∀ bk : Bk, XE (X.blk (".0" :: (tns ++ cns)) scope bk) elt (te bk)) (hs : ∀ v, foldedSetIterable iter X.env v = pure v := by intro _; rfl) : XS X (.Assign [.Name x px] (.ListComp elt [⟨tgt, iter, ifs, 0⟩] scope pos) pos') (sSetComp i wi g tt te tns.length ci) := ⟨ps_setComp hN hx hl hf hsw hc S hi.h (fun bk => (hg bk).h) (fun bk => (ht bk).h) (fun bk => (he bk).h) hs⟩
theorem xps_asg {X : Cx} {pos : Pos} {tg e : Expr} {te : TE} {g : TG} (he : XE X e te) (hg : XG X tg g) (hs : swapsWithSole [tg] e pos.line X.env = pure false := by rfl) (hw : swappedStores [tg] e X.env = pure none := by rfl) (h1 : (assignEach [tg] X.env).map (·.2) = [assign tg X.env] := by rfl) : XS X (.Assign [tg] e pos) (tAsg te g) := ⟨ps_asg he.h hg.h hs hw h1⟩
theorem xps_fld {X : Cx} {o value : Expr} {f : Str} {pos pos' : Pos} {ta tv : TE} (ha : XE X o ta) (hv : XE X value tv) (hs : swapsWith value (some (.Attribute o f pos')) pos.line X.env = pure false) : XS X (.Assign [.Attribute o f pos'] value pos) (sFld X.K ta tv f) := ⟨ps_fld ha.h hv.h hs⟩
theorem xps_dput {X : Cx} {o i value : Expr} {pos pos' : Pos} {td ty tv : TE} (hu : X.A.units + 1 < cLine) (ho : XE X o td) (hi : XE X i ty) (hv : XE X value tv) (hs : swapsWith value (some (.Subscript o i pos')) pos.line X.env = pure false) : XS X (.Assign [.Subscript o i pos'] value pos) (sDPut td ty tv) := ⟨ps_dput hu ho.h hi.h hv.h hs⟩
theorem xps_ret {X : Cx} {e : Expr} {te : TE} {pos : Pos} (he : XE X e te) : XS X (.Return (some e) pos) (tRet te) := ⟨ps_ret he.h⟩
theorem xps_expr {X : Cx} {e : Expr} {te : TE} {pos : Pos} (he : XE X e te) (hs : swapsWith e none pos.line X.env = pure false := by rfl) : XS X (.Expr e pos) (tDrop te) := ⟨ps_expr he.h hs⟩
theorem xps_if {X : Cx} {t u : TS} {pos : Pos} {c : Expr} {a b : List Stmt} {tc : TT} (hc : XT X c tc) (ha : XSs X a t) (hb : XSs X b u) : XS X (.If c a b pos) (tIfS tc t u) := ⟨ps_if hc.h ha.h hb.h⟩
theorem xps_while {X : Cx} {pos : Pos} {c : Expr} {body : List Stmt} {tc : TT} {tb : TS} (hp : PassesOwn (model X.prog X.w) X.A X.env X.xe) (hc : XT X c tc) (hb : XSs X body tb) : XS X (.While c body [] pos) (tWhile tc tb) := ⟨ps_while hp hc.h hb.h⟩
theorem xps_for {X : Cx} {tg : Expr} {iter : Expr} {body : List Stmt} {wi : TI} {g : TG} {tb : TS} {pos : Pos} (hp : PassesOwn (model X.prog X.w) X.A X.env X.xe) (hc : X.calm = true) (hi : XI X tg iter wi) (hg : XG X tg g) (hb : XSs X body tb) (hs : ∀ x, foldedSetIterable iter X.env x = pure x := by intro _; rfl) : XS X (.For tg iter body [] pos) (tFor wi g tb) := ⟨ps_for hp hc hi.h hg.h hb.h hs⟩
theorem xpss_nil {X : Cx}  : XSs X [] tNext := ⟨pss_nil ⟩
theorem xpss_one {X : Cx} {st : Stmt} {t : TS} (h1 : XS X st t) : XSs X [st] t := ⟨pss_one h1.h⟩
theorem xpss_cons {X : Cx} {st : Stmt} {rest : List Stmt} {t u : TS} (h1 : XS X st t) (h2 : XSs X rest u) : XSs X (st :: rest) (tSeq t u) := ⟨pss_cons h1.h h2.h⟩
theorem xpss_mid {X : Cx} {st : Stmt} {ss : List Stmt} {ta tb : TS} (h1 : XS X st ta) (h2 : XSs X ss tb) : XSs X (st :: ss) (tMid ta tb) := ⟨pss_mid h1.h h2.h⟩
theorem xpf_nil  {X : Cx} : XIfs X [] tYes := ⟨pf_nil ⟩
theorem xpf_one  {X : Cx} {c : Expr} {t : TT} (h : XT X c t) : XIfs X [c] t := ⟨pf_one h.h⟩
theorem xpe_meth {X : Cx} {CX : CXT} {k : Nat} {f C : Addr} {fd : FuncData} {ps : List Str} {sp : Sp} {dvs : List V} {ds : List Value} {E : XK} {m : Str} {pos apos : Pos} {e o : Expr} {es : List Expr} {ta : TE} {t : TA} {pl : Sem Bool} (he : XE X o ta) (c : Cls X.K C) (hm : Meth X.K C m f) (F : FnOk X.prog X.w X.K X.mg X.base CX k f fd ps sp) (hr : Room k X.A) (hb : Binds X.K fd ps ds) (hd : Vals dvs ds) (hx : Passes CX X E) (ha : XA X (e :: es) t) (hst : starEach (e :: es) X.env = (false, eval e X.env) :: starEach es X.env := by rfl) (hpl : (backTo pos (starEach es X.env)).any (·.1) = false := by rfl) (ht : eval (.Call (.Attribute o m apos) (e :: es) [] pos) X.env = (do
      let ov ← eval o X.env
      standAt apos.atName
      let (f, first) ← holding [ov] (getMethod ov m pl)
      callWith pos f first (backTo pos (starEach (e :: es) X.env)) (backToKw pos (keywordEach [] X.env))) := by rfl) : XE X (.Call (.Attribute o m apos) (e :: es) [] pos) (tMeth C m sp dvs E ta t) := ⟨pe_meth he.h c hm F hr hb hd hx ha.h hst hpl ht⟩
theorem xqe_makeD {X : Cx} {k : Nat} {f C : Addr} {fd : FuncData} {ps : List Str} {sp : Sp} {x qual : Str} {st : Stmt} {p pos : Pos} {e : Expr} {es : List Expr} {t : TA} (c : KlsAt X.K X.mg x C) (D : MethAt X.K C "__init__" qual st ps f fd) (G : FnOk X.prog X.w X.K X.mg X.base CX0 k f fd ps sp) (hr : Room (k + 1) X.A) (ha : XA X (e :: es) t) (hg : Gl X x) (hdb : (x == ("__debug__" : Str)) = false := by kernel_rfl) (he : starEach (e :: es) X.env = (false, eval e X.env) :: starEach es X.env := by rfl) (hpl : (backTo pos (starEach es X.env)).any (·.1) = false := by rfl) : XE X (.Call (.Name x p) (e :: es) [] pos) (tMake C sp [] E0 t) := ⟨qe_makeD c D G hr ha.h hg hdb he hpl⟩
theorem xqe_make0D {X : Cx} {k : Nat} {f C : Addr} {fd : FuncData} {ps : List Str} {sp : Sp} {x qual : Str} {st : Stmt} {p pos : Pos} (c : KlsAt X.K X.mg x C) (D : MethAt X.K C "__init__" qual st ps f fd) (G : FnOk X.prog X.w X.K X.mg X.base CX0 k f fd ps sp) (hr : Room (k + 1) X.A) (hg : Gl X x) (hdb : (x == ("__debug__" : Str)) = false := by kernel_rfl) : XE X (.Call (.Name x p) [] [] pos) (tMake C sp [] E0 tNil) := ⟨qe_make0D c D G hr hg hdb⟩
theorem xqe_methD {X : Cx} {k : Nat} {f C : Addr} {fd : FuncData} {ps : List Str} {sp : Sp} {m qual : Str} {st : Stmt} {pos apos : Pos} {e o : Expr} {es : List Expr} {ta : TE} {t : TA} {pl : Sem Bool} (c : Cls X.K C) (D : MethAt X.K C m qual st ps f fd) (G : FnOk X.prog X.w X.K X.mg X.base CX0 k f fd ps sp) (hr : Room k X.A) (he : XE X o ta) (ha : XA X (e :: es) t) (hst : starEach (e :: es) X.env = (false, eval e X.env) :: starEach es X.env := by rfl) (hpl : (backTo pos (starEach es X.env)).any (·.1) = false := by rfl) (ht : eval (.Call (.Attribute o m apos) (e :: es) [] pos) X.env = (do
      let ov ← eval o X.env
      standAt apos.atName
      let (f, first) ← holding [ov] (getMethod ov m pl)
      callWith pos f first (backTo pos (starEach (e :: es) X.env)) (backToKw pos (keywordEach [] X.env))) := by rfl) : XE X (.Call (.Attribute o m apos) (e :: es) [] pos) (tMeth C m sp [] E0 ta t) := ⟨qe_methD c D G hr he.h ha.h hst hpl ht⟩
theorem xqe_meth0D {X : Cx} {k : Nat} {f C : Addr} {fd : FuncData} {ps : List Str} {sp : Sp} {m qual : Str} {st : Stmt} {pos apos : Pos} {o : Expr} {ta : TE} {pl : Sem Bool} (c : Cls X.K C) (D : MethAt X.K C m qual st ps f fd) (G : FnOk X.prog X.w X.K X.mg X.base CX0 k f fd ps sp) (hr : Room k X.A) (he : XE X o ta) (ht : eval (.Call (.Attribute o m apos) [] [] pos) X.env = (do
      let ov ← eval o X.env
      standAt apos.atName
      let (f, first) ← holding [ov] (getMethod ov m pl)
      callWith pos f first (backTo pos (starEach [] X.env)) (backToKw pos (keywordEach [] X.env))) := by rfl) : XE X (.Call (.Attribute o m apos) [] [] pos) (tMeth C m sp [] E0 ta tNil) := ⟨qe_meth0D c D G hr he.h ht⟩
theorem xpa_const {X : Cx} {es : List Expr} {vs : List V} (h : constVs es = some vs) : XA X es (tVs vs) := ⟨pa_const h⟩
end L2
namespace L2
open PySem PySem.Spec PyProof.Rows
theorem xpi_rev  {X : Cx} {tg a : Expr} {ta : TA} {p pos : Pos} (hm : X.mg "reversed" = none) (ha : XA X [a] ta) (hg : Gl X "reversed" := by rfl) (hs : starEach [a] X.env = [(false, eval a X.env)] := by rfl) : XI X tg (.Call (.Name "reversed" p) [a] [] pos) (iRev X.K ta) := ⟨pi_rev hm ha.h hg hs⟩
end L2
namespace L2
open PySem PySem.Spec PyProof.Rows
section
variable {X : Cx}
noncomputable def tListRng (ta : TA) : TE := fun σ H Q => ta σ H fun vs H1 => ∃ n : Nat, vs = [.int n] ∧ n ≤ 1000 ∧ ∀ l, H1 l = none → Q (.ref l) (upd H1 l (.lst ((List.range n).map fun i : Nat => V.int i)))
theorem r_listRng {ta : TA} {σ : St} {H : Hp} {Q : VK} : tListRng ta σ H Q = ta σ H fun vs H1 => ∃ n : Nat, vs = [.int n] ∧ n ≤ 1000 ∧ ∀ l, H1 l = none → Q (.ref l) (upd H1 l (.lst ((List.range n).map fun i : Nat => V.int i))) := rfl
end
noncomputable def tKGet1 (kvs : List (Key × V)) (ty : TE) : TE := fun σ H Q => ty σ H fun y H1 => ∃ k, y = kV k ∧ Q ((valV kvs k).getD .non) H1
section
variable {X : Cx} {e : Expr} {x : Str} {p apos cpos : Pos} {ty : TE} {a : Addr} {kvs : List (Key × V)} {pr : Params}
theorem r_kget1 {kvs : List (Key × V)} {ty : TE} {σ : St} {H : Hp} {Q : VK} : tKGet1 kvs ty σ H Q = ty σ H fun y H1 => ∃ k, y = kV k ∧ Q ((valV kvs k).getD .non) H1 := rfl
end
end L2
namespace L2
open PySem PySem.Spec PyProof.Rows
section
variable {prog : Program} {w : World} {A : Around} {E : Value → Shared → Prop} {s : Shared}
open AutoSeq1 (wpAny_loadPart') in
end
noncomputable def IteT (K : PySem.W.Frag) (a : Addr) : It :=
  ⟨fun i H => ∃ xs x, SqT K H a xs ∧ xs[i]? = some x,
   fun i H x H' => ∃ p y, x = .ref p ∧ H p = none ∧ H' = upd H p (.tup [.int i, y]) ∧ ∀ xs, SqT K H a xs → xs[i]? = some y,
   fun i H => ∃ xs, SqT K H a xs ∧ xs.length ≤ i⟩
noncomputable def iEnumT (K : PySem.W.Frag) (ta : TA) : TI := fun σ H R => ta σ H fun vs H1 => ∃ a, vs = [.ref a] ∧ (∃ xs, SqT K H1 a xs) ∧ R (IteT K a) H1
theorem r_iEnumT {K : PySem.W.Frag} {ta : TA} {σ : St} {H : Hp} {R : It → Hp → Prop} : iEnumT K ta σ H R = ta σ H fun vs H1 => ∃ a, vs = [.ref a] ∧ (∃ xs, SqT K H1 a xs) ∧ R (IteT K a) H1 := rfl
section
variable {K : PySem.W.Frag} {a : Addr} {xs : List V}
end
section
variable {K : PySem.W.Frag} {a b : Addr} {H : Hp} {Q : VK}
end
end L2
namespace L2
open PySem PySem.Spec PyProof.Rows
noncomputable def stAt : Nat → St → Option V
  | 0, o :: _ => o
  | n + 1, _ :: r => stAt n r
  | _, [] => none
theorem stAt_get : ∀ {n : Nat} {σ : St} {v : V}, stAt n σ = some v → σ[n]? = some (some v)
  | 0, o :: _, v, h => by rw [show stAt 0 (o :: _) = o from rfl] at h; rw [h]; rfl
  | n + 1, _ :: r, v, h => by rw [List.getElem?_cons_succ]; exact stAt_get h
  | 0, [], _, h => by cases h
  | _ + 1, [], _, h => by cases h
noncomputable def yVar (i : Nat) : TE := fun σ H Q => match stAt i σ with
  | some v => Q v H
  | none => False
theorem yVar_le {i : Nat} {σ : St} {H : Hp} {Q : VK} (h : yVar i σ H Q) : tVar i σ H Q := by
  unfold yVar at h
  split at h
  · next v e => exact ⟨v, stAt_get e, h⟩
  · exact h.elim
theorem yqv {X : Cx} (i : Nat) {x : Str} {pos : Pos} (hv : Vis X.env.scope x) (hN : X.N[i]? = some x := by rfl) (hd : (x == ("__debug__" : Str)) = false := by kernel_rfl) (hcd : (x == ("__classdict__" : Str)) = false := by kernel_rfl) : XE X (.Name x pos) (yVar i) :=
  ⟨fun pins s σ H Q I h => qv i hv hN hd hcd pins s σ H Q I (yVar_le h)⟩
noncomputable def yI0 (g : Int → Int → V) : R2 := fun x y H Q => match x, y with
  | .int i, .int j => Q (g i j) H
  | _, _ => False
noncomputable def yI (C : Int → Int → Prop) (g : Int → Int → V) : R2 := fun x y H Q => match x, y with
  | .int i, .int j => C i j ∧ Q (g i j) H
  | _, _ => False
noncomputable def yU (g : Int → V) : V → Hp → VK → Prop := fun x H Q => match x with
  | .int i => Q (g i) H
  | _ => False
theorem yI0_le {g : Int → Int → V} {x y : V} {H : Hp} {Q : VK} (h : yI0 g x y H Q) : rI0 g x y H Q := by
  unfold yI0 at h
  split at h
  · exact ⟨_, _, rfl, rfl, h⟩
  · exact h.elim
theorem yI_le {C : Int → Int → Prop} {g : Int → Int → V} {x y : V} {H : Hp} {Q : VK} (h : yI C g x y H Q) : rI C g x y H Q := by
  unfold yI at h
  split at h
  · exact ⟨_, _, rfl, rfl, h⟩
  · exact h.elim
theorem yU_le {g : Int → V} {x : V} {H : Hp} {Q : VK} (h : yU g x H Q) : rU g x H Q := by
  unfold yU at h
  split at h
  · exact ⟨_, rfl, h⟩
  · exact h.elim
section
variable {X : Cx}
theorem OpR.le {f : Value → Value → Sem Value} {r r' : R2} (h : OpR X f r) (le : ∀ {x y : V} {H : Hp} {Q : VK}, r' x y H Q → r x y H Q) : OpR X f r' := fun pins s σ H x y v u Q I rx ry q => h pins s σ H x y v u Q I rx ry (le q)
theorem yop_add : OpR X (binaryOp .Add) (yI0 fun i j => .int (i + j)) := OpR.le op_add yI0_le
theorem yop_sub : OpR X (binaryOp .Sub) (yI0 fun i j => .int (i - j)) := OpR.le op_sub yI0_le
theorem yop_mul : OpR X (binaryOp .Mult) (yI CMul fun i j => .int (i * j)) := OpR.le op_mul yI_le
theorem yop_mod : OpR X (binaryOp .Mod) (yI (fun _ j => 0 < j) fun i j => .int (i % j)) := OpR.le op_mod yI_le
theorem yop_pow : OpR X (binaryOp .Pow) (yI CPow fun i j => .int (i ^ j.toNat)) := OpR.le op_pow yI_le
theorem yop_shl : OpR X (binaryOp .LShift) (yI CPow fun i j => .int (i * 2 ^ j.toNat)) := OpR.le op_shl yI_le
theorem yop_and : OpR X (binaryOp .BitAnd) (yI0 fun i j => .int (Builtin.bitAnd i j)) := OpR.le op_and yI0_le
theorem yop_or : OpR X (binaryOp .BitOr) (yI0 fun i j => .int (Builtin.bitOr i j)) := OpR.le op_or yI0_le
theorem yop_xor : OpR X (binaryOp .BitXor) (yI0 fun i j => .int (Builtin.bitXor i j)) := OpR.le op_xor yI0_le
theorem yop_lt : OpR X (compareOp .Lt) (yI0 fun i j => .bl (decide (i < j))) := OpR.le op_lt yI0_le
theorem yop_le : OpR X (compareOp .LtE) (yI0 fun i j => .bl (decide (i ≤ j))) := OpR.le op_le yI0_le
theorem yop_gt : OpR X (compareOp .Gt) (yI0 fun i j => .bl (decide (j < i))) := OpR.le op_gt yI0_le
theorem yop_ge : OpR X (compareOp .GtE) (yI0 fun i j => .bl (decide (j ≤ i))) := OpR.le op_ge yI0_le
theorem yop_fdivB : OpR X (binaryOp .FloorDiv) (yI CDivB fun i j => .int (i / j)) := OpR.le op_fdivB yI_le
theorem yun_neg : UnR X (unaryOp .USub) (yU fun i => .int (-i)) := fun pins s σ H x v Q I rx q => un_neg pins s σ H x v Q I rx (yU_le q)
end
section
variable {H : Hp} {Q : VK}
theorem y_v0 {v : V} {r : St}  : yVar 0 (some v :: r) H Q = Q v H := rfl
theorem y_v1 {v : V} {r : St} {a0 : Option V} : yVar 1 (a0 :: some v :: r) H Q = Q v H := rfl
theorem y_v2 {v : V} {r : St} {a0 : Option V} {a1 : Option V} : yVar 2 (a0 :: a1 :: some v :: r) H Q = Q v H := rfl
theorem y_v3 {v : V} {r : St} {a0 : Option V} {a1 : Option V} {a2 : Option V} : yVar 3 (a0 :: a1 :: a2 :: some v :: r) H Q = Q v H := rfl
theorem y_v4 {v : V} {r : St} {a0 : Option V} {a1 : Option V} {a2 : Option V} {a3 : Option V} : yVar 4 (a0 :: a1 :: a2 :: a3 :: some v :: r) H Q = Q v H := rfl
theorem y_v5 {v : V} {r : St} {a0 : Option V} {a1 : Option V} {a2 : Option V} {a3 : Option V} {a4 : Option V} : yVar 5 (a0 :: a1 :: a2 :: a3 :: a4 :: some v :: r) H Q = Q v H := rfl
theorem y_v6 {v : V} {r : St} {a0 : Option V} {a1 : Option V} {a2 : Option V} {a3 : Option V} {a4 : Option V} {a5 : Option V} : yVar 6 (a0 :: a1 :: a2 :: a3 :: a4 :: a5 :: some v :: r) H Q = Q v H := rfl
theorem y_v7 {v : V} {r : St} {a0 : Option V} {a1 : Option V} {a2 : Option V} {a3 : Option V} {a4 : Option V} {a5 : Option V} {a6 : Option V} : yVar 7 (a0 :: a1 :: a2 :: a3 :: a4 :: a5 :: a6 :: some v :: r) H Q = Q v H := rfl
theorem y_v8 {v : V} {r : St} {a0 : Option V} {a1 : Option V} {a2 : Option V} {a3 : Option V} {a4 : Option V} {a5 : Option V} {a6 : Option V} {a7 : Option V} : yVar 8 (a0 :: a1 :: a2 :: a3 :: a4 :: a5 :: a6 :: a7 :: some v :: r) H Q = Q v H := rfl
theorem y_v9 {v : V} {r : St} {a0 : Option V} {a1 : Option V} {a2 : Option V} {a3 : Option V} {a4 : Option V} {a5 : Option V} {a6 : Option V} {a7 : Option V} {a8 : Option V} : yVar 9 (a0 :: a1 :: a2 :: a3 :: a4 :: a5 :: a6 :: a7 :: a8 :: some v :: r) H Q = Q v H := rfl
theorem y_v10 {v : V} {r : St} {a0 : Option V} {a1 : Option V} {a2 : Option V} {a3 : Option V} {a4 : Option V} {a5 : Option V} {a6 : Option V} {a7 : Option V} {a8 : Option V} {a9 : Option V} : yVar 10 (a0 :: a1 :: a2 :: a3 :: a4 :: a5 :: a6 :: a7 :: a8 :: a9 :: some v :: r) H Q = Q v H := rfl
theorem y_v11 {v : V} {r : St} {a0 : Option V} {a1 : Option V} {a2 : Option V} {a3 : Option V} {a4 : Option V} {a5 : Option V} {a6 : Option V} {a7 : Option V} {a8 : Option V} {a9 : Option V} {a10 : Option V} : yVar 11 (a0 :: a1 :: a2 :: a3 :: a4 :: a5 :: a6 :: a7 :: a8 :: a9 :: a10 :: some v :: r) H Q = Q v H := rfl
theorem y_v12 {v : V} {r : St} {a0 : Option V} {a1 : Option V} {a2 : Option V} {a3 : Option V} {a4 : Option V} {a5 : Option V} {a6 : Option V} {a7 : Option V} {a8 : Option V} {a9 : Option V} {a10 : Option V} {a11 : Option V} : yVar 12 (a0 :: a1 :: a2 :: a3 :: a4 :: a5 :: a6 :: a7 :: a8 :: a9 :: a10 :: a11 :: some v :: r) H Q = Q v H := rfl
theorem y_v13 {v : V} {r : St} {a0 : Option V} {a1 : Option V} {a2 : Option V} {a3 : Option V} {a4 : Option V} {a5 : Option V} {a6 : Option V} {a7 : Option V} {a8 : Option V} {a9 : Option V} {a10 : Option V} {a11 : Option V} {a12 : Option V} : yVar 13 (a0 :: a1 :: a2 :: a3 :: a4 :: a5 :: a6 :: a7 :: a8 :: a9 :: a10 :: a11 :: a12 :: some v :: r) H Q = Q v H := rfl
theorem y_v14 {v : V} {r : St} {a0 : Option V} {a1 : Option V} {a2 : Option V} {a3 : Option V} {a4 : Option V} {a5 : Option V} {a6 : Option V} {a7 : Option V} {a8 : Option V} {a9 : Option V} {a10 : Option V} {a11 : Option V} {a12 : Option V} {a13 : Option V} : yVar 14 (a0 :: a1 :: a2 :: a3 :: a4 :: a5 :: a6 :: a7 :: a8 :: a9 :: a10 :: a11 :: a12 :: a13 :: some v :: r) H Q = Q v H := rfl
theorem y_v15 {v : V} {r : St} {a0 : Option V} {a1 : Option V} {a2 : Option V} {a3 : Option V} {a4 : Option V} {a5 : Option V} {a6 : Option V} {a7 : Option V} {a8 : Option V} {a9 : Option V} {a10 : Option V} {a11 : Option V} {a12 : Option V} {a13 : Option V} {a14 : Option V} : yVar 15 (a0 :: a1 :: a2 :: a3 :: a4 :: a5 :: a6 :: a7 :: a8 :: a9 :: a10 :: a11 :: a12 :: a13 :: a14 :: some v :: r) H Q = Q v H := rfl
theorem y_v16 {v : V} {r : St} {a0 : Option V} {a1 : Option V} {a2 : Option V} {a3 : Option V} {a4 : Option V} {a5 : Option V} {a6 : Option V} {a7 : Option V} {a8 : Option V} {a9 : Option V} {a10 : Option V} {a11 : Option V} {a12 : Option V} {a13 : Option V} {a14 : Option V} {a15 : Option V} : yVar 16 (a0 :: a1 :: a2 :: a3 :: a4 :: a5 :: a6 :: a7 :: a8 :: a9 :: a10 :: a11 :: a12 :: a13 :: a14 :: a15 :: some v :: r) H Q = Q v H := rfl
theorem y_v17 {v : V} {r : St} {a0 : Option V} {a1 : Option V} {a2 : Option V} {a3 : Option V} {a4 : Option V} {a5 : Option V} {a6 : Option V} {a7 : Option V} {a8 : Option V} {a9 : Option V} {a10 : Option V} {a11 : Option V} {a12 : Option V} {a13 : Option V} {a14 : Option V} {a15 : Option V} {a16 : Option V} : yVar 17 (a0 :: a1 :: a2 :: a3 :: a4 :: a5 :: a6 :: a7 :: a8 :: a9 :: a10 :: a11 :: a12 :: a13 :: a14 :: a15 :: a16 :: some v :: r) H Q = Q v H := rfl
theorem y_v18 {v : V} {r : St} {a0 : Option V} {a1 : Option V} {a2 : Option V} {a3 : Option V} {a4 : Option V} {a5 : Option V} {a6 : Option V} {a7 : Option V} {a8 : Option V} {a9 : Option V} {a10 : Option V} {a11 : Option V} {a12 : Option V} {a13 : Option V} {a14 : Option V} {a15 : Option V} {a16 : Option V} {a17 : Option V} : yVar 18 (a0 :: a1 :: a2 :: a3 :: a4 :: a5 :: a6 :: a7 :: a8 :: a9 :: a10 :: a11 :: a12 :: a13 :: a14 :: a15 :: a16 :: a17 :: some v :: r) H Q = Q v H := rfl
theorem y_v19 {v : V} {r : St} {a0 : Option V} {a1 : Option V} {a2 : Option V} {a3 : Option V} {a4 : Option V} {a5 : Option V} {a6 : Option V} {a7 : Option V} {a8 : Option V} {a9 : Option V} {a10 : Option V} {a11 : Option V} {a12 : Option V} {a13 : Option V} {a14 : Option V} {a15 : Option V} {a16 : Option V} {a17 : Option V} {a18 : Option V} : yVar 19 (a0 :: a1 :: a2 :: a3 :: a4 :: a5 :: a6 :: a7 :: a8 :: a9 :: a10 :: a11 :: a12 :: a13 :: a14 :: a15 :: a16 :: a17 :: a18 :: some v :: r) H Q = Q v H := rfl
theorem y_v20 {v : V} {r : St} {a0 : Option V} {a1 : Option V} {a2 : Option V} {a3 : Option V} {a4 : Option V} {a5 : Option V} {a6 : Option V} {a7 : Option V} {a8 : Option V} {a9 : Option V} {a10 : Option V} {a11 : Option V} {a12 : Option V} {a13 : Option V} {a14 : Option V} {a15 : Option V} {a16 : Option V} {a17 : Option V} {a18 : Option V} {a19 : Option V} : yVar 20 (a0 :: a1 :: a2 :: a3 :: a4 :: a5 :: a6 :: a7 :: a8 :: a9 :: a10 :: a11 :: a12 :: a13 :: a14 :: a15 :: a16 :: a17 :: a18 :: a19 :: some v :: r) H Q = Q v H := rfl
theorem y_v21 {v : V} {r : St} {a0 : Option V} {a1 : Option V} {a2 : Option V} {a3 : Option V} {a4 : Option V} {a5 : Option V} {a6 : Option V} {a7 : Option V} {a8 : Option V} {a9 : Option V} {a10 : Option V} {a11 : Option V} {a12 : Option V} {a13 : Option V} {a14 : Option V} {a15 : Option V} {a16 : Option V} {a17 : Option V} {a18 : Option V} {a19 : Option V} {a20 : Option V} : yVar 21 (a0 :: a1 :: a2 :: a3 :: a4 :: a5 :: a6 :: a7 :: a8 :: a9 :: a10 :: a11 :: a12 :: a13 :: a14 :: a15 :: a16 :: a17 :: a18 :: a19 :: a20 :: some v :: r) H Q = Q v H := rfl
theorem y_v22 {v : V} {r : St} {a0 : Option V} {a1 : Option V} {a2 : Option V} {a3 : Option V} {a4 : Option V} {a5 : Option V} {a6 : Option V} {a7 : Option V} {a8 : Option V} {a9 : Option V} {a10 : Option V} {a11 : Option V} {a12 : Option V} {a13 : Option V} {a14 : Option V} {a15 : Option V} {a16 : Option V} {a17 : Option V} {a18 : Option V} {a19 : Option V} {a20 : Option V} {a21 : Option V} : yVar 22 (a0 :: a1 :: a2 :: a3 :: a4 :: a5 :: a6 :: a7 :: a8 :: a9 :: a10 :: a11 :: a12 :: a13 :: a14 :: a15 :: a16 :: a17 :: a18 :: a19 :: a20 :: a21 :: some v :: r) H Q = Q v H := rfl
theorem y_v23 {v : V} {r : St} {a0 : Option V} {a1 : Option V} {a2 : Option V} {a3 : Option V} {a4 : Option V} {a5 : Option V} {a6 : Option V} {a7 : Option V} {a8 : Option V} {a9 : Option V} {a10 : Option V} {a11 : Option V} {a12 : Option V} {a13 : Option V} {a14 : Option V} {a15 : Option V} {a16 : Option V} {a17 : Option V} {a18 : Option V} {a19 : Option V} {a20 : Option V} {a21 : Option V} {a22 : Option V} : yVar 23 (a0 :: a1 :: a2 :: a3 :: a4 :: a5 :: a6 :: a7 :: a8 :: a9 :: a10 :: a11 :: a12 :: a13 :: a14 :: a15 :: a16 :: a17 :: a18 :: a19 :: a20 :: a21 :: a22 :: some v :: r) H Q = Q v H := rfl
theorem y_I0 {g : Int → Int → V} {i j : Int} : yI0 g (.int i) (.int j) H Q = Q (g i j) H := rfl
theorem y_I {C : Int → Int → Prop} {g : Int → Int → V} {i j : Int} : yI C g (.int i) (.int j) H Q = (C i j ∧ Q (g i j) H) := rfl
theorem y_U {g : Int → V} {i : Int} : yU g (.int i) H Q = Q (g i) H := rfl
end
end L2
set_option maxHeartbeats 4000000
namespace FA
open PySem L2 PyProof.Rows
noncomputable def mixed (c k : Int) : Int :=
  if 10 ^ Int.toNat 40 ≤ c then (c - 10 ^ Int.toNat 40) / (1 * 2 ^ (100 * (k % 60)).toNat) % (1 * 2 ^ Int.toNat 100)
  else ((c * c + 3 * c + 7919 * k + 1) * 48271 % 2147483629 * ((c * c + 3 * c + 7919 * k + 1) * 48271 % 2147483629) + 7) % 2147483587
theorem mixed_nn (c k : Int) : 0 ≤ mixed c k := by
  unfold mixed
  split
  · exact Int.emod_nonneg _ (by decide)
  · exact Int.emod_nonneg _ (by decide)
theorem CDivB.pow {i : Int} {n : Nat} (h : n < 9000) : CDivB i (1 * 2 ^ n) := by
  rw [Int.one_mul]
  refine ⟨Int.pow_pos (by decide), ?_⟩
  rw [Int.natAbs_pow]
  show (2 ^ n).log2 < 9000
  rw [Nat.log2_two_pow]
  exact h
noncomputable def ltr (z : Int) : Nat := 97 + (z % 26).toNat
noncomputable def nmAt (m pl k : Int) (j : Nat) : Int := m / 36 + j * j + (if decide ((j : Int) = pl) = true then 1 else 0) * k
noncomputable def nm (m pl k : Int) : Nat → Str
  | 0 => ""
  | j + 1 => nm m pl k j ++ ⟨#[ltr (nmAt m pl k j)]⟩
noncomputable def nms (m : Int) (n : Nat) : List Str := (List.range n).map fun (k : Nat) => nm m (m / 6 % (1 + m % 6)) k (1 + m % 6).toNat
theorem let26 : ∀ n : Nat, n < 26 → atI ("abcdefghijklmnopqrstuvwxyz" : Str).cps.toList (n : Int) = some (97 + n) := by decide +kernel
theorem let_at (z : Int) : atI ("abcdefghijklmnopqrstuvwxyz" : Str).cps.toList (z % 26) = some (ltr z) := by
  have h0 : 0 ≤ z % 26 := Int.emod_nonneg _ (by decide)
  have h1 : z % 26 < 26 := Int.emod_lt_of_pos _ (by decide)
  unfold ltr
  obtain ⟨n, hn⟩ := Int.eq_ofNat_of_zero_le h0
  rw [hn]
  exact let26 n (by omega)
noncomputable def opsL : List Str := ["plus", "less", "and", "or", "xor", "below", "same"]
end FA
namespace L2
open PySem PyProof.Rows
theorem hu_n {A : Around} {k n : Nat} (h : n ≤ 64) (hr : Room k A) : A.units + n < cLine := Nat.lt_of_le_of_lt (Nat.add_le_add_left h _) hr.units
theorem cutV_to {xs : List V} {k : Int} (h : 0 ≤ k) : cutV xs none (some k) = xs.take k.toNat := by
  obtain ⟨n, rfl⟩ := Int.eq_ofNat_of_zero_le h
  unfold cutV
  rw [HT.sIx_none, HT.sIx_nat, List.drop_zero, Int.toNat_natCast, Nat.sub_zero]
  by_cases hn : n ≤ xs.length
  · rw [Nat.min_eq_left hn]
  · rw [Nat.min_eq_right (by omega), List.take_length, List.take_of_length_le (by omega)]
theorem cutV_from {xs : List V} {k : Int} (h : 0 ≤ k) : cutV xs (some k) none = xs.drop k.toNat := by
  obtain ⟨n, rfl⟩ := Int.eq_ofNat_of_zero_le h
  unfold cutV
  rw [HT.sIx_none, HT.sIx_nat, Int.toNat_natCast]
  by_cases hn : n ≤ xs.length
  · rw [Nat.min_eq_left hn, List.take_of_length_le (by simp)]
  · rw [Nat.min_eq_right (by omega), List.drop_of_length_le (Nat.le_refl _), List.drop_of_length_le (by omega)]; simp
theorem cutV_mid {xs : List V} {k l : Int} (h : 0 ≤ k) (h2 : 0 ≤ l) : cutV xs (some k) (some l) = (xs.take l.toNat).drop k.toNat := by
  obtain ⟨n, rfl⟩ := Int.eq_ofNat_of_zero_le h
  obtain ⟨m, rfl⟩ := Int.eq_ofNat_of_zero_le h2
  unfold cutV
  rw [HT.sIx_nat, HT.sIx_nat, Int.toNat_natCast, Int.toNat_natCast]
  by_cases hn : n ≤ xs.length
  · rw [Nat.min_eq_left hn]
    by_cases hm : m ≤ xs.length
    · rw [Nat.min_eq_left hm, List.drop_take]
    · rw [Nat.min_eq_right (by omega), List.take_of_length_le (by simp), List.take_of_length_le (by omega)]
  · rw [Nat.min_eq_right (show xs.length ≤ n by omega), List.drop_of_length_le (Nat.le_refl _), List.drop_of_length_le (by rw [List.length_take]; omega)]; simp
section
variable {K : PySem.W.Frag} {te : TE} {ci : List Nat} {σ : St} {acc : Addr} {Q : Hp → Prop} {H1 : Hp} {a : Addr} {xs : List V}
theorem filter_yes {α : Type} (xs : List α) : xs.filter (fun _ => true) = xs := by simp
theorem cg_mapL (f : V → V) (hz : xs.length ≤ sizeLine) (hl : SqL K H1 a xs) (hacc : H1 acc = none) (hf : ∀ x ∈ xs, ∀ H Q', Same H1 H → Q' (f x) H → te (blkSt [some x] ci σ) H Q')
    (q : Q (upd H1 acc (.lst (xs.map f)))) : CompGW (Itl K a) (gName 1) tYes te 1 ci σ acc Q (upd H1 acc (.lst [])) :=
  cg_flatL (fun _ => true) f hz hl hacc (fun _ _ _ _ _ h => h) (fun x hm H Q' s _ h => hf x hm H Q' s h) (by rw [filter_yes]; exact q)
theorem cg_mapR {n : Nat} (f : Nat → V) (hz : n ≤ sizeLine) (hacc : H1 acc = none) (hf : ∀ i : Nat, i < n → ∀ H Q', Same H1 H → Q' (f i) H → te (blkSt [some (.int (i : Int))] ci σ) H Q')
    (q : Q (upd H1 acc (.lst ((List.range n).map f)))) : CompGW (Itr 0 n) (gName 1) tYes te 1 ci σ acc Q (upd H1 acc (.lst [])) := by
  refine cg_flatR (fun _ => true) (fun i => f i.toNat) hz hacc (fun _ _ _ _ _ h => h) (fun i hi H Q' s _ h => ?_) ?_
  · rw [Int.zero_add] at h ⊢
    rw [Int.toNat_natCast] at h
    exact hf i hi H Q' s h
  · rw [filter_yes]
    have e : (fun i : Nat => f (0 + (i : Int)).toNat) = f := by funext i; rw [Int.zero_add, Int.toNat_natCast]
    rw [e]
    exact q
end
structure TSame (H H' : Hp) : Prop where
  tup : ∀ b xs, H b = some (.tup xs) → H' b = some (.tup xs)
  frz : ∀ b o u, H b = some (.frz o u) → H' b = some (.frz o u)
theorem Same.ts {H H' : Hp} (s : Same H H') : TSame H H' := ⟨fun b xs e => s b _ e, fun b o u e => s b _ e⟩
theorem TSame.trans {H H1 H2 : Hp} (a : TSame H H1) (b : TSame H1 H2) : TSame H H2 := ⟨fun c xs e => b.tup c xs (a.tup c xs e), fun c o u e => b.frz c o u (a.frz c o u e)⟩
theorem TSame.updL {H : Hp} {p : Addr} {ys : List V} {o : HO} (h : H p = some (.lst ys)) : TSame H (upd H p o) :=
  ⟨fun b xs e => by rw [upd_ne (ne_of e h (by intro z; cases z))]; exact e, fun b o u e => by rw [upd_ne (ne_of e h (by intro z; cases z))]; exact e⟩
theorem TSame.seqT {K : PySem.W.Frag} {H H' : Hp} {a : Addr} {xs : List V} (e : TSame H H') (h : SqT K H a xs) : SqT K H' a xs := by
  rcases h with (h | ⟨o, h⟩) | h
  · exact .inl (.inl (e.tup _ _ h))
  · exact .inl (.inr ⟨o, e.frz _ _ _ h⟩)
  · exact .inr h
end L2
namespace FA
open PySem L2
end FA
namespace FL
open PySem L2 PyProof.Rows
noncomputable def rangeI (n : Nat) : List Int := (List.range n).map fun i : Nat => (i : Int)
noncomputable def GoodP (b : List Int) : Prop := b ≠ [] ∧ b.Pairwise (· ≤ ·)
noncomputable instance (b : List Int) : Decidable (GoodP b) := by unfold GoodP; infer_instance
structure PlacesP (n : Nat) (bss : List (List Int)) : Prop where
  good : ∀ b ∈ bss, GoodP b
  perm : bss.flatten.Perm (rangeI n)
noncomputable instance (n : Nat) (bss : List (List Int)) : Decidable (PlacesP n bss) := decidable_of_iff ((∀ b ∈ bss, GoodP b) ∧ bss.flatten.Perm (rangeI n)) ⟨fun ⟨a, b⟩ => ⟨a, b⟩, fun h => ⟨h.good, h.perm⟩⟩
noncomputable def dFrom (k : Nat) : List (List Int) → List (Key × V)
  | [] => []
  | b :: r => b.map (fun p => (.inl p, .int k)) ++ dFrom (k + 1) r
noncomputable def atF (bss : List (List Int)) (p : Int) : Int := match valV (dFrom 0 bss) (.inl p) with
  | some (.int i) => i
  | _ => 0
theorem all_range_eq {xs ys : List Int} (hl : xs.length = ys.length) : ((List.range xs.length).all fun j => decide (xs[j]? = ys[j]?)) = decide (xs = ys) := by
  rw [Bool.eq_iff_iff, List.all_eq_true, decide_eq_true_iff]
  constructor
  · intro h
    apply List.ext_getElem?
    intro j
    by_cases hj : j < xs.length
    · exact of_decide_eq_true (h j (List.mem_range.mpr hj))
    · rw [List.getElem?_eq_none (by omega), List.getElem?_eq_none (by omega)]
  · rintro rfl j _
    exact decide_eq_true rfl
theorem eqV_int {i j : Int} : eqV (.int i) (.int j) = decide (i = j) := by
  first | rfl | (unfold eqV; simp)
theorem rq_ints {K : PySem.W.Frag} {H : Hp} {n : Nat} {a b : Addr} {xs ys : List Int} (ha : SqL K H a (xs.map V.int)) (hb : SqL K H b (ys.map V.int)) : Rq K H n (.ref a) (.ref b) (decide (xs = ys)) := by
  by_cases hl : xs.length = ys.length
  · have z := Rq.lists (n := n) (fun j => decide (xs[j]? = ys[j]?)) ha hb (by rw [List.length_map, List.length_map]; exact hl) fun j x y hx hy => by
      rw [List.getElem?_map] at hx hy
      obtain ⟨i, hi, rfl⟩ := Option.map_eq_some_iff.mp hx
      obtain ⟨k, hk, rfl⟩ := Option.map_eq_some_iff.mp hy
      have e : decide (xs[j]? = ys[j]?) = eqV (.int i) (.int k) := by rw [hi, hk, eqV_int]; simp
      rw [e]
      exact .flat rfl rfl
    rw [List.length_map, all_range_eq hl] at z
    exact z
  · rw [decide_eq_false (fun e => hl (congrArg List.length e))]
    exact .lens ha hb (by rw [List.length_map, List.length_map]; exact hl)
theorem ixN_nat {n k : Nat} (h : k < n) : ixN n (k : Int) = some k := by
  unfold ixN
  rw [if_pos (by omega), if_pos (by omega), Int.toNat_natCast]
end FL
namespace FL
open PySem L2 PyProof.Rows
theorem Paired.mem {α β : Type} {F : α → β → Prop} : ∀ {l₁ : List α} {l₂ : List β}, Paired F l₁ l₂ → ∀ a ∈ l₁, ∃ b ∈ l₂, F a b
  | _, _, .nil => by intro a h; cases h
  | _, _, .cons h t => by
    intro a hm
    rcases List.mem_cons.mp hm with e | e
    · subst e; exact ⟨_, List.mem_cons_self .., h⟩
    · obtain ⟨b, hb, hf⟩ := Paired.mem t a e
      exact ⟨b, List.mem_cons_of_mem _ hb, hf⟩
theorem Paired.imp {α β : Type} {F G : α → β → Prop} : ∀ {l₁ : List α} {l₂ : List β}, Paired F l₁ l₂ → (∀ a ∈ l₁, ∀ b ∈ l₂, F a b → G a b) → Paired G l₁ l₂
  | _, _, .nil, _ => .nil
  | _, _, .cons h t, hi => .cons (hi _ (List.mem_cons_self ..) _ (List.mem_cons_self ..) h) (Paired.imp t fun a ha b hb => hi a (List.mem_cons_of_mem _ ha) b (List.mem_cons_of_mem _ hb))
theorem Paired.snoc {α β : Type} {F : α → β → Prop} {a : α} {b : β} (hf : F a b) : ∀ {l₁ : List α} {l₂ : List β}, Paired F l₁ l₂ → Paired F (l₁ ++ [a]) (l₂ ++ [b])
  | _, _, .nil => .cons hf .nil
  | _, _, .cons h t => .cons h (Paired.snoc hf t)
theorem Paired.put {α β : Type} {F : α → β → Prop} {a : α} {b : β} (hf : F a b) : ∀ {l₁ : List α} {l₂ : List β} (i : Nat), Paired F l₁ l₂ → Paired F (l₁.set i a) (l₂.set i b)
  | _, _, _, .nil => .nil
  | _, _, 0, .cons h t => .cons hf t
  | _, _, i + 1, .cons h t => .cons h (Paired.put hf i t)
section
variable {K : PySem.W.Frag} {te : TE} {ci : List Nat} {σ : L2.St} {acc : Addr} {Q : Hp → Prop} {H1 : Hp}
end
section
variable {K : PySem.W.Frag} {H : Hp}
end
end FL
namespace L2
open PySem PySem.Spec PyProof.Rows
section
variable {K : PySem.W.Frag} {tt : TT} {te : TE} {ci : List Nat} {σ : St} {acc : Addr} {Q : Hp → Prop} {H1 : Hp} {a : Addr} {xs : List V}
theorem cg_sameL (p : V → Bool) (f : V → V) (hz : xs.length ≤ sizeLine) (hl : SqL K H1 a xs) (hacc : H1 acc = none)
    (hp : ∀ x ∈ xs, ∀ H Q', Same H1 H → (∀ H', Same H H' → Q' (p x) H') → tt (blkSt [some x] ci σ) H Q') (hf : ∀ x ∈ xs, ∀ H Q', Same H1 H → p x = true → (∀ H', Same H H' → Q' (f x) H') → te (blkSt [some x] ci σ) H Q')
    (q : ∀ H, Same H1 H → H acc = some (.lst ((xs.filter p).map f)) → Q H) : CompGW (Itl K a) (gName 1) tt te 1 ci σ acc Q (upd H1 acc (.lst [])) := by
  refine cg_list (fun i ys H => ys = ((xs.take i).filter p).map f ∧ Same H1 H ∧ H acc = some (.lst ys)) ⟨by simp, Same.upd hacc, upd_same⟩ (fun i ys H _ h => h.2.1.seq hl) ?_ ?_
  · rintro i x ys H os hi ho ⟨rfl, sm, ha⟩
    have hm := List.mem_of_getElem? hi
    have e : (blkSt os ci σ).set 1 (some x) = blkSt [some x] ci σ := by
      match os, ho with
      | [o], _ => rfl
    show (∃ os', os'.length = 1 ∧ (blkSt os ci σ).set 1 (some x) = blkSt os' ci σ) ∧ tt ((blkSt os ci σ).set 1 (some x)) H _
    rw [e]
    refine ⟨⟨[some x], rfl, rfl⟩, hp x hm _ _ sm fun H2 s2 => ?_⟩
    cases hb : p x with
    | true =>
      rw [if_pos rfl]
      refine hf x hm _ _ (sm.trans s2) hb fun H3 s3 => ⟨s3 _ _ (s2 _ _ ha), flat_len hi hz, ?_, ((sm.trans s2).trans s3).updM hacc, upd_same⟩
      rw [take_filter_map hi, if_pos hb]
    | false =>
      rw [if_neg Bool.false_ne_true]
      refine ⟨?_, sm.trans s2, s2 _ _ ha⟩
      rw [take_filter_map hi, if_neg (by rw [hb]; exact Bool.false_ne_true), List.append_nil]
  · rintro ys H ⟨rfl, sm, ha⟩
    rw [List.take_length] at ha
    exact q H sm ha
theorem range_filter_succ (p : Nat → Bool) (f : Nat → V) (i : Nat) : ((List.range (i + 1)).filter p).map f = ((List.range i).filter p).map f ++ (if p i = true then [f i] else []) := by
  rw [List.range_succ, List.filter_append, List.map_append]
  congr 1
  cases hb : p i <;> simp [hb]
theorem cg_sameR {n : Nat} (p : Nat → Bool) (f : Nat → V) (hz : n ≤ sizeLine) (hacc : H1 acc = none)
    (hp : ∀ i : Nat, i < n → ∀ H Q', Same H1 H → (∀ H', Same H H' → Q' (p i) H') → tt (blkSt [some (.int (i : Int))] ci σ) H Q') (hf : ∀ i : Nat, i < n → ∀ H Q', Same H1 H → p i = true → (∀ H', Same H H' → Q' (f i) H') → te (blkSt [some (.int (i : Int))] ci σ) H Q')
    (q : ∀ H, Same H1 H → H acc = some (.lst (((List.range n).filter p).map f)) → Q H) : CompGW (Itr 0 n) (gName 1) tt te 1 ci σ acc Q (upd H1 acc (.lst [])) := by
  refine cg_range (fun i ys H => ys = ((List.range i).filter p).map f ∧ Same H1 H ∧ H acc = some (.lst ys)) ⟨by simp, Same.upd hacc, upd_same⟩ ?_ ?_
  · rintro i ys H os hi ho ⟨rfl, sm, ha⟩
    rw [show (0 : Int) + (i : Int) = (i : Int) by omega]
    have e : (blkSt os ci σ).set 1 (some (.int (i : Int))) = blkSt [some (.int (i : Int))] ci σ := by
      match os, ho with
      | [o], _ => rfl
    show (∃ os', os'.length = 1 ∧ (blkSt os ci σ).set 1 (some (.int (i : Int))) = blkSt os' ci σ) ∧ tt ((blkSt os ci σ).set 1 (some (.int (i : Int)))) H _
    rw [e]
    refine ⟨⟨[some (.int (i : Int))], rfl, rfl⟩, hp i hi _ _ sm fun H2 s2 => ?_⟩
    have hl : (((List.range i).filter p).map f).length < sizeLine := by
      rw [List.length_map]
      have := List.length_filter_le p (List.range i)
      rw [List.length_range] at this
      omega
    cases hb : p i with
    | true =>
      rw [if_pos rfl]
      refine hf i hi _ _ (sm.trans s2) hb fun H3 s3 => ⟨s3 _ _ (s2 _ _ ha), hl, ?_, ((sm.trans s2).trans s3).updM hacc, upd_same⟩
      rw [range_filter_succ, if_pos hb]
    | false =>
      rw [if_neg Bool.false_ne_true]
      refine ⟨?_, sm.trans s2, s2 _ _ ha⟩
      rw [range_filter_succ, if_neg (by rw [hb]; exact Bool.false_ne_true), List.append_nil]
  · rintro ys H ⟨rfl, sm, ha⟩
    exact q H sm ha
end
end L2
set_option maxHeartbeats 4000000
namespace FD
open PySem L2 PyProof.Rows
noncomputable def mixed (c k : Int) : Int :=
  if 10 ^ Int.toNat 40 ≤ c then (c - 10 ^ Int.toNat 40) / (1 * 2 ^ (31 * (k % 60)).toNat) % (1 * 2 ^ Int.toNat 31)
  else (c * 1103515245 + 7919 * k * k + k) % 2147483647 * ((c * 1103515245 + 7919 * k * k + k) % 2147483647) % 2147483629 * 69621 % 2147483587
theorem mixed_nn (c k : Int) : 0 ≤ mixed c k := by
  unfold mixed
  split
  · exact Int.emod_nonneg _ (by decide)
  · exact Int.emod_nonneg _ (by decide)
noncomputable def atF (ns : List Int) (k : Int) : Int := if k < ns.length then ns.getD k.toNat 0 else 0
theorem atF_bits {ns : List Int} {k : Int} (h : ∀ z ∈ ns, Builtin.Int.intBits z ≤ 2 ^ 20) : Builtin.Int.intBits (atF ns k) ≤ 2 ^ 20 := by
  unfold atF
  have z0 : Builtin.Int.intBits 0 ≤ 2 ^ 20 := by decide
  split
  · rw [List.getD_eq_getElem?_getD]
    cases e : ns[k.toNat]? with
    | none => exact z0
    | some z => exact h z (List.mem_of_getElem? e)
  · exact z0
noncomputable def someF (n : Int) : List Int := (List.range (1 + n % 6).toNat).map fun k : Nat => n / ((k : Int) + 1) % 26
noncomputable def letter (z : Int) : Str := ⟨#[FA.ltr z]⟩
noncomputable def nameB (n : Int) (j : Nat) : Str := Txt.join "" ((List.range (someF n).length).map fun k : Nat => letter ((someF n).getD k 0 + 3 * (j : Int) * (if decide ((k : Int) = n / 64 % ((someF n).length : Int)) = true then 1 else 0)))
noncomputable def kw8 : List Str := ["tell", "if", "end", "plus", "in", "box", "while", "else"]
noncomputable def namesB (n : Int) (m : Nat) : List Str := if n / 512 % 4 = 0 then kw8.take m else (List.range m).map fun j => nameB n j
theorem namesB_length {n : Int} {m : Nat} (h : m ≤ 8) : (namesB n m).length = m := by
  unfold namesB
  split
  · rw [List.length_take]; show min m 8 = m; omega
  · simp
theorem someF_length (n : Int) : (someF n).length = (1 + n % 6).toNat := by unfold someF; simp
end FD
namespace L2
open PySem PyProof.Rows
end L2
namespace FG
open PySem L2 PyProof.Rows
structure IntD (kvs : List (Key × V)) : Prop where
  nd : (kvs.map (·.1)).Nodup
  nums : ∀ kv ∈ kvs, ∃ i, kv.2 = .int i
theorem IntD.nil : IntD [] := ⟨List.nodup_nil, fun kv h => by cases h⟩
theorem IntD.put {kvs : List (Key × V)} (h : IntD kvs) (k : Key) (i : Int) : IntD (putK kvs k (.int i)) := by
  by_cases hk : (kvs.any fun kv => decide (kv.1 = k)) = true
  · have e : putK kvs k (.int i) = kvs.map (fun kv => if kv.1 = k then (kv.1, .int i) else kv) := by unfold putK; rw [if_pos hk]
    rw [e]
    refine ⟨?_, fun kv hm => ?_⟩
    · have e2 : (kvs.map (fun kv => if kv.1 = k then (kv.1, V.int i) else kv)).map (·.1) = kvs.map (·.1) := by
        rw [List.map_map]
        refine List.map_congr_left fun kv _ => ?_
        show (if kv.1 = k then (kv.1, V.int i) else kv).1 = kv.1
        split <;> rfl
      rw [e2]; exact h.nd
    · obtain ⟨kv', hm', rfl⟩ := List.mem_map.mp hm
      show ∃ j, (if kv'.1 = k then (kv'.1, V.int i) else kv').2 = .int j
      split
      · exact ⟨i, rfl⟩
      · exact h.nums kv' hm'
  · have hn : valV kvs k = none := by
      have := valV_any k kvs
      rw [Bool.not_eq_true] at hk
      rw [hk] at this
      exact Option.isNone_iff_eq_none.mp (by rw [Option.isNone_iff_eq_none]; cases e : valV kvs k with | none => rfl | some v => rw [e] at this; cases this)
    refine ⟨nd_putK _ h.nd hn, fun kv hm => ?_⟩
    rw [putK_new _ hn] at hm
    rcases List.mem_append.mp hm with z | z
    · exact h.nums kv z
    · rw [List.mem_singleton.mp z]; exact ⟨i, rfl⟩
theorem IntD.flat {kvs : List (Key × V)} (h : IntD kvs) : kvs.all (fun kv => flatV kv.2) = true := by
  rw [List.all_eq_true]
  intro kv hm
  obtain ⟨i, e⟩ := h.nums kv hm
  rw [e]; rfl
theorem IntD.self {kvs : List (Key × V)} (h : IntD kvs) : eqDV kvs kvs = true := eqDV_self h.nd h.flat
noncomputable def wsOf (kvs : List (Key × V)) (n : Str) : Option Int := match valV kvs (.inr n) with
  | some (.int i) => some i
  | _ => none
theorem wsOf_put {kvs : List (Key × V)} {k n : Str} {i : Int} : wsOf (putK kvs (.inr k) (.int i)) n = if n = k then some i else wsOf kvs n := by
  unfold wsOf
  rw [valV_put]
  by_cases h : n = k
  · subst h; rw [if_pos rfl, if_pos rfl]
  · rw [if_neg (fun z => h (Sum.inr.inj z)), if_neg h]
end FG
namespace FS
open PySem L2 FB PyProof.Rows
inductive Stm where
  | deed (d : Deed)
  | ifs (n : Str) (ones others : List Stm)
  | whl (n : Str) (rows : List Stm)
mutual
inductive StmV (K : PySem.W.Frag) (H : Hp) : V → Stm → List Addr → Prop where
  | deed {q : Addr} {d : Deed} : d.fine → SqT K H q d.vs → StmV K H (.ref q) (.deed d) []
  | ifs {q a b : Addr} {n : Str} {xs ys : List V} {ones others : List Stm} {f g : List Addr} : SqT K H q [.str "if", .str n, .ref a, .ref b] → H a = some (.lst xs) → H b = some (.lst ys) → StmsV K H xs ones f → StmsV K H ys others g →
      StmV K H (.ref q) (.ifs n ones others) (a :: b :: (f ++ g))
  | whl {q a : Addr} {n : Str} {xs : List V} {rows : List Stm} {f : List Addr} : SqT K H q [.str "while", .str n, .ref a] → H a = some (.lst xs) → StmsV K H xs rows f → StmV K H (.ref q) (.whl n rows) (a :: f)
inductive StmsV (K : PySem.W.Frag) (H : Hp) : List V → List Stm → List Addr → Prop where
  | nil : StmsV K H [] [] []
  | cons {x : V} {s : Stm} {xs : List V} {ss : List Stm} {f g : List Addr} : StmV K H x s f → StmsV K H xs ss g → StmsV K H (x :: xs) (s :: ss) (f ++ g)
end
noncomputable def Kept (fp : List Addr) (H H' : Hp) : Prop := ∀ a ∈ fp, ∀ o, H a = some o → H' a = some o
theorem Kept.left {f g : List Addr} {H H' : Hp} (h : Kept (f ++ g) H H') : Kept f H H' := fun a ha => h a (List.mem_append_left _ ha)
theorem Kept.right {f g : List Addr} {H H' : Hp} (h : Kept (f ++ g) H H') : Kept g H H' := fun a ha => h a (List.mem_append_right _ ha)
theorem Kept.tail {x : Addr} {g : List Addr} {H H' : Hp} (h : Kept (x :: g) H H') : Kept g H H' := fun a ha => h a (List.mem_cons_of_mem _ ha)
theorem Kept.of {fp : List Addr} {H H' : Hp} (s : Same H H') : Kept fp H H' := fun a _ o e => s a o e
theorem Kept.upd {fp : List Addr} {H : Hp} {p : Addr} {o : HO} (h : p ∉ fp) : Kept fp H (upd H p o) := fun a ha u e => by rw [upd_ne (fun z => h (by rw [← z]; exact ha))]; exact e
variable {K : PySem.W.Frag}
mutual
theorem StmV.keep {H H' : Hp} (t : TSame H H') : ∀ {x : V} {s : Stm} {f : List Addr}, StmV K H x s f → Kept f H H' → StmV K H' x s f
  | _, _, _, .deed hf h, _ => .deed hf (t.seqT h)
  | _, _, _, .ifs (a := a) (b := b) h ha hb h1 h2, k => .ifs (t.seqT h) (k a (by simp) _ ha) (k b (by simp) _ hb) (StmsV.keep t h1 k.tail.tail.left) (StmsV.keep t h2 k.tail.tail.right)
  | _, _, _, .whl (a := a) h ha h1, k => .whl (t.seqT h) (k a (by simp) _ ha) (StmsV.keep t h1 k.tail)
theorem StmsV.keep {H H' : Hp} (t : TSame H H') : ∀ {xs : List V} {ss : List Stm} {f : List Addr}, StmsV K H xs ss f → Kept f H H' → StmsV K H' xs ss f
  | _, _, _, .nil, _ => .nil
  | _, _, _, .cons h1 h2, k => .cons (StmV.keep t h1 k.left) (StmsV.keep t h2 k.right)
end
theorem StmsV.same {H H' : Hp} {xs : List V} {ss : List Stm} {f : List Addr} (h : StmsV K H xs ss f) (s : Same H H') : StmsV K H' xs ss f := h.keep s.ts (Kept.of s)
theorem StmV.same {H H' : Hp} {x : V} {s : Stm} {f : List Addr} (h : StmV K H x s f) (sm : Same H H') : StmV K H' x s f := h.keep sm.ts (Kept.of sm)
theorem StmsV.length {H : Hp} : ∀ {xs : List V} {ss : List Stm} {f : List Addr}, StmsV K H xs ss f → xs.length = ss.length
  | _, _, _, .nil => rfl
  | _, _, _, .cons _ h => by rw [List.length_cons, List.length_cons, StmsV.length h]
theorem StmsV.snoc {H : Hp} {y : V} {r : Stm} {g : List Addr} (hy : StmV K H y r g) : ∀ {xs : List V} {ss : List Stm} {f : List Addr}, StmsV K H xs ss f → StmsV K H (xs ++ [y]) (ss ++ [r]) (f ++ g)
  | _, _, _, .nil => by have := StmsV.cons hy StmsV.nil; rw [List.append_nil] at this; exact this
  | _, _, _, .cons h1 h2 => by rw [List.append_assoc]; exact .cons h1 (StmsV.snoc hy h2)
mutual
theorem StmV.tracked {H : Hp} : ∀ {x : V} {s : Stm} {f : List Addr}, StmV K H x s f → ∀ a ∈ f, ∃ zs, H a = some (.lst zs)
  | _, _, _, .deed _ _, a, ha => by cases ha
  | _, _, _, .ifs (f := f) (g := g) h ha hb h1 h2, c, hc => by
    rcases List.mem_cons.mp hc with rfl | hc
    · exact ⟨_, ha⟩
    rcases List.mem_cons.mp hc with rfl | hc
    · exact ⟨_, hb⟩
    rcases List.mem_append.mp hc with hc | hc
    · exact StmsV.tracked h1 c hc
    · exact StmsV.tracked h2 c hc
  | _, _, _, .whl h ha h1, c, hc => by
    rcases List.mem_cons.mp hc with rfl | hc
    · exact ⟨_, ha⟩
    · exact StmsV.tracked h1 c hc
theorem StmsV.tracked {H : Hp} : ∀ {xs : List V} {ss : List Stm} {f : List Addr}, StmsV K H xs ss f → ∀ a ∈ f, ∃ zs, H a = some (.lst zs)
  | _, _, _, .nil, a, ha => by cases ha
  | _, _, _, .cons h1 h2, a, ha => by
    rcases List.mem_append.mp ha with ha | ha
    · exact StmV.tracked h1 a ha
    · exact StmsV.tracked h2 a ha
end
theorem StmsV.get {H : Hp} : ∀ {xs : List V} {ss : List Stm} {f : List Addr} {i : Nat} {x : V}, StmsV K H xs ss f → xs[i]? = some x → ∃ s g, ss[i]? = some s ∧ StmV K H x s g ∧ ∀ a ∈ g, a ∈ f
  | _, _, _, _, _, .nil, e => by simp at e
  | _, _, _, 0, _, .cons h _, e => by simp at e; subst e; exact ⟨_, _, rfl, h, fun a ha => List.mem_append_left _ ha⟩
  | _, _, _, i + 1, x, .cons _ t, e => by
    obtain ⟨s, g, h1, h2, h3⟩ := StmsV.get (i := i) (x := x) t (by simpa using e)
    exact ⟨s, g, by simpa using h1, h2, fun a ha => List.mem_append_right _ (h3 a ha)⟩
theorem nodup_app {α : Type} {l₁ l₂ : List α} (h1 : l₁.Nodup) (h2 : l₂.Nodup) (h : ∀ a ∈ l₁, a ∉ l₂) : (l₁ ++ l₂).Nodup := by
  rw [List.nodup_append]
  exact ⟨h1, h2, fun a ha b hb e => h a ha (by rw [e]; exact hb)⟩
end FS
namespace FP
open PySem L2 FB FS FA PyProof.Rows
variable {K : PySem.W.Frag}
end FP
namespace FS
open PySem L2 FB PyProof.Rows
theorem opsL_ne {f k : Str} (h : f ∈ opsL) (hk : opsL.contains k = false) : ¬ f = k := by
  rintro rfl
  rw [List.contains_eq_mem, decide_eq_false_iff_not] at hk
  exact hk h
theorem deed0 {K : PySem.W.Frag} {H : Hp} {q : Addr} {d : Deed} {k : Str} {Z : V → Hp → Prop} (hf : d.fine) (hq : SqT K H q d.vs) (h1 : opsL.contains k = false) (h2 : ¬ ("tell" : Str) = k) (h3 : ¬ ("copy" : Str) = k) (h : Z (.bl false) H) : ∃ xs v, SqT K H q xs ∧ atI xs 0 = some v ∧ rEq v (.str k) H Z := by
  cases d with
  | tell a => exact ⟨_, _, hq, rfl, rfl, by rw [decide_eq_false (fun z => h2 (V.str.inj z))]; exact h⟩
  | copy n a => exact ⟨_, _, hq, rfl, rfl, by rw [decide_eq_false (fun z => h3 (V.str.inj z))]; exact h⟩
  | op f n a b => exact ⟨_, _, hq, rfl, rfl, by rw [decide_eq_false (fun z => opsL_ne hf h1 (V.str.inj z))]; exact h⟩
mutual
noncomputable def Stm.deep : Stm → Nat
  | .deed _ => 0
  | .ifs _ a b => max (deepL a) (deepL b) + 1
  | .whl _ a => deepL a + 1
noncomputable def deepL : List Stm → Nat
  | [] => 0
  | s :: ss => max s.deep (deepL ss)
end
mutual
noncomputable def Stm.many : Stm → Nat
  | .deed _ => 1
  | .ifs _ a b => manyL a + manyL b + 1
  | .whl _ a => manyL a + 1
noncomputable def manyL : List Stm → Nat
  | [] => 0
  | s :: ss => s.many + manyL ss
end
noncomputable def Opd.good (ns : List Str) (w : Int) : Opd → Prop
  | .box n => n ∈ ns
  | .word i => 0 ≤ i ∧ i < 2 ^ w.toNat
noncomputable def Deed.good (ns : List Str) (w : Int) : Deed → Prop
  | .tell a => Opd.good ns w a
  | .copy d a => d ∈ ns ∧ Opd.good ns w a
  | .op f d a b => f ∈ opsL ∧ d ∈ ns ∧ Opd.good ns w a ∧ Opd.good ns w b
mutual
noncomputable def Stm.good (ns : List Str) (w : Int) : Stm → Prop
  | .deed d => Deed.good ns w d
  | .ifs n a b => n ∈ ns ∧ goodL ns w a ∧ goodL ns w b
  | .whl n a => n ∈ ns ∧ goodL ns w a
noncomputable def goodL (ns : List Str) (w : Int) : List Stm → Prop
  | [] => True
  | s :: ss => s.good ns w ∧ goodL ns w ss
end
theorem many_pos (s : Stm) : 1 ≤ s.many := by cases s <;> simp [Stm.many]
theorem len_many (ss : List Stm) : ss.length ≤ manyL ss := by
  induction ss with
  | nil => simp [manyL]
  | cons s ss ih => rw [manyL, List.length_cons]; have := many_pos s; omega
theorem many_mem {s : Stm} {ss : List Stm} (h : s ∈ ss) : s.many ≤ manyL ss := by
  induction ss with
  | nil => cases h
  | cons x xs ih =>
    rw [manyL]
    rcases List.mem_cons.mp h with z | z
    · subst z; omega
    · have := ih z; omega
theorem deepL_mem {s : Stm} {ss : List Stm} (h : s ∈ ss) : s.deep ≤ deepL ss := by
  induction ss with
  | nil => cases h
  | cons x xs ih =>
    rw [deepL]
    rcases List.mem_cons.mp h with z | z
    · subst z; omega
    · have := ih z; omega
theorem deepL_append {a b : List Stm} : deepL (a ++ b) = max (deepL a) (deepL b) := by
  induction a with
  | nil => simp [deepL]
  | cons s ss ih => rw [List.cons_append, deepL, deepL, ih, Nat.max_assoc]
theorem manyL_append {a b : List Stm} : manyL (a ++ b) = manyL a + manyL b := by
  induction a with
  | nil => simp [manyL]
  | cons s ss ih => rw [List.cons_append, manyL, manyL, ih]; omega
theorem goodL_append {ns : List Str} {w : Int} {a b : List Stm} : goodL ns w (a ++ b) ↔ goodL ns w a ∧ goodL ns w b := by
  induction a with
  | nil => simp [goodL]
  | cons s ss ih => rw [List.cons_append, goodL, goodL, ih]; exact and_assoc.symm
end FS
namespace FP
open PySem L2 FB FS FA PyProof.Rows
end FP
namespace L2
open PySem PySem.Spec PyProof.Rows
noncomputable def SameX (p : Addr) (H H' : Hp) : Prop := ∀ c o, H c = some o → c ≠ p → H' c = some o
theorem SameX.refl {p : Addr} {H : Hp} : SameX p H H := fun _ _ e _ => e
theorem SameX.trans {p : Addr} {H H1 H2 : Hp} (a : SameX p H H1) (b : SameX p H1 H2) : SameX p H H2 := fun c o e n => b c o (a c o e n) n
theorem SameX.of {p : Addr} {H H' : Hp} (s : Same H H') : SameX p H H' := fun c o e _ => s c o e
theorem SameX.upd {p : Addr} {H : Hp} {o : HO} : SameX p H (L2.upd H p o) := fun c u e n => by rw [upd_ne n]; exact e
theorem SameX.free {p c : Addr} {H H' : Hp} {o : HO} (s : SameX p H H') (hp : H' p = some o) (h : H' c = none) : H c = none := by
  cases e : H c with
  | none => rfl
  | some u =>
    have n : c ≠ p := fun z => by subst z; rw [hp] at h; cases h
    rw [s c u e n] at h; cases h
theorem TSame.updI {H : Hp} {p C dx : Addr} {fs : List (Str × V)} {o : HO} (h : H p = some (.ins C dx fs)) : TSame H (L2.upd H p o) :=
  ⟨fun b xs e => by rw [upd_ne (fun z => by rw [z, h] at e; cases e)]; exact e, fun b u v e => by rw [upd_ne (fun z => by rw [z, h] at e; cases e)]; exact e⟩
end L2
namespace FS
open PySem L2 FB PyProof.Rows
noncomputable def progFs (wd : Int) (a b r : Addr) : List (Str × V) := [("width", .int wd), ("ins", .ref a), ("boxes", .ref b), ("rows", .ref r)]
structure ProgAt (K : PySem.W.Frag) (C : Addr) (H : Hp) (p : Addr) (wd : Int) (ins oth : List Str) (ss : List Stm) (a b r : Addr) (xs : List V) (f : List Addr) : Prop where
  ob : ∃ dx, H p = some (.ins C dx (progFs wd a b r))
  ia : H a = some (.lst (ins.map V.str))
  bx : H b = some (.lst ((ins ++ oth).map V.str))
  rs : H r = some (.lst xs)
  st : StmsV K H xs ss f
theorem putF_new {f : Str} {v : V} : ∀ {fs : List (Str × V)}, (fs.map (·.1)).contains f = false → putF f v fs = fs ++ [(f, v)]
  | [], _ => rfl
  | (g, x) :: r, h => by
    rw [List.map_cons, List.contains_cons, Bool.or_eq_false_iff] at h
    have n : ¬ g = f := fun z => by subst z; simp at h
    rw [show putF f v ((g, x) :: r) = (if g = f then (g, v) :: r else (g, x) :: putF f v r) from rfl, if_neg n, putF_new h.2]; rfl
end FS
namespace K01M
theorem tb (x w : Nat) : x / 2 ^ w % 2 = (x.testBit w).toNat := by
  rw [Nat.testBit_eq_decide_div_mod_eq]
  have h : x / 2 ^ w % 2 = 0 ∨ x / 2 ^ w % 2 = 1 := by omega
  rcases h with h | h <;> simp [h]
end K01M
namespace FO
open PySem L2 K01M FB PyProof.Rows
noncomputable abbrev ops : List Str := FB.opsL
noncomputable def reck (op : Str) (x y w : Int) : Int :=
  if op = "plus" then (x + y) % 2 ^ w.toNat else if op = "less" then (x - y) % 2 ^ w.toNat else if op = "and" then Builtin.bitAnd x y else if op = "or" then Builtin.bitOr x y
  else if op = "xor" then Builtin.bitXor x y else if op = "below" then (if x < y then 1 else 0) else if x = y then 1 else 0
theorem bAnd (a b : Nat) : Builtin.bitAnd (a : Int) (b : Int) = ((a &&& b : Nat) : Int) := by
  unfold Builtin.bitAnd
  rw [decide_eq_true (by omega : (0 : Int) ≤ a), decide_eq_true (by omega : (0 : Int) ≤ b)]
  rfl
theorem bOr (a b : Nat) : Builtin.bitOr (a : Int) (b : Int) = ((a ||| b : Nat) : Int) := by
  unfold Builtin.bitOr Builtin.bitAnd
  have e1 : ∀ z : Nat, Builtin.bitNot (z : Int) = -(z : Int) - 1 := fun z => by unfold Builtin.bitNot; omega
  rw [e1, e1, decide_eq_false (by omega : ¬ (0 : Int) ≤ -(a : Int) - 1), decide_eq_false (by omega : ¬ (0 : Int) ≤ -(b : Int) - 1)]
  show Builtin.bitNot (Builtin.bitNot (((Builtin.bitNot (-(a : Int) - 1)).toNat ||| (Builtin.bitNot (-(b : Int) - 1)).toNat : Nat) : Int)) = _
  have e2 : ∀ z : Nat, (Builtin.bitNot (-(z : Int) - 1)).toNat = z := fun z => by unfold Builtin.bitNot; omega
  rw [e2, e2, e1]
  unfold Builtin.bitNot; omega
theorem reck_lt {op : Str} {x y w : Int} (ho : op ∈ ops) (x0 : 0 ≤ x) (x1 : x < 2 ^ w.toNat) (y0 : 0 ≤ y) (y1 : y < 2 ^ w.toNat) (hw : 1 ≤ w) : 0 ≤ reck op x y w ∧ reck op x y w < 2 ^ w.toNat := by
  obtain ⟨a, rfl⟩ := Int.eq_ofNat_of_zero_le x0
  obtain ⟨b, rfl⟩ := Int.eq_ofNat_of_zero_le y0
  have ca : ((2 ^ w.toNat : Nat) : Int) = 2 ^ w.toNat := by simp
  have ha : a < 2 ^ w.toNat := by rw [← ca] at x1; omega
  have hb : b < 2 ^ w.toNat := by rw [← ca] at y1; omega
  have hp : (0 : Int) < 2 ^ w.toNat := Int.pow_pos (by decide)
  have h2 : (2 : Int) ≤ 2 ^ w.toNat := by
    have : 2 ^ 1 ≤ 2 ^ w.toNat := Nat.pow_le_pow_right (by decide) (by omega)
    rw [← ca]; omega
  unfold reck
  split
  · exact ⟨Int.emod_nonneg _ (by omega), Int.emod_lt_of_pos _ hp⟩
  split
  · exact ⟨Int.emod_nonneg _ (by omega), Int.emod_lt_of_pos _ hp⟩
  split
  · rw [bAnd, ← ca]
    have := Nat.lt_of_le_of_lt (Nat.and_le_left (n := a) (m := b)) ha
    omega
  split
  · rw [bOr, ← ca]
    have := Nat.or_lt_two_pow ha hb
    omega
  split
  · unfold Builtin.bitXor
    rw [bAnd, bOr, ← ca]
    have h1 := Nat.or_lt_two_pow ha hb
    have h3 : (a &&& b) ≤ (a ||| b) := Nat.le_trans Nat.and_le_left Nat.left_le_or
    omega
  split
  · split <;> omega
  · split <;> omega
end FO
namespace FR
open PySem L2 FB FS FG FO PyProof.Rows
noncomputable abbrev Bx := List (Key × V)
noncomputable def bxGet (b : Bx) (n : Str) : Int := (wsOf b n).getD 0
noncomputable def opdW (b : Bx) : Opd → Int
  | .box n => bxGet b n
  | .word i => i
noncomputable def deedW (b : Bx) (w : Int) : Deed → Int
  | .tell a => opdW b a
  | .copy _ a => opdW b a
  | .op f _ x y => reck f (opdW b x) (opdW b y) w
structure Stt where
  left : List Stm
  bx : Bx
  told : List Int
noncomputable def doB (w : Int) (d : Deed) (b : Bx) : Bx := match d with
  | .tell _ => b
  | .copy n _ => putK b (.inr n) (.int (deedW b w d))
  | .op _ n _ _ => putK b (.inr n) (.int (deedW b w d))
noncomputable def doT (w : Int) (d : Deed) (b : Bx) (t : List Int) : List Int := match d with
  | .tell _ => t ++ [deedW b w d]
  | _ => t
noncomputable def stepS (w : Int) (s : Stt) : Stt := match s.left with
  | [] => s
  | .deed d :: ss => ⟨ss, doB w d s.bx, doT w d s.bx s.told⟩
  | .ifs n x y :: ss => ⟨(if bxGet s.bx n ≠ 0 then x else y) ++ ss, s.bx, s.told⟩
  | .whl n x :: ss => ⟨if bxGet s.bx n ≠ 0 then x ++ .whl n x :: ss else ss, s.bx, s.told⟩
noncomputable def runS (w : Int) : Nat → Stt → Stt
  | 0, s => s
  | n + 1, s => stepS w (runS w n s)
theorem stepS_nil {w : Int} {s : Stt} (h : s.left = []) : stepS w s = s := by unfold stepS; rw [h]
theorem runS_over {w : Int} {s : Stt} {n : Nat} (h : (runS w n s).left = []) : ∀ m, runS w (n + m) s = runS w n s
  | 0 => rfl
  | m + 1 => by rw [← Nat.add_assoc, runS, runS_over h m]; exact stepS_nil h
structure BxG (ns : List Str) (w : Int) (b : Bx) : Prop where
  isI : IntD b
  few : b.length ≤ 1000
  has : ∀ n ∈ ns, ∃ x, wsOf b n = some x ∧ 0 ≤ x ∧ x < 2 ^ w.toNat
theorem BxG.get {ns : List Str} {w : Int} {b : Bx} {n : Str} (h : BxG ns w b) (hn : n ∈ ns) : 0 ≤ bxGet b n ∧ bxGet b n < 2 ^ w.toNat := by
  obtain ⟨x, hx, h0, h1⟩ := h.has n hn
  unfold bxGet; rw [hx]; exact ⟨h0, h1⟩
theorem ws_val {kvs : List (Key × V)} {n : Str} {x : Int} (h : wsOf kvs n = some x) : valV kvs (.inr n) = some (.int x) := by
  unfold wsOf at h
  split at h
  · next e => cases h; exact e
  · cases h
theorem BxG.val {ns : List Str} {w : Int} {b : Bx} {n : Str} (h : BxG ns w b) (hn : n ∈ ns) : valV b (.inr n) = some (.int (bxGet b n)) := by
  obtain ⟨x, hx, _⟩ := h.has n hn
  unfold bxGet; rw [hx]; exact ws_val hx
theorem putK_old_length {b : Bx} {k : Key} {v u : V} (h : valV b k = some u) : (putK b k v).length = b.length := by
  have := valV_any k b
  rw [h] at this
  unfold putK
  rw [if_pos (by rw [this]; rfl), List.length_map]
theorem BxG.put {ns : List Str} {w : Int} {b : Bx} {n : Str} {x : Int} (h : BxG ns w b) (hn : n ∈ ns) (h0 : 0 ≤ x) (h1 : x < 2 ^ w.toNat) : BxG ns w (putK b (.inr n) (.int x)) :=
  ⟨h.isI.put _ _, by rw [putK_old_length (h.val hn)]; exact h.few, fun m hm => by
    rw [wsOf_put]
    by_cases e : m = n
    · rw [if_pos e]; exact ⟨x, rfl, h0, h1⟩
    · rw [if_neg e]; exact h.has m hm⟩
theorem opdW_lt {ns : List Str} {w : Int} {b : Bx} {o : Opd} (h : BxG ns w b) (ho : Opd.good ns w o) : 0 ≤ opdW b o ∧ opdW b o < 2 ^ w.toNat := by
  cases o with
  | box n => exact h.get ho
  | word i => exact ho
theorem deedW_lt {ns : List Str} {w : Int} {b : Bx} {d : Deed} (h : BxG ns w b) (hd : Deed.good ns w d) (hw : 1 ≤ w) : 0 ≤ deedW b w d ∧ deedW b w d < 2 ^ w.toNat := by
  cases d with
  | tell a => exact opdW_lt h hd
  | copy n a => exact opdW_lt h hd.2
  | op f n x y =>
    obtain ⟨h1, _, h3, h4⟩ := hd
    have a := opdW_lt h h3
    have b := opdW_lt h h4
    exact reck_lt h1 a.1 a.2 b.1 b.2 hw
theorem BxG.doB {ns : List Str} {w : Int} {b : Bx} {d : Deed} (h : BxG ns w b) (hd : Deed.good ns w d) (hw : 1 ≤ w) : BxG ns w (doB w d b) := by
  have l := deedW_lt h hd hw
  cases d with
  | tell a => exact h
  | copy n a => exact h.put hd.1 l.1 l.2
  | op f n x y => exact h.put hd.2.1 l.1 l.2
noncomputable def firstB (ins : List Str) (ws : Bx) (ns : List Str) : Bx := ns.foldl (fun b n => putK b (.inr n) (.int (if n ∈ ins then bxGet ws n else 0))) []
theorem firstB_snoc {ins : List Str} {ws : Bx} {ns : List Str} {n : Str} : firstB ins ws (ns ++ [n]) = putK (firstB ins ws ns) (.inr n) (.int (if n ∈ ins then bxGet ws n else 0)) := by unfold firstB; rw [List.foldl_append]; rfl
theorem firstB_ok {ins : List Str} {ws : Bx} {w : Int} (hw : ∀ n ∈ ins, 0 ≤ bxGet ws n ∧ bxGet ws n < 2 ^ w.toNat) : ∀ (m : Nat) (ns : List Str), ns.length = m → IntD (firstB ins ws ns) ∧ (firstB ins ws ns).length ≤ ns.length ∧ ∀ n ∈ ns, ∃ x, wsOf (firstB ins ws ns) n = some x ∧ 0 ≤ x ∧ x < 2 ^ w.toNat := by
  intro m
  induction m with
  | zero =>
    intro ns h
    have : ns = [] := List.length_eq_zero_iff.mp h
    subst this
    exact ⟨IntD.nil, Nat.le_refl _, fun n hn => by cases hn⟩
  | succ m ih =>
    intro ns h
    obtain ⟨l, x, rfl⟩ : ∃ l x, ns = l ++ [x] := ⟨ns.dropLast, ns.getLast (by intro z; rw [z] at h; simp at h), (List.dropLast_concat_getLast _).symm⟩
    have hl : l.length = m := by simpa using h
    obtain ⟨i1, i2, i3⟩ := ih l hl
    rw [firstB_snoc]
    refine ⟨i1.put _ _, ?_, fun n hn => ?_⟩
    · have := length_putK (firstB ins ws l) (.inr x) (.int (if x ∈ ins then bxGet ws x else 0))
      rw [List.length_append, List.length_singleton]; omega
    · rw [wsOf_put]
      by_cases e : n = x
      · rw [if_pos e]
        refine ⟨_, rfl, ?_⟩
        split
        · next hm => exact hw x hm
        · exact ⟨Int.le_refl _, Int.pow_pos (by decide)⟩
      · rw [if_neg e]
        refine i3 n ?_
        rcases List.mem_append.mp hn with z | z
        · exact z
        · exact absurd (List.mem_singleton.mp z) e
end FR
namespace L2
open PySem PySem.Spec PyProof.Rows
section
variable {K : PySem.W.Frag} {te : TE} {ci : List Nat} {σ : St} {acc : Addr} {Q : Hp → Prop} {H1 : Hp} {a : Addr} {xs : List V}
end
theorem while_own {c : TT} {tb : TS} {D : Ends} {σ : St} {H : Hp} (Pv : St → Hp → Prop) (μ : St → Hp → Nat) (h0 : Pv σ H)
    (hs : ∀ σ H, Pv σ H → c σ H fun b H1 => if b = true then ∃ N : St → Hp → Prop, (∀ σ' H', N σ' H' → ∃ m', m' < μ σ H ∧ m' = μ σ' H' ∧ Pv σ' H') ∧ tb { D with nx := N, ct := N, bk := D.nx } σ H1 else D.nx σ H1) : tWhile c tb D σ H := by
  refine ⟨fun m σ H => m = μ σ H ∧ Pv σ H, ⟨_, rfl, h0⟩, ?_⟩
  rintro m σ H ⟨rfl, p⟩
  exact hs σ H p
noncomputable def SameB (p r : Addr) (H H' : Hp) : Prop := ∀ c o, H c = some o → c ≠ p → c ≠ r → H' c = some o
theorem SameB.refl {p r : Addr} {H : Hp} : SameB p r H H := fun _ _ e _ _ => e
theorem SameB.trans {p r : Addr} {H H1 H2 : Hp} (a : SameB p r H H1) (b : SameB p r H1 H2) : SameB p r H H2 := fun c o e n m => b c o (a c o e n m) n m
theorem SameB.of {p r : Addr} {H H' : Hp} (s : Same H H') : SameB p r H H' := fun c o e _ _ => s c o e
theorem SameB.upd1 {p r : Addr} {H : Hp} {o : HO} : SameB p r H (L2.upd H p o) := fun c u e n _ => by rw [upd_ne n]; exact e
theorem SameB.upd2 {p r : Addr} {H : Hp} {o : HO} : SameB p r H (L2.upd H r o) := fun c u e _ n => by rw [upd_ne n]; exact e
end L2
namespace FW
open PySem L2 FB FS FG FO FR PyProof.Rows
--BEGIN
--END
section
variable {K : PySem.W.Frag} {H : Hp}
end
end FW
namespace FX
open PySem L2 FB FS FG FO FR FW PyProof.Rows
structure Nd where
  rd : List Str
  nm : Option Str
  ah : List Int
section
variable {n : Str} {N : List Nd} {v : Nat → Nat → Nat}
end
section
variable {S : List (List Str)}
end
end FX
namespace FX
open PySem L2 FB FS FG FO FR FW PyProof.Rows PySem.Spec
end FX
namespace L2
open PySem PySem.Spec PyProof.Rows
section
variable {X : Cx}
end
end L2
namespace FZ
open PySem L2 FB FS FG FO FR PyProof.Rows
inductive Ed where
  | stop
  | go (i : Nat)
  | choose (n : Str) (i j : Nat)
  deriving DecidableEq
structure Blk where
  ds : List Deed
  ed : Ed
noncomputable def wayTo (b : Blk) (B : List Blk) : Nat × List Blk := match b.ds, b.ed with
  | [], .go i => (i, B)
  | _, _ => (B.length, B ++ [b])
mutual
noncomputable def withS : Stm → Blk → List Blk → Blk × List Blk
  | .deed d, b, B => if b.ds.length = 8 then (⟨[d], .go (wayTo b B).1⟩, (wayTo b B).2) else (⟨d :: b.ds, b.ed⟩, B)
  | .ifs n x y, b, B =>
    let w := wayTo b B
    let o := openL x ⟨[], .go w.1⟩ w.2
    let wo := wayTo o.1 o.2
    let p := openL y ⟨[], .go w.1⟩ wo.2
    let wp := wayTo p.1 p.2
    (⟨[], .choose n wo.1 wp.1⟩, wp.2)
  | .whl n a, b, B =>
    let w := wayTo b B
    let o := openL a ⟨[], .go w.2.length⟩ (w.2 ++ [⟨[], .stop⟩])
    let wo := wayTo o.1 o.2
    (⟨[], .go w.2.length⟩, wo.2.set w.2.length ⟨[], .choose n wo.1 w.1⟩)
noncomputable def openL : List Stm → Blk → List Blk → Blk × List Blk
  | [], b, B => (b, B)
  | s :: r, b, B => withS s (openL r b B).1 (openL r b B).2
end
noncomputable def blocksOf (ss : List Stm) : List Blk := (openL ss ⟨[], .stop⟩ [⟨[], .stop⟩]).2.set 0 (openL ss ⟨[], .stop⟩ [⟨[], .stop⟩]).1
noncomputable def Ed.tg : Ed → List Nat
  | .stop => []
  | .go i => [i]
  | .choose _ i j => [i, j]
theorem wayTo_or (b : Blk) (B : List Blk) : ((wayTo b B).2 = B ∧ b.ds = [] ∧ b.ed = .go (wayTo b B).1) ∨ ((wayTo b B).1 = B.length ∧ (wayTo b B).2 = B ++ [b]) := by
  obtain ⟨ds, ed⟩ := b
  unfold wayTo
  cases ds with
  | nil =>
    cases ed with
    | stop => exact .inr ⟨rfl, rfl⟩
    | go i => exact .inl ⟨rfl, rfl, rfl⟩
    | choose n i j => exact .inr ⟨rfl, rfl⟩
  | cons d r => exact .inr ⟨rfl, rfl⟩
theorem wayTo_get (b : Blk) (B : List Blk) : B.length ≤ (wayTo b B).2.length ∧ (wayTo b B).2.length ≤ B.length + 1 ∧ ∀ i, i < B.length → (wayTo b B).2[i]? = B[i]? := by
  rcases wayTo_or b B with ⟨h, _⟩ | ⟨_, h⟩
  · rw [h]; exact ⟨Nat.le_refl _, by omega, fun _ _ => rfl⟩
  · rw [h, List.length_append, List.length_singleton]
    exact ⟨by omega, by omega, fun i hi => List.getElem?_append_left hi⟩
theorem ext_trans {A B C : List Blk} (h1 : A.length ≤ B.length ∧ ∀ i, i < A.length → B[i]? = A[i]?) (h2 : B.length ≤ C.length ∧ ∀ i, i < B.length → C[i]? = B[i]?) : A.length ≤ C.length ∧ ∀ i, i < A.length → C[i]? = A[i]? := ⟨Nat.le_trans h1.1 h2.1, fun i hi => (h2.2 i (Nat.lt_of_lt_of_le hi h1.1)).trans (h1.2 i hi)⟩
theorem wayTo_ext (b : Blk) (B : List Blk) : B.length ≤ (wayTo b B).2.length ∧ ∀ i, i < B.length → (wayTo b B).2[i]? = B[i]? := ⟨(wayTo_get b B).1, (wayTo_get b B).2.2⟩
theorem app_ext (b : Blk) (B : List Blk) : B.length ≤ (B ++ [b]).length ∧ ∀ i, i < B.length → (B ++ [b])[i]? = B[i]? := ⟨by rw [List.length_append]; exact Nat.le_add_right _ _, fun _ hi => List.getElem?_append_left hi⟩
theorem set_ext {A B : List Blk} (b : Blk) (h : A.length ≤ B.length ∧ ∀ i, i < A.length → B[i]? = A[i]?) : A.length ≤ (B.set A.length b).length ∧ ∀ i, i < A.length → (B.set A.length b)[i]? = A[i]? := ⟨by rw [List.length_set]; exact h.1, fun i hi => (List.getElem?_set_ne (Nat.ne_of_gt hi)).trans (h.2 i hi)⟩
mutual
theorem withS_get : ∀ (s : Stm) (b : Blk) (B : List Blk), B.length ≤ (withS s b B).2.length ∧ ∀ i, i < B.length → (withS s b B).2[i]? = B[i]?
  | .deed d, b, B => by
    rw [withS]
    split
    · exact wayTo_ext b B
    · exact ⟨Nat.le_refl _, fun _ _ => rfl⟩
  | .ifs n x y, b, B => by
    rw [withS]
    exact ext_trans (wayTo_ext _ _) (ext_trans (openL_get x _ _) (ext_trans (wayTo_ext _ _) (ext_trans (openL_get y _ _) (wayTo_ext _ _))))
  | .whl n a, b, B => by
    rw [withS]
    exact ext_trans (wayTo_ext b B) (set_ext _ (ext_trans (app_ext _ _) (ext_trans (openL_get a _ _) (wayTo_ext _ _))))
theorem openL_get : ∀ (l : List Stm) (b : Blk) (B : List Blk), B.length ≤ (openL l b B).2.length ∧ ∀ i, i < B.length → (openL l b B).2[i]? = B[i]?
  | [], b, B => by rw [openL]; exact ⟨Nat.le_refl _, fun _ _ => rfl⟩
  | s :: r, b, B => by
    rw [openL]
    exact ext_trans (openL_get r b B) (withS_get s _ _)
end
mutual
theorem withS_len : ∀ (s : Stm) (b : Blk) (B : List Blk), (withS s b B).2.length ≤ B.length + 3 * s.many
  | .deed d, b, B => by
    have := (wayTo_get b B).2.1
    rw [withS, Stm.many]
    split <;> dsimp only <;> omega
  | .ifs n x y, b, B => by
    rw [withS, Stm.many]
    dsimp only
    have h1 := wayTo_get b B
    generalize wayTo b B = w at *
    have h2 := openL_len x ⟨[], .go w.1⟩ w.2
    generalize openL x ⟨[], .go w.1⟩ w.2 = o at *
    have h3 := wayTo_get o.1 o.2
    generalize wayTo o.1 o.2 = wo at *
    have h4 := openL_len y ⟨[], .go w.1⟩ wo.2
    generalize openL y ⟨[], .go w.1⟩ wo.2 = p at *
    have h5 := wayTo_get p.1 p.2
    generalize wayTo p.1 p.2 = wp at *
    omega
  | .whl n a, b, B => by
    rw [withS, Stm.many]
    dsimp only
    have h1 := wayTo_get b B
    generalize wayTo b B = w at *
    have h2 := openL_len a ⟨[], .go w.2.length⟩ (w.2 ++ [⟨[], .stop⟩])
    generalize openL a ⟨[], .go w.2.length⟩ (w.2 ++ [⟨[], .stop⟩]) = o at *
    have h3 := wayTo_get o.1 o.2
    generalize wayTo o.1 o.2 = wo at *
    rw [List.length_append, List.length_singleton] at h2
    rw [List.length_set]
    omega
theorem openL_len : ∀ (l : List Stm) (b : Blk) (B : List Blk), (openL l b B).2.length ≤ B.length + 3 * manyL l
  | [], b, B => by rw [openL, manyL]; exact Nat.le_add_right _ _
  | s :: r, b, B => by
    have h1 := openL_len r b B
    rw [openL, manyL]
    generalize openL r b B = o at *
    have h2 := withS_len s o.1 o.2
    omega
end
theorem blocksOf_len (ss : List Stm) : (blocksOf ss).length ≤ 3 * manyL ss + 1 ∧ 0 < (blocksOf ss).length := by
  have h1 := openL_len ss ⟨[], .stop⟩ [⟨[], .stop⟩]
  have h2 := (openL_get ss ⟨[], .stop⟩ [⟨[], .stop⟩]).1
  unfold blocksOf
  rw [List.length_set]
  simp only [List.length_singleton] at h1 h2
  omega
structure BlkG (ns : List Str) (w : Int) (m : Nat) (b : Blk) : Prop where
  gd : ∀ d ∈ b.ds, Deed.good ns w d
  len : b.ds.length ≤ 8
  tg : ∀ i ∈ b.ed.tg, i < m
  nm : ∀ n i j, b.ed = .choose n i j → n ∈ ns
theorem BlkG.mono {ns : List Str} {w : Int} {m m' : Nat} {b : Blk} (h : BlkG ns w m b) (hm : m ≤ m') : BlkG ns w m' b := ⟨h.gd, h.len, fun i hi => Nat.lt_of_lt_of_le (h.tg i hi) hm, h.nm⟩
noncomputable def AllG (ns : List Str) (w : Int) (m : Nat) (B : List Blk) : Prop := ∀ b ∈ B, BlkG ns w m b
theorem goG {ns : List Str} {w : Int} {m i : Nat} (h : i < m) : BlkG ns w m ⟨[], .go i⟩ := ⟨fun d hd => (List.not_mem_nil hd).elim, Nat.zero_le _, fun j hj => by rw [List.mem_singleton.mp hj]; exact h, fun n i j e => by cases e⟩
theorem stopG {ns : List Str} {w : Int} {m : Nat} : BlkG ns w m ⟨[], .stop⟩ := ⟨fun d hd => (List.not_mem_nil hd).elim, Nat.zero_le _, fun j hj => (List.not_mem_nil hj).elim, fun n i j e => by cases e⟩
theorem wayTo_G {ns : List Str} {w : Int} {b : Blk} {B : List Blk} (hb : BlkG ns w B.length b) (hB : AllG ns w B.length B) : (wayTo b B).1 < (wayTo b B).2.length ∧ AllG ns w (wayTo b B).2.length (wayTo b B).2 := by
  rcases wayTo_or b B with ⟨h1, h2, h3⟩ | ⟨h1, h2⟩
  · rw [h1]
    exact ⟨hb.tg _ (by rw [h3]; simp [Ed.tg]), hB⟩
  · rw [h1, h2, List.length_append, List.length_singleton]
    refine ⟨by omega, fun c hc => ?_⟩
    rcases List.mem_append.mp hc with z | z
    · exact (hB c z).mono (by omega)
    · rw [List.mem_singleton.mp z]; exact hb.mono (by omega)
mutual
theorem withS_G {ns : List Str} {w : Int} : ∀ (s : Stm) (b : Blk) (B : List Blk), s.good ns w → BlkG ns w B.length b → AllG ns w B.length B → BlkG ns w (withS s b B).2.length (withS s b B).1 ∧ AllG ns w (withS s b B).2.length (withS s b B).2
  | .deed d, b, B, hs, hb, hB => by
    rw [withS]
    split
    · obtain ⟨h1, h2⟩ := wayTo_G hb hB
      exact ⟨⟨fun c hc => by rw [List.mem_singleton.mp hc]; exact hs, by simp, fun i hi => by rw [List.mem_singleton.mp hi]; exact h1, fun n i j e => by cases e⟩, h2⟩
    · next hl =>
      have := hb.len
      exact ⟨⟨fun c hc => by
        rcases List.mem_cons.mp hc with z | z
        · rw [z]; exact hs
        · exact hb.gd c z, by rw [List.length_cons]; omega, hb.tg, hb.nm⟩, hB⟩
  | .ifs n x y, b, B, hs, hb, hB => by
    rw [withS]
    dsimp only
    obtain ⟨h1, h2⟩ := wayTo_G hb hB
    generalize wayTo b B = w0 at *
    obtain ⟨h3, h4⟩ := openL_G x ⟨[], .go w0.1⟩ w0.2 hs.2.1 (goG h1) h2
    have l3 := openL_get x ⟨[], .go w0.1⟩ w0.2
    generalize openL x ⟨[], .go w0.1⟩ w0.2 = o at *
    obtain ⟨h5, h6⟩ := wayTo_G h3 h4
    have l5 := wayTo_get o.1 o.2
    generalize wayTo o.1 o.2 = wo at *
    obtain ⟨h7, h8⟩ := openL_G y ⟨[], .go w0.1⟩ wo.2 hs.2.2 (goG (by omega)) h6
    have l7 := openL_get y ⟨[], .go w0.1⟩ wo.2
    generalize openL y ⟨[], .go w0.1⟩ wo.2 = p at *
    obtain ⟨h9, h10⟩ := wayTo_G h7 h8
    have l9 := wayTo_get p.1 p.2
    generalize wayTo p.1 p.2 = wp at *
    refine ⟨⟨fun d hd => (List.not_mem_nil hd).elim, Nat.zero_le _, fun i hi => ?_, fun m i j e => by cases e; exact hs.1⟩, h10⟩
    have hi' : i ∈ [wo.1, wp.1] := hi
    rcases List.mem_cons.mp hi' with z | z
    · omega
    · rw [List.mem_singleton.mp z]; exact h9
  | .whl n a, b, B, hs, hb, hB => by
    rw [withS]
    dsimp only
    obtain ⟨h1, h2⟩ := wayTo_G hb hB
    generalize wayTo b B = w0 at *
    have hB2 : AllG ns w (w0.2 ++ [(⟨[], .stop⟩ : Blk)]).length (w0.2 ++ [(⟨[], .stop⟩ : Blk)]) := fun c hc => by
      rw [List.length_append, List.length_singleton]
      rcases List.mem_append.mp hc with z | z
      · exact (h2 c z).mono (by omega)
      · rw [List.mem_singleton.mp z]; exact stopG
    obtain ⟨h3, h4⟩ := openL_G a ⟨[], .go w0.2.length⟩ (w0.2 ++ [⟨[], .stop⟩]) hs.2 (goG (by rw [List.length_append, List.length_singleton]; omega)) hB2
    have l3 := openL_get a ⟨[], .go w0.2.length⟩ (w0.2 ++ [⟨[], .stop⟩])
    generalize openL a ⟨[], .go w0.2.length⟩ (w0.2 ++ [⟨[], .stop⟩]) = o at *
    rw [List.length_append, List.length_singleton] at l3
    obtain ⟨h5, h6⟩ := wayTo_G h3 h4
    have l5 := wayTo_get o.1 o.2
    generalize wayTo o.1 o.2 = wo at *
    rw [List.length_set]
    refine ⟨goG (by omega), fun c hc => ?_⟩
    rcases List.mem_or_eq_of_mem_set hc with z | z
    · exact h6 c z
    · rw [z]
      refine ⟨fun d hd => (List.not_mem_nil hd).elim, Nat.zero_le _, fun i hi => ?_, fun m i j e => by cases e; exact hs.1⟩
      have hi' : i ∈ [wo.1, w0.1] := hi
      rcases List.mem_cons.mp hi' with y | y
      · rw [y]; exact h5
      · rw [List.mem_singleton.mp y]; omega
theorem openL_G {ns : List Str} {w : Int} : ∀ (l : List Stm) (b : Blk) (B : List Blk), goodL ns w l → BlkG ns w B.length b → AllG ns w B.length B → BlkG ns w (openL l b B).2.length (openL l b B).1 ∧ AllG ns w (openL l b B).2.length (openL l b B).2
  | [], b, B, _, hb, hB => by rw [openL]; exact ⟨hb, hB⟩
  | s :: r, b, B, hl, hb, hB => by
    obtain ⟨h1, h2⟩ := openL_G r b B hl.2 hb hB
    rw [openL]
    exact withS_G s _ _ hl.1 h1 h2
end
theorem blocksOf_G {ns : List Str} {w : Int} {ss : List Stm} (h : goodL ns w ss) : AllG ns w (blocksOf ss).length (blocksOf ss) := by
  obtain ⟨h1, h2⟩ := openL_G ss ⟨[], .stop⟩ [⟨[], .stop⟩] h stopG (fun c hc => by rw [List.mem_singleton.mp hc]; exact stopG)
  unfold blocksOf
  rw [List.length_set]
  intro c hc
  rcases List.mem_or_eq_of_mem_set hc with z | z
  · exact h2 c z
  · rw [z]; exact h1
noncomputable def Has (F B : List Blk) (k : Nat) : Prop := ∀ i, k ≤ i → i < B.length → F[i]? = B[i]?
theorem Has.sub {F B B' : List Blk} {k k' : Nat} (h : Has F B' k) (hk : k ≤ k') (hl : B.length ≤ B'.length) (he : ∀ i, k' ≤ i → i < B.length → B'[i]? = B[i]?) : Has F B k' := fun i h1 h2 => by
  rw [h i (by omega) (by omega), he i h1 h2]
end FZ
namespace GA
open PySem L2 FB FS FG FO FR FZ PyProof.Rows
noncomputable def runL (w : Int) : Nat → Stt → Int × Stt
  | n, ⟨[], b, t⟩ => (n, ⟨[], b, t⟩)
  | 0, s => (-1, s)
  | n + 1, s => runL w n (stepS w s)
theorem runL_nil {w : Int} {n : Nat} {b : Bx} {t : List Int} : runL w n ⟨[], b, t⟩ = ((n : Int), (⟨[], b, t⟩ : Stt)) := by cases n <;> rfl
theorem runL_zero {w : Int} {x : Stm} {l : List Stm} {b : Bx} {t : List Int} : runL w 0 ⟨x :: l, b, t⟩ = (-1, ⟨x :: l, b, t⟩) := rfl
theorem runL_succ {w : Int} {n : Nat} {x : Stm} {l : List Stm} {b : Bx} {t : List Int} : runL w (n + 1) ⟨x :: l, b, t⟩ = runL w n (stepS w ⟨x :: l, b, t⟩) := rfl
theorem runL_le {w : Int} : ∀ {n : Nat} {s : Stt}, (runL w n s).1 ≤ n ∧ -1 ≤ (runL w n s).1
  | n, ⟨[], b, t⟩ => by rw [runL_nil]; exact ⟨Int.le_refl _, by dsimp only; omega⟩
  | 0, ⟨x :: l, b, t⟩ => by rw [runL_zero]; exact ⟨show (-1 : Int) ≤ ((0 : Nat) : Int) by decide, Int.le_refl _⟩
  | n + 1, ⟨x :: l, b, t⟩ => by
    rw [runL_succ]
    have := runL_le (w := w) (n := n) (s := stepS w ⟨x :: l, b, t⟩)
    omega
theorem runS_first {w : Int} : ∀ (n : Nat) (s : Stt), runS w (n + 1) s = runS w n (stepS w s)
  | 0, s => rfl
  | n + 1, s => by
    have h := runS_first (w := w) n s
    show stepS w (runS w (n + 1) s) = stepS w (runS w n (stepS w s))
    rw [h]
theorem runL_runS {w : Int} : ∀ {n : Nat} {s : Stt}, (runL w n s).2 = runS w n s ∧ (0 ≤ (runL w n s).1 ↔ (runS w n s).left = [])
  | n, ⟨[], b, t⟩ => by
    rw [runL_nil]
    have h := runS_over (w := w) (s := ⟨[], b, t⟩) (n := 0) rfl n
    rw [Nat.zero_add] at h
    rw [h]
    exact ⟨rfl, fun _ => rfl, fun _ => by dsimp only; omega⟩
  | 0, ⟨x :: l, b, t⟩ => by
    rw [runL_zero]
    exact ⟨rfl, fun h => absurd h (show ¬ (0 : Int) ≤ -1 by decide), fun h => by cases h⟩
  | n + 1, ⟨x :: l, b, t⟩ => by
    rw [runL_succ, runS_first]
    exact runL_runS
theorem stepS_app {w : Int} {x : Stm} {l r : List Stm} {b : Bx} {t : List Int} : stepS w ⟨x :: l ++ r, b, t⟩ = ⟨(stepS w ⟨x :: l, b, t⟩).left ++ r, (stepS w ⟨x :: l, b, t⟩).bx, (stepS w ⟨x :: l, b, t⟩).told⟩ := by
  cases x with
  | deed d => rfl
  | ifs n p q => show Stt.mk ((if bxGet b n ≠ 0 then p else q) ++ (l ++ r)) b t = ⟨(if bxGet b n ≠ 0 then p else q) ++ l ++ r, b, t⟩; rw [← List.append_assoc]
  | whl n p =>
    show Stt.mk (if bxGet b n ≠ 0 then p ++ .whl n p :: (l ++ r) else l ++ r) b t = ⟨(if bxGet b n ≠ 0 then p ++ .whl n p :: l else l) ++ r, b, t⟩
    by_cases h : bxGet b n ≠ 0
    · rw [if_pos h, if_pos h, List.append_assoc]; rfl
    · rw [if_neg h, if_neg h]
theorem runL_app {w : Int} {r : List Stm} : ∀ {n : Nat} {l : List Stm} {b : Bx} {t : List Int},
    (∃ m : Nat, (runL w n ⟨l, b, t⟩).1 = m ∧ runL w n ⟨l ++ r, b, t⟩ = runL w m ⟨r, (runL w n ⟨l, b, t⟩).2.bx, (runL w n ⟨l, b, t⟩).2.told⟩) ∨
    ((runL w n ⟨l, b, t⟩).1 = -1 ∧ runL w n ⟨l ++ r, b, t⟩ = (-1, ⟨(runL w n ⟨l, b, t⟩).2.left ++ r, (runL w n ⟨l, b, t⟩).2.bx, (runL w n ⟨l, b, t⟩).2.told⟩))
  | n, [], b, t => by
    rw [runL_nil]
    exact .inl ⟨n, rfl, rfl⟩
  | 0, x :: l, b, t => .inr ⟨rfl, rfl⟩
  | n + 1, x :: l, b, t => by
    rw [runL_succ, List.cons_append, runL_succ, ← List.cons_append, stepS_app]
    exact runL_app (n := n) (l := (stepS w ⟨x :: l, b, t⟩).left)
structure GSt (ns : List Str) (w : Int) (s : Stt) : Prop where
  bx : BxG ns w s.bx
  gd : goodL ns w s.left
theorem GSt.step {ns : List Str} {w : Int} {s : Stt} (h : GSt ns w s) (hw : 1 ≤ w) : GSt ns w (stepS w s) := by
  obtain ⟨l, b, t⟩ := s
  obtain ⟨h1, h2⟩ := h
  cases l with
  | nil => exact ⟨h1, h2⟩
  | cons x r =>
    obtain ⟨gx, gr⟩ : x.good ns w ∧ goodL ns w r := h2
    cases x with
    | deed d => exact ⟨h1.doB gx hw, gr⟩
    | ifs n p q =>
      obtain ⟨_, gp, gq⟩ : n ∈ ns ∧ goodL ns w p ∧ goodL ns w q := gx
      refine ⟨h1, ?_⟩
      show goodL ns w ((if bxGet b n ≠ 0 then p else q) ++ r)
      refine goodL_append.mpr ⟨?_, gr⟩
      split
      · exact gp
      · exact gq
    | whl n p =>
      obtain ⟨gn, gp⟩ : n ∈ ns ∧ goodL ns w p := gx
      refine ⟨h1, ?_⟩
      show goodL ns w (if bxGet b n ≠ 0 then p ++ .whl n p :: r else r)
      split
      · exact goodL_append.mpr ⟨gp, ⟨gn, gp⟩, gr⟩
      · exact gr
theorem doT_len {w : Int} {d : Deed} {b : Bx} {t : List Int} : (doT w d b t).length ≤ t.length + 1 := by
  unfold doT
  cases d with
  | tell a => simp
  | copy n a => simp
  | op f n x y => simp
theorem stepS_told {w : Int} {s : Stt} : (stepS w s).told.length ≤ s.told.length + 1 := by
  obtain ⟨l, b, t⟩ := s
  cases l with
  | nil => exact Nat.le_succ _
  | cons x r =>
    cases x with
    | deed d => exact doT_len
    | ifs n p q => exact Nat.le_succ _
    | whl n p => exact Nat.le_succ _
theorem GSt.runL {ns : List Str} {w : Int} (hw : 1 ≤ w) : ∀ {n : Nat} {s : Stt}, GSt ns w s → GSt ns w (runL w n s).2 ∧ (runL w n s).2.told.length ≤ s.told.length + n
  | n, ⟨[], b, t⟩, h => by rw [runL_nil]; exact ⟨h, Nat.le_add_right _ _⟩
  | 0, ⟨x :: l, b, t⟩, h => ⟨h, Nat.le_refl _⟩
  | n + 1, ⟨x :: l, b, t⟩, h => by
    rw [runL_succ]
    obtain ⟨h1, h2⟩ := GSt.runL hw (n := n) (h.step hw)
    have := stepS_told (w := w) (s := ⟨x :: l, b, t⟩)
    exact ⟨h1, by omega⟩
theorem runL_told {w : Int} : ∀ {n : Nat} {s : Stt} {k : Nat}, (runL w n s).1 = k → (runL w n s).2.told.length + k ≤ s.told.length + n
  | n, ⟨[], b, t⟩, k, h => by
    rw [runL_nil] at h ⊢
    dsimp only at h ⊢
    omega
  | 0, ⟨x :: l, b, t⟩, k, h => by
    rw [runL_zero] at h
    dsimp only at h
    omega
  | n + 1, ⟨x :: l, b, t⟩, k, h => by
    rw [runL_succ] at h ⊢
    have h1 := runL_told h
    have := stepS_told (w := w) (s := ⟨x :: l, b, t⟩)
    dsimp only at this ⊢
    omega
noncomputable abbrev BT := Bx × List Int
noncomputable def dos (w : Int) : List Deed → BT → BT
  | [], s => s
  | d :: r, s => dos w r (doB w d s.1, doT w d s.1 s.2)
noncomputable def nxt (b : Bx) : Ed → Option Nat
  | .stop => none
  | .go i => some i
  | .choose n i j => some (if bxGet b n ≠ 0 then i else j)
noncomputable def bRun (F : List Blk) (w : Int) : Nat → Nat → BT → BT × Bool
  | 0, _, s => (s, false)
  | m + 1, i, s => match F[i]? with
    | none => (s, false)
    | some b => match nxt (dos w b.ds s).1 b.ed with
      | none => (dos w b.ds s, true)
      | some j => bRun F w m j (dos w b.ds s)
noncomputable def bR (F : List Blk) (w : Int) (m : Nat) (b : Blk) (s : BT) : BT × Bool := match nxt (dos w b.ds s).1 b.ed with
  | none => (dos w b.ds s, true)
  | some j => bRun F w m j (dos w b.ds s)
theorem bRun_succ {F : List Blk} {w : Int} {m i : Nat} {s : BT} {b : Blk} (h : F[i]? = some b) : bRun F w (m + 1) i s = bR F w m b s := by
  rw [bRun, h]; rfl
theorem dos_told {w : Int} : ∀ {ds : List Deed} {s : BT}, s.2 <+: (dos w ds s).2
  | [], s => List.prefix_refl _
  | d :: r, s => by
    have h : s.2 <+: doT w d s.1 s.2 := by
      unfold doT
      cases d with
      | tell a => exact List.prefix_append _ _
      | copy n a => exact List.prefix_refl _
      | op f n x y => exact List.prefix_refl _
    exact h.trans (dos_told (ds := r) (s := (doB w d s.1, doT w d s.1 s.2)))
theorem bRun_told {F : List Blk} {w : Int} : ∀ {m i : Nat} {s : BT}, s.2 <+: (bRun F w m i s).1.2
  | 0, i, s => List.prefix_refl _
  | m + 1, i, s => by
    rw [bRun]
    split
    · exact List.prefix_refl _
    · split
      · exact dos_told
      · exact (dos_told).trans bRun_told
theorem bR_told {F : List Blk} {w : Int} {m : Nat} {b : Blk} {s : BT} : s.2 <+: (bR F w m b s).1.2 := by
  unfold bR
  split
  · exact dos_told
  · exact (dos_told).trans bRun_told
theorem dos_len {w : Int} : ∀ {ds : List Deed} {s : BT}, (dos w ds s).2.length ≤ s.2.length + ds.length
  | [], s => Nat.le_refl _
  | d :: r, s => by
    have h1 := dos_len (w := w) (ds := r) (s := (doB w d s.1, doT w d s.1 s.2))
    have h2 := doT_len (w := w) (d := d) (b := s.1) (t := s.2)
    rw [List.length_cons, dos]
    dsimp only at h1
    omega
theorem dos_take {w : Int} {ds : List Deed} {s : BT} {i : Nat} {d : Deed} (h : ds[i]? = some d) : dos w (ds.take (i + 1)) s = (doB w d (dos w (ds.take i) s).1, doT w d (dos w (ds.take i) s).1 (dos w (ds.take i) s).2) := by
  obtain ⟨hi, e⟩ := List.getElem?_eq_some_iff.mp h
  have app : ∀ (l m : List Deed) (s : BT), dos w (l ++ m) s = dos w m (dos w l s) := by
    intro l
    induction l with
    | nil => intro m s; rfl
    | cons x r ih => intro m s; exact ih m _
  rw [List.take_succ_eq_append_getElem hi, e, app]
  rfl
noncomputable def Way (F : List Blk) (b : Blk) (i : Nat) : Prop := b = ⟨[], .go i⟩ ∨ (F[i]? = some b ∧ ¬ ∃ j, b = ⟨[], .go j⟩)
mutual
inductive CompS (F : List Blk) : Stm → Blk → Blk → Prop where
  | add {d : Deed} {b : Blk} : CompS F (.deed d) b ⟨d :: b.ds, b.ed⟩
  | cut {d : Deed} {b : Blk} {i : Nat} : Way F b i → CompS F (.deed d) b ⟨[d], .go i⟩
  | ifs {n : Str} {x y : List Stm} {b c e : Blk} {i j k : Nat} : Way F b i → Comp F x ⟨[], .go i⟩ c → Way F c j → Comp F y ⟨[], .go i⟩ e → Way F e k → CompS F (.ifs n x y) b ⟨[], .choose n j k⟩
  | whl {n : Str} {a : List Stm} {b c : Blk} {i j L : Nat} : Way F b i → F[L]? = some ⟨[], .choose n j i⟩ → Comp F a ⟨[], .go L⟩ c → Way F c j → CompS F (.whl n a) b ⟨[], .go L⟩
inductive Comp (F : List Blk) : List Stm → Blk → Blk → Prop where
  | nil {b : Blk} : Comp F [] b b
  | cons {s : Stm} {r : List Stm} {b c e : Blk} : Comp F r b c → CompS F s c e → Comp F (s :: r) b e
end
inductive Rep (F : List Blk) : List Stm → Blk → Prop where
  | nil : Rep F [] ⟨[], .stop⟩
  | go {l : List Stm} {b : Blk} {i : Nat} : Rep F l b → F[i]? = some b → (¬ ∃ j, b = ⟨[], .go j⟩) → Rep F l ⟨[], .go i⟩
  | cons {s : Stm} {l : List Stm} {b c : Blk} : CompS F s b c → Rep F l b → Rep F (s :: l) c
  | head {n : Str} {a l : List Stm} {b c : Blk} {i j L : Nat} : Way F b i → Rep F l b → F[L]? = some ⟨[], .choose n j i⟩ → Comp F a ⟨[], .go L⟩ c → Way F c j → Rep F (.whl n a :: l) ⟨[], .choose n j i⟩
theorem Rep.app {F : List Blk} : ∀ {l r : List Stm} {b c : Blk}, Comp F l b c → Rep F r b → Rep F (l ++ r) c
  | _, _, _, _, .nil, h => h
  | _, _, _, _, .cons hr hs, h => .cons hs (Rep.app hr h)
theorem Rep.way {F : List Blk} {l : List Stm} {b : Blk} {i : Nat} (h : Rep F l b) (hw : Way F b i) : Rep F l ⟨[], .go i⟩ := by
  rcases hw with rfl | ⟨h1, h2⟩
  · exact h
  · exact .go h h1 h2
theorem Rep.hop {F : List Blk} {l : List Stm} {i : Nat} {b0 : Blk} (h : Rep F l b0) (e0 : b0 = ⟨[], .go i⟩) : ∃ b, F[i]? = some b ∧ Rep F l b ∧ ¬ ∃ j, b = ⟨[], .go j⟩ := by
  cases h with
  | nil => cases e0
  | go h1 h2 h3 => cases e0; exact ⟨_, h2, h1, h3⟩
  | head => cases e0
  | cons hs h1 =>
    cases hs with
    | add => cases e0
    | cut => cases e0
    | ifs => cases e0
    | whl w0 hL ha hw =>
      cases e0
      exact ⟨_, hL, .head w0 h1 hL ha hw, fun ⟨j, e⟩ => by cases e⟩
theorem Rep.stepN {F : List Blk} {w : Int} {s : Stm} {l : List Stm} {c : Blk} {b : Bx} {t : List Int} (h : Rep F (s :: l) c) (hn : ¬ ∃ j, c = ⟨[], .go j⟩) :
    ∃ k, k ≤ 1 ∧ ∃ c', Rep F (stepS w ⟨s :: l, b, t⟩).left c' ∧ ∀ m, bR F w (m + k) c (b, t) = bR F w m c' ((stepS w ⟨s :: l, b, t⟩).bx, (stepS w ⟨s :: l, b, t⟩).told) := by
  have jump : ∀ {l' : List Stm} {n : Str} {i j : Nat}, Rep F l' ⟨[], .go (if bxGet b n ≠ 0 then i else j)⟩ → ∃ k, k ≤ 1 ∧ ∃ c', Rep F l' c' ∧ ∀ m, bR F w (m + k) ⟨[], .choose n i j⟩ (b, t) = bR F w m c' (b, t) := by
    intro l' n i j hr
    obtain ⟨c', h1, h2, _⟩ := hr.hop rfl
    refine ⟨1, Nat.le_refl _, c', h2, fun m => ?_⟩
    show bRun F w (m + 1) (if bxGet b n ≠ 0 then i else j) (b, t) = _
    exact bRun_succ h1
  have loop : ∀ {n : Str} {a : List Stm} {c0 c1 : Blk} {i j L : Nat}, Way F c0 i → Rep F l c0 → F[L]? = some ⟨[], .choose n j i⟩ → Comp F a ⟨[], .go L⟩ c1 → Way F c1 j → Rep F (if bxGet b n ≠ 0 then a ++ .whl n a :: l else l) ⟨[], .go (if bxGet b n ≠ 0 then j else i)⟩ := by
    intro n a c0 c1 i j L h1 h2 h3 h4 h5
    by_cases e : bxGet b n ≠ 0
    · rw [if_pos e, if_pos e]
      exact (Rep.app h4 (.cons (.whl h1 h3 h4 h5) h2)).way h5
    · rw [if_neg e, if_neg e]
      exact h2.way h1
  cases h with
  | go h1 h2 h3 => exact absurd ⟨_, rfl⟩ hn
  | head w0 h1 hL ha hw => exact jump (loop w0 h1 hL ha hw)
  | cons hs h1 =>
    cases hs with
    | add => exact ⟨0, by decide, _, h1, fun m => rfl⟩
    | cut hw => exact ⟨0, by decide, _, h1.way hw, fun m => rfl⟩
    | whl w0 hL ha hw => exact absurd ⟨_, rfl⟩ hn
    | @ifs n x y b1 c1 e1 i j k w0 hx wx hy wy =>
      refine jump ?_
      show Rep F ((if bxGet b n ≠ 0 then x else y) ++ l) _
      by_cases e : bxGet b n ≠ 0
      · rw [if_pos e, if_pos e]
        exact (Rep.app hx (h1.way w0)).way wx
      · rw [if_neg e, if_neg e]
        exact (Rep.app hy (h1.way w0)).way wy
theorem hop_run {F : List Blk} {w : Int} {m i : Nat} {c : Blk} {s : BT} (h : F[i]? = some c) : bR F w (m + 1) ⟨[], .go i⟩ s = bR F w m c s := bRun_succ h
theorem Rep.step {F : List Blk} {w : Int} {st : Stt} {c : Blk} (h : Rep F st.left c) :
    ∃ k, k ≤ 2 ∧ ∃ c', Rep F (stepS w st).left c' ∧ ∀ m, bR F w (m + k) c (st.bx, st.told) = bR F w m c' ((stepS w st).bx, (stepS w st).told) := by
  obtain ⟨l, b, t⟩ := st
  cases l with
  | nil => exact ⟨0, by decide, c, h, fun m => rfl⟩
  | cons s l =>
    by_cases hn : ∃ j, c = ⟨[], .go j⟩
    · obtain ⟨i, rfl⟩ := hn
      obtain ⟨c1, h1, h2, h3⟩ := h.hop rfl
      obtain ⟨k, hk, c', h4, h5⟩ := h2.stepN (w := w) (b := b) (t := t) h3
      exact ⟨k + 1, by omega, c', h4, fun m => by rw [← Nat.add_assoc, hop_run h1]; exact h5 m⟩
    · obtain ⟨k, hk, c', h4, h5⟩ := Rep.stepN (w := w) (b := b) (t := t) h hn
      exact ⟨k, by omega, c', h4, h5⟩
theorem Rep.run {F : List Blk} {w : Int} {st : Stt} {c : Blk} (h : Rep F st.left c) : ∀ n : Nat, ∃ k, k ≤ 2 * n ∧ ∃ c', Rep F (runS w n st).left c' ∧ ∀ m, bR F w (m + k) c (st.bx, st.told) = bR F w m c' ((runS w n st).bx, (runS w n st).told)
  | 0 => ⟨0, by decide, c, h, fun m => rfl⟩
  | n + 1 => by
    obtain ⟨k, hk, c', h1, h2⟩ := Rep.run h n
    obtain ⟨k2, hk2, c2, h3, h4⟩ := h1.step (w := w)
    exact ⟨k2 + k, by omega, c2, h3, fun m => by rw [← Nat.add_assoc, h2 (m + k2)]; exact h4 m⟩
theorem Rep.stop {F : List Blk} {w : Int} {l : List Stm} {c : Blk} {s : BT} (h : Rep F l c) (hl : l = []) : ∃ k, k ≤ 1 ∧ ∀ m, bR F w (m + k) c s = (s, true) := by
  cases h with
  | nil => exact ⟨0, by decide, fun m => rfl⟩
  | head => cases hl
  | cons => cases hl
  | go h1 h2 h3 =>
    subst hl
    refine ⟨1, by decide, fun m => ?_⟩
    rw [hop_run h2]
    cases h1 with
    | nil => rfl
    | go => exact absurd ⟨_, rfl⟩ h3
theorem wayTo_W {F : List Blk} {b : Blk} {B : List Blk} (h : Has F (wayTo b B).2 B.length) : Way F b (wayTo b B).1 := by
  by_cases e : ∃ j, b = ⟨[], .go j⟩
  · obtain ⟨j, rfl⟩ := e
    exact .inl rfl
  · rcases wayTo_or b B with ⟨h1, h2, h3⟩ | ⟨h1, h2⟩
    · exact absurd ⟨(wayTo b B).1, by rw [← h3, ← h2]⟩ e
    · refine .inr ⟨?_, e⟩
      rw [h1, h B.length (Nat.le_refl _) (by rw [h2, List.length_append, List.length_singleton]; omega), h2, List.getElem?_append_right (Nat.le_refl _), Nat.sub_self]; rfl
mutual
theorem withS_C {F : List Blk} : ∀ (s : Stm) (b : Blk) (B : List Blk), Has F (withS s b B).2 B.length → CompS F s b (withS s b B).1
  | .deed d, b, B, h => by
    rw [withS] at h ⊢
    split at h
    · next hl =>
      rw [if_pos hl]
      exact .cut (wayTo_W h)
    · next hl =>
      rw [if_neg hl]
      exact .add
  | .ifs n x y, b, B, h => by
    rw [withS] at h ⊢
    dsimp only at h ⊢
    have g1 := wayTo_get b B
    have r1 := fun h => wayTo_W (F := F) (b := b) (B := B) h
    generalize wayTo b B = w at *
    have g2 := openL_get x ⟨[], .go w.1⟩ w.2
    have r2 := fun h => openL_C (F := F) x ⟨[], .go w.1⟩ w.2 h
    generalize openL x ⟨[], .go w.1⟩ w.2 = o at *
    have g3 := wayTo_get o.1 o.2
    have r3 := fun h => wayTo_W (F := F) (b := o.1) (B := o.2) h
    generalize wayTo o.1 o.2 = wo at *
    have g4 := openL_get y ⟨[], .go w.1⟩ wo.2
    have r4 := fun h => openL_C (F := F) y ⟨[], .go w.1⟩ wo.2 h
    generalize openL y ⟨[], .go w.1⟩ wo.2 = p at *
    have g5 := wayTo_get p.1 p.2
    have r5 := fun h => wayTo_W (F := F) (b := p.1) (B := p.2) h
    generalize wayTo p.1 p.2 = wp at *
    have a12 := Nat.le_trans g1.1 g2.1
    have a13 := Nat.le_trans a12 g3.1
    have a14 := Nat.le_trans a13 g4.1
    have b4 := g5.1
    have b3 := Nat.le_trans g4.1 b4
    have b2 := Nat.le_trans g3.1 b3
    have b1 := Nat.le_trans g2.1 b2
    have u3 : ∀ i, i < wo.2.length → wp.2[i]? = wo.2[i]? := fun i h2 => (g5.2.2 i (Nat.lt_of_lt_of_le h2 g4.1)).trans (g4.2 i h2)
    have u2 : ∀ i, i < o.2.length → wp.2[i]? = o.2[i]? := fun i h2 => (u3 i (Nat.lt_of_lt_of_le h2 g3.1)).trans (g3.2.2 i h2)
    have u1 : ∀ i, i < w.2.length → wp.2[i]? = w.2[i]? := fun i h2 => (u2 i (Nat.lt_of_lt_of_le h2 g2.1)).trans (g2.2 i h2)
    have e5 : Has F wp.2 p.2.length := h.sub a14 (Nat.le_refl _) fun _ _ _ => rfl
    have e4 : Has F p.2 wo.2.length := h.sub a13 b4 fun i _ h2 => g5.2.2 i h2
    have e3 : Has F wo.2 o.2.length := h.sub a12 b3 fun i _ h2 => u3 i h2
    have e2 : Has F o.2 w.2.length := h.sub g1.1 b2 fun i _ h2 => u2 i h2
    have e1 : Has F w.2 B.length := h.sub (Nat.le_refl _) b1 fun i _ h2 => u1 i h2
    exact .ifs (r1 e1) (r2 e2) (r3 e3) (r4 e4) (r5 e5)
  | .whl n a, b, B, h => by
    rw [withS] at h ⊢
    dsimp only at h ⊢
    have g1 := wayTo_get b B
    have r1 := fun h => wayTo_W (F := F) (b := b) (B := B) h
    generalize wayTo b B = w at *
    have g2 := openL_get a ⟨[], .go w.2.length⟩ (w.2 ++ [⟨[], .stop⟩])
    have r2 := fun h => openL_C (F := F) a ⟨[], .go w.2.length⟩ (w.2 ++ [⟨[], .stop⟩]) h
    generalize openL a ⟨[], .go w.2.length⟩ (w.2 ++ [⟨[], .stop⟩]) = o at *
    rw [List.length_append, List.length_singleton] at g2 r2
    have g3 := wayTo_get o.1 o.2
    have r3 := fun h => wayTo_W (F := F) (b := o.1) (B := o.2) h
    generalize wayTo o.1 o.2 = wo at *
    have lset : (wo.2.set w.2.length (⟨[], .choose n wo.1 w.1⟩ : Blk)).length = wo.2.length := List.length_set ..
    have c1 : w.2.length < o.2.length := g2.1
    have c2 : w.2.length < wo.2.length := Nat.lt_of_lt_of_le c1 g3.1
    have le2 := Nat.le_of_lt c2
    have nes : ∀ i, w.2.length < i → (wo.2.set w.2.length (⟨[], .choose n wo.1 w.1⟩ : Blk))[i]? = wo.2[i]? := fun i hi => List.getElem?_set_ne (Nat.ne_of_lt hi)
    have nel : ∀ i, i < w.2.length → (wo.2.set w.2.length (⟨[], .choose n wo.1 w.1⟩ : Blk))[i]? = wo.2[i]? := fun i hi => List.getElem?_set_ne (Nat.ne_of_gt hi)
    have e3 : Has F wo.2 o.2.length := h.sub (Nat.le_trans g1.1 (Nat.le_of_lt c1)) (Nat.le_of_eq lset.symm) fun i h1 h2 => nes i (Nat.lt_of_lt_of_le c1 h1)
    have e2 : Has F o.2 (w.2.length + 1) := h.sub (Nat.le_succ_of_le g1.1) (Nat.le_trans g3.1 (Nat.le_of_eq lset.symm)) fun i h1 h2 => (nes i h1).trans (g3.2.2 i h2)
    have e1 : Has F w.2 B.length := h.sub (Nat.le_refl _) (Nat.le_trans le2 (Nat.le_of_eq lset.symm)) fun i h1 h2 => by rw [nel i h2, g3.2.2 i (Nat.lt_trans h2 c1), g2.2 i (Nat.lt_succ_of_lt h2), List.getElem?_append_left h2]
    have el : F[w.2.length]? = some ⟨[], .choose n wo.1 w.1⟩ := by
      rw [h w.2.length g1.1 (Nat.lt_of_lt_of_le c2 (Nat.le_of_eq lset.symm)), List.getElem?_set_self c2]
    exact .whl (r1 e1) el (r2 e2) (r3 e3)
theorem openL_C {F : List Blk} : ∀ (l : List Stm) (b : Blk) (B : List Blk), Has F (openL l b B).2 B.length → Comp F l b (openL l b B).1
  | [], b, B, _ => by rw [openL]; exact .nil
  | s :: r, b, B, h => by
    rw [openL] at h ⊢
    have g1 := openL_get r b B
    have r1 := fun h => openL_C (F := F) r b B h
    generalize openL r b B = o at *
    have g2 := withS_get s o.1 o.2
    have r2 := fun h => withS_C (F := F) s o.1 o.2 h
    generalize withS s o.1 o.2 = p at *
    exact .cons (r1 (h.sub (Nat.le_refl _) g2.1 fun i _ h2 => g2.2 i h2)) (r2 (h.sub g1.1 (Nat.le_refl _) fun _ _ _ => rfl))
end
theorem blocksOf_rep (ss : List Stm) : ∃ c, (blocksOf ss)[0]? = some c ∧ Rep (blocksOf ss) ss c := by
  have g := openL_get ss ⟨[], .stop⟩ [⟨[], .stop⟩]
  have r := fun h => openL_C (F := blocksOf ss) ss ⟨[], .stop⟩ [⟨[], .stop⟩] h
  have e0 : blocksOf ss = (openL ss ⟨[], .stop⟩ [⟨[], .stop⟩]).2.set 0 (openL ss ⟨[], .stop⟩ [⟨[], .stop⟩]).1 := rfl
  generalize openL ss ⟨[], .stop⟩ [⟨[], .stop⟩] = o at *
  rw [List.length_singleton] at g r
  refine ⟨o.1, by rw [e0, List.getElem?_set_self (by omega)], ?_⟩
  have h := Rep.app (r fun j h1 h2 => by rw [e0, List.getElem?_set_ne (by omega)]) (.nil (F := blocksOf ss))
  rwa [List.append_nil] at h
theorem blocks_run (ss : List Stm) (w : Int) (b : Bx) (t : List Int) (n : Nat) : ∃ k, k ≤ 2 * n + 1 ∧ ∃ c', Rep (blocksOf ss) (runS w n ⟨ss, b, t⟩).left c' ∧ ∀ m, bRun (blocksOf ss) w (m + k) 0 (b, t) = bR (blocksOf ss) w m c' ((runS w n ⟨ss, b, t⟩).bx, (runS w n ⟨ss, b, t⟩).told) := by
  obtain ⟨c, h1, h2⟩ := blocksOf_rep ss
  obtain ⟨k, hk, c', h3, h4⟩ := Rep.run (w := w) (st := ⟨ss, b, t⟩) h2 n
  exact ⟨k + 1, by omega, c', h3, fun m => by rw [← Nat.add_assoc, bRun_succ h1]; exact h4 m⟩
theorem blocks_end {ss : List Stm} {w : Int} {b : Bx} {t : List Int} {n m : Nat} (h : (runS w n ⟨ss, b, t⟩).left = []) (hm : 2 * n + 2 ≤ m) : bRun (blocksOf ss) w m 0 (b, t) = (((runS w n ⟨ss, b, t⟩).bx, (runS w n ⟨ss, b, t⟩).told), true) := by
  obtain ⟨k, hk, c', h1, h2⟩ := blocks_run ss w b t n
  obtain ⟨k2, hk2, h3⟩ := h1.stop (w := w) (s := ((runS w n ⟨ss, b, t⟩).bx, (runS w n ⟨ss, b, t⟩).told)) h
  have e := h2 (m - k - k2 + k2)
  rw [h3, show m - k - k2 + k2 + k = m by omega] at e
  exact e
theorem blocks_pre {ss : List Stm} {w : Int} {b : Bx} {t : List Int} {n m : Nat} (hm : 2 * n + 1 ≤ m) : (runS w n ⟨ss, b, t⟩).told <+: (bRun (blocksOf ss) w m 0 (b, t)).1.2 := by
  obtain ⟨k, hk, c', h1, h2⟩ := blocks_run ss w b t n
  have e := h2 (m - k)
  rw [show m - k + k = m by omega] at e
  rw [e]
  exact bR_told (s := ((runS w n ⟨ss, b, t⟩).bx, (runS w n ⟨ss, b, t⟩).told))
end GA
set_option maxHeartbeats 4000000
local macro_rules | `(tactic| simp_arith [$ts,*]) => `(tactic| simp only [L2.y_v0, L2.r_g0, L2.y_v1, L2.r_g1, L2.y_v2, L2.r_g2, L2.y_v3, L2.r_g3, L2.y_v4, L2.r_g4, L2.y_v5, L2.r_g5, L2.y_v6, L2.r_g6, L2.y_v7, L2.r_g7, L2.y_v8, L2.r_g8, L2.y_v9, L2.r_g9, L2.y_v10, L2.r_g10, L2.y_v11, L2.r_g11, L2.y_v12, L2.r_g12, L2.y_v13, L2.r_g13, L2.y_v14, L2.r_g14, L2.y_v15, L2.r_g15, L2.y_v16, L2.r_g16, L2.y_v17, L2.r_g17, L2.y_v18, L2.r_g18, L2.y_v19, L2.r_g19, L2.y_v20, L2.r_g20, L2.y_v21, L2.r_g21, L2.y_v22, L2.r_g22, L2.y_v23, L2.r_g23, L2.r_c, L2.r_op, L2.r_un, L2.y_I0, L2.y_I, L2.y_U, L2.r_eqI, L2.r_eqS, L2.r_neI, L2.r_neS, L2.r_exbl, L2.r_exint, L2.r_test, L2.r_B, L2.r_and, L2.r_or, L2.r_not, L2.r_andV, L2.r_orV, L2.r_notV, L2.r_if, L2.r_next, L2.r_seq, L2.r_brk, L2.r_cont, L2.r_drop, L2.r_ret, L2.r_retN, L2.r_ifS, L2.r_asg, L2.r_CB, L2.r_nil, L2.r_cons, L2.r_call, L2.r_tup, L2.r_lst, L2.r_p0, L2.r_pS, L2.r_disp, L2.r_dget, L2.r_sl, L2.r_noPart, L2.r_part, L2.r_gNil, L2.r_gCons, L2.r_itF, L2.r_nT, L2.r_nF, L2.r_len0, L2.r_len1, L2.r_len2, L2.r_len3, L2.r_len4, L2.r_len7, L2.r_len8, L2.r_for, L2.r_iEnum, L2.r_iList, L2.r_iTup, L2.r_iRng1, L2.r_iRng2, L2.r_exI1, L2.r_exI2, L2.r_exR, L2.r_bm, L2.r_bm0, L2.r_ixS, L2.r_ixL, L2.r_ixT, L2.r_cat, L2.r_slL, L2.r_append, L2.r_exRl, L2.r_intB, true_and, and_true, forall_const, Int.reduceLT, L2.r_compG, L2.r_setComp, L2.r_yes, L2.r_slT, L2.r_inR, L2.r_notInR, L2.cxOf_K, L2.wish_K, L2.blk_K, L2.r_blk1, L2.r_blk2, List.map_cons, List.map_nil, List.getElem?_cons_zero, List.getElem?_cons_succ, Option.join_some, L2.r_Vs, L2.r_join, L2.r_tyStr, L2.r_dnewK, L2.r_dput, L2.r_exRp, L2.r_gSub, List.set_cons_zero, List.set_cons_succ, L2.r_mid, L2.r_sfld, L2.r_gfld, L2.r_meth, L2.r_make, L2.r_iRev, L2.r_listRev, L2.r_listVals, L2.r_slRev, L2.r_dget2, $ts,*])
namespace K22
open PySem L2 PyProof.Rows FD FB FS FO FR FG
noncomputable def top (i : Nat) : Stmt := PySem.Challenge.pw_deedloom_k22_blocks_for_all_words.main.body.getD i (.Pass ⟨0, 0, 0, 0⟩)
noncomputable abbrev s_blocks_of : Stmt := top 2
theorem sc_blocks_of : FnScope ["program", "parting", "first"] ["program"] (defScope s_blocks_of) := ⟨rfl, rfl, rfl, by decide +kernel, rfl, by decide +kernel, by decide +kernel⟩
noncomputable abbrev s_Parting___init__ : Stmt := inClass (top 3) 0
theorem sc_Parting___init__ : FnScope ["self"] ["self"] (defScope s_Parting___init__) := ⟨rfl, rfl, rfl, by decide +kernel, rfl, by decide +kernel, by decide +kernel⟩
noncomputable abbrev s_Parting_keep_place : Stmt := inClass (top 3) 1
theorem sc_Parting_keep_place : FnScope ["self"] ["self"] (defScope s_Parting_keep_place) := ⟨rfl, rfl, rfl, by decide +kernel, rfl, by decide +kernel, by decide +kernel⟩
noncomputable abbrev s_Parting_numbered : Stmt := inClass (top 3) 2
theorem sc_Parting_numbered : FnScope ["self", "block"] ["self", "block"] (defScope s_Parting_numbered) := ⟨rfl, rfl, rfl, by decide +kernel, rfl, by decide +kernel, by decide +kernel⟩
noncomputable abbrev s_Parting_way_to : Stmt := inClass (top 3) 3
theorem sc_Parting_way_to : FnScope ["self", "block"] ["self", "block"] (defScope s_Parting_way_to) := ⟨rfl, rfl, rfl, by decide +kernel, rfl, by decide +kernel, by decide +kernel⟩
noncomputable abbrev s_Parting_opened : Stmt := inClass (top 3) 4
theorem sc_Parting_opened : FnScope ["self", "rows", "block", "row"] ["self", "rows", "block"] (defScope s_Parting_opened) := ⟨rfl, rfl, rfl, by decide +kernel, rfl, by decide +kernel, by decide +kernel⟩
noncomputable abbrev s_Parting_with_row : Stmt := inClass (top 3) 5
theorem sc_Parting_with_row : FnScope ["self", "row", "block"] ["self", "row", "block"] (defScope s_Parting_with_row) := ⟨rfl, rfl, rfl, by decide +kernel, rfl, by decide +kernel, by decide +kernel⟩
noncomputable abbrev s_Parting_with_if : Stmt := inClass (top 3) 6
theorem sc_Parting_with_if : FnScope ["self", "row", "block", "behind", "ones", "others"] ["self", "row", "block"] (defScope s_Parting_with_if) := ⟨rfl, rfl, rfl, by decide +kernel, rfl, by decide +kernel, by decide +kernel⟩
noncomputable abbrev s_Parting_with_while : Stmt := inClass (top 3) 7
theorem sc_Parting_with_while : FnScope ["self", "row", "block", "behind", "look", "inner"] ["self", "row", "block"] (defScope s_Parting_with_while) := ⟨rfl, rfl, rfl, by decide +kernel, rfl, by decide +kernel, by decide +kernel⟩
noncomputable abbrev s_Program___init__ : Stmt := inClass (top 5) 0
theorem sc_Program___init__ : FnScope ["self", "width", "ins", "boxes", "rows"] ["self", "width", "ins", "boxes", "rows"] (defScope s_Program___init__) := ⟨rfl, rfl, rfl, by decide +kernel, rfl, by decide +kernel, by decide +kernel⟩
noncomputable abbrev s_copied : Stmt := top 6
theorem sc_copied : FnScope ["rows"] ["rows"] (defScope s_copied) := ⟨rfl, rfl, rfl, by decide +kernel, rfl, by decide +kernel, by decide +kernel⟩
noncomputable abbrev s_copied_row : Stmt := top 7
theorem sc_copied_row : FnScope ["row"] ["row"] (defScope s_copied_row) := ⟨rfl, rfl, rfl, by decide +kernel, rfl, by decide +kernel, by decide +kernel⟩
noncomputable abbrev s__law_whole : Stmt := top 9
theorem sc__law_whole : FnScope ["_law_found"] ["_law_found"] (defScope s__law_whole) := ⟨rfl, rfl, rfl, by decide +kernel, rfl, by decide +kernel, by decide +kernel⟩
noncomputable abbrev s__law_at : Stmt := top 10
theorem sc__law_at : FnScope ["_law_script", "_law_k"] ["_law_script", "_law_k"] (defScope s__law_at) := ⟨rfl, rfl, rfl, by decide +kernel, rfl, by decide +kernel, by decide +kernel⟩
noncomputable abbrev s__law_mixed : Stmt := top 11
theorem sc__law_mixed : FnScope ["_law_cell", "_law_k", "_law_number"] ["_law_cell", "_law_k"] (defScope s__law_mixed) := ⟨rfl, rfl, rfl, by decide +kernel, rfl, by decide +kernel, by decide +kernel⟩
noncomputable abbrev s__law_names : Stmt := top 12
theorem sc__law_names : FnScope ["_law_number", "_law_many", "_law_letters", "_law_some", "_law_at_here", "_law_names_here", "_law_j", "_law_spots"] ["_law_number", "_law_many"] (defScope s__law_names) := ⟨rfl, rfl, rfl, by decide +kernel, rfl, by decide +kernel, by decide +kernel⟩
noncomputable abbrev s__law_operand : Stmt := top 13
theorem sc__law_operand : FnScope ["_law_number", "_law_names_here", "_law_top"] ["_law_number", "_law_names_here", "_law_top"] (defScope s__law_operand) := ⟨rfl, rfl, rfl, by decide +kernel, rfl, by decide +kernel, by decide +kernel⟩
noncomputable abbrev s__law_deed : Stmt := top 14
theorem sc__law_deed : FnScope ["_law_number", "_law_names_here", "_law_top", "_law_name", "_law_one", "_law_other", "_law_way"] ["_law_number", "_law_names_here", "_law_top"] (defScope s__law_deed) := ⟨rfl, rfl, rfl, by decide +kernel, rfl, by decide +kernel, by decide +kernel⟩
noncomputable abbrev s__law_statements : Stmt := top 15
theorem sc__law_statements : FnScope ["_law_numbers", "_law_names_here", "_law_top", "_law_deep", "_law_rows", "_law_at_here", "_law_number", "_law_cut", "_law_end", "_law_name", "_law_ones"] ["_law_numbers", "_law_names_here", "_law_top", "_law_deep"] (defScope s__law_statements) := ⟨rfl, rfl, rfl, by decide +kernel, rfl, by decide +kernel, by decide +kernel⟩
noncomputable abbrev s__law_folds : Stmt := top 16
theorem sc__law_folds : FnScope ["_law_script", "_law_start", "_law_many", "_law_k", "_law_found", "_law_some", "_law_at_here", "_law_left"] ["_law_script", "_law_start", "_law_many"] (defScope s__law_folds) := ⟨rfl, rfl, rfl, by decide +kernel, rfl, by decide +kernel, by decide +kernel⟩
noncomputable abbrev s__law_word : Stmt := top 19
theorem sc__law_word : FnScope ["_law_operand_here", "_law_boxes"] ["_law_operand_here", "_law_boxes"] (defScope s__law_word) := ⟨rfl, rfl, rfl, by decide +kernel, rfl, by decide +kernel, by decide +kernel⟩
noncomputable abbrev s__law_made : Stmt := top 20
theorem sc__law_made : FnScope ["_law_op", "_law_x", "_law_y", "_law_width"] ["_law_op", "_law_x", "_law_y", "_law_width"] (defScope s__law_made) := ⟨rfl, rfl, rfl, by decide +kernel, rfl, by decide +kernel, by decide +kernel⟩
noncomputable abbrev s__law_do : Stmt := top 21
theorem sc__law_do : FnScope ["_law_deed_here", "_law_before", "_law_boxes", "_law_said", "_law_width"] ["_law_deed_here", "_law_before", "_law_boxes", "_law_said", "_law_width"] (defScope s__law_do) := ⟨rfl, rfl, rfl, by decide +kernel, rfl, by decide +kernel, by decide +kernel⟩
noncomputable abbrev s__law_through : Stmt := top 22
theorem sc__law_through : FnScope ["_law_rows", "_law_boxes", "_law_said", "_law_width", "_law_left", "_law_row"] ["_law_rows", "_law_boxes", "_law_said", "_law_width", "_law_left"] (defScope s__law_through) := ⟨rfl, rfl, rfl, by decide +kernel, rfl, by decide +kernel, by decide +kernel⟩
noncomputable abbrev s__law_begun : Stmt := top 23
theorem sc__law_begun : FnScope ["_law_drawn_here", "_law_words_here", "_law_boxes", "_law_name"] ["_law_drawn_here", "_law_words_here"] (defScope s__law_begun) := ⟨rfl, rfl, rfl, by decide +kernel, rfl, by decide +kernel, by decide +kernel⟩
noncomputable abbrev s__law_run : Stmt := top 24
theorem sc__law_run : FnScope ["_law_drawn_here", "_law_words_here", "_law_most", "_law_boxes", "_law_said", "_law_left"] ["_law_drawn_here", "_law_words_here", "_law_most"] (defScope s__law_run) := ⟨rfl, rfl, rfl, by decide +kernel, rfl, by decide +kernel, by decide +kernel⟩
noncomputable abbrev s__law_fine_operand : Stmt := top 25
theorem sc__law_fine_operand : FnScope ["_law_found", "_law_names_here", "_law_top"] ["_law_found", "_law_names_here", "_law_top"] (defScope s__law_fine_operand) := ⟨rfl, rfl, rfl, by decide +kernel, rfl, by decide +kernel, by decide +kernel⟩
noncomputable abbrev s__law_fine_deed : Stmt := top 26
theorem sc__law_fine_deed : FnScope ["_law_found", "_law_names_here", "_law_top", "_law_bad"] ["_law_found", "_law_names_here", "_law_top"] (defScope s__law_fine_deed) := ⟨rfl, rfl, rfl, by decide +kernel, rfl, by decide +kernel, by decide +kernel⟩
noncomputable abbrev s__law_fine_ending : Stmt := top 27
theorem sc__law_fine_ending : FnScope ["_law_found", "_law_names_here", "_law_many"] ["_law_found", "_law_names_here", "_law_many"] (defScope s__law_fine_ending) := ⟨rfl, rfl, rfl, by decide +kernel, rfl, by decide +kernel, by decide +kernel⟩
noncomputable abbrev s__law_fine : Stmt := top 28
theorem sc__law_fine : FnScope ["_law_found", "_law_drawn_here", "_law_names_here", "_law_part", "_law_deed_here"] ["_law_found", "_law_drawn_here"] (defScope s__law_fine) := ⟨rfl, rfl, rfl, by decide +kernel, rfl, by decide +kernel, by decide +kernel⟩
noncomputable abbrev s__law_next : Stmt := top 29
theorem sc__law_next : FnScope ["_law_ending", "_law_boxes"] ["_law_ending", "_law_boxes"] (defScope s__law_next) := ⟨rfl, rfl, rfl, by decide +kernel, rfl, by decide +kernel, by decide +kernel⟩
noncomputable abbrev s__law_blocks_run : Stmt := top 30
theorem sc__law_blocks_run : FnScope ["_law_found", "_law_drawn_here", "_law_words_here", "_law_most", "_law_boxes", "_law_said", "_law_at_here", "_law_k", "_law_deed_here"] ["_law_found", "_law_drawn_here", "_law_words_here", "_law_most"] (defScope s__law_blocks_run) := ⟨rfl, rfl, rfl, by decide +kernel, rfl, by decide +kernel, by decide +kernel⟩
noncomputable abbrev s__law_choices : Stmt := top 31
theorem sc__law_choices : FnScope ["_law_ins", "_law_top", "_law_found", "_law_name", "_law_grown", "_law_words_here", "_law_word_here", "_law_more"] ["_law_ins", "_law_top"] (defScope s__law_choices) := ⟨rfl, rfl, rfl, by decide +kernel, rfl, by decide +kernel, by decide +kernel⟩
noncomputable abbrev s_law : Stmt := top 32
theorem sc_law : FnScope ["_law_script", "_law_number", "_law_names_here", "_law_width", "_law_ins", "_law_rows", "_law_drawn_here", "_law_found", "_law_words_here", "_law_due", "_law_boxes", "_law_left", "_law_said", "_law_ends", "_law_over"] ["_law_script"] (defScope s_law) := ⟨rfl, rfl, rfl, by decide +kernel, rfl, by decide +kernel, by decide +kernel⟩
set_option genInjectivity false in
structure Ad where
  k_MOST_DEEDS : Tok
  C_Parting : Addr
  C_Program : Addr
  f_blocks_of : Addr
  e_blocks_of : FuncData
  f_Parting___init__ : Addr
  e_Parting___init__ : FuncData
  f_Parting_keep_place : Addr
  e_Parting_keep_place : FuncData
  f_Parting_numbered : Addr
  e_Parting_numbered : FuncData
  f_Parting_way_to : Addr
  e_Parting_way_to : FuncData
  f_Parting_opened : Addr
  e_Parting_opened : FuncData
  f_Parting_with_row : Addr
  e_Parting_with_row : FuncData
  f_Parting_with_if : Addr
  e_Parting_with_if : FuncData
  f_Parting_with_while : Addr
  e_Parting_with_while : FuncData
  f_Program___init__ : Addr
  e_Program___init__ : FuncData
  f_copied : Addr
  e_copied : FuncData
  f_copied_row : Addr
  e_copied_row : FuncData
  f__law_whole : Addr
  e__law_whole : FuncData
  f__law_at : Addr
  e__law_at : FuncData
  f__law_mixed : Addr
  e__law_mixed : FuncData
  f__law_names : Addr
  e__law_names : FuncData
  f__law_operand : Addr
  e__law_operand : FuncData
  f__law_deed : Addr
  e__law_deed : FuncData
  f__law_statements : Addr
  e__law_statements : FuncData
  f__law_folds : Addr
  e__law_folds : FuncData
  f__law_word : Addr
  e__law_word : FuncData
  f__law_made : Addr
  e__law_made : FuncData
  f__law_do : Addr
  e__law_do : FuncData
  f__law_through : Addr
  e__law_through : FuncData
  f__law_begun : Addr
  e__law_begun : FuncData
  f__law_run : Addr
  e__law_run : FuncData
  f__law_fine_operand : Addr
  e__law_fine_operand : FuncData
  f__law_fine_deed : Addr
  e__law_fine_deed : FuncData
  f__law_fine_ending : Addr
  e__law_fine_ending : FuncData
  f__law_fine : Addr
  e__law_fine : FuncData
  f__law_next : Addr
  e__law_next : FuncData
  f__law_blocks_run : Addr
  e__law_blocks_run : FuncData
  f__law_choices : Addr
  e__law_choices : FuncData
  f_law : Addr
  e_law : FuncData
structure Txt (K : PySem.W.Frag) (mg : Str → Option Value) (t : Ad) : Prop where
  g_MOST_DEEDS : mg "MOST_DEEDS" = some (.int 8 t.k_MOST_DEEDS)
  c_Parting : KlsAt K mg "Parting" t.C_Parting
  n_Parting_blocks : NoAttr K t.C_Parting "blocks"
  c_Program : KlsAt K mg "Program" t.C_Program
  n_Program_width : NoAttr K t.C_Program "width"
  n_Program_ins : NoAttr K t.C_Program "ins"
  n_Program_boxes : NoAttr K t.C_Program "boxes"
  n_Program_rows : NoAttr K t.C_Program "rows"
  d_blocks_of : DefAt K mg "blocks_of" s_blocks_of ["program"] t.f_blocks_of t.e_blocks_of
  d_Parting___init__ : MethAt K t.C_Parting "__init__" "Parting.__init__" s_Parting___init__ ["self"] t.f_Parting___init__ t.e_Parting___init__
  d_Parting_keep_place : MethAt K t.C_Parting "keep_place" "Parting.keep_place" s_Parting_keep_place ["self"] t.f_Parting_keep_place t.e_Parting_keep_place
  d_Parting_numbered : MethAt K t.C_Parting "numbered" "Parting.numbered" s_Parting_numbered ["self", "block"] t.f_Parting_numbered t.e_Parting_numbered
  d_Parting_way_to : MethAt K t.C_Parting "way_to" "Parting.way_to" s_Parting_way_to ["self", "block"] t.f_Parting_way_to t.e_Parting_way_to
  d_Parting_opened : MethAt K t.C_Parting "opened" "Parting.opened" s_Parting_opened ["self", "rows", "block"] t.f_Parting_opened t.e_Parting_opened
  d_Parting_with_row : MethAt K t.C_Parting "with_row" "Parting.with_row" s_Parting_with_row ["self", "row", "block"] t.f_Parting_with_row t.e_Parting_with_row
  d_Parting_with_if : MethAt K t.C_Parting "with_if" "Parting.with_if" s_Parting_with_if ["self", "row", "block"] t.f_Parting_with_if t.e_Parting_with_if
  d_Parting_with_while : MethAt K t.C_Parting "with_while" "Parting.with_while" s_Parting_with_while ["self", "row", "block"] t.f_Parting_with_while t.e_Parting_with_while
  d_Program___init__ : MethAt K t.C_Program "__init__" "Program.__init__" s_Program___init__ ["self", "width", "ins", "boxes", "rows"] t.f_Program___init__ t.e_Program___init__
  d_copied : DefAt K mg "copied" s_copied ["rows"] t.f_copied t.e_copied
  d_copied_row : DefAt K mg "copied_row" s_copied_row ["row"] t.f_copied_row t.e_copied_row
  d__law_whole : DefAt K mg "_law_whole" s__law_whole ["_law_found"] t.f__law_whole t.e__law_whole
  d__law_at : DefAt K mg "_law_at" s__law_at ["_law_script", "_law_k"] t.f__law_at t.e__law_at
  d__law_mixed : DefAt K mg "_law_mixed" s__law_mixed ["_law_cell", "_law_k"] t.f__law_mixed t.e__law_mixed
  d__law_names : DefAt K mg "_law_names" s__law_names ["_law_number", "_law_many"] t.f__law_names t.e__law_names
  d__law_operand : DefAt K mg "_law_operand" s__law_operand ["_law_number", "_law_names_here", "_law_top"] t.f__law_operand t.e__law_operand
  d__law_deed : DefAt K mg "_law_deed" s__law_deed ["_law_number", "_law_names_here", "_law_top"] t.f__law_deed t.e__law_deed
  d__law_statements : DefAt K mg "_law_statements" s__law_statements ["_law_numbers", "_law_names_here", "_law_top", "_law_deep"] t.f__law_statements t.e__law_statements
  d__law_folds : DefAt K mg "_law_folds" s__law_folds ["_law_script", "_law_start", "_law_many"] t.f__law_folds t.e__law_folds
  d__law_word : DefAt K mg "_law_word" s__law_word ["_law_operand_here", "_law_boxes"] t.f__law_word t.e__law_word
  d__law_made : DefAt K mg "_law_made" s__law_made ["_law_op", "_law_x", "_law_y", "_law_width"] t.f__law_made t.e__law_made
  d__law_do : DefAt K mg "_law_do" s__law_do ["_law_deed_here", "_law_before", "_law_boxes", "_law_said", "_law_width"] t.f__law_do t.e__law_do
  d__law_through : DefAt K mg "_law_through" s__law_through ["_law_rows", "_law_boxes", "_law_said", "_law_width", "_law_left"] t.f__law_through t.e__law_through
  d__law_begun : DefAt K mg "_law_begun" s__law_begun ["_law_drawn_here", "_law_words_here"] t.f__law_begun t.e__law_begun
  d__law_run : DefAt K mg "_law_run" s__law_run ["_law_drawn_here", "_law_words_here", "_law_most"] t.f__law_run t.e__law_run
  d__law_fine_operand : DefAt K mg "_law_fine_operand" s__law_fine_operand ["_law_found", "_law_names_here", "_law_top"] t.f__law_fine_operand t.e__law_fine_operand
  d__law_fine_deed : DefAt K mg "_law_fine_deed" s__law_fine_deed ["_law_found", "_law_names_here", "_law_top"] t.f__law_fine_deed t.e__law_fine_deed
  d__law_fine_ending : DefAt K mg "_law_fine_ending" s__law_fine_ending ["_law_found", "_law_names_here", "_law_many"] t.f__law_fine_ending t.e__law_fine_ending
  d__law_fine : DefAt K mg "_law_fine" s__law_fine ["_law_found", "_law_drawn_here"] t.f__law_fine t.e__law_fine
  d__law_next : DefAt K mg "_law_next" s__law_next ["_law_ending", "_law_boxes"] t.f__law_next t.e__law_next
  d__law_blocks_run : DefAt K mg "_law_blocks_run" s__law_blocks_run ["_law_found", "_law_drawn_here", "_law_words_here", "_law_most"] t.f__law_blocks_run t.e__law_blocks_run
  d__law_choices : DefAt K mg "_law_choices" s__law_choices ["_law_ins", "_law_top"] t.f__law_choices t.e__law_choices
  d_law : DefAt K mg "law" s_law ["_law_script"] t.f_law t.e_law
  z_range : mg "range" = none
  z_isinstance : mg "isinstance" = none
  z_int : mg "int" = none
  z_bool : mg "bool" = none
  z_len : mg "len" = none
  z_str : mg "str" = none
  z_tuple : mg "tuple" = none
  z_sum : mg "sum" = none
  z_list : mg "list" = none
  z_min : mg "min" = none
  z_reversed : mg "reversed" = none
theorem len_1 {us : List Value} (h : us.length = 1) : ∃ a0, us = [a0] := by
  rcases us with _ | ⟨a0, _ | ⟨_, _⟩⟩ <;> simp at h ⊢
theorem len_2 {us : List Value} (h : us.length = 2) : ∃ a0 a1, us = [a0, a1] := by
  rcases us with _ | ⟨a0, _ | ⟨a1, _ | ⟨_, _⟩⟩⟩ <;> simp at h ⊢
theorem len_3 {us : List Value} (h : us.length = 3) : ∃ a0 a1 a2, us = [a0, a1, a2] := by
  rcases us with _ | ⟨a0, _ | ⟨a1, _ | ⟨a2, _ | ⟨_, _⟩⟩⟩⟩ <;> simp at h ⊢
theorem len_4 {us : List Value} (h : us.length = 4) : ∃ a0 a1 a2 a3, us = [a0, a1, a2, a3] := by
  rcases us with _ | ⟨a0, _ | ⟨a1, _ | ⟨a2, _ | ⟨a3, _ | ⟨_, _⟩⟩⟩⟩⟩ <;> simp at h ⊢
theorem len_5 {us : List Value} (h : us.length = 5) : ∃ a0 a1 a2 a3 a4, us = [a0, a1, a2, a3, a4] := by
  rcases us with _ | ⟨a0, _ | ⟨a1, _ | ⟨a2, _ | ⟨a3, _ | ⟨a4, _ | ⟨_, _⟩⟩⟩⟩⟩⟩ <;> simp at h ⊢
theorem all_mk {K : PySem.W.Frag} {h : Heap} {mg : Str → Option Value} (X : K.In h) (G : h.Ns mainGlobals mg)
    {k_MOST_DEEDS : Tok} (aK_MOST_DEEDS : PySem.W.nsIn K mainGlobals "MOST_DEEDS" = some (some (.int 8 k_MOST_DEEDS)))
    {C_Parting : Addr}
    (aC_Parting : PySem.W.nsIn K mainGlobals "Parting" = some (some (.ref C_Parting)))
    (pg_Parting : PySem.W.plainGet K C_Parting Str.empty = true)
    (hd_Parting : PySem.W.hasDictIn K C_Parting = true)
    (po_Parting : PySem.W.plainOver K C_Parting = true)
    (sa_Parting : PySem.W.findIn K (.ref C_Parting) "__setattr__" = some (some (.builtin "object.__setattr__")))
    (mk_Parting : PySem.W.makesIn K C_Parting = true)
    (kc_Parting : PySem.W.keepIn K (.ref C_Parting) = true)
    (n_Parting_blocks : PySem.W.findIn K (.ref C_Parting) "blocks" = some none)
    {C_Program : Addr}
    (aC_Program : PySem.W.nsIn K mainGlobals "Program" = some (some (.ref C_Program)))
    (pg_Program : PySem.W.plainGet K C_Program Str.empty = true)
    (hd_Program : PySem.W.hasDictIn K C_Program = true)
    (po_Program : PySem.W.plainOver K C_Program = true)
    (sa_Program : PySem.W.findIn K (.ref C_Program) "__setattr__" = some (some (.builtin "object.__setattr__")))
    (mk_Program : PySem.W.makesIn K C_Program = true)
    (kc_Program : PySem.W.keepIn K (.ref C_Program) = true)
    (n_Program_width : PySem.W.findIn K (.ref C_Program) "width" = some none)
    (n_Program_ins : PySem.W.findIn K (.ref C_Program) "ins" = some none)
    (n_Program_boxes : PySem.W.findIn K (.ref C_Program) "boxes" = some none)
    (n_Program_rows : PySem.W.findIn K (.ref C_Program) "rows" = some none)
    {f0 : Addr} {od0 an0 : Option Addr} {sl0 : Array (Option Value)} {oc0 kV0 dc0 pm0 cd0 ct0 : Value}
    (a0 : PySem.W.nsIn K mainGlobals "blocks_of" = some (some (.ref f0)))
    (l0 : K.lookup f0 = some ⟨oc0, od0, .func (PySem.W.fnOf "blocks_of" "blocks_of" (defArgs s_blocks_of) (defBody s_blocks_of) (defScope s_blocks_of) .none kV0 dc0 pm0 an0 cd0 ct0), sl0⟩) (c0 : PySem.W.codeIn K cd0 "blocks_of" = true) (k0 : PySem.W.keepIn K (.ref f0) = true)
    {f1 : Addr} {od1 an1 : Option Addr} {sl1 : Array (Option Value)} {oc1 kV1 dc1 pm1 cd1 ct1 : Value}
    (a1 : PySem.W.findIn K (.ref C_Parting) "__init__" = some (some (.ref f1))) (i1 : PySem.W.isFn K (.ref f1) = true)
    (l1 : K.lookup f1 = some ⟨oc1, od1, .func (PySem.W.fnOf "__init__" "Parting.__init__" (defArgs s_Parting___init__) (defBody s_Parting___init__) (defScope s_Parting___init__) .none kV1 dc1 pm1 an1 cd1 ct1), sl1⟩) (c1 : PySem.W.codeIn K cd1 "Parting.__init__" = true) (k1 : PySem.W.keepIn K (.ref f1) = true)
    {f2 : Addr} {od2 an2 : Option Addr} {sl2 : Array (Option Value)} {oc2 kV2 dc2 pm2 cd2 ct2 : Value}
    (a2 : PySem.W.findIn K (.ref C_Parting) "keep_place" = some (some (.ref f2))) (i2 : PySem.W.isFn K (.ref f2) = true)
    (l2 : K.lookup f2 = some ⟨oc2, od2, .func (PySem.W.fnOf "keep_place" "Parting.keep_place" (defArgs s_Parting_keep_place) (defBody s_Parting_keep_place) (defScope s_Parting_keep_place) .none kV2 dc2 pm2 an2 cd2 ct2), sl2⟩) (c2 : PySem.W.codeIn K cd2 "Parting.keep_place" = true) (k2 : PySem.W.keepIn K (.ref f2) = true)
    {f3 : Addr} {od3 an3 : Option Addr} {sl3 : Array (Option Value)} {oc3 kV3 dc3 pm3 cd3 ct3 : Value}
    (a3 : PySem.W.findIn K (.ref C_Parting) "numbered" = some (some (.ref f3))) (i3 : PySem.W.isFn K (.ref f3) = true)
    (l3 : K.lookup f3 = some ⟨oc3, od3, .func (PySem.W.fnOf "numbered" "Parting.numbered" (defArgs s_Parting_numbered) (defBody s_Parting_numbered) (defScope s_Parting_numbered) .none kV3 dc3 pm3 an3 cd3 ct3), sl3⟩) (c3 : PySem.W.codeIn K cd3 "Parting.numbered" = true) (k3 : PySem.W.keepIn K (.ref f3) = true)
    {f4 : Addr} {od4 an4 : Option Addr} {sl4 : Array (Option Value)} {oc4 kV4 dc4 pm4 cd4 ct4 : Value}
    (a4 : PySem.W.findIn K (.ref C_Parting) "way_to" = some (some (.ref f4))) (i4 : PySem.W.isFn K (.ref f4) = true)
    (l4 : K.lookup f4 = some ⟨oc4, od4, .func (PySem.W.fnOf "way_to" "Parting.way_to" (defArgs s_Parting_way_to) (defBody s_Parting_way_to) (defScope s_Parting_way_to) .none kV4 dc4 pm4 an4 cd4 ct4), sl4⟩) (c4 : PySem.W.codeIn K cd4 "Parting.way_to" = true) (k4 : PySem.W.keepIn K (.ref f4) = true)
    {f5 : Addr} {od5 an5 : Option Addr} {sl5 : Array (Option Value)} {oc5 kV5 dc5 pm5 cd5 ct5 : Value}
    (a5 : PySem.W.findIn K (.ref C_Parting) "opened" = some (some (.ref f5))) (i5 : PySem.W.isFn K (.ref f5) = true)
    (l5 : K.lookup f5 = some ⟨oc5, od5, .func (PySem.W.fnOf "opened" "Parting.opened" (defArgs s_Parting_opened) (defBody s_Parting_opened) (defScope s_Parting_opened) .none kV5 dc5 pm5 an5 cd5 ct5), sl5⟩) (c5 : PySem.W.codeIn K cd5 "Parting.opened" = true) (k5 : PySem.W.keepIn K (.ref f5) = true)
    {f6 : Addr} {od6 an6 : Option Addr} {sl6 : Array (Option Value)} {oc6 kV6 dc6 pm6 cd6 ct6 : Value}
    (a6 : PySem.W.findIn K (.ref C_Parting) "with_row" = some (some (.ref f6))) (i6 : PySem.W.isFn K (.ref f6) = true)
    (l6 : K.lookup f6 = some ⟨oc6, od6, .func (PySem.W.fnOf "with_row" "Parting.with_row" (defArgs s_Parting_with_row) (defBody s_Parting_with_row) (defScope s_Parting_with_row) .none kV6 dc6 pm6 an6 cd6 ct6), sl6⟩) (c6 : PySem.W.codeIn K cd6 "Parting.with_row" = true) (k6 : PySem.W.keepIn K (.ref f6) = true)
    {f7 : Addr} {od7 an7 : Option Addr} {sl7 : Array (Option Value)} {oc7 kV7 dc7 pm7 cd7 ct7 : Value}
    (a7 : PySem.W.findIn K (.ref C_Parting) "with_if" = some (some (.ref f7))) (i7 : PySem.W.isFn K (.ref f7) = true)
    (l7 : K.lookup f7 = some ⟨oc7, od7, .func (PySem.W.fnOf "with_if" "Parting.with_if" (defArgs s_Parting_with_if) (defBody s_Parting_with_if) (defScope s_Parting_with_if) .none kV7 dc7 pm7 an7 cd7 ct7), sl7⟩) (c7 : PySem.W.codeIn K cd7 "Parting.with_if" = true) (k7 : PySem.W.keepIn K (.ref f7) = true)
    {f8 : Addr} {od8 an8 : Option Addr} {sl8 : Array (Option Value)} {oc8 kV8 dc8 pm8 cd8 ct8 : Value}
    (a8 : PySem.W.findIn K (.ref C_Parting) "with_while" = some (some (.ref f8))) (i8 : PySem.W.isFn K (.ref f8) = true)
    (l8 : K.lookup f8 = some ⟨oc8, od8, .func (PySem.W.fnOf "with_while" "Parting.with_while" (defArgs s_Parting_with_while) (defBody s_Parting_with_while) (defScope s_Parting_with_while) .none kV8 dc8 pm8 an8 cd8 ct8), sl8⟩) (c8 : PySem.W.codeIn K cd8 "Parting.with_while" = true) (k8 : PySem.W.keepIn K (.ref f8) = true)
    {f9 : Addr} {od9 an9 : Option Addr} {sl9 : Array (Option Value)} {oc9 kV9 dc9 pm9 cd9 ct9 : Value}
    (a9 : PySem.W.findIn K (.ref C_Program) "__init__" = some (some (.ref f9))) (i9 : PySem.W.isFn K (.ref f9) = true)
    (l9 : K.lookup f9 = some ⟨oc9, od9, .func (PySem.W.fnOf "__init__" "Program.__init__" (defArgs s_Program___init__) (defBody s_Program___init__) (defScope s_Program___init__) .none kV9 dc9 pm9 an9 cd9 ct9), sl9⟩) (c9 : PySem.W.codeIn K cd9 "Program.__init__" = true) (k9 : PySem.W.keepIn K (.ref f9) = true)
    {f10 : Addr} {od10 an10 : Option Addr} {sl10 : Array (Option Value)} {oc10 kV10 dc10 pm10 cd10 ct10 : Value}
    (a10 : PySem.W.nsIn K mainGlobals "copied" = some (some (.ref f10)))
    (l10 : K.lookup f10 = some ⟨oc10, od10, .func (PySem.W.fnOf "copied" "copied" (defArgs s_copied) (defBody s_copied) (defScope s_copied) .none kV10 dc10 pm10 an10 cd10 ct10), sl10⟩) (c10 : PySem.W.codeIn K cd10 "copied" = true) (k10 : PySem.W.keepIn K (.ref f10) = true)
    {f11 : Addr} {od11 an11 : Option Addr} {sl11 : Array (Option Value)} {oc11 kV11 dc11 pm11 cd11 ct11 : Value}
    (a11 : PySem.W.nsIn K mainGlobals "copied_row" = some (some (.ref f11)))
    (l11 : K.lookup f11 = some ⟨oc11, od11, .func (PySem.W.fnOf "copied_row" "copied_row" (defArgs s_copied_row) (defBody s_copied_row) (defScope s_copied_row) .none kV11 dc11 pm11 an11 cd11 ct11), sl11⟩) (c11 : PySem.W.codeIn K cd11 "copied_row" = true) (k11 : PySem.W.keepIn K (.ref f11) = true)
    {f12 : Addr} {od12 an12 : Option Addr} {sl12 : Array (Option Value)} {oc12 kV12 dc12 pm12 cd12 ct12 : Value}
    (a12 : PySem.W.nsIn K mainGlobals "_law_whole" = some (some (.ref f12)))
    (l12 : K.lookup f12 = some ⟨oc12, od12, .func (PySem.W.fnOf "_law_whole" "_law_whole" (defArgs s__law_whole) (defBody s__law_whole) (defScope s__law_whole) .none kV12 dc12 pm12 an12 cd12 ct12), sl12⟩) (c12 : PySem.W.codeIn K cd12 "_law_whole" = true) (k12 : PySem.W.keepIn K (.ref f12) = true)
    {f13 : Addr} {od13 an13 : Option Addr} {sl13 : Array (Option Value)} {oc13 kV13 dc13 pm13 cd13 ct13 : Value}
    (a13 : PySem.W.nsIn K mainGlobals "_law_at" = some (some (.ref f13)))
    (l13 : K.lookup f13 = some ⟨oc13, od13, .func (PySem.W.fnOf "_law_at" "_law_at" (defArgs s__law_at) (defBody s__law_at) (defScope s__law_at) .none kV13 dc13 pm13 an13 cd13 ct13), sl13⟩) (c13 : PySem.W.codeIn K cd13 "_law_at" = true) (k13 : PySem.W.keepIn K (.ref f13) = true)
    {f14 : Addr} {od14 an14 : Option Addr} {sl14 : Array (Option Value)} {oc14 kV14 dc14 pm14 cd14 ct14 : Value}
    (a14 : PySem.W.nsIn K mainGlobals "_law_mixed" = some (some (.ref f14)))
    (l14 : K.lookup f14 = some ⟨oc14, od14, .func (PySem.W.fnOf "_law_mixed" "_law_mixed" (defArgs s__law_mixed) (defBody s__law_mixed) (defScope s__law_mixed) .none kV14 dc14 pm14 an14 cd14 ct14), sl14⟩) (c14 : PySem.W.codeIn K cd14 "_law_mixed" = true) (k14 : PySem.W.keepIn K (.ref f14) = true)
    {f15 : Addr} {od15 an15 : Option Addr} {sl15 : Array (Option Value)} {oc15 kV15 dc15 pm15 cd15 ct15 : Value}
    (a15 : PySem.W.nsIn K mainGlobals "_law_names" = some (some (.ref f15)))
    (l15 : K.lookup f15 = some ⟨oc15, od15, .func (PySem.W.fnOf "_law_names" "_law_names" (defArgs s__law_names) (defBody s__law_names) (defScope s__law_names) .none kV15 dc15 pm15 an15 cd15 ct15), sl15⟩) (c15 : PySem.W.codeIn K cd15 "_law_names" = true) (k15 : PySem.W.keepIn K (.ref f15) = true)
    {f16 : Addr} {od16 an16 : Option Addr} {sl16 : Array (Option Value)} {oc16 kV16 dc16 pm16 cd16 ct16 : Value}
    (a16 : PySem.W.nsIn K mainGlobals "_law_operand" = some (some (.ref f16)))
    (l16 : K.lookup f16 = some ⟨oc16, od16, .func (PySem.W.fnOf "_law_operand" "_law_operand" (defArgs s__law_operand) (defBody s__law_operand) (defScope s__law_operand) .none kV16 dc16 pm16 an16 cd16 ct16), sl16⟩) (c16 : PySem.W.codeIn K cd16 "_law_operand" = true) (k16 : PySem.W.keepIn K (.ref f16) = true)
    {f17 : Addr} {od17 an17 : Option Addr} {sl17 : Array (Option Value)} {oc17 kV17 dc17 pm17 cd17 ct17 : Value}
    (a17 : PySem.W.nsIn K mainGlobals "_law_deed" = some (some (.ref f17)))
    (l17 : K.lookup f17 = some ⟨oc17, od17, .func (PySem.W.fnOf "_law_deed" "_law_deed" (defArgs s__law_deed) (defBody s__law_deed) (defScope s__law_deed) .none kV17 dc17 pm17 an17 cd17 ct17), sl17⟩) (c17 : PySem.W.codeIn K cd17 "_law_deed" = true) (k17 : PySem.W.keepIn K (.ref f17) = true)
    {f18 : Addr} {od18 an18 : Option Addr} {sl18 : Array (Option Value)} {oc18 kV18 dc18 pm18 cd18 ct18 : Value}
    (a18 : PySem.W.nsIn K mainGlobals "_law_statements" = some (some (.ref f18)))
    (l18 : K.lookup f18 = some ⟨oc18, od18, .func (PySem.W.fnOf "_law_statements" "_law_statements" (defArgs s__law_statements) (defBody s__law_statements) (defScope s__law_statements) .none kV18 dc18 pm18 an18 cd18 ct18), sl18⟩) (c18 : PySem.W.codeIn K cd18 "_law_statements" = true) (k18 : PySem.W.keepIn K (.ref f18) = true)
    {f19 : Addr} {od19 an19 : Option Addr} {sl19 : Array (Option Value)} {oc19 kV19 dc19 pm19 cd19 ct19 : Value}
    (a19 : PySem.W.nsIn K mainGlobals "_law_folds" = some (some (.ref f19)))
    (l19 : K.lookup f19 = some ⟨oc19, od19, .func (PySem.W.fnOf "_law_folds" "_law_folds" (defArgs s__law_folds) (defBody s__law_folds) (defScope s__law_folds) .none kV19 dc19 pm19 an19 cd19 ct19), sl19⟩) (c19 : PySem.W.codeIn K cd19 "_law_folds" = true) (k19 : PySem.W.keepIn K (.ref f19) = true)
    {f20 : Addr} {od20 an20 : Option Addr} {sl20 : Array (Option Value)} {oc20 kV20 dc20 pm20 cd20 ct20 : Value}
    (a20 : PySem.W.nsIn K mainGlobals "_law_word" = some (some (.ref f20)))
    (l20 : K.lookup f20 = some ⟨oc20, od20, .func (PySem.W.fnOf "_law_word" "_law_word" (defArgs s__law_word) (defBody s__law_word) (defScope s__law_word) .none kV20 dc20 pm20 an20 cd20 ct20), sl20⟩) (c20 : PySem.W.codeIn K cd20 "_law_word" = true) (k20 : PySem.W.keepIn K (.ref f20) = true)
    {f21 : Addr} {od21 an21 : Option Addr} {sl21 : Array (Option Value)} {oc21 kV21 dc21 pm21 cd21 ct21 : Value}
    (a21 : PySem.W.nsIn K mainGlobals "_law_made" = some (some (.ref f21)))
    (l21 : K.lookup f21 = some ⟨oc21, od21, .func (PySem.W.fnOf "_law_made" "_law_made" (defArgs s__law_made) (defBody s__law_made) (defScope s__law_made) .none kV21 dc21 pm21 an21 cd21 ct21), sl21⟩) (c21 : PySem.W.codeIn K cd21 "_law_made" = true) (k21 : PySem.W.keepIn K (.ref f21) = true)
    {f22 : Addr} {od22 an22 : Option Addr} {sl22 : Array (Option Value)} {oc22 kV22 dc22 pm22 cd22 ct22 : Value}
    (a22 : PySem.W.nsIn K mainGlobals "_law_do" = some (some (.ref f22)))
    (l22 : K.lookup f22 = some ⟨oc22, od22, .func (PySem.W.fnOf "_law_do" "_law_do" (defArgs s__law_do) (defBody s__law_do) (defScope s__law_do) .none kV22 dc22 pm22 an22 cd22 ct22), sl22⟩) (c22 : PySem.W.codeIn K cd22 "_law_do" = true) (k22 : PySem.W.keepIn K (.ref f22) = true)
    {f23 : Addr} {od23 an23 : Option Addr} {sl23 : Array (Option Value)} {oc23 kV23 dc23 pm23 cd23 ct23 : Value}
    (a23 : PySem.W.nsIn K mainGlobals "_law_through" = some (some (.ref f23)))
    (l23 : K.lookup f23 = some ⟨oc23, od23, .func (PySem.W.fnOf "_law_through" "_law_through" (defArgs s__law_through) (defBody s__law_through) (defScope s__law_through) .none kV23 dc23 pm23 an23 cd23 ct23), sl23⟩) (c23 : PySem.W.codeIn K cd23 "_law_through" = true) (k23 : PySem.W.keepIn K (.ref f23) = true)
    {f24 : Addr} {od24 an24 : Option Addr} {sl24 : Array (Option Value)} {oc24 kV24 dc24 pm24 cd24 ct24 : Value}
    (a24 : PySem.W.nsIn K mainGlobals "_law_begun" = some (some (.ref f24)))
    (l24 : K.lookup f24 = some ⟨oc24, od24, .func (PySem.W.fnOf "_law_begun" "_law_begun" (defArgs s__law_begun) (defBody s__law_begun) (defScope s__law_begun) .none kV24 dc24 pm24 an24 cd24 ct24), sl24⟩) (c24 : PySem.W.codeIn K cd24 "_law_begun" = true) (k24 : PySem.W.keepIn K (.ref f24) = true)
    {f25 : Addr} {od25 an25 : Option Addr} {sl25 : Array (Option Value)} {oc25 kV25 dc25 pm25 cd25 ct25 : Value}
    (a25 : PySem.W.nsIn K mainGlobals "_law_run" = some (some (.ref f25)))
    (l25 : K.lookup f25 = some ⟨oc25, od25, .func (PySem.W.fnOf "_law_run" "_law_run" (defArgs s__law_run) (defBody s__law_run) (defScope s__law_run) .none kV25 dc25 pm25 an25 cd25 ct25), sl25⟩) (c25 : PySem.W.codeIn K cd25 "_law_run" = true) (k25 : PySem.W.keepIn K (.ref f25) = true)
    {f26 : Addr} {od26 an26 : Option Addr} {sl26 : Array (Option Value)} {oc26 kV26 dc26 pm26 cd26 ct26 : Value}
    (a26 : PySem.W.nsIn K mainGlobals "_law_fine_operand" = some (some (.ref f26)))
    (l26 : K.lookup f26 = some ⟨oc26, od26, .func (PySem.W.fnOf "_law_fine_operand" "_law_fine_operand" (defArgs s__law_fine_operand) (defBody s__law_fine_operand) (defScope s__law_fine_operand) .none kV26 dc26 pm26 an26 cd26 ct26), sl26⟩) (c26 : PySem.W.codeIn K cd26 "_law_fine_operand" = true) (k26 : PySem.W.keepIn K (.ref f26) = true)
    {f27 : Addr} {od27 an27 : Option Addr} {sl27 : Array (Option Value)} {oc27 kV27 dc27 pm27 cd27 ct27 : Value}
    (a27 : PySem.W.nsIn K mainGlobals "_law_fine_deed" = some (some (.ref f27)))
    (l27 : K.lookup f27 = some ⟨oc27, od27, .func (PySem.W.fnOf "_law_fine_deed" "_law_fine_deed" (defArgs s__law_fine_deed) (defBody s__law_fine_deed) (defScope s__law_fine_deed) .none kV27 dc27 pm27 an27 cd27 ct27), sl27⟩) (c27 : PySem.W.codeIn K cd27 "_law_fine_deed" = true) (k27 : PySem.W.keepIn K (.ref f27) = true)
    {f28 : Addr} {od28 an28 : Option Addr} {sl28 : Array (Option Value)} {oc28 kV28 dc28 pm28 cd28 ct28 : Value}
    (a28 : PySem.W.nsIn K mainGlobals "_law_fine_ending" = some (some (.ref f28)))
    (l28 : K.lookup f28 = some ⟨oc28, od28, .func (PySem.W.fnOf "_law_fine_ending" "_law_fine_ending" (defArgs s__law_fine_ending) (defBody s__law_fine_ending) (defScope s__law_fine_ending) .none kV28 dc28 pm28 an28 cd28 ct28), sl28⟩) (c28 : PySem.W.codeIn K cd28 "_law_fine_ending" = true) (k28 : PySem.W.keepIn K (.ref f28) = true)
    {f29 : Addr} {od29 an29 : Option Addr} {sl29 : Array (Option Value)} {oc29 kV29 dc29 pm29 cd29 ct29 : Value}
    (a29 : PySem.W.nsIn K mainGlobals "_law_fine" = some (some (.ref f29)))
    (l29 : K.lookup f29 = some ⟨oc29, od29, .func (PySem.W.fnOf "_law_fine" "_law_fine" (defArgs s__law_fine) (defBody s__law_fine) (defScope s__law_fine) .none kV29 dc29 pm29 an29 cd29 ct29), sl29⟩) (c29 : PySem.W.codeIn K cd29 "_law_fine" = true) (k29 : PySem.W.keepIn K (.ref f29) = true)
    {f30 : Addr} {od30 an30 : Option Addr} {sl30 : Array (Option Value)} {oc30 kV30 dc30 pm30 cd30 ct30 : Value}
    (a30 : PySem.W.nsIn K mainGlobals "_law_next" = some (some (.ref f30)))
    (l30 : K.lookup f30 = some ⟨oc30, od30, .func (PySem.W.fnOf "_law_next" "_law_next" (defArgs s__law_next) (defBody s__law_next) (defScope s__law_next) .none kV30 dc30 pm30 an30 cd30 ct30), sl30⟩) (c30 : PySem.W.codeIn K cd30 "_law_next" = true) (k30 : PySem.W.keepIn K (.ref f30) = true)
    {f31 : Addr} {od31 an31 : Option Addr} {sl31 : Array (Option Value)} {oc31 kV31 dc31 pm31 cd31 ct31 : Value}
    (a31 : PySem.W.nsIn K mainGlobals "_law_blocks_run" = some (some (.ref f31)))
    (l31 : K.lookup f31 = some ⟨oc31, od31, .func (PySem.W.fnOf "_law_blocks_run" "_law_blocks_run" (defArgs s__law_blocks_run) (defBody s__law_blocks_run) (defScope s__law_blocks_run) .none kV31 dc31 pm31 an31 cd31 ct31), sl31⟩) (c31 : PySem.W.codeIn K cd31 "_law_blocks_run" = true) (k31 : PySem.W.keepIn K (.ref f31) = true)
    {f32 : Addr} {od32 an32 : Option Addr} {sl32 : Array (Option Value)} {oc32 kV32 dc32 pm32 cd32 ct32 : Value}
    (a32 : PySem.W.nsIn K mainGlobals "_law_choices" = some (some (.ref f32)))
    (l32 : K.lookup f32 = some ⟨oc32, od32, .func (PySem.W.fnOf "_law_choices" "_law_choices" (defArgs s__law_choices) (defBody s__law_choices) (defScope s__law_choices) .none kV32 dc32 pm32 an32 cd32 ct32), sl32⟩) (c32 : PySem.W.codeIn K cd32 "_law_choices" = true) (k32 : PySem.W.keepIn K (.ref f32) = true)
    {f33 : Addr} {od33 an33 : Option Addr} {sl33 : Array (Option Value)} {oc33 kV33 dc33 pm33 cd33 ct33 : Value}
    (a33 : PySem.W.nsIn K mainGlobals "law" = some (some (.ref f33)))
    (l33 : K.lookup f33 = some ⟨oc33, od33, .func (PySem.W.fnOf "law" "law" (defArgs s_law) (defBody s_law) (defScope s_law) .none kV33 dc33 pm33 an33 cd33 ct33), sl33⟩) (c33 : PySem.W.codeIn K cd33 "law" = true) (k33 : PySem.W.keepIn K (.ref f33) = true)
    (z_range : PySem.W.nsIn K mainGlobals "range" = some none)
    (z_isinstance : PySem.W.nsIn K mainGlobals "isinstance" = some none)
    (z_int : PySem.W.nsIn K mainGlobals "int" = some none)
    (z_bool : PySem.W.nsIn K mainGlobals "bool" = some none)
    (z_len : PySem.W.nsIn K mainGlobals "len" = some none)
    (z_str : PySem.W.nsIn K mainGlobals "str" = some none)
    (z_tuple : PySem.W.nsIn K mainGlobals "tuple" = some none)
    (z_sum : PySem.W.nsIn K mainGlobals "sum" = some none)
    (z_list : PySem.W.nsIn K mainGlobals "list" = some none)
    (z_min : PySem.W.nsIn K mainGlobals "min" = some none)
    (z_reversed : PySem.W.nsIn K mainGlobals "reversed" = some none)
    : ∃ t : Ad, Txt K mg t := by
  have F0 := fun_mk (st := s_blocks_of) l0 c0 k0
  have b0 := F0.binds (ps := ["program"]) fun _ _ _ _ _ _ us hl => by obtain ⟨_, rfl⟩ := len_1 hl; rfl
  have F1 := fun_mk (st := s_Parting___init__) l1 c1 k1
  have b1 := F1.binds (ps := ["self"]) fun _ _ _ _ _ _ us hl => by obtain ⟨_, rfl⟩ := len_1 hl; rfl
  have F2 := fun_mk (st := s_Parting_keep_place) l2 c2 k2
  have b2 := F2.binds (ps := ["self"]) fun _ _ _ _ _ _ us hl => by obtain ⟨_, rfl⟩ := len_1 hl; rfl
  have F3 := fun_mk (st := s_Parting_numbered) l3 c3 k3
  have b3 := F3.binds (ps := ["self", "block"]) fun _ _ _ _ _ _ us hl => by obtain ⟨_, _, rfl⟩ := len_2 hl; rfl
  have F4 := fun_mk (st := s_Parting_way_to) l4 c4 k4
  have b4 := F4.binds (ps := ["self", "block"]) fun _ _ _ _ _ _ us hl => by obtain ⟨_, _, rfl⟩ := len_2 hl; rfl
  have F5 := fun_mk (st := s_Parting_opened) l5 c5 k5
  have b5 := F5.binds (ps := ["self", "rows", "block"]) fun _ _ _ _ _ _ us hl => by obtain ⟨_, _, _, rfl⟩ := len_3 hl; rfl
  have F6 := fun_mk (st := s_Parting_with_row) l6 c6 k6
  have b6 := F6.binds (ps := ["self", "row", "block"]) fun _ _ _ _ _ _ us hl => by obtain ⟨_, _, _, rfl⟩ := len_3 hl; rfl
  have F7 := fun_mk (st := s_Parting_with_if) l7 c7 k7
  have b7 := F7.binds (ps := ["self", "row", "block"]) fun _ _ _ _ _ _ us hl => by obtain ⟨_, _, _, rfl⟩ := len_3 hl; rfl
  have F8 := fun_mk (st := s_Parting_with_while) l8 c8 k8
  have b8 := F8.binds (ps := ["self", "row", "block"]) fun _ _ _ _ _ _ us hl => by obtain ⟨_, _, _, rfl⟩ := len_3 hl; rfl
  have F9 := fun_mk (st := s_Program___init__) l9 c9 k9
  have b9 := F9.binds (ps := ["self", "width", "ins", "boxes", "rows"]) fun _ _ _ _ _ _ us hl => by obtain ⟨_, _, _, _, _, rfl⟩ := len_5 hl; rfl
  have F10 := fun_mk (st := s_copied) l10 c10 k10
  have b10 := F10.binds (ps := ["rows"]) fun _ _ _ _ _ _ us hl => by obtain ⟨_, rfl⟩ := len_1 hl; rfl
  have F11 := fun_mk (st := s_copied_row) l11 c11 k11
  have b11 := F11.binds (ps := ["row"]) fun _ _ _ _ _ _ us hl => by obtain ⟨_, rfl⟩ := len_1 hl; rfl
  have F12 := fun_mk (st := s__law_whole) l12 c12 k12
  have b12 := F12.binds (ps := ["_law_found"]) fun _ _ _ _ _ _ us hl => by obtain ⟨_, rfl⟩ := len_1 hl; rfl
  have F13 := fun_mk (st := s__law_at) l13 c13 k13
  have b13 := F13.binds (ps := ["_law_script", "_law_k"]) fun _ _ _ _ _ _ us hl => by obtain ⟨_, _, rfl⟩ := len_2 hl; rfl
  have F14 := fun_mk (st := s__law_mixed) l14 c14 k14
  have b14 := F14.binds (ps := ["_law_cell", "_law_k"]) fun _ _ _ _ _ _ us hl => by obtain ⟨_, _, rfl⟩ := len_2 hl; rfl
  have F15 := fun_mk (st := s__law_names) l15 c15 k15
  have b15 := F15.binds (ps := ["_law_number", "_law_many"]) fun _ _ _ _ _ _ us hl => by obtain ⟨_, _, rfl⟩ := len_2 hl; rfl
  have F16 := fun_mk (st := s__law_operand) l16 c16 k16
  have b16 := F16.binds (ps := ["_law_number", "_law_names_here", "_law_top"]) fun _ _ _ _ _ _ us hl => by obtain ⟨_, _, _, rfl⟩ := len_3 hl; rfl
  have F17 := fun_mk (st := s__law_deed) l17 c17 k17
  have b17 := F17.binds (ps := ["_law_number", "_law_names_here", "_law_top"]) fun _ _ _ _ _ _ us hl => by obtain ⟨_, _, _, rfl⟩ := len_3 hl; rfl
  have F18 := fun_mk (st := s__law_statements) l18 c18 k18
  have b18 := F18.binds (ps := ["_law_numbers", "_law_names_here", "_law_top", "_law_deep"]) fun _ _ _ _ _ _ us hl => by obtain ⟨_, _, _, _, rfl⟩ := len_4 hl; rfl
  have F19 := fun_mk (st := s__law_folds) l19 c19 k19
  have b19 := F19.binds (ps := ["_law_script", "_law_start", "_law_many"]) fun _ _ _ _ _ _ us hl => by obtain ⟨_, _, _, rfl⟩ := len_3 hl; rfl
  have F20 := fun_mk (st := s__law_word) l20 c20 k20
  have b20 := F20.binds (ps := ["_law_operand_here", "_law_boxes"]) fun _ _ _ _ _ _ us hl => by obtain ⟨_, _, rfl⟩ := len_2 hl; rfl
  have F21 := fun_mk (st := s__law_made) l21 c21 k21
  have b21 := F21.binds (ps := ["_law_op", "_law_x", "_law_y", "_law_width"]) fun _ _ _ _ _ _ us hl => by obtain ⟨_, _, _, _, rfl⟩ := len_4 hl; rfl
  have F22 := fun_mk (st := s__law_do) l22 c22 k22
  have b22 := F22.binds (ps := ["_law_deed_here", "_law_before", "_law_boxes", "_law_said", "_law_width"]) fun _ _ _ _ _ _ us hl => by obtain ⟨_, _, _, _, _, rfl⟩ := len_5 hl; rfl
  have F23 := fun_mk (st := s__law_through) l23 c23 k23
  have b23 := F23.binds (ps := ["_law_rows", "_law_boxes", "_law_said", "_law_width", "_law_left"]) fun _ _ _ _ _ _ us hl => by obtain ⟨_, _, _, _, _, rfl⟩ := len_5 hl; rfl
  have F24 := fun_mk (st := s__law_begun) l24 c24 k24
  have b24 := F24.binds (ps := ["_law_drawn_here", "_law_words_here"]) fun _ _ _ _ _ _ us hl => by obtain ⟨_, _, rfl⟩ := len_2 hl; rfl
  have F25 := fun_mk (st := s__law_run) l25 c25 k25
  have b25 := F25.binds (ps := ["_law_drawn_here", "_law_words_here", "_law_most"]) fun _ _ _ _ _ _ us hl => by obtain ⟨_, _, _, rfl⟩ := len_3 hl; rfl
  have F26 := fun_mk (st := s__law_fine_operand) l26 c26 k26
  have b26 := F26.binds (ps := ["_law_found", "_law_names_here", "_law_top"]) fun _ _ _ _ _ _ us hl => by obtain ⟨_, _, _, rfl⟩ := len_3 hl; rfl
  have F27 := fun_mk (st := s__law_fine_deed) l27 c27 k27
  have b27 := F27.binds (ps := ["_law_found", "_law_names_here", "_law_top"]) fun _ _ _ _ _ _ us hl => by obtain ⟨_, _, _, rfl⟩ := len_3 hl; rfl
  have F28 := fun_mk (st := s__law_fine_ending) l28 c28 k28
  have b28 := F28.binds (ps := ["_law_found", "_law_names_here", "_law_many"]) fun _ _ _ _ _ _ us hl => by obtain ⟨_, _, _, rfl⟩ := len_3 hl; rfl
  have F29 := fun_mk (st := s__law_fine) l29 c29 k29
  have b29 := F29.binds (ps := ["_law_found", "_law_drawn_here"]) fun _ _ _ _ _ _ us hl => by obtain ⟨_, _, rfl⟩ := len_2 hl; rfl
  have F30 := fun_mk (st := s__law_next) l30 c30 k30
  have b30 := F30.binds (ps := ["_law_ending", "_law_boxes"]) fun _ _ _ _ _ _ us hl => by obtain ⟨_, _, rfl⟩ := len_2 hl; rfl
  have F31 := fun_mk (st := s__law_blocks_run) l31 c31 k31
  have b31 := F31.binds (ps := ["_law_found", "_law_drawn_here", "_law_words_here", "_law_most"]) fun _ _ _ _ _ _ us hl => by obtain ⟨_, _, _, _, rfl⟩ := len_4 hl; rfl
  have F32 := fun_mk (st := s__law_choices) l32 c32 k32
  have b32 := F32.binds (ps := ["_law_ins", "_law_top"]) fun _ _ _ _ _ _ us hl => by obtain ⟨_, _, rfl⟩ := len_2 hl; rfl
  have F33 := fun_mk (st := s_law) l33 c33 k33
  have b33 := F33.binds (ps := ["_law_script"]) fun _ _ _ _ _ _ us hl => by obtain ⟨_, rfl⟩ := len_1 hl; rfl
  exact ⟨⟨_, _, _, _, _, _, _, _, _, _, _, _, _, _, _, _, _, _, _, _, _, _, _, _, _, _, _, _, _, _, _, _, _, _, _, _, _, _, _, _, _, _, _, _, _, _, _, _, _, _, _, _, _, _, _, _, _, _, _, _, _, _, _, _, _, _, _, _, _, _, _⟩, ⟨PySem.W.mg_of X G aK_MOST_DEEDS, ⟨⟨pg_Parting, hd_Parting, po_Parting, sa_Parting⟩, mk_Parting, kc_Parting, PySem.W.mg_of X G aC_Parting⟩, n_Parting_blocks, ⟨⟨pg_Program, hd_Program, po_Program, sa_Program⟩, mk_Program, kc_Program, PySem.W.mg_of X G aC_Program⟩, n_Program_width, n_Program_ins, n_Program_boxes, n_Program_rows, ⟨F0, b0, PySem.W.mg_of X G a0⟩, ⟨F1, b1, ⟨a1, i1, k1⟩⟩, ⟨F2, b2, ⟨a2, i2, k2⟩⟩, ⟨F3, b3, ⟨a3, i3, k3⟩⟩, ⟨F4, b4, ⟨a4, i4, k4⟩⟩, ⟨F5, b5, ⟨a5, i5, k5⟩⟩, ⟨F6, b6, ⟨a6, i6, k6⟩⟩, ⟨F7, b7, ⟨a7, i7, k7⟩⟩, ⟨F8, b8, ⟨a8, i8, k8⟩⟩, ⟨F9, b9, ⟨a9, i9, k9⟩⟩, ⟨F10, b10, PySem.W.mg_of X G a10⟩, ⟨F11, b11, PySem.W.mg_of X G a11⟩, ⟨F12, b12, PySem.W.mg_of X G a12⟩, ⟨F13, b13, PySem.W.mg_of X G a13⟩, ⟨F14, b14, PySem.W.mg_of X G a14⟩, ⟨F15, b15, PySem.W.mg_of X G a15⟩, ⟨F16, b16, PySem.W.mg_of X G a16⟩, ⟨F17, b17, PySem.W.mg_of X G a17⟩, ⟨F18, b18, PySem.W.mg_of X G a18⟩, ⟨F19, b19, PySem.W.mg_of X G a19⟩, ⟨F20, b20, PySem.W.mg_of X G a20⟩, ⟨F21, b21, PySem.W.mg_of X G a21⟩, ⟨F22, b22, PySem.W.mg_of X G a22⟩, ⟨F23, b23, PySem.W.mg_of X G a23⟩, ⟨F24, b24, PySem.W.mg_of X G a24⟩, ⟨F25, b25, PySem.W.mg_of X G a25⟩, ⟨F26, b26, PySem.W.mg_of X G a26⟩, ⟨F27, b27, PySem.W.mg_of X G a27⟩, ⟨F28, b28, PySem.W.mg_of X G a28⟩, ⟨F29, b29, PySem.W.mg_of X G a29⟩, ⟨F30, b30, PySem.W.mg_of X G a30⟩, ⟨F31, b31, PySem.W.mg_of X G a31⟩, ⟨F32, b32, PySem.W.mg_of X G a32⟩, ⟨F33, b33, PySem.W.mg_of X G a33⟩, PySem.W.mg_none_of X G z_range, PySem.W.mg_none_of X G z_isinstance, PySem.W.mg_none_of X G z_int, PySem.W.mg_none_of X G z_bool, PySem.W.mg_none_of X G z_len, PySem.W.mg_none_of X G z_str, PySem.W.mg_none_of X G z_tuple, PySem.W.mg_none_of X G z_sum, PySem.W.mg_none_of X G z_list, PySem.W.mg_none_of X G z_min, PySem.W.mg_none_of X G z_reversed⟩⟩
end K22
set_option maxHeartbeats 4000000
namespace K22
open PySem L2 PyProof.Rows FD FB FS FO FR FG
noncomputable def Later (u : TS) (D : Ends) : L2.St → Hp → Prop := u D
theorem later {u : TS} {D : Ends} {σ : L2.St} {H : Hp} (h : u D σ H) : Later u D σ H := h
theorem r_seqL {t u : TS} {D : Ends} {σ : L2.St} {H : Hp} : tSeq t u D σ H = t { D with nx := Later u D } σ H := rfl
theorem r_midL {t u : TS} {D : Ends} {σ : L2.St} {H : Hp} : tMid t u D σ H = ∃ Mid : L2.St → Hp → Prop, t { D with nx := Mid } σ H ∧ ∀ σ' H', Mid σ' H' → Later u D σ' H' := rfl
theorem r_ifSL {c : TT} {t u : TS} {D : Ends} {σ : L2.St} {H : Hp} : tIfS c t u D σ H = c σ H fun b H1 => if b = true then Later t D σ H1 else Later u D σ H1 := rfl
end K22
set_option maxHeartbeats 4000000
namespace K22
open PySem L2 PyProof.Rows FD FB FS FO FR FG
noncomputable def sp_mixed : Sp := fun vs H Q _ => ∃ c k : Int, vs = [.int c, .int k] ∧ Builtin.Int.intBits c ≤ 2 ^ 20 ∧ 0 ≤ k ∧ k ≤ 1000 ∧ Q (.int (mixed c k)) H
theorem r_mixed {c k : Int} {H : Hp} {Q : VK} {E : XK} : sp_mixed [.int c, .int k] H Q E = (Builtin.Int.intBits c ≤ 2 ^ 20 ∧ 0 ≤ k ∧ k ≤ 1000 ∧ Q (.int (mixed c k)) H) := propext ⟨by rintro ⟨_, _, e, q⟩; cases e; exact q, by intro q; exact ⟨c, k, rfl, q⟩⟩
noncomputable def sp_at (K : PySem.W.Frag) : Sp := fun vs H Q _ => ∃ (a : Addr) (ns : List Int) (k : Int), vs = [.ref a, .int k] ∧ SqL K H a (ns.map V.int) ∧ 0 ≤ k ∧ Q (.int (atF ns k)) H
section
variable {P : Program} {w : World} {K : PySem.W.Frag} {mg : Str → Option Value} {base : Heap} {t : Ad}
theorem r_at {a : Addr} {k : Int} {H : Hp} {Q : VK} {E : XK} : sp_at K [.ref a, .int k] H Q E = ∃ ns : List Int, SqL K H a (ns.map V.int) ∧ 0 ≤ k ∧ Q (.int (atF ns k)) H := propext ⟨by rintro ⟨_, ns, _, e, q⟩; cases e; exact ⟨ns, q⟩, by rintro ⟨ns, q⟩; exact ⟨a, ns, k, rfl, q⟩⟩
theorem ok_mixed (T : Txt K mg t) : FnOk P w K mg base CX0 1 t.f__law_mixed t.e__law_mixed ["_law_cell", "_law_k"] sp_mixed := by
  refine T.d__law_mixed.F.ok sc__law_mixed (fun vs H Q E h => by obtain ⟨_, _, rfl, _⟩ := h; rfl) (fun cdv A outer s H vs Q E hr h => ?_)
  obtain ⟨c, k, rfl, hb, k0, k1, q⟩ := h
  refine ⟨_,
      (XSs.h
      (xpss_cons
        (xps_if (xpt_cmpR yop_ge (yqv 0 vl) (xpe_op yop_pow xpe_int xpe_int) (nomark _))
          (xpss_one
            (xps_ret (xpe_op yop_mod (xpe_op yop_fdivB (xpe_op yop_sub (yqv 0 vl) (xpe_op yop_pow xpe_int xpe_int)) (xpe_op yop_shl xpe_int (xpe_op yop_mul xpe_int (xpe_op yop_mod (yqv 1 vl) xpe_int)))) (xpe_op yop_shl xpe_int xpe_int))))
          xpss_nil)
      (xpss_cons
        (xps_set (i := 2) sc__law_mixed.nd rfl ll (xpe_op yop_mod (xpe_op yop_add (xpe_op yop_add (xpe_op yop_mul (yqv 0 vl) xpe_int) (xpe_op yop_mul (xpe_op yop_mul xpe_int (yqv 1 vl)) (yqv 1 vl))) (yqv 1 vl)) xpe_int))
      (xpss_cons
        (xps_set (i := 2) sc__law_mixed.nd rfl ll (xpe_op yop_mod (xpe_op yop_mul (yqv 2 vl) (yqv 2 vl)) xpe_int))
      (xpss_one
        (xps_ret (xpe_op yop_mod (xpe_op yop_mul (yqv 2 vl) xpe_int) xpe_int))))))), ?_⟩
  rw [show start _ [V.int c, V.int k] = [some (.int c), some (.int k), none] from rfl]
  simp_arith [r_listRng, r_kget1, r_iEnumT]
  unfold mixed at q
  have cp : CPow 10 40 := ⟨by decide, by decide, by decide⟩
  refine ⟨cp, ite_dec (fun e => ?_) (fun e => ?_)⟩
  · rw [if_pos e] at q
    have m0 : 0 ≤ k % 60 := Int.emod_nonneg _ (by decide)
    have m1 : k % 60 < 60 := Int.emod_lt_of_pos _ (by decide)
    refine ⟨cp, .inl ⟨by decide, by decide⟩, ⟨by omega, by omega, by decide⟩, FA.CDivB.pow (by omega), ⟨by decide, by decide, by decide⟩, by decide, q⟩
  · rw [if_neg e] at q
    have n0 : 0 ≤ (c * 1103515245 + 7919 * k * k + k) % 2147483647 := Int.emod_nonneg _ (by decide)
    have n1 : (c * 1103515245 + 7919 * k * k + k) % 2147483647 < 2147483647 := Int.emod_lt_of_pos _ (by decide)
    refine ⟨.inr ⟨by decide, by decide⟩, .inl ⟨by decide, by decide⟩, .inr ⟨by omega, by omega⟩, .inl ⟨by omega, by omega⟩, .inr ⟨by decide, by decide⟩, q⟩
theorem ok_at (T : Txt K mg t) : FnOk P w K mg base CX0 1 t.f__law_at t.e__law_at ["_law_script", "_law_k"] (sp_at K) := by
  refine T.d__law_at.F.ok sc__law_at (fun vs H Q E h => by obtain ⟨_, _, _, rfl, _⟩ := h; rfl) (fun cdv A outer s H vs Q E hr h => ?_)
  obtain ⟨a, ns, k, rfl, hS, k0, q⟩ := h
  refine ⟨_,
      (XSs.h
      (xpss_cons
        (xps_if (xpt_cmpR yop_lt (yqv 1 vl) (xqe_callB call_len_seq gl T.z_len PySem.boot_len (xpa_cons (yqv 0 vl) xpa_nil)) (nomark _))
          (xpss_one
            (xps_ret (xpe_ix ix_list (yqv 0 vl) (yqv 1 vl) (fun _ _ => rfl))))
          xpss_nil)
      (xpss_one
        (xps_ret xpe_int)))), ?_⟩
  rw [show start _ [V.ref a, V.int k] = [some (.ref a), some (.int k)] from rfl]
  simp_arith [r_listRng, r_kget1, r_iEnumT]
  unfold atF at q
  refine ⟨_, .inl hS, ite_dec (fun e => ?_) (fun e => ?_)⟩
  · rw [List.length_map] at e
    rw [if_pos e] at q
    obtain ⟨n, rfl⟩ := Int.eq_ofNat_of_zero_le k0
    have hn : n < ns.length := by omega
    refine ⟨_, _, hS, atI_nat (by rw [List.getElem?_map, List.getElem?_eq_getElem hn]; rfl), ?_⟩
    rw [Int.toNat_natCast, List.getD_eq_getElem?_getD, List.getElem?_eq_getElem hn] at q
    exact q
  · rw [List.length_map] at e
    rw [if_neg e] at q
    exact q
end
end K22
set_option maxHeartbeats 4000000
namespace K22
open PySem L2 PyProof.Rows FD FB FS FO FR FG
noncomputable def sp_law (K : PySem.W.Frag) : Sp := fun vs H Q _ => ∃ (a : Addr) (ns : List Int), vs = [.ref a] ∧ SqL K H a (ns.map V.int) ∧ ns.length ≤ 63 ∧ (∀ z ∈ ns, Builtin.Int.intBits z ≤ 2 ^ 20) ∧ ∀ H', Q (.bl true) H'
noncomputable def sp_whole (K : PySem.W.Frag) : Sp := fun vs H Q _ => ∃ (x : V) (k : String), vs = [x] ∧ KindV K H x k ∧ Q (.bl (decide (k = "int"))) H
section
variable {P : Program} {w : World} {K : PySem.W.Frag} {mg : Str → Option Value} {base : Heap} {t : Ad}
theorem ok_whole (T : Txt K mg t) : FnOk P w K mg base CX0 1 t.f__law_whole t.e__law_whole ["_law_found"] (sp_whole K) := by
  refine T.d__law_whole.F.ok sc__law_whole (fun vs H Q E h => by obtain ⟨_, _, rfl, _⟩ := h; rfl) (fun cdv A outer s H vs Q E hr h => ?_)
  obtain ⟨x, k, rfl, hk, q⟩ := h
  refine ⟨_,
      (XSs.h
      (xpss_one
        (xps_ret (xpe_and (xqe_callB call_isi gl T.z_isinstance boot_isinstance (xpa_cons (yqv 0 vl) (xpa_cons (xqe_bltn (v := .ty "int") gl T.z_int boot_int rfl) xpa_nil))) (xpe_one (xpe_not (xqe_callB call_isi gl T.z_isinstance boot_isinstance (xpa_cons (yqv 0 vl) (xpa_cons (xqe_bltn (v := .ty "bool") gl T.z_bool boot_bool rfl) xpa_nil))))))))), ?_⟩
  rw [show start _ [x] = [some x] from rfl]
  simp_arith [r_listRng, r_kget1, r_iEnumT]
  refine ⟨x, "int", k, rfl, by decide +kernel, hk, _, rfl, ite_bool (fun e => ⟨x, "bool", k, rfl, by decide +kernel, hk, _, rfl, ?_⟩) (fun e => ?_)⟩
  · have h : k = "int" ∨ k = "bool" := by
      unfold kindIs at e
      rw [Bool.or_eq_true, Bool.and_eq_true] at e
      rcases e with e | e
      · exact .inl (by simpa using e)
      · exact .inr (by simpa using e.1)
    rcases h with rfl | rfl
    · exact q
    · exact q
  · have h : ¬ k = "int" := fun z => by subst z; exact absurd e (by decide +kernel)
    rw [decide_eq_false h] at q
    exact q
theorem r_whole_i {i : Int} {H : Hp} {Q : VK} {E : XK} : sp_whole K [.int i] H Q E = Q (.bl true) H := propext ⟨by rintro ⟨_, _, e, k, q⟩; cases e; cases k; exact q, by intro q; exact ⟨_, _, rfl, .int, q⟩⟩
end
end K22
set_option maxHeartbeats 4000000
namespace K22
open PySem L2 PyProof.Rows FD FB FS FO FR FG
noncomputable def sp_names : Sp := fun vs H Q _ => ∃ n m : Int, vs = [.int n, .int m] ∧ 0 ≤ n ∧ 0 ≤ m ∧ m ≤ 8 ∧ ∀ p H', Same H H' → H p = none → H' p = some (.lst ((namesB n m.toNat).map V.str)) → Q (.ref p) H'
theorem r_names {n m : Int} {H : Hp} {Q : VK} {E : XK} : sp_names [.int n, .int m] H Q E = (0 ≤ n ∧ 0 ≤ m ∧ m ≤ 8 ∧ ∀ p H', Same H H' → H p = none → H' p = some (.lst ((namesB n m.toNat).map V.str)) → Q (.ref p) H') := propext ⟨by rintro ⟨_, _, e, q⟩; cases e; exact q, by intro q; exact ⟨n, m, rfl, q⟩⟩
section
variable {P : Program} {w : World} {K : PySem.W.Frag} {mg : Str → Option Value} {base : Heap} {t : Ad}
theorem some_vs {n : Int} : (List.range (1 + n % 6).toNat).map (fun i : Nat => V.int (n / ((i : Int) + 1) % 26)) = (someF n).map V.int := by unfold someF; rw [List.map_map]; rfl
noncomputable def spotF (n : Int) (j : Nat) : List Int := (List.range (someF n).length).map fun k : Nat => (someF n).getD k 0 + 3 * (j : Int) * (if decide ((k : Int) = n / 64 % ((someF n).length : Int)) = true then 1 else 0)
theorem spot_name {n : Int} {j : Nat} : Txt.join "" ((spotF n j).map letter) = nameB n j := by unfold spotF nameB; rw [List.map_map]; rfl
theorem letter_len {z : Int} : (letter z).length = 1 := rfl
theorem sum_ones {xs : List Int} : ((xs.map letter).map (·.length)).sum = xs.length := by
  induction xs with
  | nil => rfl
  | cons x xs ih => rw [List.map_cons, List.map_cons, List.sum_cons, ih, letter_len, List.length_cons]; omega
theorem ok_names (T : Txt K mg t) : FnOk P w K mg base CX0 1 t.f__law_names t.e__law_names ["_law_number", "_law_many"] sp_names := by
  refine T.d__law_names.F.ok sc__law_names (fun vs H Q E h => by obtain ⟨_, _, rfl, _⟩ := h; rfl) (fun cdv A outer s H vs Q E hr h => ?_)
  obtain ⟨n, m, rfl, n0, m0, m8, q⟩ := h
  refine ⟨_,
      (XSs.h
      (xpss_cons
        (xps_set (i := 2) sc__law_names.nd rfl lc xpe_str)
      (xpss_cons
        (xps_set (i := 3) sc__law_names.nd rfl lc (xpe_compG (tns := ["_law_k"]) (cns := ["_law_number"]) (ci := [0]) rfl (CompSc.of (by kernel_rfl)) (xpi_range1 gl T.z_range (xpa_cons (xpe_op yop_add xpe_int (xpe_op yop_mod (yqv 0 vc) xpe_int)) xpa_nil)) (fun _ => (xpg_name (i := 1) (show List.Nodup [(".0" : Str), ("_law_k" : Str), ("_law_number" : Str)] by decide +kernel) rfl ll (Or.inr (by kernel_rfl)))) (fun _ => xpf_nil) (fun _ => (xpe_op yop_mod (xpe_op yop_fdivB (yqv 2 vc) (xpe_op yop_add (yqv 1 vl) xpe_int)) xpe_int))))
      (xpss_cons
        (xps_set (i := 4) sc__law_names.nd rfl lc (xpe_op yop_mod (xpe_op yop_fdivB (yqv 0 vc) xpe_int) (xqe_callB call_len_seq gl T.z_len PySem.boot_len (xpa_cons (yqv 3 vc) xpa_nil))))
      (xpss_cons
        (xps_set (i := 5) sc__law_names.nd rfl ll (xpe_lst xpa_nil))
      (xpss_cons
        (xps_for PassesOwn.never rfl (xpi_range1 gl T.z_range (xpa_cons (yqv 1 vl) xpa_nil)) (xpg_name (i := 6) sc__law_names.nd rfl lc)
          (xpss_cons
            (xps_setComp (i := 7) sc__law_names.nd rfl ll rfl (by kernel_rfl) (tns := ["_law_k"]) (cns := ["_law_some", "_law_at_here", "_law_j"]) (ci := [3, 4, 6]) rfl (CompSc.of (by kernel_rfl)) (xpi_range1 gl T.z_range (xpa_cons (xqe_callB call_len_seq gl T.z_len PySem.boot_len (xpa_cons (yqv 3 vc) xpa_nil)) xpa_nil)) (fun _ => (xpg_name (i := 1) (show List.Nodup [(".0" : Str), ("_law_k" : Str), ("_law_some" : Str), ("_law_at_here" : Str), ("_law_j" : Str)] by decide +kernel) rfl ll (Or.inr (by kernel_rfl)))) (fun _ => xpf_nil) (fun _ => (xpe_op yop_add (xpe_ix ix_list (yqv 2 vc) (yqv 1 vl) (fun _ _ => rfl)) (xpe_op yop_mul (xpe_op yop_mul xpe_int (yqv 4 vc)) (xqe_callTy call_int1 gl T.z_int boot_int (xpa_cons (xpe_cmpR op_eq (yqv 1 vl) (yqv 3 vc) (nomark _)) xpa_nil))))))
          (xpss_one
            (xps_expr (xpe_bm PySem.F.plainAttrs_list PySem.F.slot_list_append PySem.F.type_list_append mt_append (yqv 5 vl) (xpa_cons (xpe_bm PySem.F.plainAttrs_str PySem.F.slot_str_join PySem.F.type_str_join mt_join xpe_str (xpa_cons (xpe_compG (tns := ["_law_spot"]) (cns := ["_law_letters"]) (ci := [2]) rfl (CompSc.of (by kernel_rfl)) (xpi_list (yqv 7 vl)) (fun _ => (xpg_name (i := 1) (show List.Nodup [(".0" : Str), ("_law_spot" : Str), ("_law_letters" : Str)] by decide +kernel) rfl ll (Or.inr (by kernel_rfl)))) (fun _ => xpf_nil) (fun _ => (xpe_ix ix_str (yqv 2 vc) (xpe_op yop_mod (yqv 1 vl) xpe_int) (fun _ _ => rfl)))) xpa_nil)) xpa_nil))))))
      (xpss_cons
        (xps_if (xpt_cmpR op_eq (xpe_op yop_mod (xpe_op yop_fdivB (yqv 0 vc) xpe_int) xpe_int) xpe_int (nomark _))
          (xpss_one
            (xps_set (i := 5) sc__law_names.nd rfl ll (xpe_slice sl_list (xpe_lst (xpa_const (by rfl))) xpo_none (xpo_some (yqv 1 vl)))))
          xpss_nil)
      (xpss_one
        (xps_ret (yqv 5 vl)))))))))), ?_⟩
  rw [show start _ [V.int n, V.int m] = [some (.int n), some (.int m), none, none, none, none, none, none] from rfl]
  simp_arith [r_listRng, r_kget1, r_iEnumT]
  have z0 : 0 ≤ n % 6 := Int.emod_nonneg _ (by decide)
  have z1 : n % 6 < 6 := Int.emod_lt_of_pos _ (by decide)
  have hln := someF_length n
  have hl1 : 1 ≤ (someF n).length ∧ (someF n).length ≤ 6 := by omega
  refine ⟨by omega, by omega, fun acc hacc bk => cg_mapR (fun i => V.int (n / ((i : Int) + 1) % 26)) (by rw [sizeLine_eq]; omega) hacc (fun i hi H3 Q' s3 h => ?_) ?_⟩
  · simp_arith [r_listRng, r_kget1, r_iEnumT]
    exact ⟨CDivB.small (by omega) (by omega), h⟩
  rw [some_vs]
  unfold namesB at q
  have sA : Same H (upd H acc (.lst ((someF n).map V.int))) := Same.upd hacc
  refine ⟨CDivB.small (by decide) (by decide), _, .inl (SqL.of upd_same), by rw [List.length_map]; omega, fun p0 hp0 => ⟨by omega, by omega, ?_⟩⟩
  have hq0 : H p0 = none := sA.free hp0
  rw [List.length_map]
  refine fw_range0 (fun j σ H' => Same (upd H acc (.lst ((someF n).map V.int))) H' ∧ H' p0 = some (.lst ((List.range j).map fun i => V.str (nameB n i))) ∧ ∃ o6 o7, σ = [some (.int n), some (.int m), some (.str "abcdefghijklmnopqrstuvwxyz"), some (.ref acc), some (.int (n / 64 % ((someF n).length : Int))), some (.ref p0), o6, o7])
    ⟨Same.upd hp0, upd_same, _, _, rfl⟩ ?_ ?_
  · rintro j σ H' hj ⟨sm, hl, o6, o7, rfl⟩
    simp_arith [r_listRng, r_kget1, r_iEnumT]
    have hA : H' acc = some (.lst ((someF n).map V.int)) := sm _ _ upd_same
    refine ⟨_, .inl (SqL.of hA), by rw [List.length_map]; omega, by rw [List.length_map]; omega, fun b hb bk => ?_⟩
    rw [Int.toNat_natCast, List.length_map]
    refine cg_mapR (fun k => V.int ((someF n).getD k 0 + 3 * (j : Int) * (if decide ((k : Int) = n / 64 % ((someF n).length : Int)) = true then 1 else 0))) (by rw [sizeLine_eq]; omega) hb (fun k hk H3 Q' s3 h => ?_) ?_
    · simp_arith [r_listRng, r_kget1, r_iEnumT]
      refine ⟨_, _, SqL.of (s3 _ _ hA), atI_nat (v := V.int ((someF n).getD k 0)) (by rw [List.getElem?_map, List.getD_eq_getElem?_getD, List.getElem?_eq_getElem hk]; rfl), ?_⟩
      simp_arith [r_listRng, r_kget1, r_iEnumT]
      refine ⟨.inl ⟨by decide, by decide⟩, .inl ⟨by omega, by omega⟩, h⟩
    have e1 : (List.range (someF n).length).map (fun k : Nat => V.int ((someF n).getD k 0 + 3 * (j : Int) * (if decide ((k : Int) = n / 64 % ((someF n).length : Int)) = true then 1 else 0))) = (spotF n j).map V.int := by unfold spotF; rw [List.map_map]; rfl
    rw [e1]
    have s1 := Same.upd (o := .lst ((spotF n j).map V.int)) hb
    have hs6 : (spotF n j).length ≤ 6 := by unfold spotF; simp; omega
    refine ⟨.inl ⟨rfl, _, SqL.of (s1 _ _ hl)⟩, ⟨_, SqL.of upd_same⟩, fun c hc bk2 => ?_⟩
    refine cg_mapL (fun x => match x with | .int i => .str (letter i) | _ => .non) (by rw [List.length_map, sizeLine_eq]; omega) (SqL.of upd_same) hc (fun x hx H3 Q' s3 h => ?_) ?_
    · obtain ⟨i, _, rfl⟩ := List.mem_map.mp hx
      simp_arith [r_listRng, r_kget1, r_iEnumT]
      exact ⟨by decide +kernel, _, FA.let_at i, h⟩
    have e2 : ((spotF n j).map V.int).map (fun x => match x with | .int i => V.str (letter i) | _ => .non) = ((spotF n j).map letter).map V.str := by rw [List.map_map, List.map_map]; rfl
    rw [e2]
    have s2 := s1.updN (o := .lst (((spotF n j).map letter).map V.str)) hc
    refine ⟨_, SqL.of upd_same, ?_, _, s2 _ _ hl, ?_, (sm.trans s2).updM hp0, ?_, _, _, rfl⟩
    · rw [sum_ones, List.length_map]
      have : ("" : Str).length = 0 := by decide +kernel
      rw [this]; omega
    · rw [List.length_map, List.length_range, sizeLine_eq]; omega
    · rw [upd_same, spot_name, List.range_succ, List.map_append]; rfl
  · rintro σ H' ⟨sm, hl, o6, o7, rfl⟩
    simp_arith [r_listRng, r_kget1, r_iEnumT]
    refine ⟨CDivB.small (by decide) (by decide), ite_dec (fun e => ?_) (fun e => ?_)⟩
    · rw [if_pos e] at q
      intro b hb
      refine ⟨_, SqL.of upd_same, fun c hc => ?_⟩
      refine q c _ ((sA.trans sm).trans ((Same.upd hb).updN hc)) ((sA.trans sm).free ((Same.upd hb).free hc)) ?_
      rw [upd_same, cutV_to m0, List.map_take]
      rfl
    · rw [if_neg e] at q
      refine q p0 H' (sA.trans sm) hq0 ?_
      rw [hl, List.map_map]; rfl
end
end K22
set_option maxHeartbeats 4000000
namespace K22
open PySem L2 PyProof.Rows FD FB FS FO FR FG
structure NmsV (K : PySem.W.Frag) (H : Hp) (b : Addr) (ns : List Str) (wd : Int) : Prop where
  at_ : SqL K H b (ns.map V.str)
  pos : 0 < ns.length
  few : ns.length ≤ 8
  w1 : 1 ≤ wd
  w8 : wd ≤ 8
theorem NmsV.same {K : PySem.W.Frag} {H H' : Hp} {b : Addr} {ns : List Str} {wd : Int} (h : NmsV K H b ns wd) (s : Same H H') : NmsV K H' b ns wd := ⟨s.seq h.at_, h.pos, h.few, h.w1, h.w8⟩
noncomputable def bd_opdB (K : PySem.W.Frag) (n : Int) (b : Addr) (top : Int) (H : Hp) (Q : VK) : Prop := ∃ (ns : List Str) (wd : Int), top = 1 * 2 ^ wd.toNat ∧ NmsV K H b ns wd ∧ ∀ (o : Opd) H', Same H H' → Opd.good ns wd o → Q o.v H'
noncomputable def sp_opdB (K : PySem.W.Frag) : Sp := fun vs H Q _ => ∃ (n : Int) (b : Addr) (top : Int), vs = [.int n, .ref b, .int top] ∧ bd_opdB K n b top H Q
section
variable {P : Program} {w : World} {K : PySem.W.Frag} {mg : Str → Option Value} {base : Heap} {t : Ad}
theorem r_opdB {n : Int} {b : Addr} {top : Int} {H : Hp} {Q : VK} {E : XK} : sp_opdB K [.int n, .ref b, .int top] H Q E = bd_opdB K n b top H Q := propext ⟨by rintro ⟨_, _, _, e, q⟩; cases e; exact q, fun q => ⟨_, _, _, rfl, q⟩⟩
theorem name_at {ns : List Str} {x : Int} (h : 0 < ns.length) : ∃ n ∈ ns, atI (ns.map V.str) (x % ((ns.map V.str).length : Int)) = some (V.str n) := by
  have l0 : (0 : Int) < ((ns.map V.str).length : Int) := by rw [List.length_map]; omega
  have h0 := Int.emod_nonneg x (show ((ns.map V.str).length : Int) ≠ 0 by omega)
  have h1 := Int.emod_lt_of_pos x l0
  generalize x % ((ns.map V.str).length : Int) = y at h0 h1
  obtain ⟨m, rfl⟩ : ∃ m : Nat, y = (m : Int) := ⟨y.toNat, by omega⟩
  rw [List.length_map] at h1
  refine ⟨ns[m], List.getElem_mem (by omega), atI_nat ?_⟩
  rw [List.getElem?_map, List.getElem?_eq_getElem (by omega)]; rfl
theorem ok_opdB (T : Txt K mg t) : FnOk P w K mg base CX0 1 t.f__law_operand t.e__law_operand ["_law_number", "_law_names_here", "_law_top"] (sp_opdB K) := by
  refine T.d__law_operand.F.ok sc__law_operand (fun vs H Q E h => by obtain ⟨_, _, _, rfl, _⟩ := h; rfl) (fun cdv A outer s H vs Q E hr h => ?_)
  obtain ⟨n, b, top, rfl, ns, wd, htop, hN, q⟩ := h
  have hp : (0 : Int) < top := by rw [htop, Int.one_mul]; exact Int.pow_pos (by decide)
  refine ⟨_,
      (XSs.h
      (xpss_cons
        (xps_if (xpt_cmpR op_eq (xpe_op yop_mod (yqv 0 vl) xpe_int) xpe_int (nomark _))
          (xpss_one
            (xps_ret (xpe_op yop_mod (xpe_ix ix_list (xpe_lst (xpa_cons (xpe_op yop_mod (xpe_op yop_fdivB (yqv 0 vl) xpe_int) (yqv 2 vl)) (xpa_cons (xpe_op yop_sub (yqv 2 vl) xpe_int) (xpa_const (by rfl))))) (xpe_op yop_mod (xpe_op yop_fdivB (yqv 0 vl) xpe_int) xpe_int) (fun _ _ => rfl)) (yqv 2 vl))))
          xpss_nil)
      (xpss_one
        (xps_ret (xpe_ix ix_list (yqv 1 vl) (xpe_op yop_mod (xpe_op yop_fdivB (yqv 0 vl) xpe_int) (xqe_callB call_len_seq gl T.z_len PySem.boot_len (xpa_cons (yqv 1 vl) xpa_nil))) (fun _ _ => rfl)))))), ?_⟩
  rw [show start _ [V.int n, V.ref b, V.int top] = [some (.int n), some (.ref b), some (.int top)] from rfl]
  simp_arith [r_listRng, r_kget1, r_iEnumT]
  refine ite_dec (fun _ => ⟨CDivB.small (by decide) (by decide), hp, fun p hp0 => ⟨CDivB.small (by decide) (by decide), ?_⟩⟩) (fun _ => ?_)
  · have s1 := Same.upd (o := .lst [V.int (n / 12 % top), V.int (top - 1), V.int 0, V.int 1]) hp0
    obtain ⟨z, hz⟩ : ∃ z : Int, atI [V.int (n / 12 % top), V.int (top - 1), V.int 0, V.int 1] (n / 3 % 4) = some (V.int z) := by
      rcases (by omega : n / 3 % 4 = 0 ∨ n / 3 % 4 = 1 ∨ n / 3 % 4 = 2 ∨ n / 3 % 4 = 3) with e | e | e | e <;> rw [e]
      · exact ⟨_, rfl⟩
      · exact ⟨_, rfl⟩
      · exact ⟨_, rfl⟩
      · exact ⟨_, rfl⟩
    refine ⟨_, _, SqL.of upd_same, hz, hp, q (.word (z % top)) _ s1 ⟨Int.emod_nonneg _ (by omega), ?_⟩⟩
    have := Int.emod_lt_of_pos z hp
    rw [htop, Int.one_mul] at this ⊢
    exact this
  · obtain ⟨m, hm, he⟩ := name_at (ns := ns) (x := n / 3) hN.pos
    exact ⟨CDivB.small (by decide) (by decide), _, .inl hN.at_, by rw [List.length_map]; have := hN.pos; omega, _, _, hN.at_, he, q (.box m) H (Same.refl _) hm⟩
end
end K22
set_option maxHeartbeats 4000000
namespace K22
open PySem L2 PyProof.Rows FD FB FS FO FR FG
noncomputable def bd_deedB (K : PySem.W.Frag) (n : Int) (b : Addr) (top : Int) (H : Hp) (Q : VK) : Prop := ∃ (ns : List Str) (wd : Int), top = 1 * 2 ^ wd.toNat ∧ NmsV K H b ns wd ∧ ∀ (d : Deed) q H', Same H H' → H' q = some (.tup d.vs) → d.fine → Deed.good ns wd d → Q (.ref q) H'
noncomputable def sp_deedB (K : PySem.W.Frag) : Sp := fun vs H Q _ => ∃ (n : Int) (b : Addr) (top : Int), vs = [.int n, .ref b, .int top] ∧ bd_deedB K n b top H Q
section
variable {P : Program} {w : World} {K : PySem.W.Frag} {mg : Str → Option Value} {base : Heap} {t : Ad}
theorem r_deedB {n : Int} {b : Addr} {top : Int} {H : Hp} {Q : VK} {E : XK} : sp_deedB K [.int n, .ref b, .int top] H Q E = bd_deedB K n b top H Q := propext ⟨by rintro ⟨_, _, _, e, q⟩; cases e; exact q, fun q => ⟨_, _, _, rfl, q⟩⟩
theorem ok_deedB (T : Txt K mg t) : FnOk P w K mg base CX0 2 t.f__law_deed t.e__law_deed ["_law_number", "_law_names_here", "_law_top"] (sp_deedB K) := by
  have G__law_operand := ok_opdB (P := P) (w := w) (base := base) T
  refine T.d__law_deed.F.ok sc__law_deed (fun vs H Q E h => by obtain ⟨_, _, _, rfl, _⟩ := h; rfl) (fun cdv A outer s H vs Q E hr h => ?_)
  obtain ⟨n, b, top, rfl, ns, wd, htop, hN, q⟩ := h
  refine ⟨_,
      (XSs.h
      (xpss_cons
        (xps_set (i := 3) sc__law_deed.nd rfl ll (xpe_ix ix_list (yqv 1 vl) (xpe_op yop_mod (xpe_op yop_fdivB (yqv 0 vl) xpe_int) (xqe_callB call_len_seq gl T.z_len PySem.boot_len (xpa_cons (yqv 1 vl) xpa_nil))) (fun _ _ => rfl)))
      (xpss_cons
        (xps_set (i := 4) sc__law_deed.nd rfl ll (xqe_callD T.d__law_operand G__law_operand (hr.mono (by first | decide | omega)) (xpa_cons (xpe_op yop_fdivB (yqv 0 vl) xpe_int) (xpa_cons (yqv 1 vl) (xpa_cons (yqv 2 vl) xpa_nil))) gl))
      (xpss_cons
        (xps_set (i := 5) sc__law_deed.nd rfl ll (xqe_callD T.d__law_operand G__law_operand (hr.mono (by first | decide | omega)) (xpa_cons (xpe_op yop_fdivB (yqv 0 vl) xpe_int) (xpa_cons (yqv 1 vl) (xpa_cons (yqv 2 vl) xpa_nil))) gl))
      (xpss_cons
        (xps_set (i := 6) sc__law_deed.nd rfl ll (xpe_op yop_mod (yqv 0 vl) xpe_int))
      (xpss_cons
        (xps_if (xpt_cmpR yop_lt (yqv 6 vl) xpe_int (nomark _))
          (xpss_one
            (xps_ret (xpe_tup (xpa_cons xpe_str (xpa_cons (yqv 4 vl) xpa_nil)))))
          xpss_nil)
      (xpss_cons
        (xps_if (xpt_cmpR op_eq (yqv 6 vl) xpe_int (nomark _))
          (xpss_one
            (xps_ret (xpe_tup (xpa_cons xpe_str (xpa_cons (yqv 3 vl) (xpa_cons (yqv 4 vl) xpa_nil))))))
          xpss_nil)
      (xpss_one
        (xps_ret (xpe_tup (xpa_cons (xpe_ix ix_list (xpe_lst (xpa_const (by rfl))) (xpe_op yop_sub (yqv 6 vl) xpe_int) (fun _ _ => rfl)) (xpa_cons (yqv 3 vl) (xpa_cons (yqv 4 vl) (xpa_cons (yqv 5 vl) xpa_nil)))))))))))))), ?_⟩
  rw [show start _ [V.int n, V.ref b, V.int top] = [some (.int n), some (.ref b), some (.int top), none, none, none, none] from rfl]
  simp_arith [r_listRng, r_kget1, r_iEnumT, r_opdB]
  obtain ⟨c, hc, he⟩ := name_at (ns := ns) (x := n / 10) hN.pos
  refine ⟨CDivB.small (by decide) (by decide), _, .inl hN.at_, by rw [List.length_map]; have := hN.pos; omega, _, _, hN.at_, he, CDivB.small (by decide) (by decide), ns, wd, htop, hN, fun o H1 s1 ho => ?_⟩
  simp_arith [r_listRng, r_kget1, r_iEnumT, r_opdB]
  refine ⟨CDivB.small (by decide) (by decide), ns, wd, htop, hN.same s1, fun o2 H2 s2 ho2 => ?_⟩
  have s12 := s1.trans s2
  refine ite_dec (fun _ p hp => q (.tell o) p _ (s12.updN hp) upd_same trivial ho) (fun h2 => ?_)
  refine ite_dec (fun _ p hp => q (.copy c o) p _ (s12.updN hp) upd_same trivial ⟨hc, ho⟩) (fun h3 => ?_)
  intro p hp
  have m0 : 0 ≤ n % 10 := Int.emod_nonneg _ (by decide)
  have m1 : n % 10 < 10 := Int.emod_lt_of_pos _ (by decide)
  obtain ⟨f, hf, hfe⟩ : ∃ f ∈ opsL, atI [V.str "plus", V.str "less", V.str "and", V.str "or", V.str "xor", V.str "below", V.str "same"] (n % 10 - 3) = some (V.str f) := by
    rcases (by omega : n % 10 - 3 = 0 ∨ n % 10 - 3 = 1 ∨ n % 10 - 3 = 2 ∨ n % 10 - 3 = 3 ∨ n % 10 - 3 = 4 ∨ n % 10 - 3 = 5 ∨ n % 10 - 3 = 6) with e | e | e | e | e | e | e <;> rw [e]
    · exact ⟨"plus", by decide +kernel, rfl⟩
    · exact ⟨"less", by decide +kernel, rfl⟩
    · exact ⟨"and", by decide +kernel, rfl⟩
    · exact ⟨"or", by decide +kernel, rfl⟩
    · exact ⟨"xor", by decide +kernel, rfl⟩
    · exact ⟨"below", by decide +kernel, rfl⟩
    · exact ⟨"same", by decide +kernel, rfl⟩
  refine ⟨_, _, SqL.of upd_same, hfe, fun p2 hp2 => ?_⟩
  exact q (.op f c o o2) p2 _ ((s12.updN hp).updN hp2) upd_same hf ⟨hf, hc, ho, ho2⟩
end
end K22
set_option maxHeartbeats 4000000
namespace K22
open PySem L2 PyProof.Rows FD FB FS FO FR FG
noncomputable def bd_stmts (K : PySem.W.Frag) (D : Nat) (a b : Addr) (top dp : Int) (H : Hp) (Q : VK) : Prop := ∃ (ns : List Str) (wd : Int) (xs : List Int) (e : Nat), top = 1 * 2 ^ wd.toNat ∧ NmsV K H b ns wd ∧ dp = (e : Int) ∧ e < D ∧ SqL K H a (xs.map V.int) ∧ xs.length ≤ 200 ∧
  ∀ p ys ss g H', Same H H' → (∀ c ∈ p :: g, H c = none) → p ∉ g → H' p = some (.lst ys) → StmsV K H' ys ss g → goodL ns wd ss → deepL ss ≤ e → manyL ss ≤ 2 * xs.length → Q (.ref p) H'
theorem mk_stmts {K : PySem.W.Frag} {D : Nat} {a b : Addr} {top dp : Int} {H : Hp} {Q : VK}  (ns : List Str) (wd : Int) (xs : List Int) (e : Nat) (h_0 : top = 1 * 2 ^ wd.toNat) (h_1 : NmsV K H b ns wd) (h_2 : dp = (e : Int)) (h_3 : e < D) (h_4 : SqL K H a (xs.map V.int)) (h_5 : xs.length ≤ 200) (h_6 : ∀ p ys ss g H', Same H H' → (∀ c ∈ p :: g, H c = none) → p ∉ g → H' p = some (.lst ys) → StmsV K H' ys ss g → goodL ns wd ss → deepL ss ≤ e → manyL ss ≤ 2 * xs.length → Q (.ref p) H') : bd_stmts K D a b top dp H Q := ⟨ns, wd, xs, e, h_0, h_1, h_2, h_3, h_4, h_5, h_6⟩
noncomputable def sp_stmts (K : PySem.W.Frag) (D : Nat) : Sp := fun vs H Q _ => ∃ (a b : Addr) (top dp : Int), vs = [.ref a, .ref b, .int top, .int dp] ∧ bd_stmts K D a b top dp H Q
noncomputable def StI (K : PySem.W.Frag) (H : Hp) (ns : List Str) (wd : Int) (e : Nat) (k : Addr) (i : Nat) (H' : Hp) : Prop := Same H H' ∧ ∃ ys ss g, H' k = some (.lst ys) ∧ StmsV K H' ys ss g ∧ k ∉ g ∧ (∀ c ∈ g, H c = none) ∧ goodL ns wd ss ∧ deepL ss ≤ e ∧ manyL ss ≤ 2 * i
section
variable {P : Program} {w : World} {K : PySem.W.Frag} {mg : Str → Option Value} {base : Heap} {t : Ad}
theorem r_stmts {D : Nat} {a b : Addr} {top dp : Int} {H : Hp} {Q : VK} {E : XK} : sp_stmts K D [.ref a, .ref b, .int top, .int dp] H Q E = bd_stmts K D a b top dp H Q := propext ⟨by rintro ⟨_, _, _, _, e, q⟩; cases e; exact q, fun q => ⟨_, _, _, _, rfl, q⟩⟩
theorem StI.add {H H1 H2 : Hp} {ns : List Str} {wd : Int} {e k i j : Nat} {x : V} {s : Stm} {g2 : List Addr} (h : StI K H ns wd e k i H1) (hk : H k = none) (sm : Same H1 H2) (hx : StmV K H2 x s g2) (f2 : ∀ c ∈ g2, H1 c = none) (hg : s.good ns wd) (hd : s.deep ≤ e) (hm : 2 * i + s.many ≤ 2 * j) (hj : j ≤ 200) :
    ∃ ys, H2 k = some (.lst ys) ∧ ys.length < sizeLine ∧ StI K H ns wd e k j (upd H2 k (.lst (ys ++ [x]))) := by
  obtain ⟨s1, ys, ss, g, ek, hy, ng, fg, gd, dp, my⟩ := h
  have e2 := sm _ _ ek
  have kg2 : k ∉ g2 := fun z => by have := f2 k z; rw [ek] at this; cases this
  have tt : TSame H2 (upd H2 k (.lst (ys ++ [x]))) := TSame.updL e2
  have ly := hy.length
  have lm := len_many ss
  refine ⟨ys, e2, by rw [sizeLine_eq]; omega, (s1.trans sm).updM hk, ys ++ [x], ss ++ [s], g ++ g2, upd_same, ((hy.same sm).keep tt (Kept.upd ng)).snoc (hx.keep tt (Kept.upd kg2)), ?_, ?_, ?_, ?_, ?_⟩
  · intro z
    rcases List.mem_append.mp z with z | z
    · exact ng z
    · exact kg2 z
  · intro c hc
    rcases List.mem_append.mp hc with z | z
    · exact fg c z
    · exact s1.free (f2 c z)
  · exact goodL_append.mpr ⟨gd, hg, trivial⟩
  · rw [deepL_append, deepL, deepL]; omega
  · rw [manyL_append, manyL, manyL]; omega
theorem stmts_step (T : Txt K mg t) (D : Nat) (G__law_statements : FnOk P w K mg base CX0 (D + 3) t.f__law_statements t.e__law_statements ["_law_numbers", "_law_names_here", "_law_top", "_law_deep"] (sp_stmts K D)) : FnOk P w K mg base CX0 (D + 4) t.f__law_statements t.e__law_statements ["_law_numbers", "_law_names_here", "_law_top", "_law_deep"] (sp_stmts K (D + 1)) := by
  have G__law_deed := ok_deedB (P := P) (w := w) (base := base) T
  refine T.d__law_statements.F.ok sc__law_statements (fun vs H Q E h => by obtain ⟨_, _, _, _, rfl, _⟩ := h; rfl) (fun cdv A outer s H vs Q E hr h => ?_)
  obtain ⟨a, b, top, dp, rfl, ns, wd, xs, e, htop, hN, rfl, heD, ha, hxl, q⟩ := h
  refine ⟨_,
      (XSs.h
      (xpss_cons
        (xps_set (i := 4) sc__law_statements.nd rfl ll (xpe_lst xpa_nil))
      (xpss_cons
        (xps_set (i := 5) sc__law_statements.nd rfl ll xpe_int)
      (xpss_cons
        (xps_while PassesOwn.never (xpt_cmpR yop_lt (yqv 5 vl) (xqe_callB call_len_seq gl T.z_len PySem.boot_len (xpa_cons (yqv 0 vl) xpa_nil)) (nomark _))
          (xpss_cons
            (xps_set (i := 6) sc__law_statements.nd rfl ll (xpe_op yop_fdivB (xpe_ix ix_list (yqv 0 vl) (yqv 5 vl) (fun _ _ => rfl)) xpe_int))
          (xpss_cons
            (xps_set (i := 5) sc__law_statements.nd rfl ll (xpe_op yop_add (yqv 5 vl) xpe_int))
          (xpss_cons
            (xps_set (i := 7) sc__law_statements.nd rfl ll (xqe_callB (call_min2 rfl) gl T.z_min boot_min (xpa_cons (xqe_callB call_len_seq gl T.z_len PySem.boot_len (xpa_cons (yqv 0 vl) xpa_nil)) (xpa_cons (xpe_op yop_add (yqv 5 vl) (xpe_op yop_mod (xpe_op yop_fdivB (yqv 6 vl) xpe_int) xpe_int)) xpa_nil))))
          (xpss_cons
            (xps_set (i := 8) sc__law_statements.nd rfl ll (xqe_callB (call_min2 rfl) gl T.z_min boot_min (xpa_cons (xqe_callB call_len_seq gl T.z_len PySem.boot_len (xpa_cons (yqv 0 vl) xpa_nil)) (xpa_cons (xpe_op yop_add (yqv 7 vl) (xpe_op yop_mod (xpe_op yop_fdivB (yqv 6 vl) xpe_int) xpe_int)) xpa_nil))))
          (xpss_cons
            (xps_set (i := 9) sc__law_statements.nd rfl ll (xpe_ix ix_list (yqv 1 vl) (xpe_op yop_mod (xpe_op yop_fdivB (yqv 6 vl) xpe_int) (xqe_callB call_len_seq gl T.z_len PySem.boot_len (xpa_cons (yqv 1 vl) xpa_nil))) (fun _ _ => rfl)))
          (xpss_one
            (xps_if (xPW_pt (xpw_or (xpt_cmpR op_eq (yqv 3 vl) xpe_int (nomark _)) (xpw_or1 (xpt_cmpR yop_gt (xpe_op yop_mod (xpe_ix ix_list (yqv 0 vl) (xpe_op yop_sub (yqv 5 vl) xpe_int) (fun _ _ => rfl)) xpe_int) xpe_int (nomark _)))))
              (xpss_one
                (xps_expr (xpe_bm PySem.F.plainAttrs_list PySem.F.slot_list_append PySem.F.type_list_append mt_append (yqv 4 vl) (xpa_cons (xqe_callD T.d__law_deed G__law_deed (hr.mono (by first | decide | omega)) (xpa_cons (yqv 6 vl) (xpa_cons (yqv 1 vl) (xpa_cons (yqv 2 vl) xpa_nil))) gl) xpa_nil))))
              (xpss_one
                (xps_if (xpt_cmpR op_eq (xpe_op yop_mod (xpe_ix ix_list (yqv 0 vl) (xpe_op yop_sub (yqv 5 vl) xpe_int) (fun _ _ => rfl)) xpe_int) xpe_int (nomark _))
                  (xpss_cons
                    (xps_set (i := 10) sc__law_statements.nd rfl ll (xqe_callD T.d__law_statements G__law_statements (hr.mono (by first | decide | omega)) (xpa_cons (xpe_slice sl_list (yqv 0 vl) (xpo_some (yqv 5 vl)) (xpo_some (yqv 7 vl))) (xpa_cons (yqv 1 vl) (xpa_cons (yqv 2 vl) (xpa_cons (xpe_op yop_sub (yqv 3 vl) xpe_int) xpa_nil)))) gl))
                  (xpss_cons
                    (xps_expr (xpe_bm PySem.F.plainAttrs_list PySem.F.slot_list_append PySem.F.type_list_append mt_append (yqv 4 vl) (xpa_cons (xpe_tup (xpa_cons xpe_str (xpa_cons (yqv 9 vl) (xpa_cons (yqv 10 vl) (xpa_cons (xqe_callD T.d__law_statements G__law_statements (hr.mono (by first | decide | omega)) (xpa_cons (xpe_slice sl_list (yqv 0 vl) (xpo_some (yqv 7 vl)) (xpo_some (yqv 8 vl))) (xpa_cons (yqv 1 vl) (xpa_cons (yqv 2 vl) (xpa_cons (xpe_op yop_sub (yqv 3 vl) xpe_int) xpa_nil)))) gl) xpa_nil))))) xpa_nil)))
                  (xpss_one
                    (xps_set (i := 5) sc__law_statements.nd rfl ll (yqv 8 vl)))))
                  (xpss_cons
                    (xps_set (i := 10) sc__law_statements.nd rfl ll (xqe_callD T.d__law_statements G__law_statements (hr.mono (by first | decide | omega)) (xpa_cons (xpe_slice sl_list (yqv 0 vl) (xpo_some (yqv 5 vl)) (xpo_some (yqv 7 vl))) (xpa_cons (yqv 1 vl) (xpa_cons (yqv 2 vl) (xpa_cons (xpe_op yop_sub (yqv 3 vl) xpe_int) xpa_nil)))) gl))
                  (xpss_cons
                    (xps_if (xpt_cmpR yop_gt (xpe_op yop_mod (xpe_op yop_fdivB (yqv 6 vl) xpe_int) xpe_int) xpe_int (nomark _))
                      (xpss_one
                        (xps_expr (xpe_bm PySem.F.plainAttrs_list PySem.F.slot_list_append PySem.F.type_list_append mt_append (yqv 10 vl) (xpa_cons (xpe_tup (xpa_cons xpe_str (xpa_cons (yqv 9 vl) (xpa_cons (yqv 9 vl) (xpa_cons xpe_int xpa_nil))))) xpa_nil))))
                      xpss_nil)
                  (xpss_cons
                    (xps_expr (xpe_bm PySem.F.plainAttrs_list PySem.F.slot_list_append PySem.F.type_list_append mt_append (yqv 4 vl) (xpa_cons (xpe_tup (xpa_cons xpe_str (xpa_cons (yqv 9 vl) (xpa_cons (yqv 10 vl) xpa_nil)))) xpa_nil)))
                  (xpss_one
                    (xps_set (i := 5) sc__law_statements.nd rfl ll (yqv 7 vl))))))))))))))))
      (xpss_one
        (xps_ret (yqv 4 vl))))))), ?_⟩
  rw [show start _ [V.ref a, V.ref b, V.int top, V.int e] = [some (.ref a), some (.ref b), some (.int top), some (.int e), none, none, none, none, none, none, none] from rfl]
  simp only [y_v0, r_g0, y_v1, r_g1, y_v2, r_g2, y_v3, r_g3, y_v4, r_g4, y_v5, r_g5, y_v6, r_g6, y_v7, r_g7, y_v8, r_g8, y_v9, r_g9, y_v10, r_g10, y_v11, r_g11, y_v12, r_g12, y_v13, r_g13, y_v14, r_g14, y_v15, r_g15, r_c, r_op, r_un, y_I0, y_I, y_U, r_eqI, r_eqS, r_neI, r_neS, r_exbl, r_exint, r_test, r_B, r_and, r_or, r_not, r_andV, r_orV, r_notV, r_if, r_next, r_seqL, r_brk, r_cont, r_drop, r_ret, r_retN, r_ifS, r_asg, r_CB, r_nil, r_cons, r_call, r_tup, r_lst, r_p0, r_pS, r_disp, r_dget, r_sl, r_noPart, r_part, r_gNil, r_gCons, r_itF, r_nT, r_nF, r_len0, r_len1, r_len2, r_len3, r_len4, r_len7, r_len8, r_for, r_iEnum, r_iList, r_iTup, r_iRng1, r_iRng2, r_exI1, r_exI2, r_exR, r_bm, r_bm0, r_ixS, r_ixL, r_ixT, r_cat, r_slL, r_append, r_exRl, r_intB, true_and, and_true, forall_const, Int.reduceLT, r_compG, r_setComp, r_yes, r_slT, r_inR, r_notInR, cxOf_K, wish_K, blk_K, r_blk1, r_blk2, List.map_cons, List.map_nil, List.getElem?_cons_zero, List.getElem?_cons_succ, Option.join_some, r_Vs, r_join, r_tyStr, r_dnewK, r_dput, r_exRp, r_gSub, List.set_cons_zero, List.set_cons_succ, r_midL, r_sfld, r_gfld, r_meth, r_make, r_iRev, r_listRev, r_listVals, r_slRev, r_dget2, r_listRng, r_kget1, r_iEnumT]
  intro k hk
  have t1 := Same.upd (o := .lst []) hk
  refine later ?_
  simp only [y_v0, r_g0, y_v1, r_g1, y_v2, r_g2, y_v3, r_g3, y_v4, r_g4, y_v5, r_g5, y_v6, r_g6, y_v7, r_g7, y_v8, r_g8, y_v9, r_g9, y_v10, r_g10, y_v11, r_g11, y_v12, r_g12, y_v13, r_g13, y_v14, r_g14, y_v15, r_g15, r_c, r_op, r_un, y_I0, y_I, y_U, r_eqI, r_eqS, r_neI, r_neS, r_exbl, r_exint, r_test, r_B, r_and, r_or, r_not, r_andV, r_orV, r_notV, r_if, r_next, r_seqL, r_brk, r_cont, r_drop, r_ret, r_retN, r_ifS, r_asg, r_CB, r_nil, r_cons, r_call, r_tup, r_lst, r_p0, r_pS, r_disp, r_dget, r_sl, r_noPart, r_part, r_gNil, r_gCons, r_itF, r_nT, r_nF, r_len0, r_len1, r_len2, r_len3, r_len4, r_len7, r_len8, r_for, r_iEnum, r_iList, r_iTup, r_iRng1, r_iRng2, r_exI1, r_exI2, r_exR, r_bm, r_bm0, r_ixS, r_ixL, r_ixT, r_cat, r_slL, r_append, r_exRl, r_intB, true_and, and_true, forall_const, Int.reduceLT, r_compG, r_setComp, r_yes, r_slT, r_inR, r_notInR, cxOf_K, wish_K, blk_K, r_blk1, r_blk2, List.map_cons, List.map_nil, List.getElem?_cons_zero, List.getElem?_cons_succ, Option.join_some, r_Vs, r_join, r_tyStr, r_dnewK, r_dput, r_exRp, r_gSub, List.set_cons_zero, List.set_cons_succ, r_midL, r_sfld, r_gfld, r_meth, r_make, r_iRev, r_listRev, r_listVals, r_slRev, r_dget2, r_listRng, r_kget1, r_iEnumT]
  refine later ?_
  simp only [y_v0, r_g0, y_v1, r_g1, y_v2, r_g2, y_v3, r_g3, y_v4, r_g4, y_v5, r_g5, y_v6, r_g6, y_v7, r_g7, y_v8, r_g8, y_v9, r_g9, y_v10, r_g10, y_v11, r_g11, y_v12, r_g12, y_v13, r_g13, y_v14, r_g14, y_v15, r_g15, r_c, r_op, r_un, y_I0, y_I, y_U, r_eqI, r_eqS, r_neI, r_neS, r_exbl, r_exint, r_test, r_B, r_and, r_or, r_not, r_andV, r_orV, r_notV, r_if, r_next, r_seqL, r_brk, r_cont, r_drop, r_ret, r_retN, r_ifS, r_asg, r_CB, r_nil, r_cons, r_call, r_tup, r_lst, r_p0, r_pS, r_disp, r_dget, r_sl, r_noPart, r_part, r_gNil, r_gCons, r_itF, r_nT, r_nF, r_len0, r_len1, r_len2, r_len3, r_len4, r_len7, r_len8, r_for, r_iEnum, r_iList, r_iTup, r_iRng1, r_iRng2, r_exI1, r_exI2, r_exR, r_bm, r_bm0, r_ixS, r_ixL, r_ixT, r_cat, r_slL, r_append, r_exRl, r_intB, true_and, and_true, forall_const, Int.reduceLT, r_compG, r_setComp, r_yes, r_slT, r_inR, r_notInR, cxOf_K, wish_K, blk_K, r_blk1, r_blk2, List.map_cons, List.map_nil, List.getElem?_cons_zero, List.getElem?_cons_succ, Option.join_some, r_Vs, r_join, r_tyStr, r_dnewK, r_dput, r_exRp, r_gSub, List.set_cons_zero, List.set_cons_succ, r_midL, r_sfld, r_gfld, r_meth, r_make, r_iRev, r_listRev, r_listVals, r_slRev, r_dget2, r_listRng, r_kget1, r_iEnumT]
  refine ⟨fun m σ H' => ∃ (i : Nat) (o6 o7 o8 o9 o10 : Option V), m = xs.length - i ∧ i ≤ xs.length ∧ StI K H ns wd e k i H' ∧ σ = [some (.ref a), some (.ref b), some (.int top), some (.int e), some (.ref k), some (.int i), o6, o7, o8, o9, o10],
    ⟨_, 0, _, _, _, _, _, rfl, Nat.zero_le _, ⟨t1, [], [], [], upd_same, .nil, by simp, by simp, trivial, Nat.zero_le _, Nat.zero_le _⟩, rfl⟩, ?_⟩
  rintro m σ H1 ⟨i, o6, o7, o8, o9, o10, rfl, hi, hI, rfl⟩
  have s1 := hI.1
  simp only [y_v0, r_g0, y_v1, r_g1, y_v2, r_g2, y_v3, r_g3, y_v4, r_g4, y_v5, r_g5, y_v6, r_g6, y_v7, r_g7, y_v8, r_g8, y_v9, r_g9, y_v10, r_g10, y_v11, r_g11, y_v12, r_g12, y_v13, r_g13, y_v14, r_g14, y_v15, r_g15, r_c, r_op, r_un, y_I0, y_I, y_U, r_eqI, r_eqS, r_neI, r_neS, r_exbl, r_exint, r_test, r_B, r_and, r_or, r_not, r_andV, r_orV, r_notV, r_if, r_next, r_seqL, r_brk, r_cont, r_drop, r_ret, r_retN, r_ifS, r_asg, r_CB, r_nil, r_cons, r_call, r_tup, r_lst, r_p0, r_pS, r_disp, r_dget, r_sl, r_noPart, r_part, r_gNil, r_gCons, r_itF, r_nT, r_nF, r_len0, r_len1, r_len2, r_len3, r_len4, r_len7, r_len8, r_for, r_iEnum, r_iList, r_iTup, r_iRng1, r_iRng2, r_exI1, r_exI2, r_exR, r_bm, r_bm0, r_ixS, r_ixL, r_ixT, r_cat, r_slL, r_append, r_exRl, r_intB, true_and, and_true, forall_const, Int.reduceLT, r_compG, r_setComp, r_yes, r_slT, r_inR, r_notInR, cxOf_K, wish_K, blk_K, r_blk1, r_blk2, List.map_cons, List.map_nil, List.getElem?_cons_zero, List.getElem?_cons_succ, Option.join_some, r_Vs, r_join, r_tyStr, r_dnewK, r_dput, r_exRp, r_gSub, List.set_cons_zero, List.set_cons_succ, r_midL, r_sfld, r_gfld, r_meth, r_make, r_iRev, r_listRev, r_listVals, r_slRev, r_dget2, r_listRng, r_kget1, r_iEnumT]
  refine ⟨_, .inl (s1.seq ha), ite_dec (fun h1 => ?_) (fun h1 => ?_)⟩
  · rw [List.length_map] at h1
    refine ⟨fun σ' H' => ∃ (j : Nat) (o6 o7 o8 o9 o10 : Option V), i < j ∧ j ≤ xs.length ∧ StI K H ns wd e k j H' ∧ σ' = [some (.ref a), some (.ref b), some (.int top), some (.int e), some (.ref k), some (.int j), o6, o7, o8, o9, o10], ?_, ?_⟩
    · rintro σ' H' ⟨j, o6, o7, o8, o9, o10, h2, h3, h4, rfl⟩
      exact ⟨xs.length - j, by omega, j, _, _, _, _, _, rfl, h3, h4, rfl⟩
    · have hx0 : (xs.map V.int)[i]? = some (.int xs[i]) := by rw [List.getElem?_map, List.getElem?_eq_getElem (by omega)]; rfl
      refine ⟨_, _, s1.seq ha, atI_nat hx0, ?_⟩
      simp only [y_v0, r_g0, y_v1, r_g1, y_v2, r_g2, y_v3, r_g3, y_v4, r_g4, y_v5, r_g5, y_v6, r_g6, y_v7, r_g7, y_v8, r_g8, y_v9, r_g9, y_v10, r_g10, y_v11, r_g11, y_v12, r_g12, y_v13, r_g13, y_v14, r_g14, y_v15, r_g15, r_c, r_op, r_un, y_I0, y_I, y_U, r_eqI, r_eqS, r_neI, r_neS, r_exbl, r_exint, r_test, r_B, r_and, r_or, r_not, r_andV, r_orV, r_notV, r_if, r_next, r_seqL, r_brk, r_cont, r_drop, r_ret, r_retN, r_ifS, r_asg, r_CB, r_nil, r_cons, r_call, r_tup, r_lst, r_p0, r_pS, r_disp, r_dget, r_sl, r_noPart, r_part, r_gNil, r_gCons, r_itF, r_nT, r_nF, r_len0, r_len1, r_len2, r_len3, r_len4, r_len7, r_len8, r_for, r_iEnum, r_iList, r_iTup, r_iRng1, r_iRng2, r_exI1, r_exI2, r_exR, r_bm, r_bm0, r_ixS, r_ixL, r_ixT, r_cat, r_slL, r_append, r_exRl, r_intB, true_and, and_true, forall_const, Int.reduceLT, r_compG, r_setComp, r_yes, r_slT, r_inR, r_notInR, cxOf_K, wish_K, blk_K, r_blk1, r_blk2, List.map_cons, List.map_nil, List.getElem?_cons_zero, List.getElem?_cons_succ, Option.join_some, r_Vs, r_join, r_tyStr, r_dnewK, r_dput, r_exRp, r_gSub, List.set_cons_zero, List.set_cons_succ, r_midL, r_sfld, r_gfld, r_meth, r_make, r_iRev, r_listRev, r_listVals, r_slRev, r_dget2, r_listRng, r_kget1, r_iEnumT]
      have hN1 := hN.same s1
      obtain ⟨nm, hnm, hne⟩ := name_at (ns := ns) (x := xs[i] / 16 / 1024) hN.pos
      obtain ⟨ct, hct, c1, c2⟩ : ∃ ct : Nat, (if (i : Int) + 1 + xs[i] / 16 / 16 % 5 < (xs.length : Int) then (i : Int) + 1 + xs[i] / 16 / 16 % 5 else (xs.length : Int)) = (ct : Int) ∧ i + 1 ≤ ct ∧ ct ≤ xs.length := by
        have h0 : 0 ≤ xs[i] / 16 / 16 % 5 := Int.emod_nonneg _ (by decide)
        split
        · exact ⟨((i : Int) + 1 + xs[i] / 16 / 16 % 5).toNat, by omega, by omega, by omega⟩
        · exact ⟨xs.length, rfl, by omega, by omega⟩
      obtain ⟨en, hen, e1, e2⟩ : ∃ en : Nat, (if (ct : Int) + xs[i] / 16 / 128 % 4 < (xs.length : Int) then (ct : Int) + xs[i] / 16 / 128 % 4 else (xs.length : Int)) = (en : Int) ∧ ct ≤ en ∧ en ≤ xs.length := by
        have h0 : 0 ≤ xs[i] / 16 / 128 % 4 := Int.emod_nonneg _ (by decide)
        split
        · exact ⟨((ct : Int) + xs[i] / 16 / 128 % 4).toNat, by omega, by omega, by omega⟩
        · exact ⟨xs.length, rfl, by omega, by omega⟩
      refine ⟨CDivB.small (by decide) (by decide), later ?_⟩
      simp only [y_v0, r_g0, y_v1, r_g1, y_v2, r_g2, y_v3, r_g3, y_v4, r_g4, y_v5, r_g5, y_v6, r_g6, y_v7, r_g7, y_v8, r_g8, y_v9, r_g9, y_v10, r_g10, y_v11, r_g11, y_v12, r_g12, y_v13, r_g13, y_v14, r_g14, y_v15, r_g15, r_c, r_op, r_un, y_I0, y_I, y_U, r_eqI, r_eqS, r_neI, r_neS, r_exbl, r_exint, r_test, r_B, r_and, r_or, r_not, r_andV, r_orV, r_notV, r_if, r_next, r_seqL, r_brk, r_cont, r_drop, r_ret, r_retN, r_ifS, r_asg, r_CB, r_nil, r_cons, r_call, r_tup, r_lst, r_p0, r_pS, r_disp, r_dget, r_sl, r_noPart, r_part, r_gNil, r_gCons, r_itF, r_nT, r_nF, r_len0, r_len1, r_len2, r_len3, r_len4, r_len7, r_len8, r_for, r_iEnum, r_iList, r_iTup, r_iRng1, r_iRng2, r_exI1, r_exI2, r_exR, r_bm, r_bm0, r_ixS, r_ixL, r_ixT, r_cat, r_slL, r_append, r_exRl, r_intB, true_and, and_true, forall_const, Int.reduceLT, r_compG, r_setComp, r_yes, r_slT, r_inR, r_notInR, cxOf_K, wish_K, blk_K, r_blk1, r_blk2, List.map_cons, List.map_nil, List.getElem?_cons_zero, List.getElem?_cons_succ, Option.join_some, r_Vs, r_join, r_tyStr, r_dnewK, r_dput, r_exRp, r_gSub, List.set_cons_zero, List.set_cons_succ, r_midL, r_sfld, r_gfld, r_meth, r_make, r_iRev, r_listRev, r_listVals, r_slRev, r_dget2, r_listRng, r_kget1, r_iEnumT]
      refine later ?_
      simp only [y_v0, r_g0, y_v1, r_g1, y_v2, r_g2, y_v3, r_g3, y_v4, r_g4, y_v5, r_g5, y_v6, r_g6, y_v7, r_g7, y_v8, r_g8, y_v9, r_g9, y_v10, r_g10, y_v11, r_g11, y_v12, r_g12, y_v13, r_g13, y_v14, r_g14, y_v15, r_g15, r_c, r_op, r_un, y_I0, y_I, y_U, r_eqI, r_eqS, r_neI, r_neS, r_exbl, r_exint, r_test, r_B, r_and, r_or, r_not, r_andV, r_orV, r_notV, r_if, r_next, r_seqL, r_brk, r_cont, r_drop, r_ret, r_retN, r_ifS, r_asg, r_CB, r_nil, r_cons, r_call, r_tup, r_lst, r_p0, r_pS, r_disp, r_dget, r_sl, r_noPart, r_part, r_gNil, r_gCons, r_itF, r_nT, r_nF, r_len0, r_len1, r_len2, r_len3, r_len4, r_len7, r_len8, r_for, r_iEnum, r_iList, r_iTup, r_iRng1, r_iRng2, r_exI1, r_exI2, r_exR, r_bm, r_bm0, r_ixS, r_ixL, r_ixT, r_cat, r_slL, r_append, r_exRl, r_intB, true_and, and_true, forall_const, Int.reduceLT, r_compG, r_setComp, r_yes, r_slT, r_inR, r_notInR, cxOf_K, wish_K, blk_K, r_blk1, r_blk2, List.map_cons, List.map_nil, List.getElem?_cons_zero, List.getElem?_cons_succ, Option.join_some, r_Vs, r_join, r_tyStr, r_dnewK, r_dput, r_exRp, r_gSub, List.set_cons_zero, List.set_cons_succ, r_midL, r_sfld, r_gfld, r_meth, r_make, r_iRev, r_listRev, r_listVals, r_slRev, r_dget2, r_listRng, r_kget1, r_iEnumT]
      refine ⟨_, .inl (s1.seq ha), CDivB.small (by decide) (by decide), ?_⟩
      rw [List.length_map, hct]
      refine later ?_
      simp only [y_v0, r_g0, y_v1, r_g1, y_v2, r_g2, y_v3, r_g3, y_v4, r_g4, y_v5, r_g5, y_v6, r_g6, y_v7, r_g7, y_v8, r_g8, y_v9, r_g9, y_v10, r_g10, y_v11, r_g11, y_v12, r_g12, y_v13, r_g13, y_v14, r_g14, y_v15, r_g15, r_c, r_op, r_un, y_I0, y_I, y_U, r_eqI, r_eqS, r_neI, r_neS, r_exbl, r_exint, r_test, r_B, r_and, r_or, r_not, r_andV, r_orV, r_notV, r_if, r_next, r_seqL, r_brk, r_cont, r_drop, r_ret, r_retN, r_ifS, r_asg, r_CB, r_nil, r_cons, r_call, r_tup, r_lst, r_p0, r_pS, r_disp, r_dget, r_sl, r_noPart, r_part, r_gNil, r_gCons, r_itF, r_nT, r_nF, r_len0, r_len1, r_len2, r_len3, r_len4, r_len7, r_len8, r_for, r_iEnum, r_iList, r_iTup, r_iRng1, r_iRng2, r_exI1, r_exI2, r_exR, r_bm, r_bm0, r_ixS, r_ixL, r_ixT, r_cat, r_slL, r_append, r_exRl, r_intB, true_and, and_true, forall_const, Int.reduceLT, r_compG, r_setComp, r_yes, r_slT, r_inR, r_notInR, cxOf_K, wish_K, blk_K, r_blk1, r_blk2, List.map_cons, List.map_nil, List.getElem?_cons_zero, List.getElem?_cons_succ, Option.join_some, r_Vs, r_join, r_tyStr, r_dnewK, r_dput, r_exRp, r_gSub, List.set_cons_zero, List.set_cons_succ, r_midL, r_sfld, r_gfld, r_meth, r_make, r_iRev, r_listRev, r_listVals, r_slRev, r_dget2, r_listRng, r_kget1, r_iEnumT]
      refine ⟨_, .inl (s1.seq ha), CDivB.small (by decide) (by decide), ?_⟩
      rw [List.length_map, hen]
      refine later ?_
      simp only [y_v0, r_g0, y_v1, r_g1, y_v2, r_g2, y_v3, r_g3, y_v4, r_g4, y_v5, r_g5, y_v6, r_g6, y_v7, r_g7, y_v8, r_g8, y_v9, r_g9, y_v10, r_g10, y_v11, r_g11, y_v12, r_g12, y_v13, r_g13, y_v14, r_g14, y_v15, r_g15, r_c, r_op, r_un, y_I0, y_I, y_U, r_eqI, r_eqS, r_neI, r_neS, r_exbl, r_exint, r_test, r_B, r_and, r_or, r_not, r_andV, r_orV, r_notV, r_if, r_next, r_seqL, r_brk, r_cont, r_drop, r_ret, r_retN, r_ifS, r_asg, r_CB, r_nil, r_cons, r_call, r_tup, r_lst, r_p0, r_pS, r_disp, r_dget, r_sl, r_noPart, r_part, r_gNil, r_gCons, r_itF, r_nT, r_nF, r_len0, r_len1, r_len2, r_len3, r_len4, r_len7, r_len8, r_for, r_iEnum, r_iList, r_iTup, r_iRng1, r_iRng2, r_exI1, r_exI2, r_exR, r_bm, r_bm0, r_ixS, r_ixL, r_ixT, r_cat, r_slL, r_append, r_exRl, r_intB, true_and, and_true, forall_const, Int.reduceLT, r_compG, r_setComp, r_yes, r_slT, r_inR, r_notInR, cxOf_K, wish_K, blk_K, r_blk1, r_blk2, List.map_cons, List.map_nil, List.getElem?_cons_zero, List.getElem?_cons_succ, Option.join_some, r_Vs, r_join, r_tyStr, r_dnewK, r_dput, r_exRp, r_gSub, List.set_cons_zero, List.set_cons_succ, r_midL, r_sfld, r_gfld, r_meth, r_make, r_iRev, r_listRev, r_listVals, r_slRev, r_dget2, r_listRng, r_kget1, r_iEnumT]
      refine ⟨CDivB.small (by decide) (by decide), _, .inl hN1.at_, by rw [List.length_map]; have := hN.pos; omega, _, _, hN1.at_, hne, ?_⟩
      refine later ?_
      simp only [y_v0, r_g0, y_v1, r_g1, y_v2, r_g2, y_v3, r_g3, y_v4, r_g4, y_v5, r_g5, y_v6, r_g6, y_v7, r_g7, y_v8, r_g8, y_v9, r_g9, y_v10, r_g10, y_v11, r_g11, y_v12, r_g12, y_v13, r_g13, y_v14, r_g14, y_v15, r_g15, r_c, r_op, r_un, y_I0, y_I, y_U, r_eqI, r_eqS, r_neI, r_neS, r_exbl, r_exint, r_test, r_B, r_and, r_or, r_not, r_andV, r_orV, r_notV, r_if, r_next, r_seqL, r_brk, r_cont, r_drop, r_ret, r_retN, r_ifS, r_asg, r_CB, r_nil, r_cons, r_call, r_tup, r_lst, r_p0, r_pS, r_disp, r_dget, r_sl, r_noPart, r_part, r_gNil, r_gCons, r_itF, r_nT, r_nF, r_len0, r_len1, r_len2, r_len3, r_len4, r_len7, r_len8, r_for, r_iEnum, r_iList, r_iTup, r_iRng1, r_iRng2, r_exI1, r_exI2, r_exR, r_bm, r_bm0, r_ixS, r_ixL, r_ixT, r_cat, r_slL, r_append, r_exRl, r_intB, true_and, and_true, forall_const, Int.reduceLT, r_compG, r_setComp, r_yes, r_slT, r_inR, r_notInR, cxOf_K, wish_K, blk_K, r_blk1, r_blk2, List.map_cons, List.map_nil, List.getElem?_cons_zero, List.getElem?_cons_succ, Option.join_some, r_Vs, r_join, r_tyStr, r_dnewK, r_dput, r_exRp, r_gSub, List.set_cons_zero, List.set_cons_succ, r_midL, r_sfld, r_gfld, r_meth, r_make, r_iRev, r_listRev, r_listVals, r_slRev, r_dget2, r_listRng, r_kget1, r_iEnumT, r_stmts, r_deedB]
      have ei1 : (i : Int) + 1 = ((i + 1 : Nat) : Int) := by omega
      have deedC : tyV K "list" (V.ref k) H1 ∧ bd_deedB K (xs[i] / 16) b top H1 fun x H1 => ∃ xs_2, H1 k = some (HO.lst xs_2) ∧ xs_2.length < sizeLine ∧ ∃ (j : Nat) (o6 o7 o8 o9 o10_1 : Option V), i < j ∧ j ≤ xs.length ∧ StI K H ns wd e k j (upd H1 k (HO.lst (xs_2 ++ [x]))) ∧
          [some (V.ref a), some (V.ref b), some (V.int top), some (V.int ↑e), some (V.ref k), some (V.int ((i : Int) + 1)), some (V.int (xs[i] / 16)), some (V.int ct), some (V.int en), some (V.str nm), o10] = [some (V.ref a), some (V.ref b), some (V.int top), some (V.int ↑e), some (V.ref k), some (V.int ↑j), o6, o7, o8, o9, o10_1] := by
        obtain ⟨_, ys0, _, _, ek, _⟩ := id hI
        refine ⟨.inl ⟨rfl, _, SqL.of ek⟩, ns, wd, htop, hN1, fun d q0 H2 s2 hq hf hgd => ?_⟩
        obtain ⟨ys, e5, l5, hI2⟩ := hI.add (j := i + 1) hk s2 (.deed hf (SqT.of hq)) (by simp) hgd (Nat.zero_le _) (by rw [Stm.many]; omega) (by omega)
        exact ⟨ys, e5, l5, i + 1, _, _, _, _, _, by omega, by omega, hI2, by rw [ei1]⟩
      refine ite_dec (fun he0 => ?_) (fun he0 => ?_)
      · rw [if_pos trivial]
        exact deedC
      have hx1 : atI (xs.map V.int) ((i : Int) + 1 - 1) = some (.int xs[i]) := by rw [show (i : Int) + 1 - 1 = (i : Int) by omega]; exact atI_nat hx0
      refine ⟨_, _, s1.seq ha, hx1, ?_⟩
      simp_arith [r_listRng, r_kget1, r_iEnumT, r_stmts, r_deedB]
      obtain ⟨e', rfl⟩ : ∃ e', e = e' + 1 := ⟨e - 1, by omega⟩
      refine ite_dec (fun _ => deedC) (fun h5 => ⟨_, _, s1.seq ha, hx1, ?_⟩)
      clear deedC
      simp_arith [r_listRng, r_kget1, r_iEnumT, r_stmts, r_deedB]
      have ec1 : cutV (xs.map V.int) (some ((i : Int) + 1)) (some (ct : Int)) = ((xs.take ct).drop (i + 1)).map V.int := by
        rw [cutV_mid (by omega) (by omega), Int.toNat_natCast, show ((i : Int) + 1).toNat = i + 1 by omega, List.map_drop, List.map_take]
      have ec2 : cutV (xs.map V.int) (some (ct : Int)) (some (en : Int)) = ((xs.take en).drop ct).map V.int := by
        rw [cutV_mid (by omega) (by omega), Int.toNat_natCast, Int.toNat_natCast, List.map_drop, List.map_take]
      have lc1 : ((xs.take ct).drop (i + 1)).length = ct - (i + 1) := by rw [List.length_drop, List.length_take]; omega
      have lc2 : ((xs.take en).drop ct).length = en - ct := by rw [List.length_drop, List.length_take]; omega
      obtain ⟨_, ys0, _, _, ek, _⟩ := id hI
      refine ite_dec (fun _ => ⟨_, s1.seq ha, fun p hp => ?_⟩) (fun _ => ⟨_, s1.seq ha, fun p hp => ?_⟩)
      · rw [ec1]
        have t2 := Same.upd (o := .lst (((xs.take ct).drop (i + 1)).map V.int)) hp
        refine ⟨ns, wd, _, e', htop, hN1.same t2, by omega, by omega, SqL.of upd_same, by omega, fun p1 ys1 ss1 g1 H2 s2 f1 n1 ep1 v1 gd1 d1 m1 => ?_⟩
        have s12 := t2.trans s2
        refine later ?_
        simp only [y_v0, r_g0, y_v1, r_g1, y_v2, r_g2, y_v3, r_g3, y_v4, r_g4, y_v5, r_g5, y_v6, r_g6, y_v7, r_g7, y_v8, r_g8, y_v9, r_g9, y_v10, r_g10, y_v11, r_g11, y_v12, r_g12, y_v13, r_g13, y_v14, r_g14, y_v15, r_g15, r_c, r_op, r_un, y_I0, y_I, y_U, r_eqI, r_eqS, r_neI, r_neS, r_exbl, r_exint, r_test, r_B, r_and, r_or, r_not, r_andV, r_orV, r_notV, r_if, r_next, r_seqL, r_brk, r_cont, r_drop, r_ret, r_retN, r_ifS, r_asg, r_CB, r_nil, r_cons, r_call, r_tup, r_lst, r_p0, r_pS, r_disp, r_dget, r_sl, r_noPart, r_part, r_gNil, r_gCons, r_itF, r_nT, r_nF, r_len0, r_len1, r_len2, r_len3, r_len4, r_len7, r_len8, r_for, r_iEnum, r_iList, r_iTup, r_iRng1, r_iRng2, r_exI1, r_exI2, r_exR, r_bm, r_bm0, r_ixS, r_ixL, r_ixT, r_cat, r_slL, r_append, r_exRl, r_intB, true_and, and_true, forall_const, Int.reduceLT, r_compG, r_setComp, r_yes, r_slT, r_inR, r_notInR, cxOf_K, wish_K, blk_K, r_blk1, r_blk2, List.map_cons, List.map_nil, List.getElem?_cons_zero, List.getElem?_cons_succ, Option.join_some, r_Vs, r_join, r_tyStr, r_dnewK, r_dput, r_exRp, r_gSub, List.set_cons_zero, List.set_cons_succ, r_midL, r_sfld, r_gfld, r_meth, r_make, r_iRev, r_listRev, r_listVals, r_slRev, r_dget2, r_listRng, r_kget1, r_iEnumT, r_stmts]
        refine ⟨.inl ⟨rfl, _, SqL.of (s12 _ _ ek)⟩, _, (s1.trans s12).seq ha, fun p' hp' => ?_⟩
        rw [ec2]
        have t3 := Same.upd (o := .lst (((xs.take en).drop ct).map V.int)) hp'
        have s13 := s12.trans t3
        refine ⟨ns, wd, _, e', htop, hN1.same s13, by omega, by omega, SqL.of upd_same, by omega, fun p2 ys2 ss2 g2 H3 s3 f2 n2 ep2 v2 gd2 d2 m2 pq hpq => ?_⟩
        have t4 := Same.upd (o := .tup [V.str "if", V.str nm, V.ref p1, V.ref p2]) hpq
        have hfr : ∀ c ∈ p1 :: p2 :: (g1 ++ g2), H1 c = none := fun c hc => by
          rcases List.mem_cons.mp hc with z | hc
          · rw [z]; exact t2.free (f1 p1 (by simp))
          rcases List.mem_cons.mp hc with z | hc
          · rw [z]; exact s13.free (f2 p2 (by simp))
          rcases List.mem_append.mp hc with z | z
          · exact t2.free (f1 c (List.mem_cons_of_mem _ z))
          · exact s13.free (f2 c (List.mem_cons_of_mem _ z))
        obtain ⟨ys, e5, l5, hI2⟩ := hI.add (j := en) hk ((s13.trans s3).trans t4) (.ifs (SqT.of upd_same) (t4 _ _ (s3 _ _ (t3 _ _ ep1))) (t4 _ _ ep2) (((v1.same t3).same s3).same t4) (v2.same t4)) hfr ⟨hnm, gd1, gd2⟩ (by rw [Stm.deep]; omega) (by rw [Stm.many]; omega) (by omega)
        refine ⟨ys, e5, l5, later ?_⟩
        simp only [y_v0, r_g0, y_v1, r_g1, y_v2, r_g2, y_v3, r_g3, y_v4, r_g4, y_v5, r_g5, y_v6, r_g6, y_v7, r_g7, y_v8, r_g8, y_v9, r_g9, y_v10, r_g10, y_v11, r_g11, y_v12, r_g12, y_v13, r_g13, y_v14, r_g14, y_v15, r_g15, r_c, r_op, r_un, y_I0, y_I, y_U, r_eqI, r_eqS, r_neI, r_neS, r_exbl, r_exint, r_test, r_B, r_and, r_or, r_not, r_andV, r_orV, r_notV, r_if, r_next, r_seqL, r_brk, r_cont, r_drop, r_ret, r_retN, r_ifS, r_asg, r_CB, r_nil, r_cons, r_call, r_tup, r_lst, r_p0, r_pS, r_disp, r_dget, r_sl, r_noPart, r_part, r_gNil, r_gCons, r_itF, r_nT, r_nF, r_len0, r_len1, r_len2, r_len3, r_len4, r_len7, r_len8, r_for, r_iEnum, r_iList, r_iTup, r_iRng1, r_iRng2, r_exI1, r_exI2, r_exR, r_bm, r_bm0, r_ixS, r_ixL, r_ixT, r_cat, r_slL, r_append, r_exRl, r_intB, true_and, and_true, forall_const, Int.reduceLT, r_compG, r_setComp, r_yes, r_slT, r_inR, r_notInR, cxOf_K, wish_K, blk_K, r_blk1, r_blk2, List.map_cons, List.map_nil, List.getElem?_cons_zero, List.getElem?_cons_succ, Option.join_some, r_Vs, r_join, r_tyStr, r_dnewK, r_dput, r_exRp, r_gSub, List.set_cons_zero, List.set_cons_succ, r_midL, r_sfld, r_gfld, r_meth, r_make, r_iRev, r_listRev, r_listVals, r_slRev, r_dget2, r_listRng, r_kget1, r_iEnumT]
        exact ⟨en, _, _, _, _, _, by omega, by omega, hI2, rfl⟩
      · rw [ec1]
        have t2 := Same.upd (o := .lst (((xs.take ct).drop (i + 1)).map V.int)) hp
        refine ⟨ns, wd, _, e', htop, hN1.same t2, by omega, by omega, SqL.of upd_same, by omega, fun p1 ys1 ss1 g1 H2 s2 f1 n1 ep1 v1 gd1 d1 m1 => ?_⟩
        refine later ?_
        simp only [y_v0, r_g0, y_v1, r_g1, y_v2, r_g2, y_v3, r_g3, y_v4, r_g4, y_v5, r_g5, y_v6, r_g6, y_v7, r_g7, y_v8, r_g8, y_v9, r_g9, y_v10, r_g10, y_v11, r_g11, y_v12, r_g12, y_v13, r_g13, y_v14, r_g14, y_v15, r_g15, r_c, r_op, r_un, y_I0, y_I, y_U, r_eqI, r_eqS, r_neI, r_neS, r_exbl, r_exint, r_test, r_B, r_and, r_or, r_not, r_andV, r_orV, r_notV, r_if, r_next, r_seqL, r_brk, r_cont, r_drop, r_ret, r_retN, r_ifS, r_asg, r_CB, r_nil, r_cons, r_call, r_tup, r_lst, r_p0, r_pS, r_disp, r_dget, r_sl, r_noPart, r_part, r_gNil, r_gCons, r_itF, r_nT, r_nF, r_len0, r_len1, r_len2, r_len3, r_len4, r_len7, r_len8, r_for, r_iEnum, r_iList, r_iTup, r_iRng1, r_iRng2, r_exI1, r_exI2, r_exR, r_bm, r_bm0, r_ixS, r_ixL, r_ixT, r_cat, r_slL, r_append, r_exRl, r_intB, true_and, and_true, forall_const, Int.reduceLT, r_compG, r_setComp, r_yes, r_slT, r_inR, r_notInR, cxOf_K, wish_K, blk_K, r_blk1, r_blk2, List.map_cons, List.map_nil, List.getElem?_cons_zero, List.getElem?_cons_succ, Option.join_some, r_Vs, r_join, r_tyStr, r_dnewK, r_dput, r_exRp, r_gSub, List.set_cons_zero, List.set_cons_succ, r_midL, r_sfld, r_gfld, r_meth, r_make, r_iRev, r_listRev, r_listVals, r_slRev, r_dget2, r_listRng, r_kget1, r_iEnumT]
        refine ⟨CDivB.small (by decide) (by decide), ?_⟩
        have s12 := t2.trans s2
        have hfr : ∀ c ∈ p1 :: g1, H1 c = none := fun c hc => t2.free (f1 c hc)
        have np1 : p1 ≠ k := fun z => by have := hfr p1 (by simp); rw [z, ek] at this; cases this
        refine ite_dec (fun _ => ⟨.inl ⟨rfl, _, SqL.of ep1⟩, fun pd hpd => ?_⟩) (fun _ => ?_)
        · have t3 := Same.upd (o := .tup [V.str "less", V.str nm, V.str nm, V.int 1]) hpd
          have lv1 := v1.length
          have lm1 := len_many ss1
          refine ⟨ys1, t3 _ _ ep1, by rw [sizeLine_eq]; omega, ?_⟩
          have tt : TSame _ (upd (upd H2 pd (.tup [V.str "less", V.str nm, V.str nm, V.int 1])) p1 (.lst (ys1 ++ [V.ref pd]))) := TSame.updL (t3 _ _ ep1)
          have s14 : Same H1 (upd (upd H2 pd (.tup [V.str "less", V.str nm, V.str nm, V.int 1])) p1 (.lst (ys1 ++ [V.ref pd]))) := (s12.trans t3).updM (hfr p1 (by simp))
          have dgood : Deed.good ns wd (.op "less" nm (.box nm) (.word 1)) := ⟨by decide +kernel, hnm, hnm, by decide, by
            have hw := hN.w1
            obtain ⟨m, hm⟩ : ∃ m, wd.toNat = m + 1 := ⟨wd.toNat - 1, by omega⟩
            have hp2 : (0 : Int) < 2 ^ m := Int.pow_pos (by decide)
            rw [hm, Int.pow_succ]
            omega⟩
          have v2 : StmsV K (upd (upd H2 pd (.tup [V.str "less", V.str nm, V.str nm, V.int 1])) p1 (.lst (ys1 ++ [V.ref pd]))) (ys1 ++ [V.ref pd]) (ss1 ++ [.deed (.op "less" nm (.box nm) (.word 1))]) (g1 ++ []) :=
            ((v1.same t3).keep tt (Kept.upd n1)).snoc (.deed (show FB.Deed.fine (.op "less" nm (.box nm) (.word 1)) from dgood.1) (tt.seqT (SqT.of upd_same)))
          refine later ?_
          simp only [y_v0, r_g0, y_v1, r_g1, y_v2, r_g2, y_v3, r_g3, y_v4, r_g4, y_v5, r_g5, y_v6, r_g6, y_v7, r_g7, y_v8, r_g8, y_v9, r_g9, y_v10, r_g10, y_v11, r_g11, y_v12, r_g12, y_v13, r_g13, y_v14, r_g14, y_v15, r_g15, r_c, r_op, r_un, y_I0, y_I, y_U, r_eqI, r_eqS, r_neI, r_neS, r_exbl, r_exint, r_test, r_B, r_and, r_or, r_not, r_andV, r_orV, r_notV, r_if, r_next, r_seqL, r_brk, r_cont, r_drop, r_ret, r_retN, r_ifS, r_asg, r_CB, r_nil, r_cons, r_call, r_tup, r_lst, r_p0, r_pS, r_disp, r_dget, r_sl, r_noPart, r_part, r_gNil, r_gCons, r_itF, r_nT, r_nF, r_len0, r_len1, r_len2, r_len3, r_len4, r_len7, r_len8, r_for, r_iEnum, r_iList, r_iTup, r_iRng1, r_iRng2, r_exI1, r_exI2, r_exR, r_bm, r_bm0, r_ixS, r_ixL, r_ixT, r_cat, r_slL, r_append, r_exRl, r_intB, true_and, and_true, forall_const, Int.reduceLT, r_compG, r_setComp, r_yes, r_slT, r_inR, r_notInR, cxOf_K, wish_K, blk_K, r_blk1, r_blk2, List.map_cons, List.map_nil, List.getElem?_cons_zero, List.getElem?_cons_succ, Option.join_some, r_Vs, r_join, r_tyStr, r_dnewK, r_dput, r_exRp, r_gSub, List.set_cons_zero, List.set_cons_succ, r_midL, r_sfld, r_gfld, r_meth, r_make, r_iRev, r_listRev, r_listVals, r_slRev, r_dget2, r_listRng, r_kget1, r_iEnumT]
          refine ⟨.inl ⟨rfl, _, SqL.of (s14 _ _ ek)⟩, fun pq hpq => ?_⟩
          have t4 := Same.upd (o := .tup [V.str "while", V.str nm, V.ref p1]) hpq
          obtain ⟨ys, e5, l5, hI2⟩ := hI.add (j := ct) hk (s14.trans t4) (.whl (SqT.of upd_same) (t4 _ _ upd_same) (v2.same t4)) (by rw [List.append_nil]; exact hfr) ⟨hnm, goodL_append.mpr ⟨gd1, dgood, trivial⟩⟩ (by rw [Stm.deep, deepL_append, deepL, deepL, Stm.deep]; omega) (by rw [Stm.many, manyL_append, manyL, manyL, Stm.many]; omega) (by omega)
          refine ⟨ys, e5, l5, later ?_⟩
          simp only [y_v0, r_g0, y_v1, r_g1, y_v2, r_g2, y_v3, r_g3, y_v4, r_g4, y_v5, r_g5, y_v6, r_g6, y_v7, r_g7, y_v8, r_g8, y_v9, r_g9, y_v10, r_g10, y_v11, r_g11, y_v12, r_g12, y_v13, r_g13, y_v14, r_g14, y_v15, r_g15, r_c, r_op, r_un, y_I0, y_I, y_U, r_eqI, r_eqS, r_neI, r_neS, r_exbl, r_exint, r_test, r_B, r_and, r_or, r_not, r_andV, r_orV, r_notV, r_if, r_next, r_seqL, r_brk, r_cont, r_drop, r_ret, r_retN, r_ifS, r_asg, r_CB, r_nil, r_cons, r_call, r_tup, r_lst, r_p0, r_pS, r_disp, r_dget, r_sl, r_noPart, r_part, r_gNil, r_gCons, r_itF, r_nT, r_nF, r_len0, r_len1, r_len2, r_len3, r_len4, r_len7, r_len8, r_for, r_iEnum, r_iList, r_iTup, r_iRng1, r_iRng2, r_exI1, r_exI2, r_exR, r_bm, r_bm0, r_ixS, r_ixL, r_ixT, r_cat, r_slL, r_append, r_exRl, r_intB, true_and, and_true, forall_const, Int.reduceLT, r_compG, r_setComp, r_yes, r_slT, r_inR, r_notInR, cxOf_K, wish_K, blk_K, r_blk1, r_blk2, List.map_cons, List.map_nil, List.getElem?_cons_zero, List.getElem?_cons_succ, Option.join_some, r_Vs, r_join, r_tyStr, r_dnewK, r_dput, r_exRp, r_gSub, List.set_cons_zero, List.set_cons_succ, r_midL, r_sfld, r_gfld, r_meth, r_make, r_iRev, r_listRev, r_listVals, r_slRev, r_dget2, r_listRng, r_kget1, r_iEnumT]
          exact ⟨ct, _, _, _, _, _, by omega, by omega, hI2, rfl⟩
        · refine later ?_
          simp only [y_v0, r_g0, y_v1, r_g1, y_v2, r_g2, y_v3, r_g3, y_v4, r_g4, y_v5, r_g5, y_v6, r_g6, y_v7, r_g7, y_v8, r_g8, y_v9, r_g9, y_v10, r_g10, y_v11, r_g11, y_v12, r_g12, y_v13, r_g13, y_v14, r_g14, y_v15, r_g15, r_c, r_op, r_un, y_I0, y_I, y_U, r_eqI, r_eqS, r_neI, r_neS, r_exbl, r_exint, r_test, r_B, r_and, r_or, r_not, r_andV, r_orV, r_notV, r_if, r_next, r_seqL, r_brk, r_cont, r_drop, r_ret, r_retN, r_ifS, r_asg, r_CB, r_nil, r_cons, r_call, r_tup, r_lst, r_p0, r_pS, r_disp, r_dget, r_sl, r_noPart, r_part, r_gNil, r_gCons, r_itF, r_nT, r_nF, r_len0, r_len1, r_len2, r_len3, r_len4, r_len7, r_len8, r_for, r_iEnum, r_iList, r_iTup, r_iRng1, r_iRng2, r_exI1, r_exI2, r_exR, r_bm, r_bm0, r_ixS, r_ixL, r_ixT, r_cat, r_slL, r_append, r_exRl, r_intB, true_and, and_true, forall_const, Int.reduceLT, r_compG, r_setComp, r_yes, r_slT, r_inR, r_notInR, cxOf_K, wish_K, blk_K, r_blk1, r_blk2, List.map_cons, List.map_nil, List.getElem?_cons_zero, List.getElem?_cons_succ, Option.join_some, r_Vs, r_join, r_tyStr, r_dnewK, r_dput, r_exRp, r_gSub, List.set_cons_zero, List.set_cons_succ, r_midL, r_sfld, r_gfld, r_meth, r_make, r_iRev, r_listRev, r_listVals, r_slRev, r_dget2, r_listRng, r_kget1, r_iEnumT]
          refine ⟨.inl ⟨rfl, _, SqL.of (s12 _ _ ek)⟩, fun pq hpq => ?_⟩
          have t4 := Same.upd (o := .tup [V.str "while", V.str nm, V.ref p1]) hpq
          obtain ⟨ys, e5, l5, hI2⟩ := hI.add (j := ct) hk (s12.trans t4) (.whl (SqT.of upd_same) (t4 _ _ ep1) (v1.same t4)) hfr ⟨hnm, gd1⟩ (by rw [Stm.deep]; omega) (by rw [Stm.many]; omega) (by omega)
          refine ⟨ys, e5, l5, later ?_⟩
          simp only [y_v0, r_g0, y_v1, r_g1, y_v2, r_g2, y_v3, r_g3, y_v4, r_g4, y_v5, r_g5, y_v6, r_g6, y_v7, r_g7, y_v8, r_g8, y_v9, r_g9, y_v10, r_g10, y_v11, r_g11, y_v12, r_g12, y_v13, r_g13, y_v14, r_g14, y_v15, r_g15, r_c, r_op, r_un, y_I0, y_I, y_U, r_eqI, r_eqS, r_neI, r_neS, r_exbl, r_exint, r_test, r_B, r_and, r_or, r_not, r_andV, r_orV, r_notV, r_if, r_next, r_seqL, r_brk, r_cont, r_drop, r_ret, r_retN, r_ifS, r_asg, r_CB, r_nil, r_cons, r_call, r_tup, r_lst, r_p0, r_pS, r_disp, r_dget, r_sl, r_noPart, r_part, r_gNil, r_gCons, r_itF, r_nT, r_nF, r_len0, r_len1, r_len2, r_len3, r_len4, r_len7, r_len8, r_for, r_iEnum, r_iList, r_iTup, r_iRng1, r_iRng2, r_exI1, r_exI2, r_exR, r_bm, r_bm0, r_ixS, r_ixL, r_ixT, r_cat, r_slL, r_append, r_exRl, r_intB, true_and, and_true, forall_const, Int.reduceLT, r_compG, r_setComp, r_yes, r_slT, r_inR, r_notInR, cxOf_K, wish_K, blk_K, r_blk1, r_blk2, List.map_cons, List.map_nil, List.getElem?_cons_zero, List.getElem?_cons_succ, Option.join_some, r_Vs, r_join, r_tyStr, r_dnewK, r_dput, r_exRp, r_gSub, List.set_cons_zero, List.set_cons_succ, r_midL, r_sfld, r_gfld, r_meth, r_make, r_iRev, r_listRev, r_listVals, r_slRev, r_dget2, r_listRng, r_kget1, r_iEnumT]
          exact ⟨ct, _, _, _, _, _, by omega, by omega, hI2, rfl⟩
  · rw [List.length_map] at h1
    obtain ⟨_, ys, ss, g, ek, hy, ng, fg, gd, dd, my⟩ := hI
    have ei : i = xs.length := by omega
    subst ei
    refine later ?_
    simp only [y_v0, r_g0, y_v1, r_g1, y_v2, r_g2, y_v3, r_g3, y_v4, r_g4, y_v5, r_g5, y_v6, r_g6, y_v7, r_g7, y_v8, r_g8, y_v9, r_g9, y_v10, r_g10, y_v11, r_g11, y_v12, r_g12, y_v13, r_g13, y_v14, r_g14, y_v15, r_g15, r_c, r_op, r_un, y_I0, y_I, y_U, r_eqI, r_eqS, r_neI, r_neS, r_exbl, r_exint, r_test, r_B, r_and, r_or, r_not, r_andV, r_orV, r_notV, r_if, r_next, r_seqL, r_brk, r_cont, r_drop, r_ret, r_retN, r_ifS, r_asg, r_CB, r_nil, r_cons, r_call, r_tup, r_lst, r_p0, r_pS, r_disp, r_dget, r_sl, r_noPart, r_part, r_gNil, r_gCons, r_itF, r_nT, r_nF, r_len0, r_len1, r_len2, r_len3, r_len4, r_len7, r_len8, r_for, r_iEnum, r_iList, r_iTup, r_iRng1, r_iRng2, r_exI1, r_exI2, r_exR, r_bm, r_bm0, r_ixS, r_ixL, r_ixT, r_cat, r_slL, r_append, r_exRl, r_intB, true_and, and_true, forall_const, Int.reduceLT, r_compG, r_setComp, r_yes, r_slT, r_inR, r_notInR, cxOf_K, wish_K, blk_K, r_blk1, r_blk2, List.map_cons, List.map_nil, List.getElem?_cons_zero, List.getElem?_cons_succ, Option.join_some, r_Vs, r_join, r_tyStr, r_dnewK, r_dput, r_exRp, r_gSub, List.set_cons_zero, List.set_cons_succ, r_midL, r_sfld, r_gfld, r_meth, r_make, r_iRev, r_listRev, r_listVals, r_slRev, r_dget2, r_listRng, r_kget1, r_iEnumT]
    exact q k ys ss g H1 s1 (fun c hc => by
      rcases List.mem_cons.mp hc with z | z
      · rw [z]; exact hk
      · exact fg c z) ng ek hy gd dd my
theorem ok_stmts (T : Txt K mg t) : ∀ D, FnOk P w K mg base CX0 (D + 3) t.f__law_statements t.e__law_statements ["_law_numbers", "_law_names_here", "_law_top", "_law_deep"] (sp_stmts K D)
  | 0 => ⟨fun vs H Q E h => by obtain ⟨_, _, _, _, _, _, _, _, _, _, _, _, h, _⟩ := h; omega, fun _ _ _ _ _ _ _ _ _ _ _ _ _ h => by obtain ⟨_, _, _, _, _, _, _, _, _, _, _, _, h, _⟩ := h; omega⟩
  | D + 1 => stmts_step T D (ok_stmts T D)
end
end K22
set_option maxHeartbeats 4000000
namespace K22
open PySem L2 PyProof.Rows FD FB FS FO FR FG
noncomputable def bd_folds (K : PySem.W.Frag) (a : Addr) (st : Int) (m : Int) (H : Hp) (Q : VK) : Prop := ∃ (ns : List Int) (many : Nat), m = (many : Int) ∧ 0 < many ∧ many ≤ 100 ∧ 0 ≤ st ∧ st ≤ 10 ∧ SqL K H a (ns.map V.int) ∧ (∀ z ∈ ns, Builtin.Int.intBits z ≤ 2 ^ 20) ∧ ∀ p (fs : List Int) H', Same H H' → H p = none → H' p = some (.lst (fs.map V.int)) → fs.length = many → Q (.ref p) H'
noncomputable def sp_folds (K : PySem.W.Frag) : Sp := fun vs H Q _ => ∃ (a : Addr) (st m : Int), vs = [.ref a, .int st, .int m] ∧ bd_folds K a st m H Q
section
variable {P : Program} {w : World} {K : PySem.W.Frag} {mg : Str → Option Value} {base : Heap} {t : Ad}
theorem r_folds {a : Addr} {st m : Int} {H : Hp} {Q : VK} {E : XK} : sp_folds K [.ref a, .int st, .int m] H Q E = bd_folds K a st m H Q := propext ⟨by rintro ⟨_, _, _, e, q⟩; cases e; exact q, fun q => ⟨_, _, _, rfl, q⟩⟩
theorem ok_folds (T : Txt K mg t) : FnOk P w K mg base CX0 2 t.f__law_folds t.e__law_folds ["_law_script", "_law_start", "_law_many"] (sp_folds K) := by
  have G__law_mixed := ok_mixed (P := P) (w := w) (base := base) T
  refine T.d__law_folds.F.ok sc__law_folds (fun vs H Q E h => by obtain ⟨_, _, _, rfl, _⟩ := h; rfl) (fun cdv A outer s H vs Q E hr h => ?_)
  obtain ⟨a, st, m, rfl, ns, many, rfl, m0, m1, st0, st1, ha, hb, q⟩ := h
  refine ⟨_,
      (XSs.h
      (xpss_cons
        (xps_setComp (i := 4) sc__law_folds.nd rfl ll rfl (by kernel_rfl) (tns := ["_law_k"]) (cns := []) (ci := []) rfl (CompSc.of (by kernel_rfl)) (xpi_range1 gl T.z_range (xpa_cons (yqv 2 vl) xpa_nil)) (fun _ => (xpg_name (i := 1) (show List.Nodup [(".0" : Str), ("_law_k" : Str)] by decide +kernel) rfl ll (Or.inr (by kernel_rfl)))) (fun _ => xpf_nil) (fun _ => (xpe_op yop_add (xpe_op yop_mul (xpe_op yop_mul (yqv 1 vl) (yqv 1 vl)) xpe_int) xpe_int)))
      (xpss_cons
        (xps_set (i := 5) sc__law_folds.nd rfl ll (xpe_slice sl_list (yqv 0 vl) xpo_none (xpo_some xpe_int)))
      (xpss_cons
        (xps_for PassesOwn.never rfl (xpi_range2 gl T.z_range (xpa_cons (yqv 1 vl) (xpa_cons (xqe_callB call_len_seq gl T.z_len PySem.boot_len (xpa_cons (yqv 5 vl) xpa_nil)) xpa_nil))) (xpg_name (i := 3) sc__law_folds.nd rfl ll)
          (xpss_cons
            (xps_set (i := 6) sc__law_folds.nd rfl ll (xpe_op yop_mod (yqv 3 vl) (yqv 2 vl)))
          (xpss_cons
            (xps_set (i := 7) sc__law_folds.nd rfl ll (xpe_op yop_add (xpe_op yop_add (xpe_op yop_mul (xpe_ix ix_list (yqv 4 vl) (yqv 6 vl) (fun _ _ => rfl)) xpe_int) (xpe_op yop_mul (xqe_callD T.d__law_mixed G__law_mixed (hr.mono (by first | decide | omega)) (xpa_cons (xpe_ix ix_list (yqv 5 vl) (yqv 3 vl) (fun _ _ => rfl)) (xpa_cons (yqv 3 vl) xpa_nil)) gl) xpe_int)) (xqe_callD T.d__law_mixed G__law_mixed (hr.mono (by first | decide | omega)) (xpa_cons (xpe_ix ix_list (yqv 5 vl) (yqv 3 vl) (fun _ _ => rfl)) (xpa_cons (xpe_op yop_add (yqv 3 vl) xpe_int) xpa_nil)) gl)))
          (xpss_one
            (xps_asg (xpe_op yop_mod (yqv 7 vl) xpe_int) (xpg_sub (yqv 4 vl) (yqv 6 vl) set_list))))))
      (xpss_one
        (xps_ret (yqv 4 vl))))))), ?_⟩
  rw [show start _ [V.ref a, V.int st, V.int many] = [some (.ref a), some (.int st), some (.int many), none, none, none, none, none] from rfl]
  simp_arith [r_listRng, r_kget1, r_iEnumT, r_mixed]
  refine ⟨by omega, by omega, fun acc hacc bk => ?_⟩
  rw [Int.toNat_natCast]
  refine cg_sameR (fun _ => true) (fun k : Nat => V.int ((k : Int) * k * 7919 + 5)) (by rw [sizeLine_eq]; omega) hacc (fun i _ H1 Q' _ h => h H1 (Same.refl _)) (fun i hi H1 Q' s1 _ h => ?_) (fun H1 s1 h1 => ?_)
  · simp_arith [r_listRng, r_kget1, r_iEnumT]
    exact ⟨.inl ⟨by omega, by omega⟩, .inr ⟨by decide, by decide⟩, h H1 (Same.refl _)⟩
  obtain ⟨fs0, hfs0, lf0⟩ : ∃ fs0 : List Int, ((List.range many).filter fun _ => true).map (fun k : Nat => V.int ((k : Int) * k * 7919 + 5)) = fs0.map V.int ∧ fs0.length = many := by
    refine ⟨(List.range many).map fun k : Nat => (k : Int) * k * 7919 + 5, ?_, by simp⟩
    rw [List.map_map, List.filter_eq_self.mpr (fun _ _ => rfl)]
    rfl
  rw [hfs0] at h1
  refine ⟨_, s1.seq ha, fun ps hps => ?_⟩
  rw [cutV_to (by decide), ← List.map_take]
  have t2 := Same.upd (o := .lst ((ns.take (Int.toNat 63)).map V.int)) hps
  have hbt : ∀ z ∈ ns.take (Int.toNat 63), Builtin.Int.intBits z ≤ 2 ^ 20 := fun z hz => hb z (List.mem_of_mem_take hz)
  have lt : (ns.take (Int.toNat 63)).length ≤ 63 := by rw [List.length_take]; exact Nat.min_le_left ..
  generalize ns.take (Int.toNat 63) = cs at t2 hbt lt ⊢
  have hpa : ps ≠ acc := fun z => by rw [z, h1] at hps; cases hps
  have hps2 : upd H1 ps (.lst (cs.map V.int)) ps = some (.lst (cs.map V.int)) := upd_same
  generalize upd H1 ps (.lst (cs.map V.int)) = H2 at t2 hps2 ⊢
  refine ⟨_, .inl (SqL.of hps2), ⟨by omega, by omega, by omega, by rw [List.length_map]; omega⟩, ?_⟩
  rw [List.length_map]
  refine fw_range (fun i σ H' => Same H H' ∧ H' ps = some (.lst (cs.map V.int)) ∧ ∃ (fs : List Int) (o3 o6 o7 : Option V), H' acc = some (.lst (fs.map V.int)) ∧ fs.length = many ∧ σ = [some (.ref a), some (.int st), some (.int many), o3, some (.ref acc), some (.ref ps), o6, o7])
    ⟨s1.trans t2, hps2, fs0, _, _, _, t2 _ _ h1, lf0, rfl⟩ ?_ ?_
  · rintro i σ H3 hi ⟨s3, hp3, fs, o3, o6, o7, hf3, lf, rfl⟩
    simp_arith [r_listRng, r_kget1, r_iEnumT, r_mixed]
    have hsi : ∃ j : Nat, st + (i : Int) = (j : Int) ∧ j < cs.length := ⟨(st + i).toNat, by omega, by omega⟩
    obtain ⟨j, hj, hjl⟩ := hsi
    rw [hj]
    obtain ⟨mm, hmm, hml⟩ : ∃ mm : Nat, (j : Int) % (many : Int) = (mm : Int) ∧ mm < many := ⟨j % many, by omega, Nat.mod_lt _ m0⟩
    rw [hmm]
    have hcj : (cs.map V.int)[j]? = some (.int cs[j]) := by rw [List.getElem?_map, List.getElem?_eq_getElem hjl]; rfl
    have hfm : (fs.map V.int)[mm]? = some (.int fs[mm]) := by rw [List.getElem?_map, List.getElem?_eq_getElem (by omega)]; rfl
    refine ⟨by omega, _, _, SqL.of hf3, atI_nat hfm, ?_⟩
    simp_arith [r_listRng, r_kget1, r_iEnumT, r_mixed]
    refine ⟨.inr ⟨by decide, by decide⟩, _, _, SqL.of hp3, atI_nat hcj, ?_⟩
    simp_arith [r_listRng, r_kget1, r_iEnumT, r_mixed]
    refine ⟨hbt _ (List.getElem_mem hjl), by omega, by omega, .inr ⟨by decide, by decide⟩, _, _, SqL.of hp3, atI_nat hcj, ?_⟩
    simp_arith [r_listRng, r_kget1, r_iEnumT, r_mixed]
    refine ⟨hbt _ (List.getElem_mem hjl), by omega, by omega, acc, _, _, mm, rfl, rfl, hf3, FL.ixN_nat (by rw [List.length_map]; omega), s3.updM hacc, ?_, ?_⟩
    · rw [upd_ne hpa]; exact hp3
    · refine ⟨fs.set mm _, _, _, _, by rw [upd_same, List.map_set], by rw [List.length_set]; exact lf, rfl⟩
  · rintro σ H3 ⟨s3, hp3, fs, o3, o6, o7, hf3, lf, rfl⟩
    simp_arith [r_listRng, r_kget1, r_iEnumT]
    exact q acc fs H3 s3 hacc hf3 lf
end
end K22
set_option maxHeartbeats 4000000
namespace K22
open PySem L2 PyProof.Rows FD FB FS FO FR FG
structure DrV (K : PySem.W.Frag) (H H' : Hp) (q : Addr) (wd : Int) (ins oth : List Str) (ss : List Stm) (pi po pr : Addr) (xs : List V) (g : List Addr) (many : Nat) : Prop where
  tup : H' q = some (.tup [.int wd, .ref pi, .ref po, .ref pr])
  ia : H' pi = some (.lst (ins.map V.str))
  oa : H' po = some (.lst (oth.map V.str))
  ra : H' pr = some (.lst xs)
  st : StmsV K H' xs ss g
  gd : goodL (ins ++ oth) wd ss
  dp : deepL ss ≤ 3
  mn : manyL ss ≤ 2 * many
  w1 : 1 ≤ wd
  w8 : wd ≤ 8
  pos : 0 < (ins ++ oth).length
  few : (ins ++ oth).length ≤ 8
  fr : ∀ c ∈ pr :: g, H c = none
  nf : pr ∉ g
end K22
set_option maxHeartbeats 4000000
namespace K22
open PySem L2 PyProof.Rows FD FB FS FO FR FG
noncomputable def sp_copied (K : PySem.W.Frag) (d : Nat) : Sp := fun vs H Q _ => ∃ (a : Addr) (xs : List V) (ss : List Stm) (f : List Addr), vs = [.ref a] ∧ H a = some (.lst xs) ∧ StmsV K H xs ss f ∧ deepL ss < d ∧ manyL ss ≤ 1000 ∧
  ∀ p ys g H', Same H H' → H' p = some (.lst ys) → StmsV K H' ys ss g → (p :: g).Nodup → (∀ c ∈ p :: g, H c = none) → Q (.ref p) H'
noncomputable def sp_crow (K : PySem.W.Frag) (d : Nat) : Sp := fun vs H Q _ => ∃ (x : V) (s : Stm) (f : List Addr), vs = [x] ∧ StmV K H x s f ∧ s.deep < d ∧ s.many ≤ 1000 ∧
  ∀ y g H', Same H H' → StmV K H' y s g → g.Nodup → (∀ c ∈ g, H c = none) → Q y H'
section
variable {P : Program} {w : World} {K : PySem.W.Frag} {mg : Str → Option Value} {base : Heap} {t : Ad}
theorem r_crow {d : Nat} {x : V} {H : Hp} {Q : VK} {E : XK} : sp_crow K d [x] H Q E = ∃ (s : Stm) (f : List Addr), StmV K H x s f ∧ s.deep < d ∧ s.many ≤ 1000 ∧ ∀ y g H', Same H H' → StmV K H' y s g → g.Nodup → (∀ c ∈ g, H c = none) → Q y H' :=
  propext ⟨by rintro ⟨_, s, f, e, q⟩; cases e; exact ⟨s, f, q⟩, by rintro ⟨s, f, q⟩; exact ⟨x, s, f, rfl, q⟩⟩
theorem r_copied {d : Nat} {a : Addr} {H : Hp} {Q : VK} {E : XK} : sp_copied K d [.ref a] H Q E = ∃ (xs : List V) (ss : List Stm) (f : List Addr), H a = some (.lst xs) ∧ StmsV K H xs ss f ∧ deepL ss < d ∧ manyL ss ≤ 1000 ∧
  ∀ p ys g H', Same H H' → H' p = some (.lst ys) → StmsV K H' ys ss g → (p :: g).Nodup → (∀ c ∈ p :: g, H c = none) → Q (.ref p) H' :=
  propext ⟨by rintro ⟨_, xs, ss, f, e, q⟩; cases e; exact ⟨xs, ss, f, q⟩, by rintro ⟨xs, ss, f, q⟩; exact ⟨a, xs, ss, f, rfl, q⟩⟩
theorem copied_step (T : Txt K mg t) (d : Nat) (G_copied_row : FnOk P w K mg base CX0 (2 * d + 1) t.f_copied_row t.e_copied_row ["row"] (sp_crow K d)) : FnOk P w K mg base CX0 (2 * d + 2) t.f_copied t.e_copied ["rows"] (sp_copied K d) := by
  refine T.d_copied.F.ok sc_copied (fun vs H Q E h => by obtain ⟨_, _, _, _, rfl, _⟩ := h; rfl) (fun cdv A outer s H vs Q E hr h => ?_)
  obtain ⟨a, xs, ss, f, rfl, ha, hx, hd, hl, q⟩ := h
  refine ⟨_,
      (XSs.h
      (xpss_one
        (xps_ret (xpe_compG (tns := ["row"]) (cns := []) (ci := []) rfl (CompSc.of (by kernel_rfl)) (xpi_list (yqv 0 vl)) (fun _ => (xpg_name (i := 1) (show List.Nodup [(".0" : Str), ("row" : Str)] by decide +kernel) rfl ll (Or.inr (by kernel_rfl)))) (fun _ => xpf_nil) (fun _ => (xqe_callD T.d_copied_row G_copied_row (hr.mono (by first | decide | omega)) (xpa_cons (yqv 1 vl) xpa_nil) gl)))))), ?_⟩
  rw [show start _ [V.ref a] = [some (.ref a)] from rfl]
  simp_arith [r_listRng, r_kget1, r_iEnumT, r_crow]
  refine ⟨⟨_, SqL.of ha⟩, fun acc hacc bk => ?_⟩
  have lx := hx.length
  have lm := len_many ss
  refine cg_list (xs := xs) (fun i ys H' => Same H H' ∧ H' acc = some (.lst ys) ∧ ys.length = i ∧ ∃ g, StmsV K H' ys (ss.take i) g ∧ (acc :: g).Nodup ∧ ∀ c ∈ acc :: g, H c = none) ?_ ?_ ?_ ?_
  · exact ⟨Same.upd hacc, upd_same, rfl, [], .nil, by simp, fun c hc => by rw [List.mem_singleton.mp hc]; exact hacc⟩
  · intro i ys H' _ h; exact SqL.of (h.1 _ _ ha)
  · rintro i x ys H' os hxi ho ⟨sm, hacc2, ly, g, hg, nd, fr⟩
    match os, ho with
    | [o], _ =>
      simp_arith [r_listRng, r_kget1, r_iEnumT, r_crow]
      refine ⟨⟨[some x], rfl, rfl⟩, ?_⟩
      rw [if_pos trivial]
      obtain ⟨s, f', hs, hsv, _⟩ := hx.get hxi
      have hi : i < ss.length := (List.getElem?_eq_some_iff.mp hs).1
      have hse : ss[i] = s := (List.getElem?_eq_some_iff.mp hs).2
      have hds := deepL_mem (List.mem_of_getElem? hs)
      refine ⟨s, f', hsv.same sm, by omega, by have := many_mem (List.mem_of_getElem? hs); omega, fun y g2 H2 s2 hy nd2 fr2 => ?_⟩
      have na : acc ∉ g := (List.nodup_cons.mp nd).1
      have na2 : acc ∉ g2 := fun z => by rw [fr2 acc z] at hacc2; cases hacc2
      have tt : TSame H2 (upd H2 acc (.lst (ys ++ [y]))) := TSame.updL (s2 _ _ hacc2)
      refine ⟨s2 _ _ hacc2, by rw [sizeLine_eq]; omega, (sm.trans s2).updM hacc, upd_same, by simp [ly], g ++ g2, ?_, ?_, fun c hc => ?_⟩
      · rw [List.take_succ_eq_append_getElem hi, hse]
        exact ((hg.same s2).keep tt (Kept.upd na)).snoc (hy.keep tt (Kept.upd na2))
      · refine List.nodup_cons.mpr ⟨fun z => (List.mem_append.mp z).elim na na2, nodup_app (List.nodup_cons.mp nd).2 nd2 fun c h1 h2 => ?_⟩
        obtain ⟨zs, hz⟩ := hg.tracked c h1
        rw [fr2 c h2] at hz; cases hz
      · rcases List.mem_cons.mp hc with z | z
        · rw [z]; exact hacc
        · rcases List.mem_append.mp z with z | z
          · exact fr c (List.mem_cons_of_mem _ z)
          · exact sm.free (fr2 c z)
  · rintro ys H' ⟨sm, hacc2, ly, g, hg, nd, fr⟩
    rw [lx, List.take_length] at hg
    exact q acc ys g H' sm hacc2 hg nd fr
theorem crow_step (T : Txt K mg t) (d : Nat) (G_copied : FnOk P w K mg base CX0 (2 * d + 2) t.f_copied t.e_copied ["rows"] (sp_copied K d)) : FnOk P w K mg base CX0 (2 * (d + 1) + 1) t.f_copied_row t.e_copied_row ["row"] (sp_crow K (d + 1)) := by
  refine T.d_copied_row.F.ok sc_copied_row (fun vs H Q E h => by obtain ⟨_, _, _, rfl, _⟩ := h; rfl) (fun cdv A outer s H vs Q E hr h => ?_)
  obtain ⟨x, s, f, rfl, hx, hd, hm, q⟩ := h
  refine ⟨_,
      (XSs.h
      (xpss_cons
        (xps_if (xpt_cmpR op_eq (xpe_ix ix_tup (yqv 0 vl) xpe_int (fun _ _ => rfl)) xpe_str (nomark _))
          (xpss_one
            (xps_ret (xpe_tup (xpa_cons xpe_str (xpa_cons (xpe_ix ix_tup (yqv 0 vl) xpe_int (fun _ _ => rfl)) (xpa_cons (xqe_callD T.d_copied G_copied (hr.mono (by first | decide | omega)) (xpa_cons (xpe_ix ix_tup (yqv 0 vl) xpe_int (fun _ _ => rfl)) xpa_nil) gl) (xpa_cons (xqe_callD T.d_copied G_copied (hr.mono (by first | decide | omega)) (xpa_cons (xpe_ix ix_tup (yqv 0 vl) xpe_int (fun _ _ => rfl)) xpa_nil) gl) xpa_nil)))))))
          xpss_nil)
      (xpss_cons
        (xps_if (xpt_cmpR op_eq (xpe_ix ix_tup (yqv 0 vl) xpe_int (fun _ _ => rfl)) xpe_str (nomark _))
          (xpss_one
            (xps_ret (xpe_tup (xpa_cons xpe_str (xpa_cons (xpe_ix ix_tup (yqv 0 vl) xpe_int (fun _ _ => rfl)) (xpa_cons (xqe_callD T.d_copied G_copied (hr.mono (by first | decide | omega)) (xpa_cons (xpe_ix ix_tup (yqv 0 vl) xpe_int (fun _ _ => rfl)) xpa_nil) gl) xpa_nil))))))
          xpss_nil)
      (xpss_one
        (xps_ret (yqv 0 vl)))))), ?_⟩
  rw [show start _ [x] = [some x] from rfl]
  cases hx with
  | @deed q0 dd hf hq =>
    simp_arith [r_listRng, r_kget1, r_iEnumT, r_copied]
    refine deed0 hf hq (by decide +kernel) (by decide +kernel) (by decide +kernel) ⟨_, rfl, ?_⟩
    rw [if_neg Bool.false_ne_true]
    refine deed0 hf hq (by decide +kernel) (by decide +kernel) (by decide +kernel) ⟨_, rfl, ?_⟩
    rw [if_neg Bool.false_ne_true]
    exact q _ [] H (Same.refl H) (.deed hf hq) (by simp) (fun c hc => by cases hc)
  | @ifs q0 a b n xs ys ones others f g hq ha hb h1 h2 =>
    simp only [Stm.deep, Stm.many] at hd hm
    simp_arith [r_listRng, r_kget1, r_iEnumT, r_copied]
    refine ⟨_, _, hq, rfl, ?_⟩
    simp_arith [r_listRng, r_kget1, r_iEnumT, r_copied]
    refine ite_dec (fun _ => ⟨_, _, hq, rfl, _, _, hq, rfl, ?_⟩) (fun z => absurd trivial z)
    simp_arith [r_listRng, r_kget1, r_iEnumT, r_copied]
    refine ⟨xs, ones, f, ha, h1, by omega, by omega, fun p1 zs1 g1 H1 s1 e1 k1 nd1 fr1 => ⟨_, _, s1.seqT hq, rfl, ?_⟩⟩
    simp_arith [r_listRng, r_kget1, r_iEnumT, r_copied]
    refine ⟨ys, others, g, s1 _ _ hb, h2.same s1, by omega, by omega, fun p2 zs2 g2 H2 s2 e2 k2 nd2 fr2 p3 hp3 => ?_⟩
    have s3 := Same.upd (o := .tup [V.str "if", V.str n, V.ref p1, V.ref p2]) hp3
    have s12 := s1.trans s2
    refine q _ (p1 :: p2 :: (g1 ++ g2)) _ (s12.trans s3) (.ifs (SqT.of upd_same) (s3 _ _ (s2 _ _ e1)) (s3 _ _ e2) ((k1.same s2).same s3) (k2.same s3)) ?_ (fun c hc => ?_)
    · have dj : ∀ c ∈ p1 :: g1, c ∉ p2 :: g2 := fun c h1 h2 => by
        have ex : ∃ u, H1 c = some u := by
          rcases List.mem_cons.mp h1 with z | z
          · exact ⟨_, by rw [z]; exact e1⟩
          · obtain ⟨u, hu⟩ := k1.tracked c z; exact ⟨_, hu⟩
        obtain ⟨u, hu⟩ := ex
        rw [fr2 c h2] at hu; cases hu
      have n5 := nodup_app nd1 nd2 dj
      refine (List.Perm.nodup_iff ?_).mp n5
      rw [List.cons_append]
      exact .cons _ List.perm_middle
    · rcases List.mem_cons.mp hc with z | z
      · rw [z]; exact fr1 p1 (by simp)
      rcases List.mem_cons.mp z with z | z
      · rw [z]; exact s1.free (fr2 p2 (by simp))
      rcases List.mem_append.mp z with z | z
      · exact fr1 c (List.mem_cons_of_mem _ z)
      · exact s1.free (fr2 c (List.mem_cons_of_mem _ z))
  | @whl q0 a n xs rows f hq ha h1 =>
    simp only [Stm.deep, Stm.many] at hd hm
    simp_arith [r_listRng, r_kget1, r_iEnumT, r_copied]
    refine ⟨_, _, hq, rfl, ?_⟩
    simp_arith [r_listRng, r_kget1, r_iEnumT, r_copied]
    refine ite_dec (fun z => absurd z (by decide +kernel)) (fun _ => ⟨_, _, hq, rfl, ?_⟩)
    simp_arith [r_listRng, r_kget1, r_iEnumT, r_copied]
    refine ite_dec (fun _ => ⟨_, _, hq, rfl, _, _, hq, rfl, ?_⟩) (fun z => absurd trivial z)
    simp_arith [r_listRng, r_kget1, r_iEnumT, r_copied]
    refine ⟨xs, rows, f, ha, h1, by omega, by omega, fun p1 zs1 g1 H1 s1 e1 k1 nd1 fr1 p3 hp3 => ?_⟩
    have s3 := Same.upd (o := .tup [V.str "while", V.str n, V.ref p1]) hp3
    exact q _ (p1 :: g1) _ (s1.trans s3) (.whl (SqT.of upd_same) (s3 _ _ e1) (k1.same s3)) nd1 fr1
theorem ok_copies (T : Txt K mg t) : ∀ d, FnOk P w K mg base CX0 (2 * d + 1) t.f_copied_row t.e_copied_row ["row"] (sp_crow K d) ∧ FnOk P w K mg base CX0 (2 * d + 2) t.f_copied t.e_copied ["rows"] (sp_copied K d)
  | 0 => by
    have h0 : FnOk P w K mg base CX0 (2 * 0 + 1) t.f_copied_row t.e_copied_row ["row"] (sp_crow K 0) := ⟨fun vs H Q E h => by obtain ⟨_, _, _, _, _, h, _⟩ := h; omega, fun _ _ _ _ _ _ _ _ _ _ _ _ _ h => by obtain ⟨_, _, _, _, _, h, _⟩ := h; omega⟩
    exact ⟨h0, copied_step T 0 h0⟩
  | d + 1 => by
    have h1 := crow_step T d (ok_copies T d).2
    exact ⟨h1, copied_step T (d + 1) h1⟩
end
end K22
set_option maxHeartbeats 4000000
namespace K22
open PySem L2 PyProof.Rows FD FB FS FO FR FG
noncomputable def bd_init (K : PySem.W.Frag) (C : Addr) (d : Nat) (p : Addr) (a0 : Addr) (b0 : Addr) (r0 : Addr) (wd : Int) (H : Hp) (Q : VK) : Prop := ∃ (dx : Addr) (ins : List Str) (oth : List Str) (xs : List V) (ss : List Stm) (f : List Addr), H p = some (.ins C dx []) ∧
  H a0 = some (.lst (ins.map V.str)) ∧ H b0 = some (.lst (oth.map V.str)) ∧ H r0 = some (.lst xs) ∧ StmsV K H xs ss f ∧ deepL ss < d ∧ manyL ss ≤ 1000 ∧ ins.length ≤ 1000 ∧ oth.length ≤ 1000 ∧
  ∀ a b r ys g H', SameX p H H' → ProgAt K C H' p wd ins oth ss a b r ys g → (a :: b :: r :: g).Nodup → (∀ c ∈ a :: b :: r :: g, H c = none) → Q .non H'
theorem mk_init {K : PySem.W.Frag} {C : Addr} {d : Nat} {p : Addr} {a0 : Addr} {b0 : Addr} {r0 : Addr} {wd : Int} {H : Hp} {Q : VK}  (dx : Addr) (ins : List Str) (oth : List Str) (xs : List V) (ss : List Stm) (f : List Addr) (h_0 : H p = some (.ins C dx [])) (h_1 : H a0 = some (.lst (ins.map V.str))) (h_2 : H b0 = some (.lst (oth.map V.str))) (h_3 : H r0 = some (.lst xs)) (h_4 : StmsV K H xs ss f) (h_5 : deepL ss < d) (h_6 : manyL ss ≤ 1000) (h_7 : ins.length ≤ 1000) (h_8 : oth.length ≤ 1000) (h_9 : ∀ a b r ys g H', SameX p H H' → ProgAt K C H' p wd ins oth ss a b r ys g → (a :: b :: r :: g).Nodup → (∀ c ∈ a :: b :: r :: g, H c = none) → Q .non H') : bd_init K C d p a0 b0 r0 wd H Q := ⟨dx, ins, oth, xs, ss, f, h_0, h_1, h_2, h_3, h_4, h_5, h_6, h_7, h_8, h_9⟩
noncomputable def sp_init (K : PySem.W.Frag) (C : Addr) (d : Nat) : Sp := fun vs H Q _ => ∃ (p : Addr) (a0 : Addr) (b0 : Addr) (r0 : Addr) (wd : Int), vs = [.ref p, .int wd, .ref a0, .ref b0, .ref r0] ∧ bd_init K C d p a0 b0 r0 wd H Q
section
variable {P : Program} {w : World} {K : PySem.W.Frag} {mg : Str → Option Value} {base : Heap} {t : Ad}
theorem ok_init (T : Txt K mg t) (d : Nat) : FnOk P w K mg base CX0 (2 * d + 3) t.f_Program___init__ t.e_Program___init__ ["self", "width", "ins", "boxes", "rows"] (sp_init K t.C_Program d) := by
  have G_copied := (ok_copies (P := P) (w := w) (base := base) T d).2
  refine T.d_Program___init__.F.ok sc_Program___init__ (fun vs H Q E h => by obtain ⟨_, _, _, _, _, rfl, _⟩ := h; rfl) (fun cdv A outer s H vs Q E hr h => ?_)
  obtain ⟨p, a0, b0, r0, wd, rfl, dx, ins, oth, xs, ss, f, hp, ha, hb, hr0, hx, hd, hm, hi, ho, q⟩ := h
  refine ⟨_,
      (XSs.h
      (xpss_cons
        (xps_fld (yqv 0 vl) (yqv 1 vl) rfl)
      (xpss_cons
        (xps_fld (yqv 0 vl) (xqe_callTy call_list_of gl T.z_list boot_list (xpa_cons (yqv 2 vl) xpa_nil)) rfl)
      (xpss_cons
        (xps_fld (yqv 0 vl) (xpe_op op_cat (xqe_callTy call_list_of gl T.z_list boot_list (xpa_cons (yqv 2 vl) xpa_nil)) (xqe_callTy call_list_of gl T.z_list boot_list (xpa_cons (yqv 3 vl) xpa_nil))) rfl)
      (xpss_one
        (xps_fld (yqv 0 vl) (xqe_callD T.d_copied G_copied (hr.mono (by first | decide | omega)) (xpa_cons (yqv 4 vl) xpa_nil) gl) rfl)))))), ?_⟩
  rw [show start _ [V.ref p, V.int wd, V.ref a0, V.ref b0, V.ref r0] = [some (.ref p), some (.int wd), some (.ref a0), some (.ref b0), some (.ref r0)] from rfl]
  simp_arith [r_listRng, r_kget1, r_iEnumT, r_copied]
  have na : a0 ≠ p := ne_of ha hp (by intro z; cases z)
  have nb : b0 ≠ p := ne_of hb hp (by intro z; cases z)
  have nr : r0 ≠ p := ne_of hr0 hp (by intro z; cases z)
  -- self.width = width
  refine fput hp T.c_Program.cl T.n_Program_width (by simp) ?_
  rw [putF_new (by rfl), List.nil_append]
  obtain ⟨H1, hH1⟩ : ∃ H1, H1 = upd H p (.ins t.C_Program dx [("width", V.int wd)]) := ⟨_, rfl⟩
  rw [← hH1]
  have e1 : H1 p = some (.ins t.C_Program dx [("width", V.int wd)]) := by rw [hH1]; exact upd_same
  have s1 : SameX p H H1 := by rw [hH1]; exact SameX.upd
  have t1 : TSame H H1 := by rw [hH1]; exact TSame.updI hp
  -- self.ins = list(ins)
  simp_arith [r_listRng, r_kget1, r_iEnumT, r_copied]
  refine ⟨_, .inl (SqL.of (s1 _ _ ha na)), fun l1 hl1 => ?_⟩
  have np1 : p ≠ l1 := ne_of_none e1 hl1
  refine fput (by rw [upd_ne np1]; exact e1) T.c_Program.cl T.n_Program_ins (by simp) ?_
  rw [putF_new (by kernel_rfl)]
  obtain ⟨H2, hH2⟩ : ∃ H2, H2 = upd (upd H1 l1 (.lst (ins.map V.str))) p (.ins t.C_Program dx ([(("width" : Str), V.int wd)] ++ [(("ins" : Str), V.ref l1)])) := ⟨_, rfl⟩
  rw [← hH2]
  have e2 : H2 p = some (.ins t.C_Program dx ([(("width" : Str), V.int wd)] ++ [(("ins" : Str), V.ref l1)])) := by rw [hH2]; exact upd_same
  have s2 : SameX p H1 H2 := by rw [hH2]; exact (SameX.of (Same.upd hl1)).trans SameX.upd
  have k2 : H2 l1 = some (.lst (ins.map V.str)) := by rw [hH2, upd_ne np1.symm]; exact upd_same
  have t2 : TSame H1 H2 := by rw [hH2]; exact (Same.upd hl1).ts.trans (TSame.updI (by rw [upd_ne np1]; exact e1))
  have s02 := s1.trans s2
  -- self.boxes = list(ins) + list(boxes)
  simp_arith [r_listRng, r_kget1, r_iEnumT, r_copied]
  refine ⟨_, .inl (SqL.of (s02 _ _ ha na)), fun l2 hl2 => ?_⟩
  have s3 := Same.upd (o := .lst (ins.map V.str)) hl2
  refine ⟨_, .inl (SqL.of (s3 _ _ (s02 _ _ hb nb))), fun l3 hl3 => ?_⟩
  have s4 := s3.trans (Same.upd (o := .lst (oth.map V.str)) hl3)
  refine ⟨_, _, (by rw [upd_ne (ne_of_none upd_same hl3)]; exact upd_same), upd_same, (by rw [sizeLine_eq]; simp only [List.length_map]; omega), fun l4 hl4 => ?_⟩
  have s5 := s4.trans (Same.upd (o := .lst (ins.map V.str ++ oth.map V.str)) hl4)
  refine fput (s5 _ _ e2) T.c_Program.cl T.n_Program_boxes (by simp) ?_
  rw [putF_new (by kernel_rfl)]
  have np4 : p ≠ l4 := ne_of_none (s4 _ _ e2) hl4
  obtain ⟨H3, hH3⟩ : ∃ H3, H3 = upd (upd (upd (upd H2 l2 (.lst (ins.map V.str))) l3 (.lst (oth.map V.str))) l4 (.lst (ins.map V.str ++ oth.map V.str))) p (.ins t.C_Program dx ([(("width" : Str), V.int wd)] ++ [(("ins" : Str), V.ref l1)] ++ [(("boxes" : Str), V.ref l4)])) := ⟨_, rfl⟩
  rw [← hH3]
  have e3 : H3 p = some (.ins t.C_Program dx ([(("width" : Str), V.int wd)] ++ [(("ins" : Str), V.ref l1)] ++ [(("boxes" : Str), V.ref l4)])) := by rw [hH3]; exact upd_same
  have s23 : SameX p H2 H3 := by rw [hH3]; exact (SameX.of s5).trans SameX.upd
  have k4 : H3 l4 = some (.lst (ins.map V.str ++ oth.map V.str)) := by rw [hH3, upd_ne np4.symm]; exact upd_same
  have t3 : TSame H2 H3 := by rw [hH3]; exact s5.ts.trans (TSame.updI (s5 _ _ e2))
  have s03 := s02.trans s23
  -- self.rows = copied(rows)
  simp_arith [r_listRng, r_kget1, r_iEnumT, r_copied]
  have pf : p ∉ f := fun z => by obtain ⟨zs, hz⟩ := hx.tracked p z; rw [hp] at hz; cases hz
  refine ⟨xs, ss, f, s03 _ _ hr0 nr, hx.keep ((t1.trans t2).trans t3) (fun c hc o e => s03 c o e (fun z => pf (by rw [← z]; exact hc))), hd, hm, fun r ys g H4 s34 e4 k5 nd fr => ?_⟩
  refine fput (s34 _ _ e3) T.c_Program.cl T.n_Program_rows (by simp) ?_
  rw [putF_new (by kernel_rfl)]
  have pg : p ∉ r :: g := fun z => by rw [fr p z] at e3; cases e3
  have npr : r ≠ p := fun z => pg (by rw [z]; exact List.mem_cons_self)
  have nl1 : l1 ≠ p := np1.symm
  have nl4 : l4 ≠ p := np4.symm
  have n14 : l1 ≠ l4 := ne_of_none (s4 _ _ k2) hl4
  have f1 : H l1 = none := s1.free e1 hl1
  have f4 : H l4 = none := s02.free e2 (s4.free hl4)
  have k3 : H3 l1 = some (.lst (ins.map V.str)) := s23 _ _ k2 nl1
  refine q l1 l4 r ys g _ (s03.trans ((SameX.of s34).trans SameX.upd)) ⟨⟨dx, upd_same⟩, ?_, ?_, ?_, ?_⟩ ?_ ?_
  · rw [upd_ne nl1]; exact s34 _ _ k3
  · rw [upd_ne nl4, List.map_append]; exact s34 _ _ k4
  · rw [upd_ne npr]; exact e4
  · exact k5.keep (TSame.updI (s34 _ _ e3)) (Kept.upd fun z => pg (List.mem_cons_of_mem _ z))
  · have a1 : l1 ∉ r :: g := fun z => by rw [fr l1 z] at k3; cases k3
    have a4 : l4 ∉ r :: g := fun z => by rw [fr l4 z] at k4; cases k4
    refine List.nodup_cons.mpr ⟨fun z => ?_, List.nodup_cons.mpr ⟨a4, nd⟩⟩
    rcases List.mem_cons.mp z with z | z
    · exact n14 z
    · exact a1 z
  · intro c hc
    rcases List.mem_cons.mp hc with z | hc
    · rw [z]; exact f1
    rcases List.mem_cons.mp hc with z | hc
    · rw [z]; exact f4
    exact s03.free e3 (fr c hc)
end
end K22
set_option maxHeartbeats 4000000
namespace K22
open PySem L2 PyProof.Rows FD FB FS FO FR FG
noncomputable def edVs : FZ.Ed → List V
  | .stop => [.str "stop"]
  | .go i => [.str "go", .int i]
  | .choose n i j => [.str "choose", .str n, .int i, .int j]
noncomputable def DeedV1 (K : PySem.W.Frag) (H : Hp) (x : V) (d : Deed) : Prop := ∃ q, x = .ref q ∧ SqT K H q d.vs ∧ d.fine
noncomputable def BlkV (K : PySem.W.Frag) (N : Addr → Prop) (H : Hp) (bl : Addr) (x : V) (b : FZ.Blk) : Prop := ∃ q a e vs, x = .ref q ∧ H q = some (.tup [.ref a, .ref e]) ∧ H a = some (.lst vs) ∧ Paired (DeedV1 K H) vs b.ds ∧ H e = some (.tup (edVs b.ed)) ∧ a ≠ bl ∧ N a
theorem DeedV1.ts {K : PySem.W.Frag} {H H' : Hp} {x : V} {d : Deed} (t : TSame H H') (h : DeedV1 K H x d) : DeedV1 K H' x d := let ⟨q, e, z, f⟩ := h; ⟨q, e, t.seqT z, f⟩
theorem SameX.tsL2 {p : Addr} {H H' : Hp} {ys : List V} (s : SameX p H H') (h : H p = some (.lst ys)) : TSame H H' :=
  ⟨fun c xs e => s c _ e (fun z => by rw [z, h] at e; cases e), fun c o u e => s c _ e (fun z => by rw [z, h] at e; cases e)⟩
theorem BlkV.sx {K : PySem.W.Frag} {N : Addr → Prop} {H H' : Hp} {bl : Addr} {x : V} {b : FZ.Blk} {ys : List V} (h : BlkV K N H bl x b) (s : SameX bl H H') (hb : H bl = some (.lst ys)) : BlkV K N H' bl x b := by
  obtain ⟨q, a, e, vs, ex, h1, h2, h3, h4, h5⟩ := h
  have tt := SameX.tsL2 s hb
  exact ⟨q, a, e, vs, ex, s _ _ h1 (fun z => by rw [z, hb] at h1; cases h1), s _ _ h2 h5.1, FL.Paired.imp h3 fun y _ d _ z => z.ts tt, s _ _ h4 (fun z => by rw [z, hb] at h4; cases h4), h5⟩
structure PartAt (K : PySem.W.Frag) (C : Addr) (N : Addr → Prop) (H : Hp) (p bl : Addr) (B : List FZ.Blk) : Prop where
  ob : ∃ dx, H p = some (.ins C dx [("blocks", .ref bl)])
  nw : ∀ c, H c = none → N c
  bs : ∃ xs, H bl = some (.lst xs) ∧ Paired (BlkV K N H bl) xs B
theorem PartAt.ne {K : PySem.W.Frag} {C : Addr} {N : Addr → Prop} {H : Hp} {p bl : Addr} {B : List FZ.Blk} (h : PartAt K C N H p bl B) : p ≠ bl := fun z => by
  obtain ⟨dx, e⟩ := h.ob
  obtain ⟨xs, e2, _⟩ := h.bs
  rw [z, e2] at e; cases e
theorem PartAt.same {K : PySem.W.Frag} {C : Addr} {N : Addr → Prop} {H H' : Hp} {p bl : Addr} {B : List FZ.Blk} (h : PartAt K C N H p bl B) (s : Same H H') : PartAt K C N H' p bl B := by
  obtain ⟨xs, e, q⟩ := h.bs
  exact ⟨let ⟨dx, e⟩ := h.ob; ⟨dx, s _ _ e⟩, fun c hc => h.nw c (s.free hc), xs, s _ _ e, FL.Paired.imp q fun x _ b _ z => z.sx (SameX.of s) e⟩
theorem BlkV.same {K : PySem.W.Frag} {N : Addr → Prop} {H H' : Hp} {bl : Addr} {x : V} {b : FZ.Blk} (h : BlkV K N H bl x b) (s : Same H H') : BlkV K N H' bl x b := by
  obtain ⟨q, a, e, vs, ex, h1, h2, h3, h4, h5⟩ := h
  exact ⟨q, a, e, vs, ex, s _ _ h1, s _ _ h2, FL.Paired.imp h3 fun y _ d _ z => z.ts s.ts, s _ _ h4, h5⟩
noncomputable def bd_num (K : PySem.W.Frag) (C : Addr) (p : Addr) (x : V) (H : Hp) (Q : VK) : Prop := ∃ (N : Addr → Prop) (bl : Addr) (B : List FZ.Blk) (b : FZ.Blk), PartAt K C N H p bl B ∧ BlkV K N H bl x b ∧ B.length < 5000 ∧ ∀ H', SameX bl H H' → PartAt K C N H' p bl (B ++ [b]) → Q (.int B.length) H'
noncomputable def sp_num (K : PySem.W.Frag) (C : Addr) : Sp := fun vs H Q _ => ∃ (p : Addr) (x : V), vs = [.ref p, x] ∧ bd_num K C p x H Q
noncomputable def bd_keep (K : PySem.W.Frag) (C : Addr) (p : Addr) (H : Hp) (Q : VK) : Prop := ∃ (N : Addr → Prop) (bl : Addr) (B : List FZ.Blk), PartAt K C N H p bl B ∧ B.length < 5000 ∧ ∀ H', SameX bl H H' → PartAt K C N H' p bl (B ++ [⟨[], .stop⟩]) → Q (.int B.length) H'
theorem mk_keep {K : PySem.W.Frag} {C : Addr} {p : Addr} {H : Hp} {Q : VK}  (N : Addr → Prop) (bl : Addr) (B : List FZ.Blk) (h_0 : PartAt K C N H p bl B) (h_1 : B.length < 5000) (h_2 : ∀ H', SameX bl H H' → PartAt K C N H' p bl (B ++ [⟨[], .stop⟩]) → Q (.int B.length) H') : bd_keep K C p H Q := ⟨N, bl, B, h_0, h_1, h_2⟩
noncomputable def sp_keep (K : PySem.W.Frag) (C : Addr) : Sp := fun vs H Q _ => ∃ p : Addr, vs = [.ref p] ∧ bd_keep K C p H Q
noncomputable def bd_way (K : PySem.W.Frag) (C : Addr) (p : Addr) (x : V) (H : Hp) (Q : VK) : Prop := ∃ (N : Addr → Prop) (bl : Addr) (B : List FZ.Blk) (b : FZ.Blk), PartAt K C N H p bl B ∧ BlkV K N H bl x b ∧ B.length < 5000 ∧ ∀ H', SameX bl H H' → PartAt K C N H' p bl (FZ.wayTo b B).2 → Q (.int (FZ.wayTo b B).1) H'
theorem mk_way {K : PySem.W.Frag} {C : Addr} {p : Addr} {x : V} {H : Hp} {Q : VK}  (N : Addr → Prop) (bl : Addr) (B : List FZ.Blk) (b : FZ.Blk) (h_0 : PartAt K C N H p bl B) (h_1 : BlkV K N H bl x b) (h_2 : B.length < 5000) (h_3 : ∀ H', SameX bl H H' → PartAt K C N H' p bl (FZ.wayTo b B).2 → Q (.int (FZ.wayTo b B).1) H') : bd_way K C p x H Q := ⟨N, bl, B, b, h_0, h_1, h_2, h_3⟩
noncomputable def sp_way (K : PySem.W.Frag) (C : Addr) : Sp := fun vs H Q _ => ∃ (p : Addr) (x : V), vs = [.ref p, x] ∧ bd_way K C p x H Q
section
variable {P : Program} {w : World} {K : PySem.W.Frag} {mg : Str → Option Value} {base : Heap} {t : Ad}
theorem r_num {C p : Addr} {x : V} {H : Hp} {Q : VK} {E : XK} : sp_num K C [.ref p, x] H Q E = bd_num K C p x H Q := propext ⟨by rintro ⟨_, _, e, q⟩; cases e; exact q, fun q => ⟨_, _, rfl, q⟩⟩
theorem r_keep {C p : Addr} {H : Hp} {Q : VK} {E : XK} : sp_keep K C [.ref p] H Q E = bd_keep K C p H Q := propext ⟨by rintro ⟨_, e, q⟩; cases e; exact q, fun q => ⟨_, rfl, q⟩⟩
theorem r_way {C p : Addr} {x : V} {H : Hp} {Q : VK} {E : XK} : sp_way K C [.ref p, x] H Q E = bd_way K C p x H Q := propext ⟨by rintro ⟨_, _, e, q⟩; cases e; exact q, fun q => ⟨_, _, rfl, q⟩⟩
theorem upd_none {H : Hp} {a c : Addr} {o : HO} (h : upd H a o c = none) : H c = none := by
  unfold upd at h
  split at h
  · cases h
  · exact h
theorem ok_num (T : Txt K mg t) : FnOk P w K mg base CX0 1 t.f_Parting_numbered t.e_Parting_numbered ["self", "block"] (sp_num K t.C_Parting) := by
  refine T.d_Parting_numbered.F.ok sc_Parting_numbered (fun vs H Q E h => by obtain ⟨_, _, rfl, _⟩ := h; rfl) (fun cdv A outer s H vs Q E hr h => ?_)
  obtain ⟨p, x, rfl, N, bl, B, b, hP, hb, hl, q⟩ := h
  obtain ⟨dx, ob⟩ := hP.ob
  obtain ⟨xs, hbl, hxs⟩ := hP.bs
  have lx := hxs.length
  refine ⟨_,
      (XSs.h
      (xpss_cons
        (xps_expr (xpe_bm PySem.F.plainAttrs_list PySem.F.slot_list_append PySem.F.type_list_append mt_append (xpe_fld (yqv 0 vl) rfl) (xpa_cons (yqv 1 vl) xpa_nil)))
      (xpss_one
        (xps_ret (xpe_op yop_sub (xqe_callB call_len_seq gl T.z_len PySem.boot_len (xpa_cons (xpe_fld (yqv 0 vl) rfl) xpa_nil)) xpe_int))))), ?_⟩
  rw [show start _ [V.ref p, x] = [some (.ref p), some x] from rfl]
  simp_arith [r_listRng, r_kget1, r_iEnumT]
  refine fget ob T.c_Parting.cl T.n_Parting_blocks rfl ?_
  simp_arith [r_listRng, r_kget1, r_iEnumT]
  have sx : SameX bl H (upd H bl (.lst (xs ++ [x]))) := SameX.upd
  refine ⟨.inl ⟨rfl, _, SqL.of hbl⟩, _, hbl, by rw [sizeLine_eq]; omega, ?_⟩
  refine fget (sx _ _ ob hP.ne) T.c_Parting.cl T.n_Parting_blocks rfl ?_
  simp_arith [r_listRng, r_kget1, r_iEnumT]
  refine ⟨_, .inl (SqL.of upd_same), ?_⟩
  have z := q _ sx ⟨⟨dx, sx _ _ ob hP.ne⟩, fun c hc => hP.nw c (upd_none hc), xs ++ [x], upd_same, FL.Paired.snoc (hb.sx sx hbl) (FL.Paired.imp hxs fun y _ c _ h => h.sx sx hbl)⟩
  rw [show (((xs ++ [x]).length : Nat) : Int) - 1 = (B.length : Int) by rw [List.length_append, List.length_singleton, lx]; omega]
  exact z
theorem new_blk {N : Addr → Prop} {H : Hp} {bl a e q : Addr} {ed : FZ.Ed} {vs : List V} {ds : List Deed} {ys : List V} (hbl : H bl = some (.lst ys)) (hn : N a) (ha : H a = none) (hv : Paired (DeedV1 K H) vs ds) (he : upd H a (.lst vs) e = none) (hq : upd (upd H a (.lst vs)) e (.tup (edVs ed)) q = none) :
    Same H (upd (upd (upd H a (.lst vs)) e (.tup (edVs ed))) q (.tup [.ref a, .ref e])) ∧ BlkV K N (upd (upd (upd H a (.lst vs)) e (.tup (edVs ed))) q (.tup [.ref a, .ref e])) bl (.ref q) ⟨ds, ed⟩ := by
  have t1 := Same.upd (o := .lst vs) ha
  have t2 := Same.upd (o := .tup (edVs ed)) he
  have t3 := Same.upd (o := .tup [V.ref a, V.ref e]) hq
  have s := (t1.trans t2).trans t3
  exact ⟨s, q, a, e, vs, rfl, upd_same, t3 _ _ (t2 _ _ upd_same), FL.Paired.imp hv fun y _ d _ z => z.ts s.ts, t3 _ _ upd_same, (ne_of_none hbl ha).symm, hn⟩
theorem ok_keep (T : Txt K mg t) : FnOk P w K mg base CX0 2 t.f_Parting_keep_place t.e_Parting_keep_place ["self"] (sp_keep K t.C_Parting) := by
  have G_Parting_numbered := ok_num (P := P) (w := w) (base := base) T
  refine T.d_Parting_keep_place.F.ok sc_Parting_keep_place (fun vs H Q E h => by obtain ⟨_, rfl, _⟩ := h; rfl) (fun cdv A outer s H vs Q E hr h => ?_)
  obtain ⟨p, rfl, N, bl, B, hP, hl, q⟩ := h
  obtain ⟨dx, ob⟩ := hP.ob
  obtain ⟨xs, hbl, hxs⟩ := hP.bs
  refine ⟨_,
      (XSs.h
      (xpss_one
        (xps_ret (xqe_methD T.c_Parting.cl T.d_Parting_numbered G_Parting_numbered (hr.mono (by first | decide | omega)) (yqv 0 vl) (xpa_cons (xpe_tup (xpa_cons (xpe_lst xpa_nil) (xpa_cons (xpe_tup (xpa_cons xpe_str xpa_nil)) xpa_nil))) xpa_nil))))), ?_⟩
  rw [show start _ [V.ref p] = [some (.ref p)] from rfl]
  simp_arith [r_listRng, r_kget1, r_iEnumT, r_num]
  refine methOf ob rfl ?_
  intro a ha e he q0 hq0
  obtain ⟨sm, hb⟩ := new_blk (K := K) (ed := .stop) (ds := []) hbl (hP.nw _ ha) ha .nil he hq0
  exact ⟨N, bl, B, _, hP.same sm, hb, hl, fun H' sx hP' => q H' ((SameX.of sm).trans sx) hP'⟩
theorem rq_nil {H : Hp} {n : Nat} {a b : Addr} {vs : List V} (ha : H a = some (.lst vs)) (hb : H b = some (.lst [])) : Rq K H n (.ref a) (.ref b) (decide (vs = [])) := by
  cases vs with
  | nil =>
    have z := Rq.lists (n := n) (fun _ => true) (SqL.of (K := K) ha) (SqL.of hb) rfl fun j x y hx _ => by simp at hx
    exact z
  | cons x r =>
    rw [decide_eq_false (by intro z; cases z)]
    exact .lens (SqL.of ha) (SqL.of hb) (by simp)
theorem ok_way (T : Txt K mg t) : FnOk P w K mg base CX0 2 t.f_Parting_way_to t.e_Parting_way_to ["self", "block"] (sp_way K t.C_Parting) := by
  have G_Parting_numbered := ok_num (P := P) (w := w) (base := base) T
  refine T.d_Parting_way_to.F.ok sc_Parting_way_to (fun vs H Q E h => by obtain ⟨_, _, rfl, _⟩ := h; rfl) (fun cdv A outer s H vs Q E hr h => ?_)
  obtain ⟨p, x, rfl, N, bl, B, b, hP, hb, hl, q⟩ := h
  obtain ⟨dx, ob⟩ := hP.ob
  obtain ⟨qb, a, e, vs, rfl, h1, h2, h3, h4, h5⟩ := id hb
  refine ⟨_,
      (XSs.h
      (xpss_cons
        (xps_if (xPW_pt (xpw_and (xpt_cmpR (op_eqD (n := 0) (hu_n (by decide) hr)) (xpe_ix ix_tup (yqv 1 vl) xpe_int (fun _ _ => rfl)) (xpe_lst xpa_nil) (nomark _)) (xpw_and1 (xpt_cmpR op_eq (xpe_ix ix_tup (xpe_ix ix_tup (yqv 1 vl) xpe_int (fun _ _ => rfl)) xpe_int (fun _ _ => rfl)) xpe_str (nomark _)))))
          (xpss_one
            (xps_ret (xpe_ix ix_tup (xpe_ix ix_tup (yqv 1 vl) xpe_int (fun _ _ => rfl)) xpe_int (fun _ _ => rfl))))
          xpss_nil)
      (xpss_one
        (xps_ret (xqe_methD T.c_Parting.cl T.d_Parting_numbered G_Parting_numbered (hr.mono (by first | decide | omega)) (yqv 0 vl) (xpa_cons (yqv 1 vl) xpa_nil)))))), ?_⟩
  rw [show start _ [V.ref p, V.ref qb] = [some (.ref p), some (.ref qb)] from rfl]
  simp_arith [r_listRng, r_kget1, r_iEnumT, r_num]
  refine ⟨_, _, SqT.of h1, rfl, fun p0 hp0 => ?_⟩
  have t0 := Same.upd (o := .lst []) hp0
  refine ⟨_, rq_nil (t0 _ _ h2) upd_same, _, rfl, ?_⟩
  have lv := h3.length
  have num : (FZ.wayTo b B) = (B.length, B ++ [b]) → MethOf t.C_Parting (Str.ofString "numbered") (V.ref p) (upd H p0 (HO.lst [])) (bd_num K t.C_Parting p (V.ref qb) (upd H p0 (HO.lst [])) Q) := fun ew => by
    refine methOf (t0 _ _ ob) rfl ⟨N, bl, B, b, hP.same t0, hb.same t0, hl, fun H' sx hP' => ?_⟩
    rw [ew] at q
    exact q H' ((SameX.of t0).trans sx) hP'
  obtain ⟨ds, ed⟩ := b
  cases ds with
  | cons d r =>
    have hne : ¬ vs = [] := fun z => by rw [z] at lv; simp at lv
    rw [decide_eq_false hne, if_neg Bool.false_ne_true]
    exact num rfl
  | nil =>
    have hnil : vs = [] := List.length_eq_zero_iff.mp lv
    rw [decide_eq_true hnil, if_pos rfl]
    have h40 := t0 _ _ h4
    refine ⟨_, _, SqT.of (t0 _ _ h1), rfl, ?_⟩
    cases ed with
    | stop =>
      simp_arith [r_listRng, r_kget1, r_iEnumT]
      refine ⟨_, _, SqT.of h40, rfl, rfl, _, rfl, ?_⟩
      rw [decide_eq_false (by intro z; exact absurd (V.str.inj z) (by decide +kernel)), if_neg Bool.false_ne_true]
      exact num rfl
    | go i =>
      simp_arith [r_listRng, r_kget1, r_iEnumT]
      refine ⟨_, _, SqT.of h40, rfl, rfl, _, rfl, ?_⟩
      rw [decide_eq_true rfl, if_pos rfl]
      refine ⟨_, _, SqT.of (t0 _ _ h1), rfl, ?_⟩
      simp_arith [r_listRng, r_kget1, r_iEnumT]
      exact ⟨_, _, SqT.of h40, rfl, q _ (SameX.of t0) (hP.same t0)⟩
    | choose n i j =>
      simp_arith [r_listRng, r_kget1, r_iEnumT]
      refine ⟨_, _, SqT.of h40, rfl, rfl, _, rfl, ?_⟩
      rw [decide_eq_false (by intro z; exact absurd (V.str.inj z) (by decide +kernel)), if_neg Bool.false_ne_true]
      exact num rfl
end
end K22
set_option maxHeartbeats 4000000
namespace K22
open PySem L2 PyProof.Rows FD FB FS FO FR FG
noncomputable def bd_open (K : PySem.W.Frag) (C : Addr) (d : Nat) (p a : Addr) (x : V) (H : Hp) (Q : VK) : Prop := ∃ (N : Addr → Prop) (bl : Addr) (B : List FZ.Blk) (b : FZ.Blk) (rs : List V) (ss : List Stm) (f : List Addr), PartAt K C N H p bl B ∧ BlkV K N H bl x b ∧ H a = some (.lst rs) ∧ StmsV K H rs ss f ∧ a ≠ bl ∧ bl ∉ f ∧ deepL ss < d ∧ B.length + 3 * manyL ss < 4000 ∧ b.ds.length ≤ 8 ∧
  ∀ y H', SameX bl H H' → PartAt K C N H' p bl (FZ.openL ss b B).2 → BlkV K N H' bl y (FZ.openL ss b B).1 → (FZ.openL ss b B).1.ds.length ≤ 8 → Q y H'
theorem mk_open {K : PySem.W.Frag} {C : Addr} {d : Nat} {p a : Addr} {x : V} {H : Hp} {Q : VK}  (N : Addr → Prop) (bl : Addr) (B : List FZ.Blk) (b : FZ.Blk) (rs : List V) (ss : List Stm) (f : List Addr) (h_0 : PartAt K C N H p bl B) (h_1 : BlkV K N H bl x b) (h_2 : H a = some (.lst rs)) (h_3 : StmsV K H rs ss f) (h_4 : a ≠ bl) (h_5 : bl ∉ f) (h_6 : deepL ss < d) (h_7 : B.length + 3 * manyL ss < 4000) (h_8 : b.ds.length ≤ 8) (h_9 : ∀ y H', SameX bl H H' → PartAt K C N H' p bl (FZ.openL ss b B).2 → BlkV K N H' bl y (FZ.openL ss b B).1 → (FZ.openL ss b B).1.ds.length ≤ 8 → Q y H') : bd_open K C d p a x H Q := ⟨N, bl, B, b, rs, ss, f, h_0, h_1, h_2, h_3, h_4, h_5, h_6, h_7, h_8, h_9⟩
noncomputable def sp_open (K : PySem.W.Frag) (C : Addr) (d : Nat) : Sp := fun vs H Q _ => ∃ (p a : Addr) (x : V), vs = [.ref p, .ref a, x] ∧ bd_open K C d p a x H Q
noncomputable def bd_rowB (K : PySem.W.Frag) (C : Addr) (d : Nat) (ok : Stm → Prop) (p : Addr) (r x : V) (H : Hp) (Q : VK) : Prop := ∃ (N : Addr → Prop) (bl : Addr) (B : List FZ.Blk) (b : FZ.Blk) (st : Stm) (f : List Addr), PartAt K C N H p bl B ∧ BlkV K N H bl x b ∧ StmV K H r st f ∧ ok st ∧ bl ∉ f ∧ st.deep < d ∧ B.length + 3 * st.many < 4000 ∧ b.ds.length ≤ 8 ∧
  ∀ y H', SameX bl H H' → PartAt K C N H' p bl (FZ.withS st b B).2 → BlkV K N H' bl y (FZ.withS st b B).1 → (FZ.withS st b B).1.ds.length ≤ 8 → Q y H'
theorem mk_rowB {K : PySem.W.Frag} {C : Addr} {d : Nat} {ok : Stm → Prop} {p : Addr} {r x : V} {H : Hp} {Q : VK}  (N : Addr → Prop) (bl : Addr) (B : List FZ.Blk) (b : FZ.Blk) (st : Stm) (f : List Addr) (h_0 : PartAt K C N H p bl B) (h_1 : BlkV K N H bl x b) (h_2 : StmV K H r st f) (h_3 : ok st) (h_4 : bl ∉ f) (h_5 : st.deep < d) (h_6 : B.length + 3 * st.many < 4000) (h_7 : b.ds.length ≤ 8) (h_8 : ∀ y H', SameX bl H H' → PartAt K C N H' p bl (FZ.withS st b B).2 → BlkV K N H' bl y (FZ.withS st b B).1 → (FZ.withS st b B).1.ds.length ≤ 8 → Q y H') : bd_rowB K C d ok p r x H Q := ⟨N, bl, B, b, st, f, h_0, h_1, h_2, h_3, h_4, h_5, h_6, h_7, h_8⟩
noncomputable def sp_rowB (K : PySem.W.Frag) (C : Addr) (d : Nat) (ok : Stm → Prop) : Sp := fun vs H Q _ => ∃ (p : Addr) (r x : V), vs = [.ref p, r, x] ∧ bd_rowB K C d ok p r x H Q
noncomputable def isIf : Stm → Prop
  | .ifs _ _ _ => True
  | _ => False
noncomputable def isWh : Stm → Prop
  | .whl _ _ => True
  | _ => False
section
variable {P : Program} {w : World} {K : PySem.W.Frag} {mg : Str → Option Value} {base : Heap} {t : Ad}
theorem r_open {C p a : Addr} {d : Nat} {x : V} {H : Hp} {Q : VK} {E : XK} : sp_open K C d [.ref p, .ref a, x] H Q E = bd_open K C d p a x H Q := propext ⟨by rintro ⟨_, _, _, e, q⟩; cases e; exact q, fun q => ⟨_, _, _, rfl, q⟩⟩
theorem r_rowB {C p : Addr} {d : Nat} {ok : Stm → Prop} {r x : V} {H : Hp} {Q : VK} {E : XK} : sp_rowB K C d ok [.ref p, r, x] H Q E = bd_rowB K C d ok p r x H Q := propext ⟨by rintro ⟨_, _, _, e, q⟩; cases e; exact q, fun q => ⟨_, _, _, rfl, q⟩⟩
theorem drop_cons {ss : List Stm} {i : Nat} {s : Stm} (h : ss.reverse[i]? = some s) : ss.drop (ss.length - (i + 1)) = s :: ss.drop (ss.length - i) := by
  obtain ⟨hi, e⟩ := List.getElem?_eq_some_iff.mp h
  rw [List.length_reverse] at hi
  rw [List.getElem_reverse] at e
  have h1 : ss.length - (i + 1) < ss.length := by omega
  rw [List.drop_eq_getElem_cons h1, show ss.length - (i + 1) + 1 = ss.length - i by omega]
  congr 1
  rw [← e]
  congr 1
  omega
theorem stms_rev {H : Hp} {xs : List V} {ss : List Stm} {f : List Addr} {i : Nat} {x : V} (h : StmsV K H xs ss f) (hx : xs.reverse[i]? = some x) : ∃ s g, ss.reverse[i]? = some s ∧ s ∈ ss ∧ StmV K H x s g ∧ ∀ c ∈ g, c ∈ f := by
  have lx := h.length
  obtain ⟨hi, e⟩ := List.getElem?_eq_some_iff.mp hx
  rw [List.length_reverse] at hi
  rw [List.getElem_reverse] at e
  obtain ⟨s, g, h1, h2, h3⟩ := h.get (i := xs.length - 1 - i) (x := x) (by rw [List.getElem?_eq_getElem (by omega), e])
  refine ⟨s, g, ?_, List.mem_of_getElem? h1, h2, h3⟩
  rw [List.getElem?_reverse (by omega), ← lx]
  exact h1
theorem good_mem {ns : List Str} {wd : Int} : ∀ {ss : List Stm} {s : Stm}, goodL ns wd ss → s ∈ ss → s.good ns wd
  | _ :: _, _, h, hm => by
    rcases List.mem_cons.mp hm with z | z
    · subst z; exact h.1
    · exact good_mem h.2 z
theorem stm_sx {H H' : Hp} {bl : Addr} {x : V} {ys : List V} {st : Stm} {f : List Addr} (h : StmV K H x st f) (s : SameX bl H H') (hb : H bl = some (.lst ys)) (hf : bl ∉ f) : StmV K H' x st f :=
  h.keep (SameX.tsL2 s hb) fun a ha o e => s a o e (fun z => hf (z ▸ ha))
theorem stms_sx {H H' : Hp} {bl : Addr} {xs ys : List V} {ss : List Stm} {f : List Addr} (h : StmsV K H xs ss f) (s : SameX bl H H') (hb : H bl = some (.lst ys)) (hf : bl ∉ f) : StmsV K H' xs ss f :=
  h.keep (SameX.tsL2 s hb) fun a ha o e => s a o e (fun z => hf (z ▸ ha))
theorem many_drop {ss : List Stm} {i : Nat} {s : Stm} (h : ss.reverse[i]? = some s) : s.many + manyL (ss.drop (ss.length - i)) ≤ manyL ss := by
  have e := congrArg manyL (drop_cons h)
  rw [manyL] at e
  have e2 : manyL ss = manyL (ss.take (ss.length - (i + 1))) + manyL (ss.drop (ss.length - (i + 1))) := by rw [← manyL_append, List.take_append_drop]
  omega
theorem open_step (T : Txt K mg t) (d : Nat) (G_Parting_with_row : FnOk P w K mg base CX0 (3 * d + 3) t.f_Parting_with_row t.e_Parting_with_row ["self", "row", "block"] (sp_rowB K t.C_Parting d fun _ => True)) : FnOk P w K mg base CX0 (3 * d + 4) t.f_Parting_opened t.e_Parting_opened ["self", "rows", "block"] (sp_open K t.C_Parting d) := by
  refine T.d_Parting_opened.F.ok sc_Parting_opened (fun vs H Q E h => by obtain ⟨_, _, _, rfl, _⟩ := h; rfl) (fun cdv A outer s H vs Q E hr h => ?_)
  obtain ⟨p, a, x, rfl, N, bl, B, b, rs, ss, f, hP, hb, ha, hx, nab, nbf, hd, hm, h8, q⟩ := h
  have lx := hx.length
  obtain ⟨xs0, hbl0, _⟩ := hP.bs
  refine ⟨_,
      (XSs.h
      (xpss_cons
        (xps_for PassesOwn.never rfl (xpi_rev T.z_reversed (xpa_cons (yqv 1 vl) xpa_nil) gl) (xpg_name (i := 3) sc_Parting_opened.nd rfl ll)
          (xpss_one
            (xps_set (i := 2) sc_Parting_opened.nd rfl ll (xqe_methD T.c_Parting.cl T.d_Parting_with_row G_Parting_with_row (hr.mono (by first | decide | omega)) (yqv 0 vl) (xpa_cons (yqv 3 vl) (xpa_cons (yqv 2 vl) xpa_nil))))))
      (xpss_one
        (xps_ret (yqv 2 vl))))), ?_⟩
  rw [show start _ [V.ref p, V.ref a, x] = [some (.ref p), some (.ref a), some x, none] from rfl]
  simp_arith [r_listRng, r_kget1, r_iEnumT, r_rowB]
  refine ⟨rs, SqL.of ha, ?_⟩
  refine fw_rev (fun i σ H' => SameX bl H H' ∧ ∃ y o3, PartAt K t.C_Parting N H' p bl (FZ.openL (ss.drop (ss.length - i)) b B).2 ∧ BlkV K N H' bl y (FZ.openL (ss.drop (ss.length - i)) b B).1 ∧ (FZ.openL (ss.drop (ss.length - i)) b B).1.ds.length ≤ 8 ∧ σ = [some (.ref p), some (.ref a), some y, o3])
    ⟨SameX.refl, x, none, ?_, ?_, ?_, rfl⟩ (fun i σ H' _ h => SqL.of (h.1 _ _ ha nab)) ?_ ?_
  · rw [Nat.sub_zero, List.drop_length, FZ.openL]; exact hP
  · rw [Nat.sub_zero, List.drop_length, FZ.openL]; exact hb
  · rw [Nat.sub_zero, List.drop_length, FZ.openL]; exact h8
  · rintro i r σ H1 hri ⟨s1, y, o3, hP1, hb1, l1, rfl⟩
    simp_arith [r_listRng, r_kget1, r_iEnumT, r_rowB]
    obtain ⟨st, g', hst, hms, hv, hsub⟩ := stms_rev hx hri
    have hdm := deepL_mem hms
    have hmd := many_drop hst
    have hol := FZ.openL_len (ss.drop (ss.length - i)) b B
    obtain ⟨dx, ob1⟩ := hP1.ob
    refine methOf ob1 rfl ?_
    refine (mk_rowB (N) (bl) (_) (_) (st) (g') (hP1) (hb1) (stm_sx hv s1 hbl0 (fun z => nbf (hsub bl z))) (trivial) (fun z => nbf (hsub bl z)) (by omega) (by omega) (l1) (fun y2 H2 s2 hP2 hb2 l2 => ?_))
    refine ⟨s1.trans s2, y2, _, ?_, ?_, ?_, rfl⟩
    · rw [drop_cons hst, FZ.openL]; exact hP2
    · rw [drop_cons hst, FZ.openL]; exact hb2
    · rw [drop_cons hst, FZ.openL]; exact l2
  · rintro σ H1 ⟨s1, y, o3, hP1, hb1, l1, rfl⟩
    rw [lx, Nat.sub_self, List.drop_zero] at hP1 hb1 l1
    simp_arith [r_listRng, r_kget1, r_iEnumT]
    exact q y H1 s1 hP1 hb1 l1
theorem blk_mk {N : Addr → Prop} {H : Hp} {bl a e q : Addr} {ed : FZ.Ed} {vs : List V} {ds : List Deed} (ha : H a = some (.lst vs)) (nab : a ≠ bl) (hn : N a) (hv : Paired (DeedV1 K H) vs ds) (he : H e = none) (hq : upd H e (.tup (edVs ed)) q = none) :
    Same H (upd (upd H e (.tup (edVs ed))) q (.tup [.ref a, .ref e])) ∧ BlkV K N (upd (upd H e (.tup (edVs ed))) q (.tup [.ref a, .ref e])) bl (.ref q) ⟨ds, ed⟩ := by
  have t2 := Same.upd (o := .tup (edVs ed)) he
  have t3 := Same.upd (o := .tup [V.ref a, V.ref e]) hq
  have s := t2.trans t3
  exact ⟨s, q, a, e, vs, rfl, upd_same, t3 _ _ (t2 _ _ ha), FL.Paired.imp hv fun y _ d _ z => z.ts s.ts, t3 _ _ upd_same, nab, hn⟩
theorem if_step (T : Txt K mg t) (d : Nat) (G_Parting_opened : FnOk P w K mg base CX0 (3 * d + 4) t.f_Parting_opened t.e_Parting_opened ["self", "rows", "block"] (sp_open K t.C_Parting d)) : FnOk P w K mg base CX0 (3 * d + 5) t.f_Parting_with_if t.e_Parting_with_if ["self", "row", "block"] (sp_rowB K t.C_Parting (d + 1) isIf) := by
  have G_Parting_way_to := ok_way (P := P) (w := w) (base := base) T
  refine T.d_Parting_with_if.F.ok sc_Parting_with_if (fun vs H Q E h => by obtain ⟨_, _, _, rfl, _⟩ := h; rfl) (fun cdv A outer s H vs Q E hr h => ?_)
  obtain ⟨p, r, x, rfl, N, bl, B, b, st, f, hP, hb, hv, hok, nbf, hd, hm, h8, q⟩ := h
  refine ⟨_,
      (XSs.h
      (xpss_cons
        (xps_set (i := 3) sc_Parting_with_if.nd rfl ll (xpe_tup (xpa_cons (xpe_lst xpa_nil) (xpa_cons (xpe_tup (xpa_cons xpe_str (xpa_cons (xqe_methD T.c_Parting.cl T.d_Parting_way_to G_Parting_way_to (hr.mono (by first | decide | omega)) (yqv 0 vl) (xpa_cons (yqv 2 vl) xpa_nil)) xpa_nil))) xpa_nil))))
      (xpss_cons
        (xps_set (i := 4) sc_Parting_with_if.nd rfl ll (xqe_methD T.c_Parting.cl T.d_Parting_way_to G_Parting_way_to (hr.mono (by first | decide | omega)) (yqv 0 vl) (xpa_cons (xqe_methD T.c_Parting.cl T.d_Parting_opened G_Parting_opened (hr.mono (by first | decide | omega)) (yqv 0 vl) (xpa_cons (xpe_ix ix_tup (yqv 1 vl) xpe_int (fun _ _ => rfl)) (xpa_cons (yqv 3 vl) xpa_nil))) xpa_nil)))
      (xpss_cons
        (xps_set (i := 5) sc_Parting_with_if.nd rfl ll (xqe_methD T.c_Parting.cl T.d_Parting_way_to G_Parting_way_to (hr.mono (by first | decide | omega)) (yqv 0 vl) (xpa_cons (xqe_methD T.c_Parting.cl T.d_Parting_opened G_Parting_opened (hr.mono (by first | decide | omega)) (yqv 0 vl) (xpa_cons (xpe_ix ix_tup (yqv 1 vl) xpe_int (fun _ _ => rfl)) (xpa_cons (yqv 3 vl) xpa_nil))) xpa_nil)))
      (xpss_one
        (xps_ret (xpe_tup (xpa_cons (xpe_lst xpa_nil) (xpa_cons (xpe_tup (xpa_cons xpe_str (xpa_cons (xpe_ix ix_tup (yqv 1 vl) xpe_int (fun _ _ => rfl)) (xpa_cons (yqv 4 vl) (xpa_cons (yqv 5 vl) xpa_nil))))) xpa_nil))))))))), ?_⟩
  rw [show start _ [V.ref p, r, x] = [some (.ref p), some r, some x, none, none, none] from rfl]
  cases hv with
  | @deed q0 dd hf hq => exact absurd hok id
  | @whl q0 a1 n xs1 rows f1 hq ha1 h1 => exact absurd hok id
  | @ifs q0 a1 c1 n xs1 ys1 ones others f1 g1 hq ha1 hc1 h1 h2 =>
    simp only [Stm.deep, Stm.many] at hd hm
    obtain ⟨xs0, hbl0, _⟩ := hP.bs
    have na1 : a1 ≠ bl := fun z => nbf (by rw [← z]; simp)
    have nc1 : c1 ≠ bl := fun z => nbf (by rw [← z]; simp)
    have nf1 : bl ∉ f1 := fun z => nbf (by simp [z])
    have ng1 : bl ∉ g1 := fun z => nbf (by simp [z])
    obtain ⟨dx, ob⟩ := hP.ob
    rw [FZ.withS] at q
    dsimp only at q
    simp only [y_v0, r_g0, y_v1, r_g1, y_v2, r_g2, y_v3, r_g3, y_v4, r_g4, y_v5, r_g5, y_v6, r_g6, y_v7, r_g7, y_v8, r_g8, y_v9, r_g9, y_v10, r_g10, y_v11, r_g11, y_v12, r_g12, y_v13, r_g13, y_v14, r_g14, y_v15, r_g15, r_c, r_op, r_un, y_I0, y_I, y_U, r_eqI, r_eqS, r_neI, r_neS, r_exbl, r_exint, r_test, r_B, r_and, r_or, r_not, r_andV, r_orV, r_notV, r_if, r_next, r_seqL, r_brk, r_cont, r_drop, r_ret, r_retN, r_ifS, r_asg, r_CB, r_nil, r_cons, r_call, r_tup, r_lst, r_p0, r_pS, r_disp, r_dget, r_sl, r_noPart, r_part, r_gNil, r_gCons, r_itF, r_nT, r_nF, r_len0, r_len1, r_len2, r_len3, r_len4, r_len7, r_len8, r_for, r_iEnum, r_iList, r_iTup, r_iRng1, r_iRng2, r_exI1, r_exI2, r_exR, r_bm, r_bm0, r_ixS, r_ixL, r_ixT, r_cat, r_slL, r_append, r_exRl, r_intB, true_and, and_true, forall_const, Int.reduceLT, r_compG, r_setComp, r_yes, r_slT, r_inR, r_notInR, cxOf_K, wish_K, blk_K, r_blk1, r_blk2, List.map_cons, List.map_nil, List.getElem?_cons_zero, List.getElem?_cons_succ, Option.join_some, r_Vs, r_join, r_tyStr, r_dnewK, r_dput, r_exRp, r_gSub, List.set_cons_zero, List.set_cons_succ, r_midL, r_sfld, r_gfld, r_meth, r_make, r_iRev, r_listRev, r_listVals, r_slRev, r_dget2, r_listRng, r_kget1, r_iEnumT, r_way]
    intro a0 ha0
    have t0 := Same.upd (o := .lst []) ha0
    have nab0 : a0 ≠ bl := (ne_of_none hbl0 ha0).symm
    refine methOf (t0 _ _ ob) rfl (mk_way (N) (bl) (B) (b) (hP.same t0) (hb.same t0) (by omega) (fun H1 sx1 hP1 => ?_))
    have gw := FZ.wayTo_get b B
    generalize FZ.wayTo b B = w0 at *
    have ea0 : H1 a0 = some (.lst []) := sx1 _ _ upd_same nab0
    have sx01 := (SameX.of (p := bl) t0).trans sx1
    intro e0 he0 q1 hq1
    obtain ⟨sb, hbb⟩ := blk_mk (K := K) (ed := .go w0.1) (ds := []) ea0 nab0 (hP.nw _ ha0) .nil he0 hq1
    have hPG := hP1.same sb
    have sxG := sx01.trans (SameX.of (p := bl) sb)
    rw [show edVs (.go w0.1) = [V.str "go", V.int w0.1] from rfl] at sb hbb hPG sxG
    generalize upd (upd H1 e0 _) q1 _ = G at sb hbb hPG sxG ⊢
    obtain ⟨dxG, obG⟩ := hPG.ob
    obtain ⟨xsG, hblG, _⟩ := hPG.bs
    refine later ?_
    simp only [y_v0, r_g0, y_v1, r_g1, y_v2, r_g2, y_v3, r_g3, y_v4, r_g4, y_v5, r_g5, y_v6, r_g6, y_v7, r_g7, y_v8, r_g8, y_v9, r_g9, y_v10, r_g10, y_v11, r_g11, y_v12, r_g12, y_v13, r_g13, y_v14, r_g14, y_v15, r_g15, r_c, r_op, r_un, y_I0, y_I, y_U, r_eqI, r_eqS, r_neI, r_neS, r_exbl, r_exint, r_test, r_B, r_and, r_or, r_not, r_andV, r_orV, r_notV, r_if, r_next, r_seqL, r_brk, r_cont, r_drop, r_ret, r_retN, r_ifS, r_asg, r_CB, r_nil, r_cons, r_call, r_tup, r_lst, r_p0, r_pS, r_disp, r_dget, r_sl, r_noPart, r_part, r_gNil, r_gCons, r_itF, r_nT, r_nF, r_len0, r_len1, r_len2, r_len3, r_len4, r_len7, r_len8, r_for, r_iEnum, r_iList, r_iTup, r_iRng1, r_iRng2, r_exI1, r_exI2, r_exR, r_bm, r_bm0, r_ixS, r_ixL, r_ixT, r_cat, r_slL, r_append, r_exRl, r_intB, true_and, and_true, forall_const, Int.reduceLT, r_compG, r_setComp, r_yes, r_slT, r_inR, r_notInR, cxOf_K, wish_K, blk_K, r_blk1, r_blk2, List.map_cons, List.map_nil, List.getElem?_cons_zero, List.getElem?_cons_succ, Option.join_some, r_Vs, r_join, r_tyStr, r_dnewK, r_dput, r_exRp, r_gSub, List.set_cons_zero, List.set_cons_succ, r_midL, r_sfld, r_gfld, r_meth, r_make, r_iRev, r_listRev, r_listVals, r_slRev, r_dget2, r_listRng, r_kget1, r_iEnumT, r_way]
    refine methOf obG rfl (methOf obG rfl ⟨_, _, (SameX.tsL2 sxG hbl0).seqT hq, rfl, ?_⟩)
    simp only [y_v0, r_g0, y_v1, r_g1, y_v2, r_g2, y_v3, r_g3, y_v4, r_g4, y_v5, r_g5, y_v6, r_g6, y_v7, r_g7, y_v8, r_g8, y_v9, r_g9, y_v10, r_g10, y_v11, r_g11, y_v12, r_g12, y_v13, r_g13, y_v14, r_g14, y_v15, r_g15, r_c, r_op, r_un, y_I0, y_I, y_U, r_eqI, r_eqS, r_neI, r_neS, r_exbl, r_exint, r_test, r_B, r_and, r_or, r_not, r_andV, r_orV, r_notV, r_if, r_next, r_seqL, r_brk, r_cont, r_drop, r_ret, r_retN, r_ifS, r_asg, r_CB, r_nil, r_cons, r_call, r_tup, r_lst, r_p0, r_pS, r_disp, r_dget, r_sl, r_noPart, r_part, r_gNil, r_gCons, r_itF, r_nT, r_nF, r_len0, r_len1, r_len2, r_len3, r_len4, r_len7, r_len8, r_for, r_iEnum, r_iList, r_iTup, r_iRng1, r_iRng2, r_exI1, r_exI2, r_exR, r_bm, r_bm0, r_ixS, r_ixL, r_ixT, r_cat, r_slL, r_append, r_exRl, r_intB, true_and, and_true, forall_const, Int.reduceLT, r_compG, r_setComp, r_yes, r_slT, r_inR, r_notInR, cxOf_K, wish_K, blk_K, r_blk1, r_blk2, List.map_cons, List.map_nil, List.getElem?_cons_zero, List.getElem?_cons_succ, Option.join_some, r_Vs, r_join, r_tyStr, r_dnewK, r_dput, r_exRp, r_gSub, List.set_cons_zero, List.set_cons_succ, r_midL, r_sfld, r_gfld, r_meth, r_make, r_iRev, r_listRev, r_listVals, r_slRev, r_dget2, r_listRng, r_kget1, r_iEnumT, r_way, r_open]
    have lo1 := FZ.openL_len ones ⟨[], .go w0.1⟩ w0.2
    refine (mk_open (N) (bl) (w0.2) (⟨[], .go w0.1⟩) (xs1) (ones) (f1) (hPG) (hbb) (sxG _ _ ha1 na1) (stms_sx h1 sxG hbl0 nf1) (na1) (nf1) (by omega) (by omega) (Nat.zero_le _) (fun y2 H3 s3 hP3 hb3 l3 => ?_))
    generalize FZ.openL ones ⟨[], .go w0.1⟩ w0.2 = o at *
    have gw2 := FZ.wayTo_get o.1 o.2
    refine (mk_way (N) (bl) (_) (_) (hP3) (hb3) (by omega) (fun H4 s4 hP4 => ?_))
    generalize FZ.wayTo o.1 o.2 = wo at *
    have sxG4 := s3.trans s4
    have sx4 := sxG.trans sxG4
    obtain ⟨dx4, ob4⟩ := hP4.ob
    obtain ⟨xs4, hbl4, _⟩ := hP4.bs
    refine later ?_
    simp only [y_v0, r_g0, y_v1, r_g1, y_v2, r_g2, y_v3, r_g3, y_v4, r_g4, y_v5, r_g5, y_v6, r_g6, y_v7, r_g7, y_v8, r_g8, y_v9, r_g9, y_v10, r_g10, y_v11, r_g11, y_v12, r_g12, y_v13, r_g13, y_v14, r_g14, y_v15, r_g15, r_c, r_op, r_un, y_I0, y_I, y_U, r_eqI, r_eqS, r_neI, r_neS, r_exbl, r_exint, r_test, r_B, r_and, r_or, r_not, r_andV, r_orV, r_notV, r_if, r_next, r_seqL, r_brk, r_cont, r_drop, r_ret, r_retN, r_ifS, r_asg, r_CB, r_nil, r_cons, r_call, r_tup, r_lst, r_p0, r_pS, r_disp, r_dget, r_sl, r_noPart, r_part, r_gNil, r_gCons, r_itF, r_nT, r_nF, r_len0, r_len1, r_len2, r_len3, r_len4, r_len7, r_len8, r_for, r_iEnum, r_iList, r_iTup, r_iRng1, r_iRng2, r_exI1, r_exI2, r_exR, r_bm, r_bm0, r_ixS, r_ixL, r_ixT, r_cat, r_slL, r_append, r_exRl, r_intB, true_and, and_true, forall_const, Int.reduceLT, r_compG, r_setComp, r_yes, r_slT, r_inR, r_notInR, cxOf_K, wish_K, blk_K, r_blk1, r_blk2, List.map_cons, List.map_nil, List.getElem?_cons_zero, List.getElem?_cons_succ, Option.join_some, r_Vs, r_join, r_tyStr, r_dnewK, r_dput, r_exRp, r_gSub, List.set_cons_zero, List.set_cons_succ, r_midL, r_sfld, r_gfld, r_meth, r_make, r_iRev, r_listRev, r_listVals, r_slRev, r_dget2, r_listRng, r_kget1, r_iEnumT, r_way]
    refine methOf ob4 rfl (methOf ob4 rfl ⟨_, _, (SameX.tsL2 sx4 hbl0).seqT hq, rfl, ?_⟩)
    simp only [y_v0, r_g0, y_v1, r_g1, y_v2, r_g2, y_v3, r_g3, y_v4, r_g4, y_v5, r_g5, y_v6, r_g6, y_v7, r_g7, y_v8, r_g8, y_v9, r_g9, y_v10, r_g10, y_v11, r_g11, y_v12, r_g12, y_v13, r_g13, y_v14, r_g14, y_v15, r_g15, r_c, r_op, r_un, y_I0, y_I, y_U, r_eqI, r_eqS, r_neI, r_neS, r_exbl, r_exint, r_test, r_B, r_and, r_or, r_not, r_andV, r_orV, r_notV, r_if, r_next, r_seqL, r_brk, r_cont, r_drop, r_ret, r_retN, r_ifS, r_asg, r_CB, r_nil, r_cons, r_call, r_tup, r_lst, r_p0, r_pS, r_disp, r_dget, r_sl, r_noPart, r_part, r_gNil, r_gCons, r_itF, r_nT, r_nF, r_len0, r_len1, r_len2, r_len3, r_len4, r_len7, r_len8, r_for, r_iEnum, r_iList, r_iTup, r_iRng1, r_iRng2, r_exI1, r_exI2, r_exR, r_bm, r_bm0, r_ixS, r_ixL, r_ixT, r_cat, r_slL, r_append, r_exRl, r_intB, true_and, and_true, forall_const, Int.reduceLT, r_compG, r_setComp, r_yes, r_slT, r_inR, r_notInR, cxOf_K, wish_K, blk_K, r_blk1, r_blk2, List.map_cons, List.map_nil, List.getElem?_cons_zero, List.getElem?_cons_succ, Option.join_some, r_Vs, r_join, r_tyStr, r_dnewK, r_dput, r_exRp, r_gSub, List.set_cons_zero, List.set_cons_succ, r_midL, r_sfld, r_gfld, r_meth, r_make, r_iRev, r_listRev, r_listVals, r_slRev, r_dget2, r_listRng, r_kget1, r_iEnumT, r_way, r_open]
    have lo2 := FZ.openL_len others ⟨[], .go w0.1⟩ wo.2
    refine (mk_open (N) (bl) (wo.2) (⟨[], .go w0.1⟩) (ys1) (others) (g1) (hP4) (hbb.sx sxG4 hblG) (sx4 _ _ hc1 nc1) (stms_sx h2 sx4 hbl0 ng1) (nc1) (ng1) (by omega) (by omega) (Nat.zero_le _) (fun y5 H5 s5 hP5 hb5 l5 => ?_))
    generalize FZ.openL others ⟨[], .go w0.1⟩ wo.2 = o2 at *
    refine (mk_way (N) (bl) (_) (_) (hP5) (hb5) (by omega) (fun H6 s6 hP6 => ?_))
    generalize FZ.wayTo o2.1 o2.2 = wp at *
    have sx6 := sx4.trans (s5.trans s6)
    obtain ⟨xs6, hbl6, _⟩ := hP6.bs
    refine later ?_
    simp only [y_v0, r_g0, y_v1, r_g1, y_v2, r_g2, y_v3, r_g3, y_v4, r_g4, y_v5, r_g5, y_v6, r_g6, y_v7, r_g7, y_v8, r_g8, y_v9, r_g9, y_v10, r_g10, y_v11, r_g11, y_v12, r_g12, y_v13, r_g13, y_v14, r_g14, y_v15, r_g15, r_c, r_op, r_un, y_I0, y_I, y_U, r_eqI, r_eqS, r_neI, r_neS, r_exbl, r_exint, r_test, r_B, r_and, r_or, r_not, r_andV, r_orV, r_notV, r_if, r_next, r_seqL, r_brk, r_cont, r_drop, r_ret, r_retN, r_ifS, r_asg, r_CB, r_nil, r_cons, r_call, r_tup, r_lst, r_p0, r_pS, r_disp, r_dget, r_sl, r_noPart, r_part, r_gNil, r_gCons, r_itF, r_nT, r_nF, r_len0, r_len1, r_len2, r_len3, r_len4, r_len7, r_len8, r_for, r_iEnum, r_iList, r_iTup, r_iRng1, r_iRng2, r_exI1, r_exI2, r_exR, r_bm, r_bm0, r_ixS, r_ixL, r_ixT, r_cat, r_slL, r_append, r_exRl, r_intB, true_and, and_true, forall_const, Int.reduceLT, r_compG, r_setComp, r_yes, r_slT, r_inR, r_notInR, cxOf_K, wish_K, blk_K, r_blk1, r_blk2, List.map_cons, List.map_nil, List.getElem?_cons_zero, List.getElem?_cons_succ, Option.join_some, r_Vs, r_join, r_tyStr, r_dnewK, r_dput, r_exRp, r_gSub, List.set_cons_zero, List.set_cons_succ, r_midL, r_sfld, r_gfld, r_meth, r_make, r_iRev, r_listRev, r_listVals, r_slRev, r_dget2, r_listRng, r_kget1, r_iEnumT]
    intro a7 ha7
    have t7 := Same.upd (o := .lst []) ha7
    refine ⟨_, _, (SameX.tsL2 sx6 hbl0 |>.trans t7.ts).seqT hq, rfl, fun e7 he7 q7 hq7 => ?_⟩
    obtain ⟨sm, hb7⟩ := new_blk (K := K) (ed := .choose n wo.1 wp.1) (ds := []) hbl6 (hP6.nw _ ha7) ha7 .nil he7 hq7
    exact q _ _ (sx6.trans (SameX.of sm)) (hP6.same sm) hb7 (Nat.zero_le _)
theorem wh_step (T : Txt K mg t) (d : Nat) (G_Parting_opened : FnOk P w K mg base CX0 (3 * d + 4) t.f_Parting_opened t.e_Parting_opened ["self", "rows", "block"] (sp_open K t.C_Parting d)) : FnOk P w K mg base CX0 (3 * d + 5) t.f_Parting_with_while t.e_Parting_with_while ["self", "row", "block"] (sp_rowB K t.C_Parting (d + 1) isWh) := by
  have G_Parting_way_to := ok_way (P := P) (w := w) (base := base) T
  have G_Parting_keep_place := ok_keep (P := P) (w := w) (base := base) T
  refine T.d_Parting_with_while.F.ok sc_Parting_with_while (fun vs H Q E h => by obtain ⟨_, _, _, rfl, _⟩ := h; rfl) (fun cdv A outer s H vs Q E hr h => ?_)
  obtain ⟨p, r, x, rfl, N, bl, B, b, st, f, hP, hb, hv, hok, nbf, hd, hm, h8, q⟩ := h
  refine ⟨_,
      (XSs.h
      (xpss_cons
        (xps_set (i := 3) sc_Parting_with_while.nd rfl ll (xqe_methD T.c_Parting.cl T.d_Parting_way_to G_Parting_way_to (hr.mono (by first | decide | omega)) (yqv 0 vl) (xpa_cons (yqv 2 vl) xpa_nil)))
      (xpss_cons
        (xps_set (i := 4) sc_Parting_with_while.nd rfl ll (xqe_meth0D T.c_Parting.cl T.d_Parting_keep_place G_Parting_keep_place (hr.mono (by first | decide | omega)) (yqv 0 vl)))
      (xpss_cons
        (xps_set (i := 5) sc_Parting_with_while.nd rfl ll (xqe_methD T.c_Parting.cl T.d_Parting_way_to G_Parting_way_to (hr.mono (by first | decide | omega)) (yqv 0 vl) (xpa_cons (xqe_methD T.c_Parting.cl T.d_Parting_opened G_Parting_opened (hr.mono (by first | decide | omega)) (yqv 0 vl) (xpa_cons (xpe_ix ix_tup (yqv 1 vl) xpe_int (fun _ _ => rfl)) (xpa_cons (xpe_tup (xpa_cons (xpe_lst xpa_nil) (xpa_cons (xpe_tup (xpa_cons xpe_str (xpa_cons (yqv 4 vl) xpa_nil))) xpa_nil))) xpa_nil))) xpa_nil)))
      (xpss_cons
        (xps_asg (xpe_tup (xpa_cons (xpe_lst xpa_nil) (xpa_cons (xpe_tup (xpa_cons xpe_str (xpa_cons (xpe_ix ix_tup (yqv 1 vl) xpe_int (fun _ _ => rfl)) (xpa_cons (yqv 5 vl) (xpa_cons (yqv 3 vl) xpa_nil))))) xpa_nil))) (xpg_sub (xpe_fld (yqv 0 vl) rfl) (yqv 4 vl) set_list))
      (xpss_one
        (xps_ret (xpe_tup (xpa_cons (xpe_lst xpa_nil) (xpa_cons (xpe_tup (xpa_cons xpe_str (xpa_cons (yqv 4 vl) xpa_nil))) xpa_nil)))))))))), ?_⟩
  rw [show start _ [V.ref p, r, x] = [some (.ref p), some r, some x, none, none, none] from rfl]
  cases hv with
  | @deed q0 dd hf hq => exact absurd hok id
  | @ifs q0 a1 c1 n xs1 ys1 ones others f1 g1 hq ha1 hc1 h1 h2 => exact absurd hok id
  | @whl q0 a1 n xs1 rows f1 hq ha1 h1 =>
    simp only [Stm.deep, Stm.many] at hd hm
    obtain ⟨xs0, hbl0, _⟩ := hP.bs
    have na1 : a1 ≠ bl := fun z => nbf (by rw [← z]; simp)
    have nf1 : bl ∉ f1 := fun z => nbf (by simp [z])
    obtain ⟨dx, ob⟩ := hP.ob
    rw [FZ.withS] at q
    dsimp only at q
    simp only [y_v0, r_g0, y_v1, r_g1, y_v2, r_g2, y_v3, r_g3, y_v4, r_g4, y_v5, r_g5, y_v6, r_g6, y_v7, r_g7, y_v8, r_g8, y_v9, r_g9, y_v10, r_g10, y_v11, r_g11, y_v12, r_g12, y_v13, r_g13, y_v14, r_g14, y_v15, r_g15, r_c, r_op, r_un, y_I0, y_I, y_U, r_eqI, r_eqS, r_neI, r_neS, r_exbl, r_exint, r_test, r_B, r_and, r_or, r_not, r_andV, r_orV, r_notV, r_if, r_next, r_seqL, r_brk, r_cont, r_drop, r_ret, r_retN, r_ifS, r_asg, r_CB, r_nil, r_cons, r_call, r_tup, r_lst, r_p0, r_pS, r_disp, r_dget, r_sl, r_noPart, r_part, r_gNil, r_gCons, r_itF, r_nT, r_nF, r_len0, r_len1, r_len2, r_len3, r_len4, r_len7, r_len8, r_for, r_iEnum, r_iList, r_iTup, r_iRng1, r_iRng2, r_exI1, r_exI2, r_exR, r_bm, r_bm0, r_ixS, r_ixL, r_ixT, r_cat, r_slL, r_append, r_exRl, r_intB, true_and, and_true, forall_const, Int.reduceLT, r_compG, r_setComp, r_yes, r_slT, r_inR, r_notInR, cxOf_K, wish_K, blk_K, r_blk1, r_blk2, List.map_cons, List.map_nil, List.getElem?_cons_zero, List.getElem?_cons_succ, Option.join_some, r_Vs, r_join, r_tyStr, r_dnewK, r_dput, r_exRp, r_gSub, List.set_cons_zero, List.set_cons_succ, r_midL, r_sfld, r_gfld, r_meth, r_make, r_iRev, r_listRev, r_listVals, r_slRev, r_dget2, r_listRng, r_kget1, r_iEnumT, r_way]
    refine methOf ob rfl (mk_way (N) (bl) (B) (b) (hP) (hb) (by omega) (fun H1 sx1 hP1 => ?_))
    have gw := FZ.wayTo_get b B
    generalize FZ.wayTo b B = w0 at *
    obtain ⟨dx1, ob1⟩ := hP1.ob
    refine later ?_
    simp only [y_v0, r_g0, y_v1, r_g1, y_v2, r_g2, y_v3, r_g3, y_v4, r_g4, y_v5, r_g5, y_v6, r_g6, y_v7, r_g7, y_v8, r_g8, y_v9, r_g9, y_v10, r_g10, y_v11, r_g11, y_v12, r_g12, y_v13, r_g13, y_v14, r_g14, y_v15, r_g15, r_c, r_op, r_un, y_I0, y_I, y_U, r_eqI, r_eqS, r_neI, r_neS, r_exbl, r_exint, r_test, r_B, r_and, r_or, r_not, r_andV, r_orV, r_notV, r_if, r_next, r_seqL, r_brk, r_cont, r_drop, r_ret, r_retN, r_ifS, r_asg, r_CB, r_nil, r_cons, r_call, r_tup, r_lst, r_p0, r_pS, r_disp, r_dget, r_sl, r_noPart, r_part, r_gNil, r_gCons, r_itF, r_nT, r_nF, r_len0, r_len1, r_len2, r_len3, r_len4, r_len7, r_len8, r_for, r_iEnum, r_iList, r_iTup, r_iRng1, r_iRng2, r_exI1, r_exI2, r_exR, r_bm, r_bm0, r_ixS, r_ixL, r_ixT, r_cat, r_slL, r_append, r_exRl, r_intB, true_and, and_true, forall_const, Int.reduceLT, r_compG, r_setComp, r_yes, r_slT, r_inR, r_notInR, cxOf_K, wish_K, blk_K, r_blk1, r_blk2, List.map_cons, List.map_nil, List.getElem?_cons_zero, List.getElem?_cons_succ, Option.join_some, r_Vs, r_join, r_tyStr, r_dnewK, r_dput, r_exRp, r_gSub, List.set_cons_zero, List.set_cons_succ, r_midL, r_sfld, r_gfld, r_meth, r_make, r_iRev, r_listRev, r_listVals, r_slRev, r_dget2, r_listRng, r_kget1, r_iEnumT, r_keep]
    refine methOf ob1 rfl ?_
    refine (mk_keep (N) (bl) (w0.2) (hP1) (by omega) (fun H2 sx2 hP2 => ?_))
    have sx02 := sx1.trans sx2
    obtain ⟨dx2, ob2⟩ := hP2.ob
    obtain ⟨xs2, hbl2, _⟩ := hP2.bs
    refine later ?_
    simp only [y_v0, r_g0, y_v1, r_g1, y_v2, r_g2, y_v3, r_g3, y_v4, r_g4, y_v5, r_g5, y_v6, r_g6, y_v7, r_g7, y_v8, r_g8, y_v9, r_g9, y_v10, r_g10, y_v11, r_g11, y_v12, r_g12, y_v13, r_g13, y_v14, r_g14, y_v15, r_g15, r_c, r_op, r_un, y_I0, y_I, y_U, r_eqI, r_eqS, r_neI, r_neS, r_exbl, r_exint, r_test, r_B, r_and, r_or, r_not, r_andV, r_orV, r_notV, r_if, r_next, r_seqL, r_brk, r_cont, r_drop, r_ret, r_retN, r_ifS, r_asg, r_CB, r_nil, r_cons, r_call, r_tup, r_lst, r_p0, r_pS, r_disp, r_dget, r_sl, r_noPart, r_part, r_gNil, r_gCons, r_itF, r_nT, r_nF, r_len0, r_len1, r_len2, r_len3, r_len4, r_len7, r_len8, r_for, r_iEnum, r_iList, r_iTup, r_iRng1, r_iRng2, r_exI1, r_exI2, r_exR, r_bm, r_bm0, r_ixS, r_ixL, r_ixT, r_cat, r_slL, r_append, r_exRl, r_intB, true_and, and_true, forall_const, Int.reduceLT, r_compG, r_setComp, r_yes, r_slT, r_inR, r_notInR, cxOf_K, wish_K, blk_K, r_blk1, r_blk2, List.map_cons, List.map_nil, List.getElem?_cons_zero, List.getElem?_cons_succ, Option.join_some, r_Vs, r_join, r_tyStr, r_dnewK, r_dput, r_exRp, r_gSub, List.set_cons_zero, List.set_cons_succ, r_midL, r_sfld, r_gfld, r_meth, r_make, r_iRev, r_listRev, r_listVals, r_slRev, r_dget2, r_listRng, r_kget1, r_iEnumT, r_way]
    refine methOf ob2 rfl (methOf ob2 rfl ⟨_, _, (SameX.tsL2 sx02 hbl0).seqT hq, rfl, fun a3 ha3 e3 he3 q3 hq3 => ?_⟩)
    obtain ⟨sm, hb3⟩ := new_blk (K := K) (ed := .go w0.2.length) (ds := []) hbl2 (hP2.nw _ ha3) ha3 .nil he3 hq3
    rw [show edVs (.go w0.2.length) = [V.str "go", V.int w0.2.length] from rfl] at sm hb3
    have hP3 := hP2.same sm
    have sx03 := sx02.trans (SameX.of (p := bl) sm)
    simp only [y_v0, r_g0, y_v1, r_g1, y_v2, r_g2, y_v3, r_g3, y_v4, r_g4, y_v5, r_g5, y_v6, r_g6, y_v7, r_g7, y_v8, r_g8, y_v9, r_g9, y_v10, r_g10, y_v11, r_g11, y_v12, r_g12, y_v13, r_g13, y_v14, r_g14, y_v15, r_g15, r_c, r_op, r_un, y_I0, y_I, y_U, r_eqI, r_eqS, r_neI, r_neS, r_exbl, r_exint, r_test, r_B, r_and, r_or, r_not, r_andV, r_orV, r_notV, r_if, r_next, r_seqL, r_brk, r_cont, r_drop, r_ret, r_retN, r_ifS, r_asg, r_CB, r_nil, r_cons, r_call, r_tup, r_lst, r_p0, r_pS, r_disp, r_dget, r_sl, r_noPart, r_part, r_gNil, r_gCons, r_itF, r_nT, r_nF, r_len0, r_len1, r_len2, r_len3, r_len4, r_len7, r_len8, r_for, r_iEnum, r_iList, r_iTup, r_iRng1, r_iRng2, r_exI1, r_exI2, r_exR, r_bm, r_bm0, r_ixS, r_ixL, r_ixT, r_cat, r_slL, r_append, r_exRl, r_intB, true_and, and_true, forall_const, Int.reduceLT, r_compG, r_setComp, r_yes, r_slT, r_inR, r_notInR, cxOf_K, wish_K, blk_K, r_blk1, r_blk2, List.map_cons, List.map_nil, List.getElem?_cons_zero, List.getElem?_cons_succ, Option.join_some, r_Vs, r_join, r_tyStr, r_dnewK, r_dput, r_exRp, r_gSub, List.set_cons_zero, List.set_cons_succ, r_midL, r_sfld, r_gfld, r_meth, r_make, r_iRev, r_listRev, r_listVals, r_slRev, r_dget2, r_listRng, r_kget1, r_iEnumT, r_way, r_open]
    have lo := FZ.openL_len rows ⟨[], .go w0.2.length⟩ (w0.2 ++ [⟨[], .stop⟩])
    have go := FZ.openL_get rows ⟨[], .go w0.2.length⟩ (w0.2 ++ [⟨[], .stop⟩])
    rw [List.length_append, List.length_singleton] at lo go
    refine (mk_open (N) (bl) (w0.2 ++ [(⟨[], .stop⟩ : FZ.Blk)]) (⟨[], .go w0.2.length⟩) (xs1) (rows) (f1) (hP3) (hb3) (sx03 _ _ ha1 na1) (stms_sx h1 sx03 hbl0 nf1) (na1) (nf1) (by omega) (by rw [List.length_append, List.length_singleton]; omega) (Nat.zero_le _) (fun y4 H4 s4 hP4 hb4 l4 => ?_))
    generalize FZ.openL rows ⟨[], .go w0.2.length⟩ (w0.2 ++ [⟨[], .stop⟩]) = o at *
    have gw2 := FZ.wayTo_get o.1 o.2
    refine (mk_way (N) (bl) (_) (_) (hP4) (hb4) (by omega) (fun H5 s5 hP5 => ?_))
    generalize FZ.wayTo o.1 o.2 = wo at *
    have sx05 := sx03.trans (s4.trans s5)
    refine later ?_
    simp only [y_v0, r_g0, y_v1, r_g1, y_v2, r_g2, y_v3, r_g3, y_v4, r_g4, y_v5, r_g5, y_v6, r_g6, y_v7, r_g7, y_v8, r_g8, y_v9, r_g9, y_v10, r_g10, y_v11, r_g11, y_v12, r_g12, y_v13, r_g13, y_v14, r_g14, y_v15, r_g15, r_c, r_op, r_un, y_I0, y_I, y_U, r_eqI, r_eqS, r_neI, r_neS, r_exbl, r_exint, r_test, r_B, r_and, r_or, r_not, r_andV, r_orV, r_notV, r_if, r_next, r_seqL, r_brk, r_cont, r_drop, r_ret, r_retN, r_ifS, r_asg, r_CB, r_nil, r_cons, r_call, r_tup, r_lst, r_p0, r_pS, r_disp, r_dget, r_sl, r_noPart, r_part, r_gNil, r_gCons, r_itF, r_nT, r_nF, r_len0, r_len1, r_len2, r_len3, r_len4, r_len7, r_len8, r_for, r_iEnum, r_iList, r_iTup, r_iRng1, r_iRng2, r_exI1, r_exI2, r_exR, r_bm, r_bm0, r_ixS, r_ixL, r_ixT, r_cat, r_slL, r_append, r_exRl, r_intB, true_and, and_true, forall_const, Int.reduceLT, r_compG, r_setComp, r_yes, r_slT, r_inR, r_notInR, cxOf_K, wish_K, blk_K, r_blk1, r_blk2, List.map_cons, List.map_nil, List.getElem?_cons_zero, List.getElem?_cons_succ, Option.join_some, r_Vs, r_join, r_tyStr, r_dnewK, r_dput, r_exRp, r_gSub, List.set_cons_zero, List.set_cons_succ, r_midL, r_sfld, r_gfld, r_meth, r_make, r_iRev, r_listRev, r_listVals, r_slRev, r_dget2, r_listRng, r_kget1, r_iEnumT]
    intro a6 ha6
    have t6 := Same.upd (o := .lst []) ha6
    refine ⟨_, _, (SameX.tsL2 sx05 hbl0 |>.trans t6.ts).seqT hq, rfl, fun e6 he6 q6 hq6 => ?_⟩
    obtain ⟨xs5, hbl5, _⟩ := hP5.bs
    obtain ⟨sm6, hb6⟩ := new_blk (K := K) (ed := .choose n wo.1 w0.1) (ds := []) hbl5 (hP5.nw _ ha6) ha6 .nil he6 hq6
    rw [show edVs (.choose n wo.1 w0.1) = [V.str "choose", V.str n, V.int wo.1, V.int w0.1] from rfl] at sm6 hb6
    have hP6 := hP5.same sm6
    have sx06 := sx05.trans (SameX.of (p := bl) sm6)
    generalize upd (upd (upd H5 a6 _) e6 _) q6 _ = G at sm6 hb6 hP6 sx06 ⊢
    obtain ⟨dx6, ob6⟩ := hP6.ob
    obtain ⟨xs6, hbl6, hxs6⟩ := hP6.bs
    have lx6 := hxs6.length
    refine fget ob6 T.c_Parting.cl T.n_Parting_blocks rfl ?_
    have sx67 : SameX bl G (upd G bl (.lst (xs6.set w0.2.length (.ref q6)))) := SameX.upd
    refine ⟨bl, xs6, _, w0.2.length, rfl, rfl, hbl6, FL.ixN_nat (by omega), ?_⟩
    have hP7 : PartAt K t.C_Parting N (upd G bl (.lst (xs6.set w0.2.length (.ref q6)))) p bl (wo.2.set w0.2.length ⟨[], .choose n wo.1 w0.1⟩) :=
      ⟨⟨dx6, sx67 _ _ ob6 hP6.ne⟩, fun c hc => hP6.nw c (upd_none hc), _, upd_same, FL.Paired.put (hb6.sx sx67 hbl6) _ (FL.Paired.imp hxs6 fun y _ c _ h => h.sx sx67 hbl6)⟩
    have sx07 := sx06.trans sx67
    generalize upd G bl _ = G2 at hP7 sx07 ⊢
    refine later ?_
    simp only [y_v0, r_g0, y_v1, r_g1, y_v2, r_g2, y_v3, r_g3, y_v4, r_g4, y_v5, r_g5, y_v6, r_g6, y_v7, r_g7, y_v8, r_g8, y_v9, r_g9, y_v10, r_g10, y_v11, r_g11, y_v12, r_g12, y_v13, r_g13, y_v14, r_g14, y_v15, r_g15, r_c, r_op, r_un, y_I0, y_I, y_U, r_eqI, r_eqS, r_neI, r_neS, r_exbl, r_exint, r_test, r_B, r_and, r_or, r_not, r_andV, r_orV, r_notV, r_if, r_next, r_seqL, r_brk, r_cont, r_drop, r_ret, r_retN, r_ifS, r_asg, r_CB, r_nil, r_cons, r_call, r_tup, r_lst, r_p0, r_pS, r_disp, r_dget, r_sl, r_noPart, r_part, r_gNil, r_gCons, r_itF, r_nT, r_nF, r_len0, r_len1, r_len2, r_len3, r_len4, r_len7, r_len8, r_for, r_iEnum, r_iList, r_iTup, r_iRng1, r_iRng2, r_exI1, r_exI2, r_exR, r_bm, r_bm0, r_ixS, r_ixL, r_ixT, r_cat, r_slL, r_append, r_exRl, r_intB, true_and, and_true, forall_const, Int.reduceLT, r_compG, r_setComp, r_yes, r_slT, r_inR, r_notInR, cxOf_K, wish_K, blk_K, r_blk1, r_blk2, List.map_cons, List.map_nil, List.getElem?_cons_zero, List.getElem?_cons_succ, Option.join_some, r_Vs, r_join, r_tyStr, r_dnewK, r_dput, r_exRp, r_gSub, List.set_cons_zero, List.set_cons_succ, r_midL, r_sfld, r_gfld, r_meth, r_make, r_iRev, r_listRev, r_listVals, r_slRev, r_dget2, r_listRng, r_kget1, r_iEnumT]
    intro a8 ha8 e8 he8 q8 hq8
    obtain ⟨xs7, hbl7, _⟩ := hP7.bs
    obtain ⟨sm8, hb8⟩ := new_blk (K := K) (ed := .go w0.2.length) (ds := []) hbl7 (hP7.nw _ ha8) ha8 .nil he8 hq8
    exact q _ _ (sx07.trans (SameX.of sm8)) (hP7.same sm8) hb8 (Nat.zero_le _)
theorem row_step (T : Txt K mg t) (d : Nat) (G_Parting_with_if : FnOk P w K mg base CX0 (3 * d + 5) t.f_Parting_with_if t.e_Parting_with_if ["self", "row", "block"] (sp_rowB K t.C_Parting (d + 1) isIf)) (G_Parting_with_while : FnOk P w K mg base CX0 (3 * d + 5) t.f_Parting_with_while t.e_Parting_with_while ["self", "row", "block"] (sp_rowB K t.C_Parting (d + 1) isWh)) : FnOk P w K mg base CX0 (3 * (d + 1) + 3) t.f_Parting_with_row t.e_Parting_with_row ["self", "row", "block"] (sp_rowB K t.C_Parting (d + 1) fun _ => True) := by
  have G_Parting_way_to := ok_way (P := P) (w := w) (base := base) T
  refine T.d_Parting_with_row.F.ok sc_Parting_with_row (fun vs H Q E h => by obtain ⟨_, _, _, rfl, _⟩ := h; rfl) (fun cdv A outer s H vs Q E hr h => ?_)
  obtain ⟨p, r, x, rfl, N, bl, B, b, st, f, hP, hb, hv, hok, nbf, hd, hm, h8, q⟩ := h
  obtain ⟨dx, ob⟩ := hP.ob
  obtain ⟨xs0, hbl0, _⟩ := hP.bs
  refine ⟨_,
      (XSs.h
      (xpss_cons
        (xps_if (xpt_cmpR op_eq (xpe_ix ix_tup (yqv 1 vl) xpe_int (fun _ _ => rfl)) xpe_str (nomark _))
          (xpss_one
            (xps_ret (xqe_methD T.c_Parting.cl T.d_Parting_with_if G_Parting_with_if (hr.mono (by first | decide | omega)) (yqv 0 vl) (xpa_cons (yqv 1 vl) (xpa_cons (yqv 2 vl) xpa_nil)))))
          xpss_nil)
      (xpss_cons
        (xps_if (xpt_cmpR op_eq (xpe_ix ix_tup (yqv 1 vl) xpe_int (fun _ _ => rfl)) xpe_str (nomark _))
          (xpss_one
            (xps_ret (xqe_methD T.c_Parting.cl T.d_Parting_with_while G_Parting_with_while (hr.mono (by first | decide | omega)) (yqv 0 vl) (xpa_cons (yqv 1 vl) (xpa_cons (yqv 2 vl) xpa_nil)))))
          xpss_nil)
      (xpss_cons
        (xps_if (xpt_cmpR op_eq (xqe_callB call_len_seq gl T.z_len PySem.boot_len (xpa_cons (xpe_ix ix_tup (yqv 2 vl) xpe_int (fun _ _ => rfl)) xpa_nil)) (xqe_glob (v := .int 8) gl T.g_MOST_DEEDS ⟨_, rfl⟩) (nomark _))
          (xpss_one
            (xps_ret (xpe_tup (xpa_cons (xpe_lst (xpa_cons (yqv 1 vl) xpa_nil)) (xpa_cons (xpe_tup (xpa_cons xpe_str (xpa_cons (xqe_methD T.c_Parting.cl T.d_Parting_way_to G_Parting_way_to (hr.mono (by first | decide | omega)) (yqv 0 vl) (xpa_cons (yqv 2 vl) xpa_nil)) xpa_nil))) xpa_nil)))))
          xpss_nil)
      (xpss_one
        (xps_ret (xpe_tup (xpa_cons (xpe_op op_cat (xpe_lst (xpa_cons (yqv 1 vl) xpa_nil)) (xpe_ix ix_tup (yqv 2 vl) xpe_int (fun _ _ => rfl))) (xpa_cons (xpe_ix ix_tup (yqv 2 vl) xpe_int (fun _ _ => rfl)) xpa_nil))))))))), ?_⟩
  rw [show start _ [V.ref p, r, x] = [some (.ref p), some r, some x] from rfl]
  have hv0 := hv
  cases hv with
  | @ifs q0 a1 c1 n xs1 ys1 ones others f1 g1 hq ha1 hc1 h1 h2 =>
    simp_arith [r_listRng, r_kget1, r_iEnumT, r_rowB, r_way]
    refine ⟨_, _, hq, rfl, ?_⟩
    simp_arith [r_listRng, r_kget1, r_iEnumT, r_rowB, r_way]
    refine ite_dec (fun _ => methOf ob rfl ⟨N, bl, B, b, _, _, hP, hb, hv0, trivial, nbf, hd, hm, h8, q⟩) (fun z => absurd trivial z)
  | @whl q0 a1 n xs1 rows f1 hq ha1 h1 =>
    simp_arith [r_listRng, r_kget1, r_iEnumT, r_rowB, r_way]
    refine ⟨_, _, hq, rfl, ?_⟩
    simp_arith [r_listRng, r_kget1, r_iEnumT, r_rowB, r_way]
    refine ite_dec (fun z => absurd z (by decide +kernel)) (fun _ => ⟨_, _, hq, rfl, ?_⟩)
    simp_arith [r_listRng, r_kget1, r_iEnumT, r_rowB, r_way]
    refine ite_dec (fun _ => methOf ob rfl ⟨N, bl, B, b, _, _, hP, hb, hv0, trivial, nbf, hd, hm, h8, q⟩) (fun z => absurd trivial z)
  | @deed q0 dd hf hq =>
    simp_arith [r_listRng, r_kget1, r_iEnumT, r_rowB, r_way]
    refine deed0 hf hq (by decide +kernel) (by decide +kernel) (by decide +kernel) ⟨_, rfl, ?_⟩
    rw [if_neg Bool.false_ne_true]
    refine deed0 hf hq (by decide +kernel) (by decide +kernel) (by decide +kernel) ⟨_, rfl, ?_⟩
    rw [if_neg Bool.false_ne_true]
    obtain ⟨qb, ab, eb, vs, rfl, b1, b2, b3, b4, b5, b6⟩ := id hb
    have lv := b3.length
    rw [FZ.withS] at q
    simp only [Stm.many] at hm
    simp_arith [r_listRng, r_kget1, r_iEnumT, r_rowB, r_way]
    refine ⟨_, _, SqT.of b1, rfl, ab, vs, rfl, .inl (SqL.of b2), ?_⟩
    by_cases c8 : b.ds.length = 8
    · rw [if_pos c8] at q
      rw [if_pos (by rw [lv, c8]; rfl)]
      intro a1 ha1
      have t1 := Same.upd (o := .lst [V.ref q0]) ha1
      have n1 : a1 ≠ bl := (ne_of_none hbl0 ha1).symm
      refine methOf (t1 _ _ ob) rfl (mk_way (N) (bl) (B) (b) (hP.same t1) (hb.same t1) (by omega) (fun H2 s2 hP2 => ?_))
      have sx2 := (SameX.of (p := bl) t1).trans s2
      intro e3 he3 q3 hq3
      obtain ⟨sm, hb3⟩ := blk_mk (K := K) (ed := .go (FZ.wayTo b B).1) (ds := [dd]) (s2 _ _ upd_same n1) n1 (hP.nw _ ha1) (.cons ⟨q0, rfl, (SameX.tsL2 sx2 hbl0).seqT hq, hf⟩ .nil) he3 hq3
      exact q _ _ (sx2.trans (SameX.of sm)) (hP2.same sm) hb3 (by simp)
    · rw [if_neg c8] at q
      rw [if_neg (by rw [lv]; simp; omega)]
      intro a1 ha1
      have t1 := Same.upd (o := .lst [V.ref q0]) ha1
      have n1 : ab ≠ a1 := ne_of_none b2 ha1
      refine ⟨_, _, SqT.of (t1 _ _ b1), rfl, a1, ab, _, _, rfl, rfl, upd_same, t1 _ _ b2, by rw [sizeLine_eq, List.length_singleton]; omega, fun a2 ha2 => ?_⟩
      have t2 := Same.upd (o := .lst ([V.ref q0] ++ vs)) ha2
      have t12 := t1.trans t2
      refine ⟨_, _, SqT.of (t12 _ _ b1), rfl, fun q3 hq3 => ?_⟩
      have t3 := Same.upd (o := .tup [V.ref a2, V.ref eb]) hq3
      have t13 := t12.trans t3
      have n2 : a2 ≠ bl := (ne_of_none (t1 _ _ hbl0) ha2).symm
      refine q _ _ (SameX.of t13) (hP.same t13) ⟨q3, a2, eb, _, rfl, upd_same, t3 _ _ upd_same, ?_, t13 _ _ b4, n2, hP.nw _ (t1.free ha2)⟩ (by rw [List.length_cons]; omega)
      exact .cons ⟨q0, rfl, t13.ts.seqT hq, hf⟩ (FL.Paired.imp b3 fun y _ c _ z => z.ts t13.ts)
end
end K22
set_option maxHeartbeats 4000000
namespace K22
open PySem L2 PyProof.Rows FD FB FS FO FR FG
noncomputable def sp_pinit (C : Addr) : Sp := fun vs H Q _ => ∃ (p : Addr) (dx : Addr), vs = [.ref p] ∧ H p = some (.ins C dx []) ∧ ∀ bl, H bl = none → Q .non (upd (upd H bl (.lst [])) p (.ins C dx [("blocks", .ref bl)]))
noncomputable def bd_blocks (K : PySem.W.Frag) (C : Addr) (d : Nat) (p : Addr) (H : Hp) (Q : VK) : Prop := ∃ (wd : Int) (ins oth : List Str) (ss : List Stm) (a b r : Addr) (ys : List V) (g : List Addr), ProgAt K C H p wd ins oth ss a b r ys g ∧ deepL ss < d ∧ 3 * manyL ss < 3900 ∧
  ∀ bl xs H', Same H H' → H bl = none → H' bl = some (.lst xs) → Paired (BlkV K (fun c => H c = none) H' bl) xs (FZ.blocksOf ss) → Q (.ref bl) H'
theorem mk_blocks {K : PySem.W.Frag} {C : Addr} {d : Nat} {p : Addr} {H : Hp} {Q : VK}  (wd : Int) (ins oth : List Str) (ss : List Stm) (a b r : Addr) (ys : List V) (g : List Addr) (h_0 : ProgAt K C H p wd ins oth ss a b r ys g) (h_1 : deepL ss < d) (h_2 : 3 * manyL ss < 3900) (h_3 : ∀ bl xs H', Same H H' → H bl = none → H' bl = some (.lst xs) → Paired (BlkV K (fun c => H c = none) H' bl) xs (FZ.blocksOf ss) → Q (.ref bl) H') : bd_blocks K C d p H Q := ⟨wd, ins, oth, ss, a, b, r, ys, g, h_0, h_1, h_2, h_3⟩
noncomputable def sp_blocks (K : PySem.W.Frag) (C : Addr) (d : Nat) : Sp := fun vs H Q _ => ∃ p : Addr, vs = [.ref p] ∧ bd_blocks K C d p H Q
section
variable {P : Program} {w : World} {K : PySem.W.Frag} {mg : Str → Option Value} {base : Heap} {t : Ad}
theorem r_blocks {C p : Addr} {d : Nat} {H : Hp} {Q : VK} {E : XK} : sp_blocks K C d [.ref p] H Q E = bd_blocks K C d p H Q := propext ⟨by rintro ⟨_, e, q⟩; cases e; exact q, fun q => ⟨_, rfl, q⟩⟩
theorem r_pinit {C p : Addr} {H : Hp} {Q : VK} {E : XK} : sp_pinit C [.ref p] H Q E = ∃ dx, H p = some (.ins C dx []) ∧ ∀ bl, H bl = none → Q .non (upd (upd H bl (.lst [])) p (.ins C dx [("blocks", .ref bl)])) := propext ⟨by rintro ⟨_, dx, e, q⟩; cases e; exact ⟨dx, q⟩, fun ⟨dx, q⟩ => ⟨_, dx, rfl, q⟩⟩
theorem ok_pinit (T : Txt K mg t) : FnOk P w K mg base CX0 1 t.f_Parting___init__ t.e_Parting___init__ ["self"] (sp_pinit t.C_Parting) := by
  refine T.d_Parting___init__.F.ok sc_Parting___init__ (fun vs H Q E h => by obtain ⟨_, _, rfl, _⟩ := h; rfl) (fun cdv A outer s H vs Q E hr h => ?_)
  obtain ⟨p, dx, rfl, hp, q⟩ := h
  refine ⟨_,
      (XSs.h
      (xpss_one
        (xps_fld (yqv 0 vl) (xpe_lst xpa_nil) rfl))), ?_⟩
  rw [show start _ [V.ref p] = [some (.ref p)] from rfl]
  simp_arith [r_listRng, r_kget1, r_iEnumT]
  intro bl hbl
  have np : p ≠ bl := ne_of_none hp hbl
  refine fput (by rw [upd_ne np]; exact hp) T.c_Parting.cl T.n_Parting_blocks (by simp) ?_
  rw [putF_new (by rfl), List.nil_append]
  exact q bl hbl
theorem ok_parts (T : Txt K mg t) : ∀ d, FnOk P w K mg base CX0 (3 * d + 3) t.f_Parting_with_row t.e_Parting_with_row ["self", "row", "block"] (sp_rowB K t.C_Parting d fun _ => True) ∧ FnOk P w K mg base CX0 (3 * d + 4) t.f_Parting_opened t.e_Parting_opened ["self", "rows", "block"] (sp_open K t.C_Parting d)
  | 0 => by
    have h0 : FnOk P w K mg base CX0 (3 * 0 + 3) t.f_Parting_with_row t.e_Parting_with_row ["self", "row", "block"] (sp_rowB K t.C_Parting 0 fun _ => True) := ⟨fun vs H Q E h => by obtain ⟨_, _, _, _, _, _, _, _, _, _, _, _, _, _, _, h, _⟩ := h; omega, fun _ _ _ _ _ _ _ _ _ _ _ _ _ h => by obtain ⟨_, _, _, _, _, _, _, _, _, _, _, _, _, _, _, h, _⟩ := h; omega⟩
    exact ⟨h0, open_step T 0 h0⟩
  | d + 1 => by
    have h1 := row_step T d (if_step T d (ok_parts T d).2) (wh_step T d (ok_parts T d).2)
    exact ⟨h1, open_step T (d + 1) h1⟩
theorem ok_blocks (T : Txt K mg t) (d : Nat) : FnOk P w K mg base CX0 (3 * d + 5) t.f_blocks_of t.e_blocks_of ["program"] (sp_blocks K t.C_Program d) := by
  have G_Parting___init__ := ok_pinit (P := P) (w := w) (base := base) T
  have G_Parting_keep_place := ok_keep (P := P) (w := w) (base := base) T
  have G_Parting_opened := (ok_parts (P := P) (w := w) (base := base) T d).2
  refine T.d_blocks_of.F.ok sc_blocks_of (fun vs H Q E h => by obtain ⟨_, rfl, _⟩ := h; rfl) (fun cdv A outer s H vs Q E hr h => ?_)
  obtain ⟨p, rfl, wd, ins, oth, ss, a, b, r, ys, g, hP, hd, hm, q⟩ := h
  refine ⟨_,
      (XSs.h
      (xpss_cons
        (xps_set (i := 1) sc_blocks_of.nd rfl ll (xqe_make0D T.c_Parting T.d_Parting___init__ G_Parting___init__ (hr.mono (by first | decide | omega)) gl))
      (xpss_cons
        (xps_set (i := 2) sc_blocks_of.nd rfl ll (xqe_meth0D T.c_Parting.cl T.d_Parting_keep_place G_Parting_keep_place (hr.mono (by first | decide | omega)) (yqv 1 vl)))
      (xpss_cons
        (xps_asg (xqe_methD T.c_Parting.cl T.d_Parting_opened G_Parting_opened (hr.mono (by first | decide | omega)) (yqv 1 vl) (xpa_cons (xpe_fld (yqv 0 vl) rfl) (xpa_cons (xpe_tup (xpa_cons (xpe_lst xpa_nil) (xpa_cons (xpe_tup (xpa_cons xpe_str xpa_nil)) xpa_nil))) xpa_nil))) (xpg_sub (xpe_fld (yqv 1 vl) rfl) (yqv 2 vl) set_list))
      (xpss_one
        (xps_ret (xpe_fld (yqv 1 vl) rfl))))))), ?_⟩
  rw [show start _ [V.ref p] = [some (.ref p), none, none] from rfl]
  simp_arith [r_listRng, r_kget1, r_iEnumT, r_keep, r_open]
  intro x dx hx hdx hne
  simp_arith [r_listRng, r_kget1, r_iEnumT, r_pinit, r_keep, r_open]
  refine ⟨dx, upd_same, fun bl hbl => ?_⟩
  have hbl0 : H bl = none := upd_none (upd_none hbl)
  have nxb : x ≠ bl := ne_of_none upd_same hbl
  have e2 : upd (upd (upd (upd H dx (.own x)) x (.ins t.C_Parting dx [])) bl (.lst [])) x (.ins t.C_Parting dx [("blocks", .ref bl)]) bl = some (.lst []) := by rw [upd_ne nxb.symm]; exact upd_same
  have hQ : PartAt K t.C_Parting (fun c => H c = none) (upd (upd (upd (upd H dx (.own x)) x (.ins t.C_Parting dx [])) bl (.lst [])) x (.ins t.C_Parting dx [("blocks", .ref bl)])) x bl [] :=
    ⟨⟨dx, upd_same⟩, fun c hc => upd_none (upd_none (upd_none (upd_none hc))), [], e2, .nil⟩
  have s2 : Same H (upd (upd (upd (upd H dx (.own x)) x (.ins t.C_Parting dx [])) bl (.lst [])) x (.ins t.C_Parting dx [("blocks", .ref bl)])) := (((Same.upd hdx).updM hx).updM hbl0).updM hx
  generalize upd (upd (upd (upd H dx (.own x)) x (.ins t.C_Parting dx [])) bl (.lst [])) x (.ins t.C_Parting dx [("blocks", .ref bl)]) = H2 at *
  obtain ⟨dx2, ob2⟩ := hQ.ob
  refine methOf ob2 rfl ⟨_, bl, [], hQ, by decide, fun H3 sx3 hP3 => ?_⟩
  have n0 : ∀ c o, H c = some o → c ≠ bl := fun c o e => ne_of_none e hbl0
  have s3 : Same H H3 := fun c o e => sx3 c o (s2 _ _ e) (n0 c o e)
  obtain ⟨dx3, ob3⟩ := hP3.ob
  obtain ⟨dp, obp⟩ := hP.ob
  refine methOf ob3 rfl ?_
  refine fget (s3 _ _ obp) T.c_Program.cl T.n_Program_rows rfl ?_
  simp_arith [r_listRng, r_kget1, r_iEnumT, r_keep, r_open]
  intro a4 ha4 e4 he4 q4 hq4
  obtain ⟨xs3, hbl3, _⟩ := hP3.bs
  obtain ⟨sm, hb4⟩ := new_blk (K := K) (N := fun c => H c = none) (ed := .stop) (ds := []) hbl3 (hP3.nw _ ha4) ha4 .nil he4 hq4
  rw [show edVs .stop = [V.str "stop"] from rfl] at sm hb4
  have hP4 := hP3.same sm
  have s4 := s3.trans sm
  generalize upd (upd (upd H3 a4 _) e4 _) q4 _ = G at sm hb4 hP4 s4 ⊢
  have nf : bl ∉ g := fun z => by obtain ⟨zs, hz⟩ := hP.st.tracked bl z; rw [hbl0] at hz; cases hz
  refine ⟨_, bl, _, _, ys, ss, g, hP4, hb4, s4 _ _ hP.rs, hP.st.same s4, n0 _ _ hP.rs, nf, hd, by simp; omega, by simp, fun y H5 sx5 hP5 hb5 _ => ?_⟩
  rw [List.nil_append] at hP5 hb5
  have eB : FZ.blocksOf ss = (FZ.openL ss ⟨[], .stop⟩ [⟨[], .stop⟩]).2.set 0 (FZ.openL ss ⟨[], .stop⟩ [⟨[], .stop⟩]).1 := rfl
  have ho := FZ.openL_get ss ⟨[], .stop⟩ [⟨[], .stop⟩]
  generalize FZ.openL ss ⟨[], .stop⟩ [⟨[], .stop⟩] = o at *
  have s5 : Same H H5 := fun c o e => sx5 c o (s4 _ _ e) (n0 c o e)
  obtain ⟨dx5, ob5⟩ := hP5.ob
  obtain ⟨xs5, hbl5, hxs5⟩ := hP5.bs
  have lx5 := hxs5.length
  rw [List.length_singleton] at ho
  refine fget ob5 T.c_Parting.cl T.n_Parting_blocks rfl ?_
  refine ⟨bl, xs5, _, 0, rfl, rfl, hbl5, FL.ixN_nat (k := 0) (by omega), ?_⟩
  have sx6 : SameX bl H5 (upd H5 bl (.lst (xs5.set 0 y))) := SameX.upd
  refine fget (sx6 _ _ ob5 hP5.ne) T.c_Parting.cl T.n_Parting_blocks rfl ?_
  refine q bl _ _ (fun c o e => sx6 c o (s5 _ _ e) (n0 c o e)) hbl0 upd_same ?_
  rw [eB]
  exact FL.Paired.put (hb5.sx sx6 hbl5) _ (FL.Paired.imp hxs5 fun y _ c _ h => h.sx sx6 hbl5)
end
end K22
set_option maxHeartbeats 4000000
namespace K22
open PySem L2 PyProof.Rows FD FB FS FO FR FG
noncomputable def bd_fop (K : PySem.W.Frag) (o : Opd) (a : Addr) (top : Int) (H : Hp) (Q : VK) : Prop := ∃ (ns : List Str) (wd : Int), top = 1 * 2 ^ wd.toNat ∧ SqL K H a (ns.map V.str) ∧ Opd.good ns wd o ∧ Q (.bl true) H
noncomputable def sp_fop (K : PySem.W.Frag) : Sp := fun vs H Q _ => ∃ (o : Opd) (a : Addr) (top : Int), vs = [o.v, .ref a, .int top] ∧ bd_fop K o a top H Q
noncomputable def bd_fdeed (K : PySem.W.Frag) (q : Addr) (a : Addr) (top : Int) (H : Hp) (Q : VK) : Prop := ∃ (ns : List Str) (wd : Int) (d : Deed), top = 1 * 2 ^ wd.toNat ∧ SqL K H a (ns.map V.str) ∧ SqT K H q d.vs ∧ d.fine ∧ Deed.good ns wd d ∧ ∀ H', Same H H' → Q (.bl true) H'
noncomputable def sp_fdeed (K : PySem.W.Frag) : Sp := fun vs H Q _ => ∃ (q : Addr) (a : Addr) (top : Int), vs = [.ref q, .ref a, .int top] ∧ bd_fdeed K q a top H Q
noncomputable def bd_fend (K : PySem.W.Frag) (q : Addr) (a : Addr) (m : Int) (H : Hp) (Q : VK) : Prop := ∃ (ns : List Str) (n : Nat) (e : FZ.Ed), m = n ∧ SqL K H a (ns.map V.str) ∧ SqT K H q (edVs e) ∧ (∀ i ∈ e.tg, i < n) ∧ (∀ n i j, e = .choose n i j → n ∈ ns) ∧ ∀ H', Same H H' → Q (.bl true) H'
noncomputable def sp_fend (K : PySem.W.Frag) : Sp := fun vs H Q _ => ∃ (q : Addr) (a : Addr) (m : Int), vs = [.ref q, .ref a, .int m] ∧ bd_fend K q a m H Q
section
variable {P : Program} {w : World} {K : PySem.W.Frag} {mg : Str → Option Value} {base : Heap} {t : Ad}
theorem isi_opd {o : FB.Opd} {H : Hp} {Q : VK} (h : Q (.bl (isStrV o.v)) H) : rIsi K [o.v, .ty "str"] H Q := by
  cases o with
  | box n => exact ⟨_, _, _, rfl, by decide +kernel, .str, h⟩
  | word i => exact ⟨_, _, _, rfl, by decide +kernel, .int, h⟩
theorem r_fop {o : Opd} {a : Addr} {top : Int} {H : Hp} {Q : VK} {E : XK} : sp_fop K [o.v, .ref a, .int top] H Q E = bd_fop K o a top H Q :=
  propext ⟨by
    rintro ⟨o', _, _, e, q⟩
    have e2 : o = o' := by
      injection e with e1 _
      cases o <;> cases o' <;> first | (injection e1 with e1; rw [e1]) | cases e1
    subst e2
    injection e with _ e
    cases e
    exact q, fun q => ⟨o, a, top, rfl, q⟩⟩
theorem r_fdeed {q a : Addr} {top : Int} {H : Hp} {Q : VK} {E : XK} : sp_fdeed K [.ref q, .ref a, .int top] H Q E = bd_fdeed K q a top H Q := propext ⟨by rintro ⟨_, _, _, e, q⟩; cases e; exact q, fun q => ⟨_, _, _, rfl, q⟩⟩
theorem r_fend {q a : Addr} {m : Int} {H : Hp} {Q : VK} {E : XK} : sp_fend K [.ref q, .ref a, .int m] H Q E = bd_fend K q a m H Q := propext ⟨by rintro ⟨_, _, _, e, q⟩; cases e; exact q, fun q => ⟨_, _, _, rfl, q⟩⟩
theorem inV_strs {n : Str} {ns : List Str} (h : n ∈ ns) : inV (.str n) (ns.map V.str) = true := by
  unfold inV
  rw [List.any_map, List.any_eq_true]
  exact ⟨n, h, by simp [eqV]⟩
theorem ok_fop (T : Txt K mg t) : FnOk P w K mg base CX0 2 t.f__law_fine_operand t.e__law_fine_operand ["_law_found", "_law_names_here", "_law_top"] (sp_fop K) := by
  have G__law_whole := ok_whole (P := P) (w := w) (base := base) T
  refine T.d__law_fine_operand.F.ok sc__law_fine_operand (fun vs H Q E h => by obtain ⟨_, _, _, rfl, _⟩ := h; rfl) (fun cdv A outer s H vs Q E hr h => ?_)
  obtain ⟨o, a, top, rfl, ns, wd, rfl, ha, ho, q⟩ := h
  refine ⟨_,
      (XSs.h
      (xpss_cons
        (xps_if (xpt_val (xqe_callB call_isi gl T.z_isinstance boot_isinstance (xpa_cons (yqv 0 vl) (xpa_cons (xqe_bltn (v := .ty "str") gl T.z_str boot_str rfl) xpa_nil))))
          (xpss_one
            (xps_ret (xpe_cmpR op_in_seq (yqv 0 vl) (yqv 1 vl) rfl)))
          xpss_nil)
      (xpss_one
        (xps_ret (xpe_and (xqe_callD T.d__law_whole G__law_whole (hr.mono (by first | decide | omega)) (xpa_cons (yqv 0 vl) xpa_nil) gl) (xpe_and (xpe_cmpR yop_le xpe_int (yqv 0 vl) (nomark _)) (xpe_one (xpe_cmpR yop_lt (yqv 0 vl) (yqv 2 vl) (nomark _))))))))), ?_⟩
  rw [show start _ [o.v, V.ref a, V.int (1 * 2 ^ wd.toNat)] = [some o.v, some (.ref a), some (.int (1 * 2 ^ wd.toNat))] from rfl]
  simp_arith [r_listRng, r_kget1, r_iEnumT]
  refine isi_opd ⟨_, rfl, ?_⟩
  cases o with
  | box n =>
    rw [if_pos (by rfl)]
    refine ⟨_, .inl ha, rfl, by simp [flatV], ?_⟩
    have hi : inV (Opd.box n).v (ns.map V.str) = true := inV_strs ho
    rw [hi]; exact q
  | word i =>
    have ho' : 0 ≤ i ∧ i < 2 ^ wd.toNat := ho
    rw [show isStrV (Opd.word i).v = false from rfl, if_neg Bool.false_ne_true, show (Opd.word i).v = .int i from rfl]
    simp_arith [r_listRng, r_kget1, r_iEnumT, r_whole_i]
    rw [if_pos trivial, if_pos (by simpa using ho'.1)]
    have e : decide (i < 1 * 2 ^ wd.toNat) = true := by simpa using ho'.2
    rw [e]; exact q
theorem isi_tup {p : Addr} {xs : List V} {H : Hp} {Q : VK} (hp : SqT K H p xs) (h : Q (.bl true) H) : rIsi K [.ref p, .ty "tuple"] H Q := ⟨_, _, _, rfl, by decide +kernel, .tup hp, h⟩
theorem isi_lst {p : Addr} {xs : List V} {H : Hp} {Q : VK} (hp : SqL K H p xs) (h : Q (.bl true) H) : rIsi K [.ref p, .ty "list"] H Q := ⟨_, _, _, rfl, by decide +kernel, .lst hp, h⟩
theorem isi_str {n : Str} {H : Hp} {Q : VK} (h : Q (.bl true) H) : rIsi K [.str n, .ty "str"] H Q := ⟨_, _, _, rfl, by decide +kernel, .str, h⟩
theorem deed_head (d : Deed) : ∃ f x l, d.vs = .str f :: x :: l := by
  cases d with
  | tell a => exact ⟨_, _, _, rfl⟩
  | copy n a => exact ⟨_, _, _, rfl⟩
  | op f n a c => exact ⟨_, _, _, rfl⟩
theorem deed_tail {ns : List Str} {wd : Int} {d : Deed} (h : Deed.good ns wd d) : (∃ o, d = .tell o) ∨ ∃ (f n : Str) (os : List Opd), d.vs = .str f :: .str n :: os.map Opd.v ∧ ¬ f = "tell" ∧ n ∈ ns ∧ (∀ o ∈ os, Opd.good ns wd o) ∧ ((f = "copy" ∧ os.length = 1) ∨ (¬ f = "copy" ∧ f ∈ opsL ∧ os.length = 2)) := by
  cases d with
  | tell a => exact .inl ⟨a, rfl⟩
  | copy n a => exact .inr ⟨_, n, [a], rfl, by decide +kernel, h.1, fun o ho => by rw [List.mem_singleton.mp ho]; exact h.2, .inl ⟨rfl, rfl⟩⟩
  | op f n a c =>
    obtain ⟨h1, h2, h3, h4⟩ := h
    have hne : ¬ f = "tell" ∧ ¬ f = "copy" := by
      refine ⟨?_, ?_⟩ <;> (rintro rfl; revert h1; decide +kernel)
    refine .inr ⟨f, n, [a, c], rfl, hne.1, h2, fun o ho => ?_, .inr ⟨hne.2, h1, rfl⟩⟩
    rcases List.mem_cons.mp ho with z | z
    · rw [z]; exact h3
    · rw [List.mem_singleton.mp z]; exact h4
theorem ok_fdeed (T : Txt K mg t) : FnOk P w K mg base CX0 3 t.f__law_fine_deed t.e__law_fine_deed ["_law_found", "_law_names_here", "_law_top"] (sp_fdeed K) := by
  have G__law_fine_operand := ok_fop (P := P) (w := w) (base := base) T
  refine T.d__law_fine_deed.F.ok sc__law_fine_deed (fun vs H Q E h => by obtain ⟨_, _, _, rfl, _⟩ := h; rfl) (fun cdv A outer s H vs Q E hr h => ?_)
  obtain ⟨p, a, top, rfl, ns, wd, d, rfl, ha, hp, hf, hd, q⟩ := h
  refine ⟨_,
      (XSs.h
      (xpss_mid
        (xps_if (xPW_pt (xpw_or (xpt_not (xpt_val (xqe_callB call_isi gl T.z_isinstance boot_isinstance (xpa_cons (yqv 0 vl) (xpa_cons (xqe_bltn (v := .ty "tuple") gl T.z_tuple boot_tuple rfl) xpa_nil))))) (xpw_or (xpt_cmpR yop_lt (xqe_callB call_len_seq gl T.z_len PySem.boot_len (xpa_cons (yqv 0 vl) xpa_nil)) xpe_int (nomark _)) (xpw_or1 (xpt_not (xpt_val (xqe_callB call_isi gl T.z_isinstance boot_isinstance (xpa_cons (xpe_ix ix_tup (yqv 0 vl) xpe_int (fun _ _ => rfl)) (xpa_cons (xqe_bltn (v := .ty "str") gl T.z_str boot_str rfl) xpa_nil)))))))))
          (xpss_one
            (xps_ret xpe_bl))
          xpss_nil)
      (xpss_cons
        (xps_if (xpt_cmpR op_eq (xpe_ix ix_tup (yqv 0 vl) xpe_int (fun _ _ => rfl)) xpe_str (nomark _))
          (xpss_one
            (xps_ret (xpe_and (xpe_cmpR op_eq (xqe_callB call_len_seq gl T.z_len PySem.boot_len (xpa_cons (yqv 0 vl) xpa_nil)) xpe_int (nomark _)) (xpe_one (xqe_callD T.d__law_fine_operand G__law_fine_operand (hr.mono (by first | decide | omega)) (xpa_cons (xpe_ix ix_tup (yqv 0 vl) xpe_int (fun _ _ => rfl)) (xpa_cons (yqv 1 vc) (xpa_cons (yqv 2 vc) xpa_nil))) gl)))))
          xpss_nil)
      (xpss_mid
        (xps_if (xpt_cmpR op_eq (xpe_ix ix_tup (yqv 0 vl) xpe_int (fun _ _ => rfl)) xpe_str (nomark _))
          (xpss_one
            (xps_if (xpt_cmpR op_ne (xqe_callB call_len_seq gl T.z_len PySem.boot_len (xpa_cons (yqv 0 vl) xpa_nil)) xpe_int (nomark _))
              (xpss_one
                (xps_ret xpe_bl))
              xpss_nil))
          (xpss_one
            (xps_if (xPW_pt (xpw_or (xpt_cmpR op_notIn_seq (xpe_ix ix_tup (yqv 0 vl) xpe_int (fun _ _ => rfl)) (xpe_lst (xpa_const (by rfl))) rfl) (xpw_or1 (xpt_cmpR op_ne (xqe_callB call_len_seq gl T.z_len PySem.boot_len (xpa_cons (yqv 0 vl) xpa_nil)) xpe_int (nomark _)))))
              (xpss_one
                (xps_ret xpe_bl))
              xpss_nil)))
      (xpss_cons
        (xps_setComp (i := 3) sc__law_fine_deed.nd rfl ll rfl (by kernel_rfl) (tns := ["_law_operand_here"]) (cns := ["_law_names_here", "_law_top"]) (ci := [1, 2]) rfl (CompSc.of (by kernel_rfl)) (xpi_tup (xpe_slice sl_tup (yqv 0 vl) (xpo_some xpe_int) xpo_none)) (fun _ => (xpg_name (i := 1) (show List.Nodup [(".0" : Str), ("_law_operand_here" : Str), ("_law_names_here" : Str), ("_law_top" : Str)] by decide +kernel) rfl ll (Or.inr (by kernel_rfl)))) (fun _ => (xpf_one (xpt_not (xpt_val (xqe_callD T.d__law_fine_operand G__law_fine_operand (hr.mono (by first | decide | omega)) (xpa_cons (yqv 1 vl) (xpa_cons (yqv 2 vc) (xpa_cons (yqv 3 vc) xpa_nil))) gl))))) (fun _ => (yqv 1 vl)))
      (xpss_one
        (xps_ret (xpe_and (xqe_callB call_isi gl T.z_isinstance boot_isinstance (xpa_cons (xpe_ix ix_tup (yqv 0 vl) xpe_int (fun _ _ => rfl)) (xpa_cons (xqe_bltn (v := .ty "str") gl T.z_str boot_str rfl) xpa_nil))) (xpe_and (xpe_cmpR op_in_seq (xpe_ix ix_tup (yqv 0 vl) xpe_int (fun _ _ => rfl)) (yqv 1 vc) rfl) (xpe_one (xpe_cmpR op_eq (xqe_callB call_len_seq gl T.z_len PySem.boot_len (xpa_cons (yqv 3 vl) xpa_nil)) xpe_int (nomark _)))))))))))), ?_⟩
  rw [show start _ [V.ref p, V.ref a, V.int (1 * 2 ^ wd.toNat)] = [some (.ref p), some (.ref a), some (.int (1 * 2 ^ wd.toNat)), none] from rfl]
  simp only [y_v0, r_g0, y_v1, r_g1, y_v2, r_g2, y_v3, r_g3, y_v4, r_g4, y_v5, r_g5, y_v6, r_g6, y_v7, r_g7, y_v8, r_g8, y_v9, r_g9, y_v10, r_g10, y_v11, r_g11, y_v12, r_g12, y_v13, r_g13, y_v14, r_g14, y_v15, r_g15, r_c, r_op, r_un, y_I0, y_I, y_U, r_eqI, r_eqS, r_neI, r_neS, r_exbl, r_exint, r_test, r_B, r_and, r_or, r_not, r_andV, r_orV, r_notV, r_if, r_next, r_seqL, r_brk, r_cont, r_drop, r_ret, r_retN, r_ifS, r_asg, r_CB, r_nil, r_cons, r_call, r_tup, r_lst, r_p0, r_pS, r_disp, r_dget, r_sl, r_noPart, r_part, r_gNil, r_gCons, r_itF, r_nT, r_nF, r_len0, r_len1, r_len2, r_len3, r_len4, r_len7, r_len8, r_for, r_iEnum, r_iList, r_iTup, r_iRng1, r_iRng2, r_exI1, r_exI2, r_exR, r_bm, r_bm0, r_ixS, r_ixL, r_ixT, r_cat, r_slL, r_append, r_exRl, r_intB, true_and, and_true, forall_const, Int.reduceLT, r_compG, r_setComp, r_yes, r_slT, r_inR, r_notInR, cxOf_K, wish_K, blk_K, r_blk1, r_blk2, List.map_cons, List.map_nil, List.getElem?_cons_zero, List.getElem?_cons_succ, Option.join_some, r_Vs, r_join, r_tyStr, r_dnewK, r_dput, r_exRp, r_gSub, List.set_cons_zero, List.set_cons_succ, r_midL, r_sfld, r_gfld, r_meth, r_make, r_iRev, r_listRev, r_listVals, r_slRev, r_dget2, r_listRng, r_kget1, r_iEnumT]
  refine ⟨fun σ H' => H' = H ∧ σ = [some (.ref p), some (.ref a), some (.int (1 * 2 ^ wd.toNat)), none], ?_, ?_⟩
  · obtain ⟨f, x, l, hd⟩ := deed_head d
    rw [hd] at hp
    refine isi_tup hp ⟨_, rfl, ?_⟩
    rw [if_neg (by decide)]
    refine ⟨_, .inr hp, ?_⟩
    rw [if_neg (by simp; omega)]
    refine ⟨_, _, hp, atI_nat (j := 0) rfl, isi_str ⟨_, rfl, ?_⟩⟩
    rw [if_neg (by decide)]
    exact ⟨rfl, rfl⟩
  rintro σ H1 ⟨rfl, rfl⟩
  refine later ?_
  simp only [y_v0, r_g0, y_v1, r_g1, y_v2, r_g2, y_v3, r_g3, y_v4, r_g4, y_v5, r_g5, y_v6, r_g6, y_v7, r_g7, y_v8, r_g8, y_v9, r_g9, y_v10, r_g10, y_v11, r_g11, y_v12, r_g12, y_v13, r_g13, y_v14, r_g14, y_v15, r_g15, r_c, r_op, r_un, y_I0, y_I, y_U, r_eqI, r_eqS, r_neI, r_neS, r_exbl, r_exint, r_test, r_B, r_and, r_or, r_not, r_andV, r_orV, r_notV, r_if, r_next, r_seqL, r_brk, r_cont, r_drop, r_ret, r_retN, r_ifS, r_asg, r_CB, r_nil, r_cons, r_call, r_tup, r_lst, r_p0, r_pS, r_disp, r_dget, r_sl, r_noPart, r_part, r_gNil, r_gCons, r_itF, r_nT, r_nF, r_len0, r_len1, r_len2, r_len3, r_len4, r_len7, r_len8, r_for, r_iEnum, r_iList, r_iTup, r_iRng1, r_iRng2, r_exI1, r_exI2, r_exR, r_bm, r_bm0, r_ixS, r_ixL, r_ixT, r_cat, r_slL, r_append, r_exRl, r_intB, true_and, and_true, forall_const, Int.reduceLT, r_compG, r_setComp, r_yes, r_slT, r_inR, r_notInR, cxOf_K, wish_K, blk_K, r_blk1, r_blk2, List.map_cons, List.map_nil, List.getElem?_cons_zero, List.getElem?_cons_succ, Option.join_some, r_Vs, r_join, r_tyStr, r_dnewK, r_dput, r_exRp, r_gSub, List.set_cons_zero, List.set_cons_succ, r_midL, r_sfld, r_gfld, r_meth, r_make, r_iRev, r_listRev, r_listVals, r_slRev, r_dget2, r_listRng, r_kget1, r_iEnumT, r_fop]
  rcases deed_tail hd with ⟨o, rfl⟩ | ⟨f, n, os, ed, f1, hn, hos, hk⟩
  · refine ⟨_, _, hp, rfl, ?_⟩
    simp_arith [r_listRng, r_kget1, r_iEnumT, r_fop]
    rw [if_pos (by decide)]
    refine ⟨_, .inr hp, ?_⟩
    rw [if_pos (by rfl)]
    refine ⟨_, _, hp, rfl, ?_⟩
    rw [r_fop]
    exact ⟨ns, wd, rfl, ha, hd, q _ (Same.refl _)⟩
  · rw [ed] at hp
    refine ⟨_, _, hp, atI_nat (j := 0) rfl, ?_⟩
    simp only [y_v0, r_g0, y_v1, r_g1, y_v2, r_g2, y_v3, r_g3, y_v4, r_g4, y_v5, r_g5, y_v6, r_g6, y_v7, r_g7, y_v8, r_g8, y_v9, r_g9, y_v10, r_g10, y_v11, r_g11, y_v12, r_g12, y_v13, r_g13, y_v14, r_g14, y_v15, r_g15, r_c, r_op, r_un, y_I0, y_I, y_U, r_eqI, r_eqS, r_neI, r_neS, r_exbl, r_exint, r_test, r_B, r_and, r_or, r_not, r_andV, r_orV, r_notV, r_if, r_next, r_seqL, r_brk, r_cont, r_drop, r_ret, r_retN, r_ifS, r_asg, r_CB, r_nil, r_cons, r_call, r_tup, r_lst, r_p0, r_pS, r_disp, r_dget, r_sl, r_noPart, r_part, r_gNil, r_gCons, r_itF, r_nT, r_nF, r_len0, r_len1, r_len2, r_len3, r_len4, r_len7, r_len8, r_for, r_iEnum, r_iList, r_iTup, r_iRng1, r_iRng2, r_exI1, r_exI2, r_exR, r_bm, r_bm0, r_ixS, r_ixL, r_ixT, r_cat, r_slL, r_append, r_exRl, r_intB, true_and, and_true, forall_const, Int.reduceLT, r_compG, r_setComp, r_yes, r_slT, r_inR, r_notInR, cxOf_K, wish_K, blk_K, r_blk1, r_blk2, List.map_cons, List.map_nil, List.getElem?_cons_zero, List.getElem?_cons_succ, Option.join_some, r_Vs, r_join, r_tyStr, r_dnewK, r_dput, r_exRp, r_gSub, List.set_cons_zero, List.set_cons_succ, r_midL, r_sfld, r_gfld, r_meth, r_make, r_iRev, r_listRev, r_listVals, r_slRev, r_dget2, r_listRng, r_kget1, r_iEnumT, r_fop]
    rw [if_neg (by simpa using f1)]
    refine later ?_
    simp only [y_v0, r_g0, y_v1, r_g1, y_v2, r_g2, y_v3, r_g3, y_v4, r_g4, y_v5, r_g5, y_v6, r_g6, y_v7, r_g7, y_v8, r_g8, y_v9, r_g9, y_v10, r_g10, y_v11, r_g11, y_v12, r_g12, y_v13, r_g13, y_v14, r_g14, y_v15, r_g15, r_c, r_op, r_un, y_I0, y_I, y_U, r_eqI, r_eqS, r_neI, r_neS, r_exbl, r_exint, r_test, r_B, r_and, r_or, r_not, r_andV, r_orV, r_notV, r_if, r_next, r_seqL, r_brk, r_cont, r_drop, r_ret, r_retN, r_ifS, r_asg, r_CB, r_nil, r_cons, r_call, r_tup, r_lst, r_p0, r_pS, r_disp, r_dget, r_sl, r_noPart, r_part, r_gNil, r_gCons, r_itF, r_nT, r_nF, r_len0, r_len1, r_len2, r_len3, r_len4, r_len7, r_len8, r_for, r_iEnum, r_iList, r_iTup, r_iRng1, r_iRng2, r_exI1, r_exI2, r_exR, r_bm, r_bm0, r_ixS, r_ixL, r_ixT, r_cat, r_slL, r_append, r_exRl, r_intB, true_and, and_true, forall_const, Int.reduceLT, r_compG, r_setComp, r_yes, r_slT, r_inR, r_notInR, cxOf_K, wish_K, blk_K, r_blk1, r_blk2, List.map_cons, List.map_nil, List.getElem?_cons_zero, List.getElem?_cons_succ, Option.join_some, r_Vs, r_join, r_tyStr, r_dnewK, r_dput, r_exRp, r_gSub, List.set_cons_zero, List.set_cons_succ, r_midL, r_sfld, r_gfld, r_meth, r_make, r_iRev, r_listRev, r_listVals, r_slRev, r_dget2, r_listRng, r_kget1, r_iEnumT]
    refine ⟨fun σ H' => Same H1 H' ∧ σ = [some (.ref p), some (.ref a), some (.int (1 * 2 ^ wd.toNat)), none], ?_, ?_⟩
    · refine ⟨_, _, hp, atI_nat (j := 0) rfl, ?_⟩
      simp_arith [r_listRng, r_kget1, r_iEnumT]
      rcases hk with ⟨k1, k2⟩ | ⟨k1, k2, k3⟩
      · rw [if_pos (by simpa using k1)]
        refine ⟨_, .inr hp, ?_⟩
        rw [if_neg (by simp [k2])]
        exact Same.refl _
      · rw [if_neg (by simpa using k1)]
        refine ⟨_, _, hp, atI_nat (j := 0) rfl, fun p1 hp1 => ?_⟩
        have t1 := Same.upd (o := .lst [V.str "plus", V.str "less", V.str "and", V.str "or", V.str "xor", V.str "below", V.str "same"]) hp1
        refine ⟨_, .inl (SqL.of upd_same), rfl, rfl, ?_⟩
        have hi : inV (.str f) [V.str "plus", V.str "less", V.str "and", V.str "or", V.str "xor", V.str "below", V.str "same"] = true := inV_strs (ns := opsL) k2
        rw [hi, if_neg (by decide)]
        refine ⟨_, .inr (t1.seqT hp), ?_⟩
        rw [if_neg (by simp [k3])]
        exact t1
    rintro σ H2 ⟨s2, rfl⟩
    refine later ?_
    simp only [y_v0, r_g0, y_v1, r_g1, y_v2, r_g2, y_v3, r_g3, y_v4, r_g4, y_v5, r_g5, y_v6, r_g6, y_v7, r_g7, y_v8, r_g8, y_v9, r_g9, y_v10, r_g10, y_v11, r_g11, y_v12, r_g12, y_v13, r_g13, y_v14, r_g14, y_v15, r_g15, r_c, r_op, r_un, y_I0, y_I, y_U, r_eqI, r_eqS, r_neI, r_neS, r_exbl, r_exint, r_test, r_B, r_and, r_or, r_not, r_andV, r_orV, r_notV, r_if, r_next, r_seqL, r_brk, r_cont, r_drop, r_ret, r_retN, r_ifS, r_asg, r_CB, r_nil, r_cons, r_call, r_tup, r_lst, r_p0, r_pS, r_disp, r_dget, r_sl, r_noPart, r_part, r_gNil, r_gCons, r_itF, r_nT, r_nF, r_len0, r_len1, r_len2, r_len3, r_len4, r_len7, r_len8, r_for, r_iEnum, r_iList, r_iTup, r_iRng1, r_iRng2, r_exI1, r_exI2, r_exR, r_bm, r_bm0, r_ixS, r_ixL, r_ixT, r_cat, r_slL, r_append, r_exRl, r_intB, true_and, and_true, forall_const, Int.reduceLT, r_compG, r_setComp, r_yes, r_slT, r_inR, r_notInR, cxOf_K, wish_K, blk_K, r_blk1, r_blk2, List.map_cons, List.map_nil, List.getElem?_cons_zero, List.getElem?_cons_succ, Option.join_some, r_Vs, r_join, r_tyStr, r_dnewK, r_dput, r_exRp, r_gSub, List.set_cons_zero, List.set_cons_succ, r_midL, r_sfld, r_gfld, r_meth, r_make, r_iRev, r_listRev, r_listVals, r_slRev, r_dget2, r_listRng, r_kget1, r_iEnumT]
    have l2 : 1 ≤ os.length ∧ os.length ≤ 2 := by rcases hk with ⟨_, k⟩ | ⟨_, _, k⟩ <;> omega
    have hc : cutV (V.str f :: V.str n :: os.map Opd.v) (some 2) none = os.map Opd.v := by rw [cutV_from (by decide)]; rfl
    refine ⟨_, s2.seqT hp, by simp [HT.sIx], fun p1 hp1 => ?_⟩
    rw [hc]
    have t1 := Same.upd (o := .tup (os.map Opd.v)) hp1
    have s3 := s2.trans t1
    refine ⟨⟨_, SqT.of upd_same⟩, fun acc hacc bk => ?_⟩
    refine cg_flatT (fun _ => false) id (by rw [sizeLine_eq, List.length_map]; omega) (SqT.of upd_same) hacc (fun x hm H4 Q' s4 h => ?_) (fun _ _ _ _ _ z => by cases z) ?_
    · obtain ⟨o, ho, rfl⟩ := List.mem_map.mp hm
      simp_arith [r_listRng, r_kget1, r_iEnumT, r_fop]
      exact ⟨ns, wd, rfl, (s3.trans s4).seq ha, hos o ho, _, rfl, h⟩
    · rw [show List.map id (List.filter (fun _ : V => false) (os.map Opd.v)) = [] by simp]
      have t5 := Same.upd (o := .lst []) hacc
      have s5 := s3.trans t5
      refine later ?_
      simp only [y_v0, r_g0, y_v1, r_g1, y_v2, r_g2, y_v3, r_g3, y_v4, r_g4, y_v5, r_g5, y_v6, r_g6, y_v7, r_g7, y_v8, r_g8, y_v9, r_g9, y_v10, r_g10, y_v11, r_g11, y_v12, r_g12, y_v13, r_g13, y_v14, r_g14, y_v15, r_g15, r_c, r_op, r_un, y_I0, y_I, y_U, r_eqI, r_eqS, r_neI, r_neS, r_exbl, r_exint, r_test, r_B, r_and, r_or, r_not, r_andV, r_orV, r_notV, r_if, r_next, r_seqL, r_brk, r_cont, r_drop, r_ret, r_retN, r_ifS, r_asg, r_CB, r_nil, r_cons, r_call, r_tup, r_lst, r_p0, r_pS, r_disp, r_dget, r_sl, r_noPart, r_part, r_gNil, r_gCons, r_itF, r_nT, r_nF, r_len0, r_len1, r_len2, r_len3, r_len4, r_len7, r_len8, r_for, r_iEnum, r_iList, r_iTup, r_iRng1, r_iRng2, r_exI1, r_exI2, r_exR, r_bm, r_bm0, r_ixS, r_ixL, r_ixT, r_cat, r_slL, r_append, r_exRl, r_intB, true_and, and_true, forall_const, Int.reduceLT, r_compG, r_setComp, r_yes, r_slT, r_inR, r_notInR, cxOf_K, wish_K, blk_K, r_blk1, r_blk2, List.map_cons, List.map_nil, List.getElem?_cons_zero, List.getElem?_cons_succ, Option.join_some, r_Vs, r_join, r_tyStr, r_dnewK, r_dput, r_exRp, r_gSub, List.set_cons_zero, List.set_cons_succ, r_midL, r_sfld, r_gfld, r_meth, r_make, r_iRev, r_listRev, r_listVals, r_slRev, r_dget2, r_listRng, r_kget1, r_iEnumT]
      refine ⟨_, _, s5.seqT hp, atI_nat (j := 1) rfl, isi_str ⟨_, rfl, ?_⟩⟩
      rw [if_pos rfl]
      refine ⟨_, _, s5.seqT hp, atI_nat (j := 1) rfl, ?_⟩
      refine ⟨_, .inl (s5.seq ha), rfl, by simp [flatV], ?_⟩
      have hi : inV (.str n) (ns.map V.str) = true := inV_strs hn
      rw [hi, if_pos rfl]
      exact ⟨_, .inl (SqL.of upd_same), q _ s5⟩
theorem ok_fend (T : Txt K mg t) : FnOk P w K mg base CX0 2 t.f__law_fine_ending t.e__law_fine_ending ["_law_found", "_law_names_here", "_law_many"] (sp_fend K) := by
  have G__law_whole := ok_whole (P := P) (w := w) (base := base) T
  refine T.d__law_fine_ending.F.ok sc__law_fine_ending (fun vs H Q E h => by obtain ⟨_, _, _, rfl, _⟩ := h; rfl) (fun cdv A outer s H vs Q E hr h => ?_)
  obtain ⟨p, a, m, rfl, ns, n, e, rfl, ha, hp, ht, hn, q⟩ := h
  refine ⟨_,
      (XSs.h
      (xpss_mid
        (xps_if (xPW_pt (xpw_or (xpt_not (xpt_val (xqe_callB call_isi gl T.z_isinstance boot_isinstance (xpa_cons (yqv 0 vl) (xpa_cons (xqe_bltn (v := .ty "tuple") gl T.z_tuple boot_tuple rfl) xpa_nil))))) (xpw_or (xpt_cmpR op_eq (xqe_callB call_len_seq gl T.z_len PySem.boot_len (xpa_cons (yqv 0 vl) xpa_nil)) xpe_int (nomark _)) (xpw_or1 (xpt_not (xpt_val (xqe_callB call_isi gl T.z_isinstance boot_isinstance (xpa_cons (xpe_ix ix_tup (yqv 0 vl) xpe_int (fun _ _ => rfl)) (xpa_cons (xqe_bltn (v := .ty "str") gl T.z_str boot_str rfl) xpa_nil)))))))))
          (xpss_one
            (xps_ret xpe_bl))
          xpss_nil)
      (xpss_cons
        (xps_if (xpt_cmpR op_eq (xpe_ix ix_tup (yqv 0 vl) xpe_int (fun _ _ => rfl)) xpe_str (nomark _))
          (xpss_one
            (xps_ret (xpe_cmpR op_eq (xqe_callB call_len_seq gl T.z_len PySem.boot_len (xpa_cons (yqv 0 vl) xpa_nil)) xpe_int (nomark _))))
          xpss_nil)
      (xpss_cons
        (xps_if (xpt_cmpR op_eq (xpe_ix ix_tup (yqv 0 vl) xpe_int (fun _ _ => rfl)) xpe_str (nomark _))
          (xpss_one
            (xps_ret (xpe_and (xpe_cmpR op_eq (xqe_callB call_len_seq gl T.z_len PySem.boot_len (xpa_cons (yqv 0 vl) xpa_nil)) xpe_int (nomark _)) (xpe_and (xqe_callD T.d__law_whole G__law_whole (hr.mono (by first | decide | omega)) (xpa_cons (xpe_ix ix_tup (yqv 0 vl) xpe_int (fun _ _ => rfl)) xpa_nil) gl) (xpe_and (xpe_cmpR yop_le xpe_int (xpe_ix ix_tup (yqv 0 vl) xpe_int (fun _ _ => rfl)) (nomark _)) (xpe_one (xpe_cmpR yop_lt (xpe_ix ix_tup (yqv 0 vl) xpe_int (fun _ _ => rfl)) (yqv 2 vc) (nomark _))))))))
          xpss_nil)
      (xpss_cons
        (xps_if (xPW_pt (xpw_or (xpt_cmpR op_ne (xpe_ix ix_tup (yqv 0 vl) xpe_int (fun _ _ => rfl)) xpe_str (nomark _)) (xpw_or (xpt_cmpR op_ne (xqe_callB call_len_seq gl T.z_len PySem.boot_len (xpa_cons (yqv 0 vl) xpa_nil)) xpe_int (nomark _)) (xpw_or (xpt_not (xpt_val (xqe_callB call_isi gl T.z_isinstance boot_isinstance (xpa_cons (xpe_ix ix_tup (yqv 0 vl) xpe_int (fun _ _ => rfl)) (xpa_cons (xqe_bltn (v := .ty "str") gl T.z_str boot_str rfl) xpa_nil))))) (xpw_or1 (xpt_cmpR op_notIn_seq (xpe_ix ix_tup (yqv 0 vl) xpe_int (fun _ _ => rfl)) (yqv 1 vl) rfl))))))
          (xpss_one
            (xps_ret xpe_bl))
          xpss_nil)
      (xpss_one
        (xps_ret (xpe_cmpR op_eq (xqe_callB call_len_seq gl T.z_len PySem.boot_len (xpa_cons (xpe_compG (tns := ["_law_k"]) (cns := ["_law_many"]) (ci := [2]) rfl (CompSc.of (by kernel_rfl)) (xpi_tup (xpe_slice sl_tup (yqv 0 vl) (xpo_some xpe_int) xpo_none)) (fun _ => (xpg_name (i := 1) (show List.Nodup [(".0" : Str), ("_law_k" : Str), ("_law_many" : Str)] by decide +kernel) rfl ll (Or.inr (by kernel_rfl)))) (fun _ => (xpf_one (xPW_pt (xpw_or (xpt_not (xpt_val (xqe_callD T.d__law_whole G__law_whole (hr.mono (by first | decide | omega)) (xpa_cons (yqv 1 vl) xpa_nil) gl))) (xpw_or (xpt_cmpR yop_lt (yqv 1 vl) xpe_int (nomark _)) (xpw_or1 (xpt_cmpR yop_ge (yqv 1 vl) (yqv 2 vc) (nomark _)))))))) (fun _ => (yqv 1 vl))) xpa_nil)) xpe_int (nomark _))))))))), ?_⟩
  rw [show start _ [V.ref p, V.ref a, V.int n] = [some (.ref p), some (.ref a), some (.int n)] from rfl]
  simp only [y_v0, r_g0, y_v1, r_g1, y_v2, r_g2, y_v3, r_g3, y_v4, r_g4, y_v5, r_g5, y_v6, r_g6, y_v7, r_g7, y_v8, r_g8, y_v9, r_g9, y_v10, r_g10, y_v11, r_g11, y_v12, r_g12, y_v13, r_g13, y_v14, r_g14, y_v15, r_g15, r_c, r_op, r_un, y_I0, y_I, y_U, r_eqI, r_eqS, r_neI, r_neS, r_exbl, r_exint, r_test, r_B, r_and, r_or, r_not, r_andV, r_orV, r_notV, r_if, r_next, r_seqL, r_brk, r_cont, r_drop, r_ret, r_retN, r_ifS, r_asg, r_CB, r_nil, r_cons, r_call, r_tup, r_lst, r_p0, r_pS, r_disp, r_dget, r_sl, r_noPart, r_part, r_gNil, r_gCons, r_itF, r_nT, r_nF, r_len0, r_len1, r_len2, r_len3, r_len4, r_len7, r_len8, r_for, r_iEnum, r_iList, r_iTup, r_iRng1, r_iRng2, r_exI1, r_exI2, r_exR, r_bm, r_bm0, r_ixS, r_ixL, r_ixT, r_cat, r_slL, r_append, r_exRl, r_intB, true_and, and_true, forall_const, Int.reduceLT, r_compG, r_setComp, r_yes, r_slT, r_inR, r_notInR, cxOf_K, wish_K, blk_K, r_blk1, r_blk2, List.map_cons, List.map_nil, List.getElem?_cons_zero, List.getElem?_cons_succ, Option.join_some, r_Vs, r_join, r_tyStr, r_dnewK, r_dput, r_exRp, r_gSub, List.set_cons_zero, List.set_cons_succ, r_midL, r_sfld, r_gfld, r_meth, r_make, r_iRev, r_listRev, r_listVals, r_slRev, r_dget2, r_listRng, r_kget1, r_iEnumT]
  refine ⟨fun σ H' => H' = H ∧ σ = [some (.ref p), some (.ref a), some (.int n)], ?_, ?_⟩
  · obtain ⟨f, l, hd⟩ : ∃ f l, edVs e = .str f :: l := by cases e <;> exact ⟨_, _, rfl⟩
    rw [hd] at hp
    refine isi_tup hp ⟨_, rfl, ?_⟩
    rw [if_neg (by decide)]
    refine ⟨_, .inr hp, ?_⟩
    rw [if_neg (by simp; omega)]
    refine ⟨_, _, hp, atI_nat (j := 0) rfl, isi_str ⟨_, rfl, ?_⟩⟩
    rw [if_neg (by decide)]
    exact ⟨rfl, rfl⟩
  rintro σ H1 ⟨rfl, rfl⟩
  refine later ?_
  simp only [y_v0, r_g0, y_v1, r_g1, y_v2, r_g2, y_v3, r_g3, y_v4, r_g4, y_v5, r_g5, y_v6, r_g6, y_v7, r_g7, y_v8, r_g8, y_v9, r_g9, y_v10, r_g10, y_v11, r_g11, y_v12, r_g12, y_v13, r_g13, y_v14, r_g14, y_v15, r_g15, r_c, r_op, r_un, y_I0, y_I, y_U, r_eqI, r_eqS, r_neI, r_neS, r_exbl, r_exint, r_test, r_B, r_and, r_or, r_not, r_andV, r_orV, r_notV, r_if, r_next, r_seqL, r_brk, r_cont, r_drop, r_ret, r_retN, r_ifS, r_asg, r_CB, r_nil, r_cons, r_call, r_tup, r_lst, r_p0, r_pS, r_disp, r_dget, r_sl, r_noPart, r_part, r_gNil, r_gCons, r_itF, r_nT, r_nF, r_len0, r_len1, r_len2, r_len3, r_len4, r_len7, r_len8, r_for, r_iEnum, r_iList, r_iTup, r_iRng1, r_iRng2, r_exI1, r_exI2, r_exR, r_bm, r_bm0, r_ixS, r_ixL, r_ixT, r_cat, r_slL, r_append, r_exRl, r_intB, true_and, and_true, forall_const, Int.reduceLT, r_compG, r_setComp, r_yes, r_slT, r_inR, r_notInR, cxOf_K, wish_K, blk_K, r_blk1, r_blk2, List.map_cons, List.map_nil, List.getElem?_cons_zero, List.getElem?_cons_succ, Option.join_some, r_Vs, r_join, r_tyStr, r_dnewK, r_dput, r_exRp, r_gSub, List.set_cons_zero, List.set_cons_succ, r_midL, r_sfld, r_gfld, r_meth, r_make, r_iRev, r_listRev, r_listVals, r_slRev, r_dget2, r_listRng, r_kget1, r_iEnumT]
  cases e with
  | stop =>
    refine ⟨_, _, hp, rfl, ?_⟩
    simp only [y_v0, r_g0, y_v1, r_g1, y_v2, r_g2, y_v3, r_g3, y_v4, r_g4, y_v5, r_g5, y_v6, r_g6, y_v7, r_g7, y_v8, r_g8, y_v9, r_g9, y_v10, r_g10, y_v11, r_g11, y_v12, r_g12, y_v13, r_g13, y_v14, r_g14, y_v15, r_g15, r_c, r_op, r_un, y_I0, y_I, y_U, r_eqI, r_eqS, r_neI, r_neS, r_exbl, r_exint, r_test, r_B, r_and, r_or, r_not, r_andV, r_orV, r_notV, r_if, r_next, r_seqL, r_brk, r_cont, r_drop, r_ret, r_retN, r_ifS, r_asg, r_CB, r_nil, r_cons, r_call, r_tup, r_lst, r_p0, r_pS, r_disp, r_dget, r_sl, r_noPart, r_part, r_gNil, r_gCons, r_itF, r_nT, r_nF, r_len0, r_len1, r_len2, r_len3, r_len4, r_len7, r_len8, r_for, r_iEnum, r_iList, r_iTup, r_iRng1, r_iRng2, r_exI1, r_exI2, r_exR, r_bm, r_bm0, r_ixS, r_ixL, r_ixT, r_cat, r_slL, r_append, r_exRl, r_intB, true_and, and_true, forall_const, Int.reduceLT, r_compG, r_setComp, r_yes, r_slT, r_inR, r_notInR, cxOf_K, wish_K, blk_K, r_blk1, r_blk2, List.map_cons, List.map_nil, List.getElem?_cons_zero, List.getElem?_cons_succ, Option.join_some, r_Vs, r_join, r_tyStr, r_dnewK, r_dput, r_exRp, r_gSub, List.set_cons_zero, List.set_cons_succ, r_midL, r_sfld, r_gfld, r_meth, r_make, r_iRev, r_listRev, r_listVals, r_slRev, r_dget2, r_listRng, r_kget1, r_iEnumT]
    rw [if_pos (by decide)]
    exact ⟨_, .inr hp, q _ (Same.refl _)⟩
  | go i =>
    have hi : i < n := ht i (by simp [FZ.Ed.tg])
    refine ⟨_, _, hp, rfl, ?_⟩
    simp only [y_v0, r_g0, y_v1, r_g1, y_v2, r_g2, y_v3, r_g3, y_v4, r_g4, y_v5, r_g5, y_v6, r_g6, y_v7, r_g7, y_v8, r_g8, y_v9, r_g9, y_v10, r_g10, y_v11, r_g11, y_v12, r_g12, y_v13, r_g13, y_v14, r_g14, y_v15, r_g15, r_c, r_op, r_un, y_I0, y_I, y_U, r_eqI, r_eqS, r_neI, r_neS, r_exbl, r_exint, r_test, r_B, r_and, r_or, r_not, r_andV, r_orV, r_notV, r_if, r_next, r_seqL, r_brk, r_cont, r_drop, r_ret, r_retN, r_ifS, r_asg, r_CB, r_nil, r_cons, r_call, r_tup, r_lst, r_p0, r_pS, r_disp, r_dget, r_sl, r_noPart, r_part, r_gNil, r_gCons, r_itF, r_nT, r_nF, r_len0, r_len1, r_len2, r_len3, r_len4, r_len7, r_len8, r_for, r_iEnum, r_iList, r_iTup, r_iRng1, r_iRng2, r_exI1, r_exI2, r_exR, r_bm, r_bm0, r_ixS, r_ixL, r_ixT, r_cat, r_slL, r_append, r_exRl, r_intB, true_and, and_true, forall_const, Int.reduceLT, r_compG, r_setComp, r_yes, r_slT, r_inR, r_notInR, cxOf_K, wish_K, blk_K, r_blk1, r_blk2, List.map_cons, List.map_nil, List.getElem?_cons_zero, List.getElem?_cons_succ, Option.join_some, r_Vs, r_join, r_tyStr, r_dnewK, r_dput, r_exRp, r_gSub, List.set_cons_zero, List.set_cons_succ, r_midL, r_sfld, r_gfld, r_meth, r_make, r_iRev, r_listRev, r_listVals, r_slRev, r_dget2, r_listRng, r_kget1, r_iEnumT]
    rw [if_neg (by decide +kernel)]
    refine later ?_
    simp only [y_v0, r_g0, y_v1, r_g1, y_v2, r_g2, y_v3, r_g3, y_v4, r_g4, y_v5, r_g5, y_v6, r_g6, y_v7, r_g7, y_v8, r_g8, y_v9, r_g9, y_v10, r_g10, y_v11, r_g11, y_v12, r_g12, y_v13, r_g13, y_v14, r_g14, y_v15, r_g15, r_c, r_op, r_un, y_I0, y_I, y_U, r_eqI, r_eqS, r_neI, r_neS, r_exbl, r_exint, r_test, r_B, r_and, r_or, r_not, r_andV, r_orV, r_notV, r_if, r_next, r_seqL, r_brk, r_cont, r_drop, r_ret, r_retN, r_ifS, r_asg, r_CB, r_nil, r_cons, r_call, r_tup, r_lst, r_p0, r_pS, r_disp, r_dget, r_sl, r_noPart, r_part, r_gNil, r_gCons, r_itF, r_nT, r_nF, r_len0, r_len1, r_len2, r_len3, r_len4, r_len7, r_len8, r_for, r_iEnum, r_iList, r_iTup, r_iRng1, r_iRng2, r_exI1, r_exI2, r_exR, r_bm, r_bm0, r_ixS, r_ixL, r_ixT, r_cat, r_slL, r_append, r_exRl, r_intB, true_and, and_true, forall_const, Int.reduceLT, r_compG, r_setComp, r_yes, r_slT, r_inR, r_notInR, cxOf_K, wish_K, blk_K, r_blk1, r_blk2, List.map_cons, List.map_nil, List.getElem?_cons_zero, List.getElem?_cons_succ, Option.join_some, r_Vs, r_join, r_tyStr, r_dnewK, r_dput, r_exRp, r_gSub, List.set_cons_zero, List.set_cons_succ, r_midL, r_sfld, r_gfld, r_meth, r_make, r_iRev, r_listRev, r_listVals, r_slRev, r_dget2, r_listRng, r_kget1, r_iEnumT]
    refine ⟨_, _, hp, rfl, ?_⟩
    simp only [y_v0, r_g0, y_v1, r_g1, y_v2, r_g2, y_v3, r_g3, y_v4, r_g4, y_v5, r_g5, y_v6, r_g6, y_v7, r_g7, y_v8, r_g8, y_v9, r_g9, y_v10, r_g10, y_v11, r_g11, y_v12, r_g12, y_v13, r_g13, y_v14, r_g14, y_v15, r_g15, r_c, r_op, r_un, y_I0, y_I, y_U, r_eqI, r_eqS, r_neI, r_neS, r_exbl, r_exint, r_test, r_B, r_and, r_or, r_not, r_andV, r_orV, r_notV, r_if, r_next, r_seqL, r_brk, r_cont, r_drop, r_ret, r_retN, r_ifS, r_asg, r_CB, r_nil, r_cons, r_call, r_tup, r_lst, r_p0, r_pS, r_disp, r_dget, r_sl, r_noPart, r_part, r_gNil, r_gCons, r_itF, r_nT, r_nF, r_len0, r_len1, r_len2, r_len3, r_len4, r_len7, r_len8, r_for, r_iEnum, r_iList, r_iTup, r_iRng1, r_iRng2, r_exI1, r_exI2, r_exR, r_bm, r_bm0, r_ixS, r_ixL, r_ixT, r_cat, r_slL, r_append, r_exRl, r_intB, true_and, and_true, forall_const, Int.reduceLT, r_compG, r_setComp, r_yes, r_slT, r_inR, r_notInR, cxOf_K, wish_K, blk_K, r_blk1, r_blk2, List.map_cons, List.map_nil, List.getElem?_cons_zero, List.getElem?_cons_succ, Option.join_some, r_Vs, r_join, r_tyStr, r_dnewK, r_dput, r_exRp, r_gSub, List.set_cons_zero, List.set_cons_succ, r_midL, r_sfld, r_gfld, r_meth, r_make, r_iRev, r_listRev, r_listVals, r_slRev, r_dget2, r_listRng, r_kget1, r_iEnumT]
    rw [if_pos (by decide)]
    refine ⟨_, .inr hp, ?_⟩
    rw [if_pos (by rfl)]
    refine ⟨_, _, hp, rfl, ?_⟩
    simp_arith [r_listRng, r_kget1, r_iEnumT, r_whole_i]
    rw [if_pos trivial]
    refine ⟨_, _, hp, rfl, ?_⟩
    simp only [y_v0, r_g0, y_v1, r_g1, y_v2, r_g2, y_v3, r_g3, y_v4, r_g4, y_v5, r_g5, y_v6, r_g6, y_v7, r_g7, y_v8, r_g8, y_v9, r_g9, y_v10, r_g10, y_v11, r_g11, y_v12, r_g12, y_v13, r_g13, y_v14, r_g14, y_v15, r_g15, r_c, r_op, r_un, y_I0, y_I, y_U, r_eqI, r_eqS, r_neI, r_neS, r_exbl, r_exint, r_test, r_B, r_and, r_or, r_not, r_andV, r_orV, r_notV, r_if, r_next, r_seqL, r_brk, r_cont, r_drop, r_ret, r_retN, r_ifS, r_asg, r_CB, r_nil, r_cons, r_call, r_tup, r_lst, r_p0, r_pS, r_disp, r_dget, r_sl, r_noPart, r_part, r_gNil, r_gCons, r_itF, r_nT, r_nF, r_len0, r_len1, r_len2, r_len3, r_len4, r_len7, r_len8, r_for, r_iEnum, r_iList, r_iTup, r_iRng1, r_iRng2, r_exI1, r_exI2, r_exR, r_bm, r_bm0, r_ixS, r_ixL, r_ixT, r_cat, r_slL, r_append, r_exRl, r_intB, true_and, and_true, forall_const, Int.reduceLT, r_compG, r_setComp, r_yes, r_slT, r_inR, r_notInR, cxOf_K, wish_K, blk_K, r_blk1, r_blk2, List.map_cons, List.map_nil, List.getElem?_cons_zero, List.getElem?_cons_succ, Option.join_some, r_Vs, r_join, r_tyStr, r_dnewK, r_dput, r_exRp, r_gSub, List.set_cons_zero, List.set_cons_succ, r_midL, r_sfld, r_gfld, r_meth, r_make, r_iRev, r_listRev, r_listVals, r_slRev, r_dget2, r_listRng, r_kget1, r_iEnumT]
    rw [if_pos (by simp)]
    refine ⟨_, _, hp, rfl, ?_⟩
    simp only [y_v0, r_g0, y_v1, r_g1, y_v2, r_g2, y_v3, r_g3, y_v4, r_g4, y_v5, r_g5, y_v6, r_g6, y_v7, r_g7, y_v8, r_g8, y_v9, r_g9, y_v10, r_g10, y_v11, r_g11, y_v12, r_g12, y_v13, r_g13, y_v14, r_g14, y_v15, r_g15, r_c, r_op, r_un, y_I0, y_I, y_U, r_eqI, r_eqS, r_neI, r_neS, r_exbl, r_exint, r_test, r_B, r_and, r_or, r_not, r_andV, r_orV, r_notV, r_if, r_next, r_seqL, r_brk, r_cont, r_drop, r_ret, r_retN, r_ifS, r_asg, r_CB, r_nil, r_cons, r_call, r_tup, r_lst, r_p0, r_pS, r_disp, r_dget, r_sl, r_noPart, r_part, r_gNil, r_gCons, r_itF, r_nT, r_nF, r_len0, r_len1, r_len2, r_len3, r_len4, r_len7, r_len8, r_for, r_iEnum, r_iList, r_iTup, r_iRng1, r_iRng2, r_exI1, r_exI2, r_exR, r_bm, r_bm0, r_ixS, r_ixL, r_ixT, r_cat, r_slL, r_append, r_exRl, r_intB, true_and, and_true, forall_const, Int.reduceLT, r_compG, r_setComp, r_yes, r_slT, r_inR, r_notInR, cxOf_K, wish_K, blk_K, r_blk1, r_blk2, List.map_cons, List.map_nil, List.getElem?_cons_zero, List.getElem?_cons_succ, Option.join_some, r_Vs, r_join, r_tyStr, r_dnewK, r_dput, r_exRp, r_gSub, List.set_cons_zero, List.set_cons_succ, r_midL, r_sfld, r_gfld, r_meth, r_make, r_iRev, r_listRev, r_listVals, r_slRev, r_dget2, r_listRng, r_kget1, r_iEnumT]
    have e : decide ((i : Int) < n) = true := by simpa using hi
    rw [e]
    exact q _ (Same.refl _)
  | choose m i j =>
    have hi : i < n := ht i (by simp [FZ.Ed.tg])
    have hj : j < n := ht j (by simp [FZ.Ed.tg])
    have hm := hn m i j rfl
    refine ⟨_, _, hp, rfl, ?_⟩
    simp only [y_v0, r_g0, y_v1, r_g1, y_v2, r_g2, y_v3, r_g3, y_v4, r_g4, y_v5, r_g5, y_v6, r_g6, y_v7, r_g7, y_v8, r_g8, y_v9, r_g9, y_v10, r_g10, y_v11, r_g11, y_v12, r_g12, y_v13, r_g13, y_v14, r_g14, y_v15, r_g15, r_c, r_op, r_un, y_I0, y_I, y_U, r_eqI, r_eqS, r_neI, r_neS, r_exbl, r_exint, r_test, r_B, r_and, r_or, r_not, r_andV, r_orV, r_notV, r_if, r_next, r_seqL, r_brk, r_cont, r_drop, r_ret, r_retN, r_ifS, r_asg, r_CB, r_nil, r_cons, r_call, r_tup, r_lst, r_p0, r_pS, r_disp, r_dget, r_sl, r_noPart, r_part, r_gNil, r_gCons, r_itF, r_nT, r_nF, r_len0, r_len1, r_len2, r_len3, r_len4, r_len7, r_len8, r_for, r_iEnum, r_iList, r_iTup, r_iRng1, r_iRng2, r_exI1, r_exI2, r_exR, r_bm, r_bm0, r_ixS, r_ixL, r_ixT, r_cat, r_slL, r_append, r_exRl, r_intB, true_and, and_true, forall_const, Int.reduceLT, r_compG, r_setComp, r_yes, r_slT, r_inR, r_notInR, cxOf_K, wish_K, blk_K, r_blk1, r_blk2, List.map_cons, List.map_nil, List.getElem?_cons_zero, List.getElem?_cons_succ, Option.join_some, r_Vs, r_join, r_tyStr, r_dnewK, r_dput, r_exRp, r_gSub, List.set_cons_zero, List.set_cons_succ, r_midL, r_sfld, r_gfld, r_meth, r_make, r_iRev, r_listRev, r_listVals, r_slRev, r_dget2, r_listRng, r_kget1, r_iEnumT]
    rw [if_neg (by decide +kernel)]
    refine later ?_
    simp only [y_v0, r_g0, y_v1, r_g1, y_v2, r_g2, y_v3, r_g3, y_v4, r_g4, y_v5, r_g5, y_v6, r_g6, y_v7, r_g7, y_v8, r_g8, y_v9, r_g9, y_v10, r_g10, y_v11, r_g11, y_v12, r_g12, y_v13, r_g13, y_v14, r_g14, y_v15, r_g15, r_c, r_op, r_un, y_I0, y_I, y_U, r_eqI, r_eqS, r_neI, r_neS, r_exbl, r_exint, r_test, r_B, r_and, r_or, r_not, r_andV, r_orV, r_notV, r_if, r_next, r_seqL, r_brk, r_cont, r_drop, r_ret, r_retN, r_ifS, r_asg, r_CB, r_nil, r_cons, r_call, r_tup, r_lst, r_p0, r_pS, r_disp, r_dget, r_sl, r_noPart, r_part, r_gNil, r_gCons, r_itF, r_nT, r_nF, r_len0, r_len1, r_len2, r_len3, r_len4, r_len7, r_len8, r_for, r_iEnum, r_iList, r_iTup, r_iRng1, r_iRng2, r_exI1, r_exI2, r_exR, r_bm, r_bm0, r_ixS, r_ixL, r_ixT, r_cat, r_slL, r_append, r_exRl, r_intB, true_and, and_true, forall_const, Int.reduceLT, r_compG, r_setComp, r_yes, r_slT, r_inR, r_notInR, cxOf_K, wish_K, blk_K, r_blk1, r_blk2, List.map_cons, List.map_nil, List.getElem?_cons_zero, List.getElem?_cons_succ, Option.join_some, r_Vs, r_join, r_tyStr, r_dnewK, r_dput, r_exRp, r_gSub, List.set_cons_zero, List.set_cons_succ, r_midL, r_sfld, r_gfld, r_meth, r_make, r_iRev, r_listRev, r_listVals, r_slRev, r_dget2, r_listRng, r_kget1, r_iEnumT]
    refine ⟨_, _, hp, rfl, ?_⟩
    simp only [y_v0, r_g0, y_v1, r_g1, y_v2, r_g2, y_v3, r_g3, y_v4, r_g4, y_v5, r_g5, y_v6, r_g6, y_v7, r_g7, y_v8, r_g8, y_v9, r_g9, y_v10, r_g10, y_v11, r_g11, y_v12, r_g12, y_v13, r_g13, y_v14, r_g14, y_v15, r_g15, r_c, r_op, r_un, y_I0, y_I, y_U, r_eqI, r_eqS, r_neI, r_neS, r_exbl, r_exint, r_test, r_B, r_and, r_or, r_not, r_andV, r_orV, r_notV, r_if, r_next, r_seqL, r_brk, r_cont, r_drop, r_ret, r_retN, r_ifS, r_asg, r_CB, r_nil, r_cons, r_call, r_tup, r_lst, r_p0, r_pS, r_disp, r_dget, r_sl, r_noPart, r_part, r_gNil, r_gCons, r_itF, r_nT, r_nF, r_len0, r_len1, r_len2, r_len3, r_len4, r_len7, r_len8, r_for, r_iEnum, r_iList, r_iTup, r_iRng1, r_iRng2, r_exI1, r_exI2, r_exR, r_bm, r_bm0, r_ixS, r_ixL, r_ixT, r_cat, r_slL, r_append, r_exRl, r_intB, true_and, and_true, forall_const, Int.reduceLT, r_compG, r_setComp, r_yes, r_slT, r_inR, r_notInR, cxOf_K, wish_K, blk_K, r_blk1, r_blk2, List.map_cons, List.map_nil, List.getElem?_cons_zero, List.getElem?_cons_succ, Option.join_some, r_Vs, r_join, r_tyStr, r_dnewK, r_dput, r_exRp, r_gSub, List.set_cons_zero, List.set_cons_succ, r_midL, r_sfld, r_gfld, r_meth, r_make, r_iRev, r_listRev, r_listVals, r_slRev, r_dget2, r_listRng, r_kget1, r_iEnumT]
    rw [if_neg (by decide +kernel)]
    refine later ?_
    simp only [y_v0, r_g0, y_v1, r_g1, y_v2, r_g2, y_v3, r_g3, y_v4, r_g4, y_v5, r_g5, y_v6, r_g6, y_v7, r_g7, y_v8, r_g8, y_v9, r_g9, y_v10, r_g10, y_v11, r_g11, y_v12, r_g12, y_v13, r_g13, y_v14, r_g14, y_v15, r_g15, r_c, r_op, r_un, y_I0, y_I, y_U, r_eqI, r_eqS, r_neI, r_neS, r_exbl, r_exint, r_test, r_B, r_and, r_or, r_not, r_andV, r_orV, r_notV, r_if, r_next, r_seqL, r_brk, r_cont, r_drop, r_ret, r_retN, r_ifS, r_asg, r_CB, r_nil, r_cons, r_call, r_tup, r_lst, r_p0, r_pS, r_disp, r_dget, r_sl, r_noPart, r_part, r_gNil, r_gCons, r_itF, r_nT, r_nF, r_len0, r_len1, r_len2, r_len3, r_len4, r_len7, r_len8, r_for, r_iEnum, r_iList, r_iTup, r_iRng1, r_iRng2, r_exI1, r_exI2, r_exR, r_bm, r_bm0, r_ixS, r_ixL, r_ixT, r_cat, r_slL, r_append, r_exRl, r_intB, true_and, and_true, forall_const, Int.reduceLT, r_compG, r_setComp, r_yes, r_slT, r_inR, r_notInR, cxOf_K, wish_K, blk_K, r_blk1, r_blk2, List.map_cons, List.map_nil, List.getElem?_cons_zero, List.getElem?_cons_succ, Option.join_some, r_Vs, r_join, r_tyStr, r_dnewK, r_dput, r_exRp, r_gSub, List.set_cons_zero, List.set_cons_succ, r_midL, r_sfld, r_gfld, r_meth, r_make, r_iRev, r_listRev, r_listVals, r_slRev, r_dget2, r_listRng, r_kget1, r_iEnumT]
    refine ⟨_, _, hp, rfl, ?_⟩
    simp only [y_v0, r_g0, y_v1, r_g1, y_v2, r_g2, y_v3, r_g3, y_v4, r_g4, y_v5, r_g5, y_v6, r_g6, y_v7, r_g7, y_v8, r_g8, y_v9, r_g9, y_v10, r_g10, y_v11, r_g11, y_v12, r_g12, y_v13, r_g13, y_v14, r_g14, y_v15, r_g15, r_c, r_op, r_un, y_I0, y_I, y_U, r_eqI, r_eqS, r_neI, r_neS, r_exbl, r_exint, r_test, r_B, r_and, r_or, r_not, r_andV, r_orV, r_notV, r_if, r_next, r_seqL, r_brk, r_cont, r_drop, r_ret, r_retN, r_ifS, r_asg, r_CB, r_nil, r_cons, r_call, r_tup, r_lst, r_p0, r_pS, r_disp, r_dget, r_sl, r_noPart, r_part, r_gNil, r_gCons, r_itF, r_nT, r_nF, r_len0, r_len1, r_len2, r_len3, r_len4, r_len7, r_len8, r_for, r_iEnum, r_iList, r_iTup, r_iRng1, r_iRng2, r_exI1, r_exI2, r_exR, r_bm, r_bm0, r_ixS, r_ixL, r_ixT, r_cat, r_slL, r_append, r_exRl, r_intB, true_and, and_true, forall_const, Int.reduceLT, r_compG, r_setComp, r_yes, r_slT, r_inR, r_notInR, cxOf_K, wish_K, blk_K, r_blk1, r_blk2, List.map_cons, List.map_nil, List.getElem?_cons_zero, List.getElem?_cons_succ, Option.join_some, r_Vs, r_join, r_tyStr, r_dnewK, r_dput, r_exRp, r_gSub, List.set_cons_zero, List.set_cons_succ, r_midL, r_sfld, r_gfld, r_meth, r_make, r_iRev, r_listRev, r_listVals, r_slRev, r_dget2, r_listRng, r_kget1, r_iEnumT]
    rw [if_neg (by decide)]
    refine ⟨_, .inr hp, ?_⟩
    rw [if_neg (by simp [edVs])]
    refine ⟨_, _, hp, rfl, isi_str ⟨_, rfl, ?_⟩⟩
    rw [if_neg (by decide)]
    refine ⟨_, _, hp, rfl, _, .inl ha, rfl, by simp [flatV], ?_⟩
    have hi2 : inV (.str m) (ns.map V.str) = true := inV_strs hm
    rw [hi2, if_neg (by decide)]
    refine later ?_
    simp only [y_v0, r_g0, y_v1, r_g1, y_v2, r_g2, y_v3, r_g3, y_v4, r_g4, y_v5, r_g5, y_v6, r_g6, y_v7, r_g7, y_v8, r_g8, y_v9, r_g9, y_v10, r_g10, y_v11, r_g11, y_v12, r_g12, y_v13, r_g13, y_v14, r_g14, y_v15, r_g15, r_c, r_op, r_un, y_I0, y_I, y_U, r_eqI, r_eqS, r_neI, r_neS, r_exbl, r_exint, r_test, r_B, r_and, r_or, r_not, r_andV, r_orV, r_notV, r_if, r_next, r_seqL, r_brk, r_cont, r_drop, r_ret, r_retN, r_ifS, r_asg, r_CB, r_nil, r_cons, r_call, r_tup, r_lst, r_p0, r_pS, r_disp, r_dget, r_sl, r_noPart, r_part, r_gNil, r_gCons, r_itF, r_nT, r_nF, r_len0, r_len1, r_len2, r_len3, r_len4, r_len7, r_len8, r_for, r_iEnum, r_iList, r_iTup, r_iRng1, r_iRng2, r_exI1, r_exI2, r_exR, r_bm, r_bm0, r_ixS, r_ixL, r_ixT, r_cat, r_slL, r_append, r_exRl, r_intB, true_and, and_true, forall_const, Int.reduceLT, r_compG, r_setComp, r_yes, r_slT, r_inR, r_notInR, cxOf_K, wish_K, blk_K, r_blk1, r_blk2, List.map_cons, List.map_nil, List.getElem?_cons_zero, List.getElem?_cons_succ, Option.join_some, r_Vs, r_join, r_tyStr, r_dnewK, r_dput, r_exRp, r_gSub, List.set_cons_zero, List.set_cons_succ, r_midL, r_sfld, r_gfld, r_meth, r_make, r_iRev, r_listRev, r_listVals, r_slRev, r_dget2, r_listRng, r_kget1, r_iEnumT]
    have hc : cutV (edVs (.choose m i j)) (some 2) none = [.int i, .int j] := by rw [cutV_from (by decide)]; rfl
    refine ⟨_, hp, by simp [HT.sIx, edVs], fun p1 hp1 => ?_⟩
    rw [hc]
    have t1 := Same.upd (o := .tup [V.int i, V.int j]) hp1
    refine ⟨⟨_, SqT.of upd_same⟩, fun acc hacc bk => ?_⟩
    refine cg_flatT (fun _ => false) id (by rw [sizeLine_eq]; simp) (SqT.of upd_same) hacc (fun x hx H4 Q' s4 h => ?_) (fun _ _ _ _ _ z => by cases z) ?_
    · obtain ⟨k, hk, rfl⟩ : ∃ k : Nat, k < n ∧ x = .int k := by
        rcases List.mem_cons.mp hx with z | z
        · exact ⟨i, hi, z⟩
        · exact ⟨j, hj, List.mem_singleton.mp z⟩
      simp_arith [r_listRng, r_kget1, r_iEnumT, r_whole_i]
      rw [if_neg (by simp), decide_eq_false (by omega)]
      exact h
    · rw [show List.map id (List.filter (fun _ : V => false) [V.int i, V.int j]) = [] by simp]
      have t5 := Same.upd (o := .lst []) hacc
      exact ⟨_, .inl (SqL.of upd_same), q _ (t1.trans t5)⟩
end
end K22
set_option maxHeartbeats 4000000
namespace K22
open PySem L2 PyProof.Rows FD FB FS FO FR FG
structure DrN (K : PySem.W.Frag) (H : Hp) (q : Addr) (wd : Int) (ins oth : List Str) (pr : Addr) : Prop where
  ex : ∃ pi po, SqT K H q [.int wd, .ref pi, .ref po, .ref pr] ∧ H pi = some (.lst (ins.map V.str)) ∧ H po = some (.lst (oth.map V.str))
  few : (ins ++ oth).length ≤ 8
  w1 : 1 ≤ wd
  w8 : wd ≤ 8
noncomputable def bd_fine (K : PySem.W.Frag) (bl : Addr) (q : Addr) (H : Hp) (Q : VK) : Prop := ∃ (N : Addr → Prop) (xs : List V) (B : List FZ.Blk) (wd : Int) (ins oth : List Str) (pr : Addr), H bl = some (.lst xs) ∧ Paired (BlkV K N H bl) xs B ∧ FZ.AllG (ins ++ oth) wd B.length B ∧ 0 < B.length ∧ B.length ≤ 5000 ∧ DrN K H q wd ins oth pr ∧ ∀ H', Same H H' → Q (.bl true) H'
theorem mk_fine {K : PySem.W.Frag} {bl : Addr} {q : Addr} {H : Hp} {Q : VK}  (N : Addr → Prop) (xs : List V) (B : List FZ.Blk) (wd : Int) (ins oth : List Str) (pr : Addr) (h_0 : H bl = some (.lst xs)) (h_1 : Paired (BlkV K N H bl) xs B) (h_2 : FZ.AllG (ins ++ oth) wd B.length B) (h_3 : 0 < B.length) (h_4 : B.length ≤ 5000) (h_5 : DrN K H q wd ins oth pr) (h_6 : ∀ H', Same H H' → Q (.bl true) H') : bd_fine K bl q H Q := ⟨N, xs, B, wd, ins, oth, pr, h_0, h_1, h_2, h_3, h_4, h_5, h_6⟩
noncomputable def sp_fine (K : PySem.W.Frag) : Sp := fun vs H Q _ => ∃ (bl : Addr) (q : Addr), vs = [.ref bl, .ref q] ∧ bd_fine K bl q H Q
section
variable {P : Program} {w : World} {K : PySem.W.Frag} {mg : Str → Option Value} {base : Heap} {t : Ad}
theorem r_fine {bl q : Addr} {H : Hp} {Q : VK} {E : XK} : sp_fine K [.ref bl, .ref q] H Q E = bd_fine K bl q H Q := propext ⟨by rintro ⟨_, _, e, q⟩; cases e; exact q, fun q => ⟨_, _, rfl, q⟩⟩
theorem ok_fine (T : Txt K mg t) : FnOk P w K mg base CX0 4 t.f__law_fine t.e__law_fine ["_law_found", "_law_drawn_here"] (sp_fine K) := by
  have G__law_fine_deed := ok_fdeed (P := P) (w := w) (base := base) T
  have G__law_fine_ending := ok_fend (P := P) (w := w) (base := base) T
  refine T.d__law_fine.F.ok sc__law_fine (fun vs H Q E h => by obtain ⟨_, _, rfl, _⟩ := h; rfl) (fun cdv A outer s H vs Q E hr h => ?_)
  obtain ⟨bl, p, rfl, N, xs, B, wd, ins, oth, pr, hbl, hxs, hG, b0, b1, hD, q⟩ := h
  refine ⟨_,
      (XSs.h
      (xpss_cons
        (xps_set (i := 2) sc__law_fine.nd rfl ll (xpe_op op_cat (xpe_ix ix_tup (yqv 1 vl) xpe_int (fun _ _ => rfl)) (xpe_ix ix_tup (yqv 1 vl) xpe_int (fun _ _ => rfl))))
      (xpss_mid
        (xps_if (xPW_pt (xpw_or (xpt_not (xpt_val (xqe_callB call_isi gl T.z_isinstance boot_isinstance (xpa_cons (yqv 0 vl) (xpa_cons (xqe_bltn (v := .ty "list") gl T.z_list boot_list rfl) xpa_nil))))) (xpw_or1 (xpt_cmpR op_eq (xqe_callB call_len_seq gl T.z_len PySem.boot_len (xpa_cons (yqv 0 vl) xpa_nil)) xpe_int (nomark _)))))
          (xpss_one
            (xps_ret xpe_bl))
          xpss_nil)
      (xpss_cons
        (xps_for PassesOwn.never rfl (xpi_list (yqv 0 vl)) (xpg_name (i := 3) sc__law_fine.nd rfl ll)
          (xpss_mid
            (xps_if (xPW_pt (xpw_or (xpt_not (xpt_val (xqe_callB call_isi gl T.z_isinstance boot_isinstance (xpa_cons (yqv 3 vl) (xpa_cons (xqe_bltn (v := .ty "tuple") gl T.z_tuple boot_tuple rfl) xpa_nil))))) (xpw_or (xpt_cmpR op_ne (xqe_callB call_len_seq gl T.z_len PySem.boot_len (xpa_cons (yqv 3 vl) xpa_nil)) xpe_int (nomark _)) (xpw_or1 (xpt_not (xpt_val (xqe_callB call_isi gl T.z_isinstance boot_isinstance (xpa_cons (xpe_ix ix_tup (yqv 3 vl) xpe_int (fun _ _ => rfl)) (xpa_cons (xqe_bltn (v := .ty "list") gl T.z_list boot_list rfl) xpa_nil)))))))))
              (xpss_one
                (xps_ret xpe_bl))
              xpss_nil)
          (xpss_mid
            (xps_for PassesOwn.never rfl (xpi_list (xpe_ix ix_tup (yqv 3 vl) xpe_int (fun _ _ => rfl))) (xpg_name (i := 4) sc__law_fine.nd rfl ll)
              (xpss_one
                (xps_if (xpt_not (xpt_val (xqe_callD T.d__law_fine_deed G__law_fine_deed (hr.mono (by first | decide | omega)) (xpa_cons (yqv 4 vl) (xpa_cons (yqv 2 vl) (xpa_cons (xpe_op yop_shl xpe_int (xpe_ix ix_tup (yqv 1 vl) xpe_int (fun _ _ => rfl))) xpa_nil))) gl)))
                  (xpss_one
                    (xps_ret xpe_bl))
                  xpss_nil)))
          (xpss_one
            (xps_if (xpt_not (xpt_val (xqe_callD T.d__law_fine_ending G__law_fine_ending (hr.mono (by first | decide | omega)) (xpa_cons (xpe_ix ix_tup (yqv 3 vl) xpe_int (fun _ _ => rfl)) (xpa_cons (yqv 2 vl) (xpa_cons (xqe_callB call_len_seq gl T.z_len PySem.boot_len (xpa_cons (yqv 0 vl) xpa_nil)) xpa_nil))) gl)))
              (xpss_one
                (xps_ret xpe_bl))
              xpss_nil)))))
      (xpss_one
        (xps_ret xpe_bl)))))), ?_⟩
  rw [show start _ [V.ref bl, V.ref p] = [some (.ref bl), some (.ref p), none, none, none] from rfl]
  simp_arith [r_listRng, r_kget1, r_iEnumT]
  obtain ⟨pi, po, hq, hi, ho⟩ := hD.ex
  have hfew := hD.few
  rw [List.length_append] at hfew
  refine ⟨_, _, hq, rfl, _, _, hq, rfl, pi, po, _, _, rfl, rfl, hi, ho, by rw [List.length_map, List.length_map, sizeLine_eq]; omega, fun pn hpn => ?_⟩
  have t1 := Same.upd (o := .lst (ins.map V.str ++ oth.map V.str)) hpn
  have en : upd H pn (.lst (ins.map V.str ++ oth.map V.str)) pn = some (.lst ((ins ++ oth).map V.str)) := by rw [upd_same, List.map_append]
  generalize upd H pn _ = H1 at t1 en ⊢
  have lx := hxs.length
  refine ⟨fun σ H' => H' = H1 ∧ σ = [some (.ref bl), some (.ref p), some (.ref pn), none, none], ?_, ?_⟩
  · refine isi_lst (SqL.of (t1 _ _ hbl)) ⟨_, rfl, ?_⟩
    rw [if_neg (by decide)]
    refine ⟨_, .inl (SqL.of (t1 _ _ hbl)), ?_⟩
    rw [if_neg (by simp; intro z; rw [z] at lx; simp at lx; omega)]
    exact ⟨rfl, rfl⟩
  rintro σ H2 ⟨rfl, rfl⟩
  simp_arith [r_listRng, r_kget1, r_iEnumT]
  refine ⟨⟨_, SqL.of (t1 _ _ hbl)⟩, ?_⟩
  refine fw_list (xs := xs) (fun i σ H' => Same H2 H' ∧ ∃ o3 o4, σ = [some (.ref bl), some (.ref p), some (.ref pn), o3, o4]) ⟨Same.refl _, _, _, rfl⟩ (fun i σ H' _ h => SqL.of (h.1 _ _ (t1 _ _ hbl))) ?_ ?_
  · rintro i x σ H3 hx ⟨s3, o3, o4, rfl⟩
    obtain ⟨b, hb, hbv⟩ := Paired.get hxs hx
    have s03 := t1.trans s3
    have hg := hG b (List.mem_of_getElem? hb)
    obtain ⟨qb, ab, eb, vs, rfl, v1, v2, v3, v4, v5, v6⟩ := hbv.same s03
    simp_arith [r_listRng, r_kget1, r_iEnumT]
    refine ⟨fun σ H' => H' = H3 ∧ σ = [some (.ref bl), some (.ref p), some (.ref pn), some (.ref qb), o4], ?_, ?_⟩
    · refine isi_tup (SqT.of v1) ⟨_, rfl, ?_⟩
      rw [if_neg (by decide)]
      refine ⟨_, .inr (SqT.of v1), ?_⟩
      rw [if_neg (by simp)]
      refine ⟨_, _, SqT.of v1, rfl, isi_lst (SqL.of v2) ⟨_, rfl, ?_⟩⟩
      rw [if_neg (by decide)]
      exact ⟨rfl, rfl⟩
    rintro σ H4 ⟨rfl, rfl⟩
    simp_arith [r_listRng, r_kget1, r_iEnumT]
    refine ⟨fun σ H' => Same H4 H' ∧ ∃ o4, σ = [some (.ref bl), some (.ref p), some (.ref pn), some (.ref qb), o4], ?_, ?_⟩
    · refine ⟨_, _, SqT.of v1, rfl, _, rfl, ⟨_, SqL.of v2⟩, ?_⟩
      refine fw_list (xs := vs) (fun i σ H' => Same H4 H' ∧ ∃ o4, σ = [some (.ref bl), some (.ref p), some (.ref pn), some (.ref qb), o4]) ⟨Same.refl _, _, rfl⟩ (fun i σ H' _ h => SqL.of (h.1 _ _ v2)) ?_ ?_
      · rintro j y σ H5 hy ⟨s5, o4, rfl⟩
        obtain ⟨d, hd, q0, rfl, hq0, hf⟩ := Paired.get v3 hy
        have s05 := s03.trans s5
        simp_arith [r_listRng, r_kget1, r_iEnumT, r_fdeed]
        refine ⟨_, _, s05.seqT hq, rfl, ?_⟩
        have hw1 := hD.w1
        have hw8 := hD.w8
        simp_arith [r_listRng, r_kget1, r_iEnumT, r_fdeed]
        refine ⟨⟨by omega, by omega, by decide⟩, ?_⟩
        refine ⟨ins ++ oth, wd, d, rfl, SqL.of (s5 _ _ (s3 _ _ en)), s5.seqT hq0, hf, hg.gd d (List.mem_of_getElem? hd), fun H6 s6 => ⟨_, rfl, ?_⟩⟩
        rw [if_neg (by decide)]
        exact ⟨s5.trans s6, _, rfl⟩
      · rintro σ H5 ⟨s5, o4, rfl⟩
        exact ⟨s5, _, rfl⟩
    rintro σ H5 ⟨s5, o4, rfl⟩
    have s05 := s03.trans s5
    simp_arith [r_listRng, r_kget1, r_iEnumT, r_fend]
    refine ⟨_, _, SqT.of (s5 _ _ v1), rfl, xs, .inl (SqL.of (s05 _ _ hbl)), ?_⟩
    rw [r_fend]
    refine ⟨ins ++ oth, B.length, b.ed, by rw [lx], SqL.of (s5 _ _ (s3 _ _ en)), SqT.of (s5 _ _ v4), hg.tg, hg.nm, fun H6 s6 => ⟨_, rfl, ?_⟩⟩
    rw [if_neg (by decide)]
    exact ⟨s3.trans (s5.trans s6), _, _, rfl⟩
  · rintro σ H3 ⟨s3, o3, o4, rfl⟩
    simp_arith [r_listRng, r_kget1, r_iEnumT]
    exact q _ (t1.trans s3)
end
end K22
set_option maxHeartbeats 4000000
namespace K22
open PySem L2 PyProof.Rows FD FB FS FO FR FG
noncomputable def bd_lmade (op : Str) (x y w : Int) (H : Hp) (Q : VK) : Prop := op ∈ FB.opsL ∧ 0 ≤ w ∧ w ≤ 8 ∧ ∀ H', Same H H' → Q (.int (reck op x y w)) H'
noncomputable def sp_lmade : Sp := fun vs H Q _ => ∃ (op : Str) (x y w : Int), vs = [.str op, .int x, .int y, .int w] ∧ bd_lmade op x y w H Q
noncomputable def sp_word (K : PySem.W.Frag) : Sp := fun vs H Q _ => ∃ (o : Opd) (bx : Addr) (b : Bx) (ns : List Str) (w : Int), vs = [o.v, .ref bx] ∧ H bx = some (.dK b) ∧ BxG ns w b ∧ Opd.good ns w o ∧ Q (.int (opdW b o)) H
noncomputable def bd_ldo (K : PySem.W.Frag) (q : Addr) (bx : Addr) (td : Addr) (w : Int) (H : Hp) (Q : VK) : Prop := ∃ (d : Deed) (b : Bx) (ns : List Str) (tl : List Int), SqT K H q d.vs ∧ d.fine ∧ Deed.good ns w d ∧ H bx = some (.dK b) ∧ BxG ns w b ∧ H td = some (.lst (tl.map V.int)) ∧ tl.length ≤ 100000 ∧ 1 ≤ w ∧ w ≤ 8 ∧
  ∀ H', SameB bx td H H' → H' bx = some (.dK (doB w d b)) → H' td = some (.lst ((doT w d b tl).map V.int)) → Q .non H'
theorem mk_ldo {K : PySem.W.Frag} {q : Addr} {bx : Addr} {td : Addr} {w : Int} {H : Hp} {Q : VK}  (d : Deed) (b : Bx) (ns : List Str) (tl : List Int) (h_0 : SqT K H q d.vs) (h_1 : d.fine) (h_2 : Deed.good ns w d) (h_3 : H bx = some (.dK b)) (h_4 : BxG ns w b) (h_5 : H td = some (.lst (tl.map V.int))) (h_6 : tl.length ≤ 100000) (h_7 : 1 ≤ w) (h_8 : w ≤ 8) (h_9 : ∀ H', SameB bx td H H' → H' bx = some (.dK (doB w d b)) → H' td = some (.lst ((doT w d b tl).map V.int)) → Q .non H') : bd_ldo K q bx td w H Q := ⟨d, b, ns, tl, h_0, h_1, h_2, h_3, h_4, h_5, h_6, h_7, h_8, h_9⟩
noncomputable def sp_ldo (K : PySem.W.Frag) : Sp := fun vs H Q _ => ∃ (q : Addr) (bx : Addr) (td : Addr) (w : Int), vs = [.ref q, .ref bx, .ref bx, .ref td, .int w] ∧ bd_ldo K q bx td w H Q
section
variable {P : Program} {w : World} {K : PySem.W.Frag} {mg : Str → Option Value} {base : Heap} {t : Ad}
theorem r_lmade {op : Str} {x y w : Int} {H : Hp} {Q : VK} {E : XK} : sp_lmade [.str op, .int x, .int y, .int w] H Q E = bd_lmade op x y w H Q := propext ⟨by rintro ⟨_, _, _, _, e, q⟩; cases e; exact q, fun q => ⟨_, _, _, _, rfl, q⟩⟩
theorem r_ldo {q bx td : Addr} {w : Int} {H : Hp} {Q : VK} {E : XK} : sp_ldo K [.ref q, .ref bx, .ref bx, .ref td, .int w] H Q E = bd_ldo K q bx td w H Q := propext ⟨by rintro ⟨_, _, _, _, e, q⟩; cases e; exact q, fun q => ⟨_, _, _, _, rfl, q⟩⟩
theorem r_word {o : Opd} {bx : Addr} {H : Hp} {Q : VK} {E : XK} : sp_word K [o.v, .ref bx] H Q E = ∃ (b : Bx) (ns : List Str) (w : Int), H bx = some (.dK b) ∧ BxG ns w b ∧ Opd.good ns w o ∧ Q (.int (opdW b o)) H :=
  propext ⟨fun ⟨o', _, b, ns, w, e, q⟩ => by
    have e2 : o = o' := by
      injection e with e1 _
      cases o <;> cases o' <;> first | (injection e1 with e1; rw [e1]) | cases e1
    subst e2
    injection e with _ e
    injection e with e _
    injection e with e
    subst e
    exact ⟨b, ns, w, q⟩, fun ⟨b, ns, w, q⟩ => ⟨o, bx, b, ns, w, rfl, q⟩⟩
theorem ok_lmade (T : Txt K mg t) : FnOk P w K mg base CX0 1 t.f__law_made t.e__law_made ["_law_op", "_law_x", "_law_y", "_law_width"] sp_lmade := by
  refine T.d__law_made.F.ok sc__law_made (fun vs H Q E h => by obtain ⟨_, _, _, _, rfl, _⟩ := h; rfl) (fun cdv A outer s H vs Q E hr h => ?_)
  obtain ⟨op, x, y, w, rfl, ho, h0, h8, q⟩ := h
  refine ⟨_,
      (XSs.h
      (xpss_cons
        (xps_if (xpt_cmpR op_eq (yqv 0 vl) xpe_str (nomark _))
          (xpss_one
            (xps_ret (xpe_op yop_mod (xpe_op yop_add (yqv 1 vl) (yqv 2 vl)) (xpe_op yop_shl xpe_int (yqv 3 vl)))))
          xpss_nil)
      (xpss_cons
        (xps_if (xpt_cmpR op_eq (yqv 0 vl) xpe_str (nomark _))
          (xpss_one
            (xps_ret (xpe_op yop_mod (xpe_op yop_sub (yqv 1 vl) (yqv 2 vl)) (xpe_op yop_shl xpe_int (yqv 3 vl)))))
          xpss_nil)
      (xpss_cons
        (xps_if (xpt_cmpR op_eq (yqv 0 vl) xpe_str (nomark _))
          (xpss_one
            (xps_ret (xqe_callTy call_int1 gl T.z_int boot_int (xpa_cons (xpe_cmpR yop_lt (yqv 1 vl) (yqv 2 vl) (nomark _)) xpa_nil))))
          xpss_nil)
      (xpss_cons
        (xps_if (xpt_cmpR op_eq (yqv 0 vl) xpe_str (nomark _))
          (xpss_one
            (xps_ret (xqe_callTy call_int1 gl T.z_int boot_int (xpa_cons (xpe_cmpR op_eq (yqv 1 vl) (yqv 2 vl) (nomark _)) xpa_nil))))
          xpss_nil)
      (xpss_one
        (xps_ret (xpe_ix ix_list (xpe_lst (xpa_cons (xpe_ix ix_list (xpe_lst (xpa_cons (xpe_op yop_and (yqv 1 vl) (yqv 2 vl)) (xpa_cons (xpe_op yop_or (yqv 1 vl) (yqv 2 vl)) xpa_nil))) (xqe_callTy call_int1 gl T.z_int boot_int (xpa_cons (xpe_cmpR op_eq (yqv 0 vl) xpe_str (nomark _)) xpa_nil)) (fun _ _ => rfl)) (xpa_cons (xpe_op yop_xor (yqv 1 vl) (yqv 2 vl)) xpa_nil))) (xqe_callTy call_int1 gl T.z_int boot_int (xpa_cons (xpe_cmpR op_eq (yqv 0 vl) xpe_str (nomark _)) xpa_nil)) (fun _ _ => rfl))))))))), ?_⟩
  rw [show start _ [V.str op, V.int x, V.int y, V.int w] = [some (.str op), some (.int x), some (.int y), some (.int w)] from rfl]
  simp_arith [r_listRng, r_kget1, r_iEnumT]
  have z : op = "plus" ∨ op = "less" ∨ op = "and" ∨ op = "or" ∨ op = "xor" ∨ op = "below" ∨ op = "same" := by simpa [FB.opsL] using ho
  have hp : (0 : Int) < 1 * 2 ^ w.toNat := by rw [Int.one_mul]; exact Int.pow_pos (by decide)
  have cp : CPow 1 w := ⟨h0, by omega, by decide⟩
  unfold reck at q
  rw [← Int.one_mul (2 ^ w.toNat)] at q
  have t2 : ∀ {p1 p2 : Addr} {v : V}, H p1 = none → upd H p1 (.lst [V.int (Builtin.bitAnd x y), V.int (Builtin.bitOr x y)]) p2 = none → Same H (upd (upd H p1 (.lst [V.int (Builtin.bitAnd x y), V.int (Builtin.bitOr x y)])) p2 (.lst [v, V.int (Builtin.bitXor x y)])) := fun h1 h2 => (Same.upd h1).trans (Same.upd h2)
  rcases z with rfl | rfl | rfl | rfl | rfl | rfl | rfl
  · rw [if_pos rfl] at q
    rw [if_pos (by decide)]
    exact ⟨cp, hp, q H (Same.refl H)⟩
  · rw [if_neg (by decide +kernel), if_pos rfl] at q
    rw [if_neg (by decide +kernel), if_pos (by decide)]
    exact ⟨cp, hp, q H (Same.refl H)⟩
  · rw [if_neg (by decide +kernel), if_neg (by decide +kernel), if_pos rfl] at q
    rw [if_neg (by decide +kernel), if_neg (by decide +kernel), if_neg (by decide +kernel), if_neg (by decide +kernel)]
    intro p1 hp1
    refine ⟨_, _, SqL.of upd_same, by rw [if_neg (by decide +kernel)]; rfl, fun p2 hp2 => ⟨_, _, SqL.of upd_same, by rw [if_neg (by decide +kernel)]; rfl, q _ (t2 hp1 hp2)⟩⟩
  · rw [if_neg (by decide +kernel), if_neg (by decide +kernel), if_neg (by decide +kernel), if_pos rfl] at q
    rw [if_neg (by decide +kernel), if_neg (by decide +kernel), if_neg (by decide +kernel), if_neg (by decide +kernel)]
    intro p1 hp1
    refine ⟨_, _, SqL.of upd_same, by rw [if_pos (by decide)]; rfl, fun p2 hp2 => ⟨_, _, SqL.of upd_same, by rw [if_neg (by decide +kernel)]; rfl, q _ (t2 hp1 hp2)⟩⟩
  · rw [if_neg (by decide +kernel), if_neg (by decide +kernel), if_neg (by decide +kernel), if_neg (by decide +kernel), if_pos rfl] at q
    rw [if_neg (by decide +kernel), if_neg (by decide +kernel), if_neg (by decide +kernel), if_neg (by decide +kernel)]
    intro p1 hp1
    refine ⟨_, _, SqL.of upd_same, by rw [if_neg (by decide +kernel)]; rfl, fun p2 hp2 => ⟨_, _, SqL.of upd_same, by rw [if_pos (by decide)]; rfl, q _ (t2 hp1 hp2)⟩⟩
  · rw [if_neg (by decide +kernel), if_neg (by decide +kernel), if_neg (by decide +kernel), if_neg (by decide +kernel), if_neg (by decide +kernel), if_pos rfl] at q
    rw [if_neg (by decide +kernel), if_neg (by decide +kernel), if_pos (by decide)]
    rw [show (if decide (x < y) = true then (1 : Int) else 0) = (if x < y then 1 else 0) by simp]
    exact q H (Same.refl H)
  · rw [if_neg (by decide +kernel), if_neg (by decide +kernel), if_neg (by decide +kernel), if_neg (by decide +kernel), if_neg (by decide +kernel), if_neg (by decide +kernel)] at q
    rw [if_neg (by decide +kernel), if_neg (by decide +kernel), if_neg (by decide +kernel), if_pos (by decide)]
    rw [show (if decide (x = y) = true then (1 : Int) else 0) = (if x = y then 1 else 0) by simp]
    exact q H (Same.refl H)
theorem ok_lword (T : Txt K mg t) : FnOk P w K mg base CX0 1 t.f__law_word t.e__law_word ["_law_operand_here", "_law_boxes"] (sp_word K) := by
  refine T.d__law_word.F.ok sc__law_word (fun vs H Q E h => by obtain ⟨_, _, _, _, _, rfl, _⟩ := h; rfl) (fun cdv A outer s H vs Q E hr h => ?_)
  obtain ⟨o, bx, b, ns, w, rfl, hB, hG, ho, q⟩ := h
  have hu := hu_of hr
  refine ⟨_,
      (XSs.h
      (xpss_cons
        (xps_if (xpt_val (xqe_callB call_isi gl T.z_isinstance boot_isinstance (xpa_cons (yqv 0 vl) (xpa_cons (xqe_bltn (v := .ty "str") gl T.z_str boot_str rfl) xpa_nil))))
          (xpss_one
            (xps_ret (xpe_dget hu (yqv 1 vl) (yqv 0 vl) (fun _ _ => rfl))))
          xpss_nil)
      (xpss_one
        (xps_ret (yqv 0 vl))))), ?_⟩
  rw [show start _ [o.v, V.ref bx] = [some o.v, some (.ref bx)] from rfl]
  simp_arith [r_listRng, r_kget1, r_iEnumT]
  refine isi_opd ⟨_, rfl, ?_⟩
  cases o with
  | box n => exact ⟨bx, _, rfl, .inl ⟨b, .inr n, .inl hB, rfl, (hG.val ho).symm⟩, q⟩
  | word i => exact q
theorem ops_ne {f : Str} (h : f ∈ FB.opsL) {g : Str} (hg : g ∉ FB.opsL) : ¬ f = g := fun z => hg (z ▸ h)
theorem ok_ldo (T : Txt K mg t) : FnOk P w K mg base CX0 2 t.f__law_do t.e__law_do ["_law_deed_here", "_law_before", "_law_boxes", "_law_said", "_law_width"] (sp_ldo K) := by
  have G__law_word := ok_lword (P := P) (w := w) (base := base) T
  have G__law_made := ok_lmade (P := P) (w := w) (base := base) T
  refine T.d__law_do.F.ok sc__law_do (fun vs H Q E h => by obtain ⟨_, _, _, _, rfl, _⟩ := h; rfl) (fun cdv A outer s H vs Q E hr h => ?_)
  obtain ⟨qd, bx, td, w, rfl, d, b, ns, tl, hq, hf, hd, hB, hG, hT, hl, w1, w8, q⟩ := h
  have hu := hu_of hr
  refine ⟨_,
      (XSs.h
      (xpss_one
        (xps_if (xpt_cmpR op_eq (xpe_ix ix_tup (yqv 0 vl) xpe_int (fun _ _ => rfl)) xpe_str (nomark _))
          (xpss_one
            (xps_expr (xpe_bm PySem.F.plainAttrs_list PySem.F.slot_list_append PySem.F.type_list_append mt_append (yqv 3 vl) (xpa_cons (xqe_callD T.d__law_word G__law_word (hr.mono (by first | decide | omega)) (xpa_cons (xpe_ix ix_tup (yqv 0 vl) xpe_int (fun _ _ => rfl)) (xpa_cons (yqv 1 vl) xpa_nil)) gl) xpa_nil))))
          (xpss_one
            (xps_if (xpt_cmpR op_eq (xpe_ix ix_tup (yqv 0 vl) xpe_int (fun _ _ => rfl)) xpe_str (nomark _))
              (xpss_one
                (xps_dput hu (yqv 2 vl) (xpe_ix ix_tup (yqv 0 vl) xpe_int (fun _ _ => rfl)) (xqe_callD T.d__law_word G__law_word (hr.mono (by first | decide | omega)) (xpa_cons (xpe_ix ix_tup (yqv 0 vl) xpe_int (fun _ _ => rfl)) (xpa_cons (yqv 1 vl) xpa_nil)) gl) rfl))
              (xpss_one
                (xps_dput hu (yqv 2 vl) (xpe_ix ix_tup (yqv 0 vl) xpe_int (fun _ _ => rfl)) (xqe_callD T.d__law_made G__law_made (hr.mono (by first | decide | omega)) (xpa_cons (xpe_ix ix_tup (yqv 0 vl) xpe_int (fun _ _ => rfl)) (xpa_cons (xqe_callD T.d__law_word G__law_word (hr.mono (by first | decide | omega)) (xpa_cons (xpe_ix ix_tup (yqv 0 vl) xpe_int (fun _ _ => rfl)) (xpa_cons (yqv 1 vl) xpa_nil)) gl) (xpa_cons (xqe_callD T.d__law_word G__law_word (hr.mono (by first | decide | omega)) (xpa_cons (xpe_ix ix_tup (yqv 0 vl) xpe_int (fun _ _ => rfl)) (xpa_cons (yqv 1 vl) xpa_nil)) gl) (xpa_cons (yqv 4 vl) xpa_nil)))) gl) rfl))))))), ?_⟩
  rw [show start _ [V.ref qd, V.ref bx, V.ref bx, V.ref td, V.int w] = [some (.ref qd), some (.ref bx), some (.ref bx), some (.ref td), some (.int w)] from rfl]
  simp_arith [r_listRng, r_kget1, r_iEnumT]
  have few := hG.few
  have nbt : bx ≠ td := ne_of hB hT (by intro z; cases z)
  cases d with
  | tell o =>
    refine ⟨_, _, hq, rfl, ?_⟩
    simp_arith [r_listRng, r_kget1, r_iEnumT]
    refine ite_dec (fun _ => ⟨.inl ⟨rfl, _, SqL.of hT⟩, _, _, hq, rfl, ?_⟩) (fun e => absurd trivial e)
    simp_arith [r_listRng, r_kget1, r_iEnumT, r_word]
    refine ⟨b, ns, w, hB, hG, hd, _, hT, by rw [List.length_map, sizeLine_eq]; omega, q _ SameB.upd2 (by rw [upd_ne nbt]; exact hB) ?_⟩
    show upd H td _ td = some (.lst (List.map V.int (tl ++ [opdW b o])))
    rw [upd_same, List.map_append]; rfl
  | copy n o =>
    refine ⟨_, _, hq, rfl, ?_⟩
    simp_arith [r_listRng, r_kget1, r_iEnumT]
    refine ite_dec (fun e => absurd e (by decide +kernel)) (fun _ => ⟨_, _, hq, rfl, ?_⟩)
    simp_arith [r_listRng, r_kget1, r_iEnumT]
    refine ite_dec (fun _ => ⟨_, _, hq, rfl, ?_⟩) (fun e => absurd trivial e)
    simp_arith [r_listRng, r_kget1, r_iEnumT, r_word]
    refine ⟨b, ns, w, hB, hG, hd.2, ?_⟩
    exact ⟨_, _, hq, rfl, _, DPut.k (k := .inr n) hB (by rw [sizeLine_eq]; omega), q _ SameB.upd1 upd_same (by rw [upd_ne nbt.symm]; exact hT)⟩
  | op f n o o2 =>
    obtain ⟨g1, g2, g3, g4⟩ : f ∈ FB.opsL ∧ n ∈ ns ∧ Opd.good ns w o ∧ Opd.good ns w o2 := hd
    refine ⟨_, _, hq, rfl, ?_⟩
    simp_arith [r_listRng, r_kget1, r_iEnumT]
    refine ite_dec (fun e => absurd e (ops_ne g1 (by decide +kernel))) (fun _ => ⟨_, _, hq, rfl, ?_⟩)
    simp_arith [r_listRng, r_kget1, r_iEnumT]
    refine ite_dec (fun e => absurd e (ops_ne g1 (by decide +kernel))) (fun _ => ⟨_, _, hq, rfl, _, _, hq, rfl, ?_⟩)
    simp_arith [r_listRng, r_kget1, r_iEnumT, r_word]
    refine ⟨b, ns, w, hB, hG, g3, _, _, hq, rfl, ?_⟩
    simp_arith [r_listRng, r_kget1, r_iEnumT, r_word, r_lmade]
    refine ⟨b, ns, w, hB, hG, g4, g1, by omega, w8, fun H1 s1 => ⟨_, _, s1.seqT hq, rfl, _, DPut.k (k := .inr n) (s1 _ _ hB) (by rw [sizeLine_eq]; omega), ?_⟩⟩
    exact q _ ((SameB.of s1).trans SameB.upd1) upd_same (by rw [upd_ne nbt.symm]; exact s1 _ _ hT)
end
end K22
set_option maxHeartbeats 4000000
namespace K22
open PySem L2 PyProof.Rows FD FB FS FO FR FG
theorem SameB.ts {p r : Addr} {H H' : Hp} {b : Bx} {l : List V} (s : SameB p r H H') (hp : H p = some (.dK b)) (hr : H r = some (.lst l)) : TSame H H' :=
  ⟨fun c xs e => s c _ e (fun z => by rw [z, hp] at e; cases e) (fun z => by rw [z, hr] at e; cases e), fun c o u e => s c _ e (fun z => by rw [z, hp] at e; cases e) (fun z => by rw [z, hr] at e; cases e)⟩
theorem stms_sb {K : PySem.W.Frag} {p r : Addr} {H H' : Hp} {b : Bx} {l xs : List V} {ss : List Stm} {f : List Addr} (h : StmsV K H xs ss f) (s : SameB p r H H') (hp : H p = some (.dK b)) (hr : H r = some (.lst l)) (hf : r ∉ f) : StmsV K H' xs ss f :=
  h.keep (SameB.ts s hp hr) fun a ha o e => s a o e (fun z => by obtain ⟨zs, hz⟩ := h.tracked a ha; rw [z, hp] at hz; cases hz) (fun z => hf (z ▸ ha))
theorem stm_sb {K : PySem.W.Frag} {p r : Addr} {H H' : Hp} {b : Bx} {l : List V} {x : V} {st : Stm} {f : List Addr} (h : StmV K H x st f) (s : SameB p r H H') (hp : H p = some (.dK b)) (hr : H r = some (.lst l)) (hf : r ∉ f) : StmV K H' x st f :=
  h.keep (SameB.ts s hp hr) fun a ha o e => s a o e (fun z => by obtain ⟨zs, hz⟩ := h.tracked a ha; rw [z, hp] at hz; cases hz) (fun z => hf (z ▸ ha))
structure BtV (H : Hp) (bx td : Addr) (ns : List Str) (w : Int) (b : Bx) (t : List Int) : Prop where
  hb : H bx = some (.dK b)
  ht : H td = some (.lst (t.map V.int))
  gd : BxG ns w b
noncomputable def bd_lthr (K : PySem.W.Frag) (d : Nat) (a bx td : Addr) (w left : Int) (H : Hp) (Q : VK) : Prop := ∃ (xs : List V) (ss : List Stm) (f : List Addr) (b : Bx) (ns : List Str) (tl : List Int) (n : Nat), left = n ∧ H a = some (.lst xs) ∧ StmsV K H xs ss f ∧ a ≠ td ∧ td ∉ f ∧ deepL ss < d ∧ goodL ns w ss ∧ BtV H bx td ns w b tl ∧ tl.length + n ≤ 10000 ∧ 1 ≤ w ∧ w ≤ 8 ∧
  ∀ H', SameB bx td H H' → BtV H' bx td ns w (GA.runL w n ⟨ss, b, tl⟩).2.bx (GA.runL w n ⟨ss, b, tl⟩).2.told → Q (.int (GA.runL w n ⟨ss, b, tl⟩).1) H'
theorem mk_lthr {K : PySem.W.Frag} {d : Nat} {a bx td : Addr} {w left : Int} {H : Hp} {Q : VK}  (xs : List V) (ss : List Stm) (f : List Addr) (b : Bx) (ns : List Str) (tl : List Int) (n : Nat) (h_0 : left = n) (h_1 : H a = some (.lst xs)) (h_2 : StmsV K H xs ss f) (h_3 : a ≠ td) (h_4 : td ∉ f) (h_5 : deepL ss < d) (h_6 : goodL ns w ss) (h_7 : BtV H bx td ns w b tl) (h_8 : tl.length + n ≤ 10000) (h_9 : 1 ≤ w) (h_10 : w ≤ 8) (h_11 : ∀ H', SameB bx td H H' → BtV H' bx td ns w (GA.runL w n ⟨ss, b, tl⟩).2.bx (GA.runL w n ⟨ss, b, tl⟩).2.told → Q (.int (GA.runL w n ⟨ss, b, tl⟩).1) H') : bd_lthr K d a bx td w left H Q := ⟨xs, ss, f, b, ns, tl, n, h_0, h_1, h_2, h_3, h_4, h_5, h_6, h_7, h_8, h_9, h_10, h_11⟩
noncomputable def sp_lthr (K : PySem.W.Frag) (d : Nat) : Sp := fun vs H Q _ => ∃ (a bx td : Addr) (w left : Int), vs = [.ref a, .ref bx, .ref td, .int w, .int left] ∧ bd_lthr K d a bx td w left H Q
section
variable {P : Program} {w : World} {K : PySem.W.Frag} {mg : Str → Option Value} {base : Heap} {t : Ad}
theorem r_lthr {d : Nat} {a bx td : Addr} {w left : Int} {H : Hp} {Q : VK} {E : XK} : sp_lthr K d [.ref a, .ref bx, .ref td, .int w, .int left] H Q E = bd_lthr K d a bx td w left H Q := propext ⟨by rintro ⟨_, _, _, _, _, e, q⟩; cases e; exact q, fun q => ⟨_, _, _, _, _, rfl, q⟩⟩
theorem deed0N {H : Hp} {q : Addr} {d : Deed} {k : Str} {Z : V → Hp → Prop} (hf : d.fine) (hq : SqT K H q d.vs) (h1 : opsL.contains k = false) (h2 : ¬ ("tell" : Str) = k) (h3 : ¬ ("copy" : Str) = k) (h : Z (.bl true) H) : ∃ xs v, SqT K H q xs ∧ atI xs 0 = some v ∧ rNe v (.str k) H Z := by
  cases d with
  | tell a => exact ⟨_, _, hq, rfl, rfl, by rw [decide_eq_false (fun z => h2 (V.str.inj z))]; exact h⟩
  | copy n a => exact ⟨_, _, hq, rfl, rfl, by rw [decide_eq_false (fun z => h3 (V.str.inj z))]; exact h⟩
  | op f n a b => exact ⟨_, _, hq, rfl, rfl, by rw [decide_eq_false (fun z => opsL_ne hf h1 (V.str.inj z))]; exact h⟩
theorem BtV.get {H : Hp} {bx td : Addr} {ns : List Str} {w : Int} {b : Bx} {t : List Int} {n : Str} (h : BtV H bx td ns w b t) (hn : n ∈ ns) : DGet H bx (.str n) (some (.int (bxGet b n))) := .inl ⟨b, .inr n, .inl h.hb, rfl, (h.gd.val hn).symm⟩
theorem lthr_step (T : Txt K mg t) (d : Nat) (G__law_through : FnOk P w K mg base CX0 (d + 3) t.f__law_through t.e__law_through ["_law_rows", "_law_boxes", "_law_said", "_law_width", "_law_left"] (sp_lthr K d)) : FnOk P w K mg base CX0 (d + 4) t.f__law_through t.e__law_through ["_law_rows", "_law_boxes", "_law_said", "_law_width", "_law_left"] (sp_lthr K (d + 1)) := by
  have G__law_do := ok_ldo (P := P) (w := w) (base := base) T
  refine T.d__law_through.F.ok sc__law_through (fun vs H Q E h => by obtain ⟨_, _, _, _, _, rfl, _⟩ := h; rfl) (fun cdv A outer s H vs Q E hr h => ?_)
  obtain ⟨a, bx, td, w, left, rfl, xs, ss, f, b0, ns, tl, n, rfl, ha, hx, nat, ntf, hd, hg, hV, hln, w1, w8, q⟩ := h
  have hu := hu_of hr
  refine ⟨_,
      (XSs.h
      (xpss_cons
        (xps_for PassesOwn.never rfl (xpi_list (yqv 0 vl)) (xpg_name (i := 5) sc__law_through.nd rfl ll)
          (xpss_mid
            (xps_if (xpt_cmpR op_eq (yqv 4 vl) xpe_int (nomark _))
              (xpss_one
                (xps_ret (xpe_un yun_neg xpe_int)))
              xpss_nil)
          (xpss_cons
            (xps_set (i := 4) sc__law_through.nd rfl ll (xpe_op yop_sub (yqv 4 vl) xpe_int))
          (xpss_mid
            (xps_if (xpt_cmpR op_eq (xpe_ix ix_tup (yqv 5 vl) xpe_int (fun _ _ => rfl)) xpe_str (nomark _))
              (xpss_one
                (xps_set (i := 4) sc__law_through.nd rfl ll (xqe_callD T.d__law_through G__law_through (hr.mono (by first | decide | omega)) (xpa_cons (xpe_ix ix_tup (yqv 5 vl) (xpe_op yop_add xpe_int (xqe_callTy call_int1 gl T.z_int boot_int (xpa_cons (xpe_cmpR op_eq (xpe_dget hu (yqv 1 vl) (xpe_ix ix_tup (yqv 5 vl) xpe_int (fun _ _ => rfl)) (fun _ _ => rfl)) xpe_int (nomark _)) xpa_nil))) (fun _ _ => rfl)) (xpa_cons (yqv 1 vl) (xpa_cons (yqv 2 vl) (xpa_cons (yqv 3 vl) (xpa_cons (yqv 4 vl) xpa_nil))))) gl)))
              (xpss_one
                (xps_if (xpt_cmpR op_ne (xpe_ix ix_tup (yqv 5 vl) xpe_int (fun _ _ => rfl)) xpe_str (nomark _))
                  (xpss_one
                    (xps_expr (xqe_callD T.d__law_do G__law_do (hr.mono (by first | decide | omega)) (xpa_cons (yqv 5 vl) (xpa_cons (yqv 1 vl) (xpa_cons (yqv 1 vl) (xpa_cons (yqv 2 vl) (xpa_cons (yqv 3 vl) xpa_nil))))) gl)))
                  (xpss_one
                    (xps_while PassesOwn.never (xPW_pt (xpw_and (xpt_cmpR yop_gt (xpe_dget hu (yqv 1 vl) (xpe_ix ix_tup (yqv 5 vl) xpe_int (fun _ _ => rfl)) (fun _ _ => rfl)) xpe_int (nomark _)) (xpw_and1 (xpt_cmpR yop_ge (yqv 4 vl) xpe_int (nomark _)))))
                      (xpss_one
                        (xps_set (i := 4) sc__law_through.nd rfl ll (xpe_op yop_sub (xqe_callD T.d__law_through G__law_through (hr.mono (by first | decide | omega)) (xpa_cons (xpe_ix ix_tup (yqv 5 vl) xpe_int (fun _ _ => rfl)) (xpa_cons (yqv 1 vl) (xpa_cons (yqv 2 vl) (xpa_cons (yqv 3 vl) (xpa_cons (yqv 4 vl) xpa_nil))))) gl) xpe_int))))))))
          (xpss_one
            (xps_if (xpt_cmpR yop_lt (yqv 4 vl) xpe_int (nomark _))
              (xpss_one
                (xps_ret (xpe_un yun_neg xpe_int)))
              xpss_nil))))))
      (xpss_one
        (xps_ret (yqv 4 vl))))), ?_⟩
  rw [show start _ [V.ref a, V.ref bx, V.ref td, V.int w, V.int n] = [some (.ref a), some (.ref bx), some (.ref td), some (.int w), some (.int n), none] from rfl]
  simp only [y_v0, r_g0, y_v1, r_g1, y_v2, r_g2, y_v3, r_g3, y_v4, r_g4, y_v5, r_g5, y_v6, r_g6, y_v7, r_g7, y_v8, r_g8, y_v9, r_g9, y_v10, r_g10, y_v11, r_g11, y_v12, r_g12, y_v13, r_g13, y_v14, r_g14, y_v15, r_g15, r_c, r_op, r_un, y_I0, y_I, y_U, r_eqI, r_eqS, r_neI, r_neS, r_exbl, r_exint, r_test, r_B, r_and, r_or, r_not, r_andV, r_orV, r_notV, r_if, r_next, r_seqL, r_brk, r_cont, r_drop, r_ret, r_retN, r_ifSL, r_asg, r_CB, r_nil, r_cons, r_call, r_tup, r_lst, r_p0, r_pS, r_disp, r_dget, r_sl, r_noPart, r_part, r_gNil, r_gCons, r_itF, r_nT, r_nF, r_len0, r_len1, r_len2, r_len3, r_len4, r_len7, r_len8, r_for, r_iEnum, r_iList, r_iTup, r_iRng1, r_iRng2, r_exI1, r_exI2, r_exR, r_bm, r_bm0, r_ixS, r_ixL, r_ixT, r_cat, r_slL, r_append, r_exRl, r_intB, true_and, and_true, forall_const, Int.reduceLT, r_compG, r_setComp, r_yes, r_slT, r_inR, r_notInR, cxOf_K, wish_K, blk_K, r_blk1, r_blk2, List.map_cons, List.map_nil, List.getElem?_cons_zero, List.getElem?_cons_succ, Option.join_some, r_Vs, r_join, r_tyStr, r_dnewK, r_dput, r_exRp, r_gSub, List.set_cons_zero, List.set_cons_succ, r_midL, r_sfld, r_gfld, r_meth, r_make, r_iRev, r_listRev, r_listVals, r_slRev, r_dget2, r_listRng, r_kget1, r_iEnumT]
  have lx := hx.length
  have nab : a ≠ bx := fun z => by rw [z, hV.hb] at ha; cases ha
  generalize hR : GA.runL w n ⟨ss, b0, tl⟩ = R at q
  refine ⟨⟨_, SqL.of ha⟩, ?_⟩
  refine fw_list (xs := xs) (fun i σ H' => SameB bx td H H' ∧ ∃ (m : Nat) (b : Bx) (t : List Int) (o5 : Option V), BtV H' bx td ns w b t ∧ t.length + m ≤ 10000 ∧ R = GA.runL w m ⟨ss.drop i, b, t⟩ ∧ σ = [some (.ref a), some (.ref bx), some (.ref td), some (.int w), some (.int m), o5])
    ⟨SameB.refl, n, b0, tl, _, hV, hln, by rw [List.drop_zero, hR], rfl⟩ (fun i σ H' _ h => SqL.of (h.1 _ _ ha nab nat)) ?_ ?_
  · rintro i x σ H1 hxi ⟨s1, m, b, tt, o5, hV1, hl1, eR, rfl⟩
    obtain ⟨st, f', hs, hsv, hsub⟩ := hx.get hxi
    have hi : i < ss.length := (List.getElem?_eq_some_iff.mp hs).1
    have hse : ss[i] = st := (List.getElem?_eq_some_iff.mp hs).2
    have hds := deepL_mem (List.mem_of_getElem? hs)
    have hsg := good_mem hg (List.mem_of_getElem? hs)
    rw [List.drop_eq_getElem_cons hi, hse] at eR
    have ntf' : td ∉ f' := fun z => ntf (hsub _ z)
    have hsv1 := stm_sb hsv s1 hV.hb hV.ht ntf'
    simp only [y_v0, r_g0, y_v1, r_g1, y_v2, r_g2, y_v3, r_g3, y_v4, r_g4, y_v5, r_g5, y_v6, r_g6, y_v7, r_g7, y_v8, r_g8, y_v9, r_g9, y_v10, r_g10, y_v11, r_g11, y_v12, r_g12, y_v13, r_g13, y_v14, r_g14, y_v15, r_g15, r_c, r_op, r_un, y_I0, y_I, y_U, r_eqI, r_eqS, r_neI, r_neS, r_exbl, r_exint, r_test, r_B, r_and, r_or, r_not, r_andV, r_orV, r_notV, r_if, r_next, r_seqL, r_brk, r_cont, r_drop, r_ret, r_retN, r_ifSL, r_asg, r_CB, r_nil, r_cons, r_call, r_tup, r_lst, r_p0, r_pS, r_disp, r_dget, r_sl, r_noPart, r_part, r_gNil, r_gCons, r_itF, r_nT, r_nF, r_len0, r_len1, r_len2, r_len3, r_len4, r_len7, r_len8, r_for, r_iEnum, r_iList, r_iTup, r_iRng1, r_iRng2, r_exI1, r_exI2, r_exR, r_bm, r_bm0, r_ixS, r_ixL, r_ixT, r_cat, r_slL, r_append, r_exRl, r_intB, true_and, and_true, forall_const, Int.reduceLT, r_compG, r_setComp, r_yes, r_slT, r_inR, r_notInR, cxOf_K, wish_K, blk_K, r_blk1, r_blk2, List.map_cons, List.map_nil, List.getElem?_cons_zero, List.getElem?_cons_succ, Option.join_some, r_Vs, r_join, r_tyStr, r_dnewK, r_dput, r_exRp, r_gSub, List.set_cons_zero, List.set_cons_succ, r_midL, r_sfld, r_gfld, r_meth, r_make, r_iRev, r_listRev, r_listVals, r_slRev, r_dget2, r_listRng, r_kget1, r_iEnumT]
    refine ⟨fun σ H' => H' = H1 ∧ ∃ m' : Nat, m = m' + 1 ∧ σ = [some (.ref a), some (.ref bx), some (.ref td), some (.int w), some (.int m), some x], ?_, ?_⟩
    · refine ite_dec (fun e0 => later ?_) (fun e0 => later (show H1 = H1 ∧ ∃ m' : Nat, m = m' + 1 ∧ _ = _ from ⟨rfl, m - 1, by omega, rfl⟩))
      simp only [y_v0, r_g0, y_v1, r_g1, y_v2, r_g2, y_v3, r_g3, y_v4, r_g4, y_v5, r_g5, y_v6, r_g6, y_v7, r_g7, y_v8, r_g8, y_v9, r_g9, y_v10, r_g10, y_v11, r_g11, y_v12, r_g12, y_v13, r_g13, y_v14, r_g14, y_v15, r_g15, r_c, r_op, r_un, y_I0, y_I, y_U, r_eqI, r_eqS, r_neI, r_neS, r_exbl, r_exint, r_test, r_B, r_and, r_or, r_not, r_andV, r_orV, r_notV, r_if, r_next, r_seqL, r_brk, r_cont, r_drop, r_ret, r_retN, r_ifSL, r_asg, r_CB, r_nil, r_cons, r_call, r_tup, r_lst, r_p0, r_pS, r_disp, r_dget, r_sl, r_noPart, r_part, r_gNil, r_gCons, r_itF, r_nT, r_nF, r_len0, r_len1, r_len2, r_len3, r_len4, r_len7, r_len8, r_for, r_iEnum, r_iList, r_iTup, r_iRng1, r_iRng2, r_exI1, r_exI2, r_exR, r_bm, r_bm0, r_ixS, r_ixL, r_ixT, r_cat, r_slL, r_append, r_exRl, r_intB, true_and, and_true, forall_const, Int.reduceLT, r_compG, r_setComp, r_yes, r_slT, r_inR, r_notInR, cxOf_K, wish_K, blk_K, r_blk1, r_blk2, List.map_cons, List.map_nil, List.getElem?_cons_zero, List.getElem?_cons_succ, Option.join_some, r_Vs, r_join, r_tyStr, r_dnewK, r_dput, r_exRp, r_gSub, List.set_cons_zero, List.set_cons_succ, r_midL, r_sfld, r_gfld, r_meth, r_make, r_iRev, r_listRev, r_listVals, r_slRev, r_dget2, r_listRng, r_kget1, r_iEnumT]
      have em : m = 0 := by omega
      subst em
      rw [GA.runL_zero] at eR
      rw [eR] at q
      exact q H1 s1 hV1
    rintro σ H2 ⟨rfl, m', rfl, rfl⟩
    rw [GA.runL_succ] at eR
    refine later ?_
    simp only [y_v0, r_g0, y_v1, r_g1, y_v2, r_g2, y_v3, r_g3, y_v4, r_g4, y_v5, r_g5, y_v6, r_g6, y_v7, r_g7, y_v8, r_g8, y_v9, r_g9, y_v10, r_g10, y_v11, r_g11, y_v12, r_g12, y_v13, r_g13, y_v14, r_g14, y_v15, r_g15, r_c, r_op, r_un, y_I0, y_I, y_U, r_eqI, r_eqS, r_neI, r_neS, r_exbl, r_exint, r_test, r_B, r_and, r_or, r_not, r_andV, r_orV, r_notV, r_if, r_next, r_seqL, r_brk, r_cont, r_drop, r_ret, r_retN, r_ifSL, r_asg, r_CB, r_nil, r_cons, r_call, r_tup, r_lst, r_p0, r_pS, r_disp, r_dget, r_sl, r_noPart, r_part, r_gNil, r_gCons, r_itF, r_nT, r_nF, r_len0, r_len1, r_len2, r_len3, r_len4, r_len7, r_len8, r_for, r_iEnum, r_iList, r_iTup, r_iRng1, r_iRng2, r_exI1, r_exI2, r_exR, r_bm, r_bm0, r_ixS, r_ixL, r_ixT, r_cat, r_slL, r_append, r_exRl, r_intB, true_and, and_true, forall_const, Int.reduceLT, r_compG, r_setComp, r_yes, r_slT, r_inR, r_notInR, cxOf_K, wish_K, blk_K, r_blk1, r_blk2, List.map_cons, List.map_nil, List.getElem?_cons_zero, List.getElem?_cons_succ, Option.join_some, r_Vs, r_join, r_tyStr, r_dnewK, r_dput, r_exRp, r_gSub, List.set_cons_zero, List.set_cons_succ, r_midL, r_sfld, r_gfld, r_meth, r_make, r_iRev, r_listRev, r_listVals, r_slRev, r_dget2, r_listRng, r_kget1, r_iEnumT]
    refine later ?_
    simp only [y_v0, r_g0, y_v1, r_g1, y_v2, r_g2, y_v3, r_g3, y_v4, r_g4, y_v5, r_g5, y_v6, r_g6, y_v7, r_g7, y_v8, r_g8, y_v9, r_g9, y_v10, r_g10, y_v11, r_g11, y_v12, r_g12, y_v13, r_g13, y_v14, r_g14, y_v15, r_g15, r_c, r_op, r_un, y_I0, y_I, y_U, r_eqI, r_eqS, r_neI, r_neS, r_exbl, r_exint, r_test, r_B, r_and, r_or, r_not, r_andV, r_orV, r_notV, r_if, r_next, r_seqL, r_brk, r_cont, r_drop, r_ret, r_retN, r_ifSL, r_asg, r_CB, r_nil, r_cons, r_call, r_tup, r_lst, r_p0, r_pS, r_disp, r_dget, r_sl, r_noPart, r_part, r_gNil, r_gCons, r_itF, r_nT, r_nF, r_len0, r_len1, r_len2, r_len3, r_len4, r_len7, r_len8, r_for, r_iEnum, r_iList, r_iTup, r_iRng1, r_iRng2, r_exI1, r_exI2, r_exR, r_bm, r_bm0, r_ixS, r_ixL, r_ixT, r_cat, r_slL, r_append, r_exRl, r_intB, true_and, and_true, forall_const, Int.reduceLT, r_compG, r_setComp, r_yes, r_slT, r_inR, r_notInR, cxOf_K, wish_K, blk_K, r_blk1, r_blk2, List.map_cons, List.map_nil, List.getElem?_cons_zero, List.getElem?_cons_succ, Option.join_some, r_Vs, r_join, r_tyStr, r_dnewK, r_dput, r_exRp, r_gSub, List.set_cons_zero, List.set_cons_succ, r_midL, r_sfld, r_gfld, r_meth, r_make, r_iRev, r_listRev, r_listVals, r_slRev, r_dget2, r_listRng, r_kget1, r_iEnumT]
    rw [show ((m' + 1 : Nat) : Int) - 1 = (m' : Int) by omega]
    refine ⟨fun σ H' => ∃ (L : Int) (b' : Bx) (t' : List Int), SameB bx td H2 H' ∧ BtV H' bx td ns w b' t' ∧ ((∃ k : Nat, L = k ∧ t'.length + k ≤ 10000 ∧ R = GA.runL w k ⟨ss.drop (i + 1), b', t'⟩) ∨ (L < 0 ∧ R.1 = -1 ∧ R.2.bx = b' ∧ R.2.told = t')) ∧ σ = [some (.ref a), some (.ref bx), some (.ref td), some (.int w), some (.int L), some x], ?_, ?_⟩
    · cases hsv1 with
      | @deed q0 dd hf hq =>
        simp only [y_v0, r_g0, y_v1, r_g1, y_v2, r_g2, y_v3, r_g3, y_v4, r_g4, y_v5, r_g5, y_v6, r_g6, y_v7, r_g7, y_v8, r_g8, y_v9, r_g9, y_v10, r_g10, y_v11, r_g11, y_v12, r_g12, y_v13, r_g13, y_v14, r_g14, y_v15, r_g15, r_c, r_op, r_un, y_I0, y_I, y_U, r_eqI, r_eqS, r_neI, r_neS, r_exbl, r_exint, r_test, r_B, r_and, r_or, r_not, r_andV, r_orV, r_notV, r_if, r_next, r_seqL, r_brk, r_cont, r_drop, r_ret, r_retN, r_ifSL, r_asg, r_CB, r_nil, r_cons, r_call, r_tup, r_lst, r_p0, r_pS, r_disp, r_dget, r_sl, r_noPart, r_part, r_gNil, r_gCons, r_itF, r_nT, r_nF, r_len0, r_len1, r_len2, r_len3, r_len4, r_len7, r_len8, r_for, r_iEnum, r_iList, r_iTup, r_iRng1, r_iRng2, r_exI1, r_exI2, r_exR, r_bm, r_bm0, r_ixS, r_ixL, r_ixT, r_cat, r_slL, r_append, r_exRl, r_intB, true_and, and_true, forall_const, Int.reduceLT, r_compG, r_setComp, r_yes, r_slT, r_inR, r_notInR, cxOf_K, wish_K, blk_K, r_blk1, r_blk2, List.map_cons, List.map_nil, List.getElem?_cons_zero, List.getElem?_cons_succ, Option.join_some, r_Vs, r_join, r_tyStr, r_dnewK, r_dput, r_exRp, r_gSub, List.set_cons_zero, List.set_cons_succ, r_midL, r_sfld, r_gfld, r_meth, r_make, r_iRev, r_listRev, r_listVals, r_slRev, r_dget2, r_listRng, r_kget1, r_iEnumT]
        refine deed0 hf hq (by decide +kernel) (by decide +kernel) (by decide +kernel) ⟨_, rfl, ?_⟩
        rw [if_neg Bool.false_ne_true]
        refine later ?_
        simp only [y_v0, r_g0, y_v1, r_g1, y_v2, r_g2, y_v3, r_g3, y_v4, r_g4, y_v5, r_g5, y_v6, r_g6, y_v7, r_g7, y_v8, r_g8, y_v9, r_g9, y_v10, r_g10, y_v11, r_g11, y_v12, r_g12, y_v13, r_g13, y_v14, r_g14, y_v15, r_g15, r_c, r_op, r_un, y_I0, y_I, y_U, r_eqI, r_eqS, r_neI, r_neS, r_exbl, r_exint, r_test, r_B, r_and, r_or, r_not, r_andV, r_orV, r_notV, r_if, r_next, r_seqL, r_brk, r_cont, r_drop, r_ret, r_retN, r_ifSL, r_asg, r_CB, r_nil, r_cons, r_call, r_tup, r_lst, r_p0, r_pS, r_disp, r_dget, r_sl, r_noPart, r_part, r_gNil, r_gCons, r_itF, r_nT, r_nF, r_len0, r_len1, r_len2, r_len3, r_len4, r_len7, r_len8, r_for, r_iEnum, r_iList, r_iTup, r_iRng1, r_iRng2, r_exI1, r_exI2, r_exR, r_bm, r_bm0, r_ixS, r_ixL, r_ixT, r_cat, r_slL, r_append, r_exRl, r_intB, true_and, and_true, forall_const, Int.reduceLT, r_compG, r_setComp, r_yes, r_slT, r_inR, r_notInR, cxOf_K, wish_K, blk_K, r_blk1, r_blk2, List.map_cons, List.map_nil, List.getElem?_cons_zero, List.getElem?_cons_succ, Option.join_some, r_Vs, r_join, r_tyStr, r_dnewK, r_dput, r_exRp, r_gSub, List.set_cons_zero, List.set_cons_succ, r_midL, r_sfld, r_gfld, r_meth, r_make, r_iRev, r_listRev, r_listVals, r_slRev, r_dget2, r_listRng, r_kget1, r_iEnumT]
        refine deed0N hf hq (by decide +kernel) (by decide +kernel) (by decide +kernel) ⟨_, rfl, ?_⟩
        rw [if_pos rfl]
        refine later ?_
        simp only [y_v0, r_g0, y_v1, r_g1, y_v2, r_g2, y_v3, r_g3, y_v4, r_g4, y_v5, r_g5, y_v6, r_g6, y_v7, r_g7, y_v8, r_g8, y_v9, r_g9, y_v10, r_g10, y_v11, r_g11, y_v12, r_g12, y_v13, r_g13, y_v14, r_g14, y_v15, r_g15, r_c, r_op, r_un, y_I0, y_I, y_U, r_eqI, r_eqS, r_neI, r_neS, r_exbl, r_exint, r_test, r_B, r_and, r_or, r_not, r_andV, r_orV, r_notV, r_if, r_next, r_seqL, r_brk, r_cont, r_drop, r_ret, r_retN, r_ifSL, r_asg, r_CB, r_nil, r_cons, r_call, r_tup, r_lst, r_p0, r_pS, r_disp, r_dget, r_sl, r_noPart, r_part, r_gNil, r_gCons, r_itF, r_nT, r_nF, r_len0, r_len1, r_len2, r_len3, r_len4, r_len7, r_len8, r_for, r_iEnum, r_iList, r_iTup, r_iRng1, r_iRng2, r_exI1, r_exI2, r_exR, r_bm, r_bm0, r_ixS, r_ixL, r_ixT, r_cat, r_slL, r_append, r_exRl, r_intB, true_and, and_true, forall_const, Int.reduceLT, r_compG, r_setComp, r_yes, r_slT, r_inR, r_notInR, cxOf_K, wish_K, blk_K, r_blk1, r_blk2, List.map_cons, List.map_nil, List.getElem?_cons_zero, List.getElem?_cons_succ, Option.join_some, r_Vs, r_join, r_tyStr, r_dnewK, r_dput, r_exRp, r_gSub, List.set_cons_zero, List.set_cons_succ, r_midL, r_sfld, r_gfld, r_meth, r_make, r_iRev, r_listRev, r_listVals, r_slRev, r_dget2, r_listRng, r_kget1, r_iEnumT, r_ldo]
        have hl := GA.doT_len (w := w) (d := dd) (b := b) (t := tt)
        refine (mk_ldo (dd) (b) (ns) (tt) (hq) (hf) (hsg) (hV1.hb) (hV1.gd) (hV1.ht) (by omega) (w1) (w8) (fun H3 s3 e1 e2 => ?_))
        exact ⟨m', _, _, s3, ⟨e1, e2, hV1.gd.doB hsg w1⟩, .inl ⟨m', rfl, by omega, eR⟩, rfl⟩
      | @ifs q0 a1 c1 nm xs1 ys1 ones others f1 g1 hq ha1 hc1 h1 h2 =>
        simp only [y_v0, r_g0, y_v1, r_g1, y_v2, r_g2, y_v3, r_g3, y_v4, r_g4, y_v5, r_g5, y_v6, r_g6, y_v7, r_g7, y_v8, r_g8, y_v9, r_g9, y_v10, r_g10, y_v11, r_g11, y_v12, r_g12, y_v13, r_g13, y_v14, r_g14, y_v15, r_g15, r_c, r_op, r_un, y_I0, y_I, y_U, r_eqI, r_eqS, r_neI, r_neS, r_exbl, r_exint, r_test, r_B, r_and, r_or, r_not, r_andV, r_orV, r_notV, r_if, r_next, r_seqL, r_brk, r_cont, r_drop, r_ret, r_retN, r_ifSL, r_asg, r_CB, r_nil, r_cons, r_call, r_tup, r_lst, r_p0, r_pS, r_disp, r_dget, r_sl, r_noPart, r_part, r_gNil, r_gCons, r_itF, r_nT, r_nF, r_len0, r_len1, r_len2, r_len3, r_len4, r_len7, r_len8, r_for, r_iEnum, r_iList, r_iTup, r_iRng1, r_iRng2, r_exI1, r_exI2, r_exR, r_bm, r_bm0, r_ixS, r_ixL, r_ixT, r_cat, r_slL, r_append, r_exRl, r_intB, true_and, and_true, forall_const, Int.reduceLT, r_compG, r_setComp, r_yes, r_slT, r_inR, r_notInR, cxOf_K, wish_K, blk_K, r_blk1, r_blk2, List.map_cons, List.map_nil, List.getElem?_cons_zero, List.getElem?_cons_succ, Option.join_some, r_Vs, r_join, r_tyStr, r_dnewK, r_dput, r_exRp, r_gSub, List.set_cons_zero, List.set_cons_succ, r_midL, r_sfld, r_gfld, r_meth, r_make, r_iRev, r_listRev, r_listVals, r_slRev, r_dget2, r_listRng, r_kget1, r_iEnumT]
        refine ⟨_, _, hq, rfl, ?_⟩
        simp only [y_v0, r_g0, y_v1, r_g1, y_v2, r_g2, y_v3, r_g3, y_v4, r_g4, y_v5, r_g5, y_v6, r_g6, y_v7, r_g7, y_v8, r_g8, y_v9, r_g9, y_v10, r_g10, y_v11, r_g11, y_v12, r_g12, y_v13, r_g13, y_v14, r_g14, y_v15, r_g15, r_c, r_op, r_un, y_I0, y_I, y_U, r_eqI, r_eqS, r_neI, r_neS, r_exbl, r_exint, r_test, r_B, r_and, r_or, r_not, r_andV, r_orV, r_notV, r_if, r_next, r_seqL, r_brk, r_cont, r_drop, r_ret, r_retN, r_ifSL, r_asg, r_CB, r_nil, r_cons, r_call, r_tup, r_lst, r_p0, r_pS, r_disp, r_dget, r_sl, r_noPart, r_part, r_gNil, r_gCons, r_itF, r_nT, r_nF, r_len0, r_len1, r_len2, r_len3, r_len4, r_len7, r_len8, r_for, r_iEnum, r_iList, r_iTup, r_iRng1, r_iRng2, r_exI1, r_exI2, r_exR, r_bm, r_bm0, r_ixS, r_ixL, r_ixT, r_cat, r_slL, r_append, r_exRl, r_intB, true_and, and_true, forall_const, Int.reduceLT, r_compG, r_setComp, r_yes, r_slT, r_inR, r_notInR, cxOf_K, wish_K, blk_K, r_blk1, r_blk2, List.map_cons, List.map_nil, List.getElem?_cons_zero, List.getElem?_cons_succ, Option.join_some, r_Vs, r_join, r_tyStr, r_dnewK, r_dput, r_exRp, r_gSub, List.set_cons_zero, List.set_cons_succ, r_midL, r_sfld, r_gfld, r_meth, r_make, r_iRev, r_listRev, r_listVals, r_slRev, r_dget2, r_listRng, r_kget1, r_iEnumT]
        obtain ⟨gn, g1', g2'⟩ : nm ∈ ns ∧ goodL ns w ones ∧ goodL ns w others := hsg
        simp only [Stm.deep] at hds
        refine ite_dec (fun _ => later ?_) (fun z => absurd trivial z)
        simp only [y_v0, r_g0, y_v1, r_g1, y_v2, r_g2, y_v3, r_g3, y_v4, r_g4, y_v5, r_g5, y_v6, r_g6, y_v7, r_g7, y_v8, r_g8, y_v9, r_g9, y_v10, r_g10, y_v11, r_g11, y_v12, r_g12, y_v13, r_g13, y_v14, r_g14, y_v15, r_g15, r_c, r_op, r_un, y_I0, y_I, y_U, r_eqI, r_eqS, r_neI, r_neS, r_exbl, r_exint, r_test, r_B, r_and, r_or, r_not, r_andV, r_orV, r_notV, r_if, r_next, r_seqL, r_brk, r_cont, r_drop, r_ret, r_retN, r_ifSL, r_asg, r_CB, r_nil, r_cons, r_call, r_tup, r_lst, r_p0, r_pS, r_disp, r_dget, r_sl, r_noPart, r_part, r_gNil, r_gCons, r_itF, r_nT, r_nF, r_len0, r_len1, r_len2, r_len3, r_len4, r_len7, r_len8, r_for, r_iEnum, r_iList, r_iTup, r_iRng1, r_iRng2, r_exI1, r_exI2, r_exR, r_bm, r_bm0, r_ixS, r_ixL, r_ixT, r_cat, r_slL, r_append, r_exRl, r_intB, true_and, and_true, forall_const, Int.reduceLT, r_compG, r_setComp, r_yes, r_slT, r_inR, r_notInR, cxOf_K, wish_K, blk_K, r_blk1, r_blk2, List.map_cons, List.map_nil, List.getElem?_cons_zero, List.getElem?_cons_succ, Option.join_some, r_Vs, r_join, r_tyStr, r_dnewK, r_dput, r_exRp, r_gSub, List.set_cons_zero, List.set_cons_succ, r_midL, r_sfld, r_gfld, r_meth, r_make, r_iRev, r_listRev, r_listVals, r_slRev, r_dget2, r_listRng, r_kget1, r_iEnumT]
        refine ⟨_, _, hq, rfl, bx, _, rfl, hV1.get gn, ?_⟩
        simp only [y_v0, r_g0, y_v1, r_g1, y_v2, r_g2, y_v3, r_g3, y_v4, r_g4, y_v5, r_g5, y_v6, r_g6, y_v7, r_g7, y_v8, r_g8, y_v9, r_g9, y_v10, r_g10, y_v11, r_g11, y_v12, r_g12, y_v13, r_g13, y_v14, r_g14, y_v15, r_g15, r_c, r_op, r_un, y_I0, y_I, y_U, r_eqI, r_eqS, r_neI, r_neS, r_exbl, r_exint, r_test, r_B, r_and, r_or, r_not, r_andV, r_orV, r_notV, r_if, r_next, r_seqL, r_brk, r_cont, r_drop, r_ret, r_retN, r_ifSL, r_asg, r_CB, r_nil, r_cons, r_call, r_tup, r_lst, r_p0, r_pS, r_disp, r_dget, r_sl, r_noPart, r_part, r_gNil, r_gCons, r_itF, r_nT, r_nF, r_len0, r_len1, r_len2, r_len3, r_len4, r_len7, r_len8, r_for, r_iEnum, r_iList, r_iTup, r_iRng1, r_iRng2, r_exI1, r_exI2, r_exR, r_bm, r_bm0, r_ixS, r_ixL, r_ixT, r_cat, r_slL, r_append, r_exRl, r_intB, true_and, and_true, forall_const, Int.reduceLT, r_compG, r_setComp, r_yes, r_slT, r_inR, r_notInR, cxOf_K, wish_K, blk_K, r_blk1, r_blk2, List.map_cons, List.map_nil, List.getElem?_cons_zero, List.getElem?_cons_succ, Option.join_some, r_Vs, r_join, r_tyStr, r_dnewK, r_dput, r_exRp, r_gSub, List.set_cons_zero, List.set_cons_succ, r_midL, r_sfld, r_gfld, r_meth, r_make, r_iRev, r_listRev, r_listVals, r_slRev, r_dget2, r_listRng, r_kget1, r_iEnumT]
        have na1 : a1 ≠ td := fun z => ntf' (by rw [← z]; simp)
        have nc1 : c1 ≠ td := fun z => ntf' (by rw [← z]; simp)
        have nf1 : td ∉ f1 := fun z => ntf' (by simp [z])
        have ng1 : td ∉ g1 := fun z => ntf' (by simp [z])
        have key : ∀ (ad : Addr) (xs' : List V) (l : List Stm) (fl : List Addr), H2 ad = some (.lst xs') → StmsV K H2 xs' l fl → ad ≠ td → td ∉ fl → deepL l < d → goodL ns w l → (if bxGet b nm ≠ 0 then ones else others) = l → bd_lthr K d ad bx td w m' H2 fun x H1 => ∃ (L : Int) (b' : Bx) (t' : List Int), SameB bx td H2 H1 ∧ BtV H1 bx td ns w b' t' ∧ ((∃ k : Nat, L = k ∧ t'.length + k ≤ 10000 ∧ R = GA.runL w k ⟨ss.drop (i + 1), b', t'⟩) ∨ (L < 0 ∧ R.1 = -1 ∧ R.2.bx = b' ∧ R.2.told = t')) ∧ [some (V.ref a), some (V.ref bx), some (V.ref td), some (V.int w), some x, some (V.ref q0)] = [some (V.ref a), some (V.ref bx), some (V.ref td), some (V.int w), some (V.int L), some (V.ref q0)] := by
          intro ad xs' l fl k1 k2 k3 k4 k5 k6 k7
          have eR' : R = GA.runL w m' ⟨l ++ ss.drop (i + 1), b, tt⟩ := by rw [← k7]; exact eR
          have hG := GA.GSt.runL w1 (n := m') (s := ⟨l, b, tt⟩) ⟨hV1.gd, k6⟩
          have hle := GA.runL_le (w := w) (n := m') (s := ⟨l, b, tt⟩)
          refine (mk_lthr (xs') (l) (fl) (b) (ns) (tt) (m') (rfl) (k1) (k2) (k3) (k4) (k5) (k6) (hV1) (by omega) (w1) (w8) (fun H3 s3 hV3 => ⟨_, _, _, s3, hV3, ?_, rfl⟩))
          have happ := GA.runL_app (w := w) (r := ss.drop (i + 1)) (n := m') (l := l) (b := b) (t := tt)
          have hlt : ∀ k : Nat, (GA.runL w m' ⟨l, b, tt⟩).1 = k → (GA.runL w m' ⟨l, b, tt⟩).2.told.length + k ≤ tt.length + m' := fun k hk => GA.runL_told hk
          rcases happ with ⟨k, h3, h4⟩ | ⟨h3, h4⟩
          · exact .inl ⟨k, h3, by have := hlt k h3; omega, by rw [eR', h4]⟩
          · rw [h4] at eR'
            rw [eR', h3]
            exact .inr ⟨by decide, rfl, rfl, rfl⟩
        by_cases e0 : bxGet b nm = 0
        · rw [if_pos (by simpa using e0)]
          refine ⟨_, _, hq, rfl, ?_⟩
          rw [r_lthr]
          exact key c1 ys1 others g1 hc1 h2 nc1 ng1 (by omega) g2' (by rw [if_neg (by simpa using e0)])
        · rw [if_neg (by simpa using e0)]
          refine ⟨_, _, hq, rfl, ?_⟩
          rw [r_lthr]
          exact key a1 xs1 ones f1 ha1 h1 na1 nf1 (by omega) g1' (by rw [if_pos e0])
      | @whl q0 a1 nm xs1 rows f1 hq ha1 h1 =>
        simp only [y_v0, r_g0, y_v1, r_g1, y_v2, r_g2, y_v3, r_g3, y_v4, r_g4, y_v5, r_g5, y_v6, r_g6, y_v7, r_g7, y_v8, r_g8, y_v9, r_g9, y_v10, r_g10, y_v11, r_g11, y_v12, r_g12, y_v13, r_g13, y_v14, r_g14, y_v15, r_g15, r_c, r_op, r_un, y_I0, y_I, y_U, r_eqI, r_eqS, r_neI, r_neS, r_exbl, r_exint, r_test, r_B, r_and, r_or, r_not, r_andV, r_orV, r_notV, r_if, r_next, r_seqL, r_brk, r_cont, r_drop, r_ret, r_retN, r_ifSL, r_asg, r_CB, r_nil, r_cons, r_call, r_tup, r_lst, r_p0, r_pS, r_disp, r_dget, r_sl, r_noPart, r_part, r_gNil, r_gCons, r_itF, r_nT, r_nF, r_len0, r_len1, r_len2, r_len3, r_len4, r_len7, r_len8, r_for, r_iEnum, r_iList, r_iTup, r_iRng1, r_iRng2, r_exI1, r_exI2, r_exR, r_bm, r_bm0, r_ixS, r_ixL, r_ixT, r_cat, r_slL, r_append, r_exRl, r_intB, true_and, and_true, forall_const, Int.reduceLT, r_compG, r_setComp, r_yes, r_slT, r_inR, r_notInR, cxOf_K, wish_K, blk_K, r_blk1, r_blk2, List.map_cons, List.map_nil, List.getElem?_cons_zero, List.getElem?_cons_succ, Option.join_some, r_Vs, r_join, r_tyStr, r_dnewK, r_dput, r_exRp, r_gSub, List.set_cons_zero, List.set_cons_succ, r_midL, r_sfld, r_gfld, r_meth, r_make, r_iRev, r_listRev, r_listVals, r_slRev, r_dget2, r_listRng, r_kget1, r_iEnumT]
        refine ⟨_, _, hq, rfl, ?_⟩
        simp only [y_v0, r_g0, y_v1, r_g1, y_v2, r_g2, y_v3, r_g3, y_v4, r_g4, y_v5, r_g5, y_v6, r_g6, y_v7, r_g7, y_v8, r_g8, y_v9, r_g9, y_v10, r_g10, y_v11, r_g11, y_v12, r_g12, y_v13, r_g13, y_v14, r_g14, y_v15, r_g15, r_c, r_op, r_un, y_I0, y_I, y_U, r_eqI, r_eqS, r_neI, r_neS, r_exbl, r_exint, r_test, r_B, r_and, r_or, r_not, r_andV, r_orV, r_notV, r_if, r_next, r_seqL, r_brk, r_cont, r_drop, r_ret, r_retN, r_ifSL, r_asg, r_CB, r_nil, r_cons, r_call, r_tup, r_lst, r_p0, r_pS, r_disp, r_dget, r_sl, r_noPart, r_part, r_gNil, r_gCons, r_itF, r_nT, r_nF, r_len0, r_len1, r_len2, r_len3, r_len4, r_len7, r_len8, r_for, r_iEnum, r_iList, r_iTup, r_iRng1, r_iRng2, r_exI1, r_exI2, r_exR, r_bm, r_bm0, r_ixS, r_ixL, r_ixT, r_cat, r_slL, r_append, r_exRl, r_intB, true_and, and_true, forall_const, Int.reduceLT, r_compG, r_setComp, r_yes, r_slT, r_inR, r_notInR, cxOf_K, wish_K, blk_K, r_blk1, r_blk2, List.map_cons, List.map_nil, List.getElem?_cons_zero, List.getElem?_cons_succ, Option.join_some, r_Vs, r_join, r_tyStr, r_dnewK, r_dput, r_exRp, r_gSub, List.set_cons_zero, List.set_cons_succ, r_midL, r_sfld, r_gfld, r_meth, r_make, r_iRev, r_listRev, r_listVals, r_slRev, r_dget2, r_listRng, r_kget1, r_iEnumT]
        refine ite_dec (fun z => absurd z (by decide +kernel)) (fun _ => later ?_)
        simp only [y_v0, r_g0, y_v1, r_g1, y_v2, r_g2, y_v3, r_g3, y_v4, r_g4, y_v5, r_g5, y_v6, r_g6, y_v7, r_g7, y_v8, r_g8, y_v9, r_g9, y_v10, r_g10, y_v11, r_g11, y_v12, r_g12, y_v13, r_g13, y_v14, r_g14, y_v15, r_g15, r_c, r_op, r_un, y_I0, y_I, y_U, r_eqI, r_eqS, r_neI, r_neS, r_exbl, r_exint, r_test, r_B, r_and, r_or, r_not, r_andV, r_orV, r_notV, r_if, r_next, r_seqL, r_brk, r_cont, r_drop, r_ret, r_retN, r_ifSL, r_asg, r_CB, r_nil, r_cons, r_call, r_tup, r_lst, r_p0, r_pS, r_disp, r_dget, r_sl, r_noPart, r_part, r_gNil, r_gCons, r_itF, r_nT, r_nF, r_len0, r_len1, r_len2, r_len3, r_len4, r_len7, r_len8, r_for, r_iEnum, r_iList, r_iTup, r_iRng1, r_iRng2, r_exI1, r_exI2, r_exR, r_bm, r_bm0, r_ixS, r_ixL, r_ixT, r_cat, r_slL, r_append, r_exRl, r_intB, true_and, and_true, forall_const, Int.reduceLT, r_compG, r_setComp, r_yes, r_slT, r_inR, r_notInR, cxOf_K, wish_K, blk_K, r_blk1, r_blk2, List.map_cons, List.map_nil, List.getElem?_cons_zero, List.getElem?_cons_succ, Option.join_some, r_Vs, r_join, r_tyStr, r_dnewK, r_dput, r_exRp, r_gSub, List.set_cons_zero, List.set_cons_succ, r_midL, r_sfld, r_gfld, r_meth, r_make, r_iRev, r_listRev, r_listVals, r_slRev, r_dget2, r_listRng, r_kget1, r_iEnumT]
        refine ⟨_, _, hq, rfl, ?_⟩
        simp only [y_v0, r_g0, y_v1, r_g1, y_v2, r_g2, y_v3, r_g3, y_v4, r_g4, y_v5, r_g5, y_v6, r_g6, y_v7, r_g7, y_v8, r_g8, y_v9, r_g9, y_v10, r_g10, y_v11, r_g11, y_v12, r_g12, y_v13, r_g13, y_v14, r_g14, y_v15, r_g15, r_c, r_op, r_un, y_I0, y_I, y_U, r_eqI, r_eqS, r_neI, r_neS, r_exbl, r_exint, r_test, r_B, r_and, r_or, r_not, r_andV, r_orV, r_notV, r_if, r_next, r_seqL, r_brk, r_cont, r_drop, r_ret, r_retN, r_ifSL, r_asg, r_CB, r_nil, r_cons, r_call, r_tup, r_lst, r_p0, r_pS, r_disp, r_dget, r_sl, r_noPart, r_part, r_gNil, r_gCons, r_itF, r_nT, r_nF, r_len0, r_len1, r_len2, r_len3, r_len4, r_len7, r_len8, r_for, r_iEnum, r_iList, r_iTup, r_iRng1, r_iRng2, r_exI1, r_exI2, r_exR, r_bm, r_bm0, r_ixS, r_ixL, r_ixT, r_cat, r_slL, r_append, r_exRl, r_intB, true_and, and_true, forall_const, Int.reduceLT, r_compG, r_setComp, r_yes, r_slT, r_inR, r_notInR, cxOf_K, wish_K, blk_K, r_blk1, r_blk2, List.map_cons, List.map_nil, List.getElem?_cons_zero, List.getElem?_cons_succ, Option.join_some, r_Vs, r_join, r_tyStr, r_dnewK, r_dput, r_exRp, r_gSub, List.set_cons_zero, List.set_cons_succ, r_midL, r_sfld, r_gfld, r_meth, r_make, r_iRev, r_listRev, r_listVals, r_slRev, r_dget2, r_listRng, r_kget1, r_iEnumT]
        rw [if_neg (by decide)]
        refine later ?_
        obtain ⟨gn, g1'⟩ : nm ∈ ns ∧ goodL ns w rows := hsg
        simp only [Stm.deep] at hds
        have na1 : a1 ≠ td := fun z => ntf' (by rw [← z]; simp)
        have nb1 : a1 ≠ bx := fun z => by rw [z, hV1.hb] at ha1; cases ha1
        have nf1 : td ∉ f1 := fun z => ntf' (by simp [z])
        refine while_own (fun σ H' => ∃ (L : Int) (b' : Bx) (t' : List Int), SameB bx td H2 H' ∧ BtV H' bx td ns w b' t' ∧ ((∃ k : Nat, L = k ∧ t'.length + k ≤ 10000 ∧ R = GA.runL w k ⟨if bxGet b' nm ≠ 0 then rows ++ .whl nm rows :: ss.drop (i + 1) else ss.drop (i + 1), b', t'⟩) ∨ (L < 0 ∧ R.1 = -1 ∧ R.2.bx = b' ∧ R.2.told = t')) ∧ σ = [some (.ref a), some (.ref bx), some (.ref td), some (.int w), some (.int L), some (.ref q0)])
          (fun (σ : L2.St) (_ : Hp) => match σ[4]? with | some (some (V.int L)) => (L + 1).toNat | _ => 0) ⟨m', b, tt, SameB.refl, hV1, .inl ⟨m', rfl, by omega, eR⟩, rfl⟩ ?_
        rintro σ H3 ⟨L, b', t', s3, hV3, hor, rfl⟩
        have hq3 := (SameB.ts s3 hV1.hb hV1.ht).seqT hq
        simp only [y_v0, r_g0, y_v1, r_g1, y_v2, r_g2, y_v3, r_g3, y_v4, r_g4, y_v5, r_g5, y_v6, r_g6, y_v7, r_g7, y_v8, r_g8, y_v9, r_g9, y_v10, r_g10, y_v11, r_g11, y_v12, r_g12, y_v13, r_g13, y_v14, r_g14, y_v15, r_g15, r_c, r_op, r_un, y_I0, y_I, y_U, r_eqI, r_eqS, r_neI, r_neS, r_exbl, r_exint, r_test, r_B, r_and, r_or, r_not, r_andV, r_orV, r_notV, r_if, r_next, r_seqL, r_brk, r_cont, r_drop, r_ret, r_retN, r_ifSL, r_asg, r_CB, r_nil, r_cons, r_call, r_tup, r_lst, r_p0, r_pS, r_disp, r_dget, r_sl, r_noPart, r_part, r_gNil, r_gCons, r_itF, r_nT, r_nF, r_len0, r_len1, r_len2, r_len3, r_len4, r_len7, r_len8, r_for, r_iEnum, r_iList, r_iTup, r_iRng1, r_iRng2, r_exI1, r_exI2, r_exR, r_bm, r_bm0, r_ixS, r_ixL, r_ixT, r_cat, r_slL, r_append, r_exRl, r_intB, true_and, and_true, forall_const, Int.reduceLT, r_compG, r_setComp, r_yes, r_slT, r_inR, r_notInR, cxOf_K, wish_K, blk_K, r_blk1, r_blk2, List.map_cons, List.map_nil, List.getElem?_cons_zero, List.getElem?_cons_succ, Option.join_some, r_Vs, r_join, r_tyStr, r_dnewK, r_dput, r_exRp, r_gSub, List.set_cons_zero, List.set_cons_succ, r_midL, r_sfld, r_gfld, r_meth, r_make, r_iRev, r_listRev, r_listVals, r_slRev, r_dget2, r_listRng, r_kget1, r_iEnumT]
        refine ⟨_, _, hq3, rfl, bx, _, rfl, hV3.get gn, ?_⟩
        simp only [y_v0, r_g0, y_v1, r_g1, y_v2, r_g2, y_v3, r_g3, y_v4, r_g4, y_v5, r_g5, y_v6, r_g6, y_v7, r_g7, y_v8, r_g8, y_v9, r_g9, y_v10, r_g10, y_v11, r_g11, y_v12, r_g12, y_v13, r_g13, y_v14, r_g14, y_v15, r_g15, r_c, r_op, r_un, y_I0, y_I, y_U, r_eqI, r_eqS, r_neI, r_neS, r_exbl, r_exint, r_test, r_B, r_and, r_or, r_not, r_andV, r_orV, r_notV, r_if, r_next, r_seqL, r_brk, r_cont, r_drop, r_ret, r_retN, r_ifSL, r_asg, r_CB, r_nil, r_cons, r_call, r_tup, r_lst, r_p0, r_pS, r_disp, r_dget, r_sl, r_noPart, r_part, r_gNil, r_gCons, r_itF, r_nT, r_nF, r_len0, r_len1, r_len2, r_len3, r_len4, r_len7, r_len8, r_for, r_iEnum, r_iList, r_iTup, r_iRng1, r_iRng2, r_exI1, r_exI2, r_exR, r_bm, r_bm0, r_ixS, r_ixL, r_ixT, r_cat, r_slL, r_append, r_exRl, r_intB, true_and, and_true, forall_const, Int.reduceLT, r_compG, r_setComp, r_yes, r_slT, r_inR, r_notInR, cxOf_K, wish_K, blk_K, r_blk1, r_blk2, List.map_cons, List.map_nil, List.getElem?_cons_zero, List.getElem?_cons_succ, Option.join_some, r_Vs, r_join, r_tyStr, r_dnewK, r_dput, r_exRp, r_gSub, List.set_cons_zero, List.set_cons_succ, r_midL, r_sfld, r_gfld, r_meth, r_make, r_iRev, r_listRev, r_listVals, r_slRev, r_dget2, r_listRng, r_kget1, r_iEnumT]
        have hb0 := hV3.gd.get gn
        by_cases e0 : bxGet b' nm = 0
        · rw [if_neg (by simp [e0])]
          refine ⟨L, b', t', s3, hV3, ?_, rfl⟩
          rcases hor with ⟨k, h3, h4, h5⟩ | h3
          · rw [if_neg (by simpa using e0)] at h5
            exact .inl ⟨k, h3, h4, h5⟩
          · exact .inr h3
        · rw [if_pos (by simp; omega)]
          rcases hor with ⟨k, rfl, h4, h5⟩ | h3
          · rw [if_pos e0] at h5
            rw [if_pos (by simp)]
            refine ⟨fun σ' H' => ∃ L' : Int, L' < k ∧ ∃ (b' : Bx) (t' : List Int), SameB bx td H2 H' ∧ BtV H' bx td ns w b' t' ∧ ((∃ k : Nat, L' = k ∧ t'.length + k ≤ 10000 ∧ R = GA.runL w k ⟨if bxGet b' nm ≠ 0 then rows ++ .whl nm rows :: ss.drop (i + 1) else ss.drop (i + 1), b', t'⟩) ∨ (L' < 0 ∧ R.1 = -1 ∧ R.2.bx = b' ∧ R.2.told = t')) ∧ σ' = [some (.ref a), some (.ref bx), some (.ref td), some (.int w), some (.int L'), some (.ref q0)], ?_, ?_⟩
            · rintro σ' H' ⟨L', hL, b2, t2, k1, k2, k3, rfl⟩
              refine ⟨_, ?_, rfl, L', b2, t2, k1, k2, k3, rfl⟩
              show (L' + 1).toNat < ((k : Int) + 1).toNat
              omega
            · refine ⟨_, _, hq3, rfl, ?_⟩
              rw [r_lthr]
              refine (mk_lthr (xs1) (rows) (f1) (b') (ns) (t') (k) (rfl) (s3 _ _ ha1 nb1 na1) (stms_sb h1 s3 hV1.hb hV1.ht nf1) (na1) (nf1) (by omega) (g1') (hV3) (by omega) (w1) (w8) (fun H4 s4 hV4 => ?_))
              simp_arith [r_listRng, r_kget1, r_iEnumT]
              have happ := GA.runL_app (w := w) (r := .whl nm rows :: ss.drop (i + 1)) (n := k) (l := rows) (b := b') (t := t')
              have hle := GA.runL_le (w := w) (n := k) (s := ⟨rows, b', t'⟩)
              have hlt : ∀ j : Nat, (GA.runL w k ⟨rows, b', t'⟩).1 = j → (GA.runL w k ⟨rows, b', t'⟩).2.told.length + j ≤ t'.length + k := fun j hj => GA.runL_told hj
              refine ⟨_, by omega, _, _, s3.trans s4, hV4, ?_, rfl⟩
              rcases happ with ⟨j, h6, h7⟩ | ⟨h6, h7⟩
              · have hj := hlt j h6
                rw [h7] at h5
                rw [h6]
                cases j with
                | zero =>
                  rw [GA.runL_zero] at h5
                  rw [h5]
                  exact .inr ⟨by decide, rfl, rfl, rfl⟩
                | succ j =>
                  rw [GA.runL_succ] at h5
                  exact .inl ⟨j, by omega, by omega, h5⟩
              · rw [h7] at h5
                rw [h5, h6]
                exact .inr ⟨by decide, rfl, rfl, rfl⟩
          · rw [if_neg (by simpa using h3.1)]
            exact ⟨L, b', t', s3, hV3, .inr h3, rfl⟩
    rintro σ H3 ⟨L, b', t', s3, hV3, hor, rfl⟩
    refine later ?_
    simp only [y_v0, r_g0, y_v1, r_g1, y_v2, r_g2, y_v3, r_g3, y_v4, r_g4, y_v5, r_g5, y_v6, r_g6, y_v7, r_g7, y_v8, r_g8, y_v9, r_g9, y_v10, r_g10, y_v11, r_g11, y_v12, r_g12, y_v13, r_g13, y_v14, r_g14, y_v15, r_g15, r_c, r_op, r_un, y_I0, y_I, y_U, r_eqI, r_eqS, r_neI, r_neS, r_exbl, r_exint, r_test, r_B, r_and, r_or, r_not, r_andV, r_orV, r_notV, r_if, r_next, r_seqL, r_brk, r_cont, r_drop, r_ret, r_retN, r_ifSL, r_asg, r_CB, r_nil, r_cons, r_call, r_tup, r_lst, r_p0, r_pS, r_disp, r_dget, r_sl, r_noPart, r_part, r_gNil, r_gCons, r_itF, r_nT, r_nF, r_len0, r_len1, r_len2, r_len3, r_len4, r_len7, r_len8, r_for, r_iEnum, r_iList, r_iTup, r_iRng1, r_iRng2, r_exI1, r_exI2, r_exR, r_bm, r_bm0, r_ixS, r_ixL, r_ixT, r_cat, r_slL, r_append, r_exRl, r_intB, true_and, and_true, forall_const, Int.reduceLT, r_compG, r_setComp, r_yes, r_slT, r_inR, r_notInR, cxOf_K, wish_K, blk_K, r_blk1, r_blk2, List.map_cons, List.map_nil, List.getElem?_cons_zero, List.getElem?_cons_succ, Option.join_some, r_Vs, r_join, r_tyStr, r_dnewK, r_dput, r_exRp, r_gSub, List.set_cons_zero, List.set_cons_succ, r_midL, r_sfld, r_gfld, r_meth, r_make, r_iRev, r_listRev, r_listVals, r_slRev, r_dget2, r_listRng, r_kget1, r_iEnumT]
    have s03 := s1.trans s3
    rcases hor with ⟨k, rfl, hk, e3⟩ | ⟨h1, h2, h3, h4⟩
    · rw [if_neg (by simp)]
      refine later ?_
      simp only [y_v0, r_g0, y_v1, r_g1, y_v2, r_g2, y_v3, r_g3, y_v4, r_g4, y_v5, r_g5, y_v6, r_g6, y_v7, r_g7, y_v8, r_g8, y_v9, r_g9, y_v10, r_g10, y_v11, r_g11, y_v12, r_g12, y_v13, r_g13, y_v14, r_g14, y_v15, r_g15, r_c, r_op, r_un, y_I0, y_I, y_U, r_eqI, r_eqS, r_neI, r_neS, r_exbl, r_exint, r_test, r_B, r_and, r_or, r_not, r_andV, r_orV, r_notV, r_if, r_next, r_seqL, r_brk, r_cont, r_drop, r_ret, r_retN, r_ifSL, r_asg, r_CB, r_nil, r_cons, r_call, r_tup, r_lst, r_p0, r_pS, r_disp, r_dget, r_sl, r_noPart, r_part, r_gNil, r_gCons, r_itF, r_nT, r_nF, r_len0, r_len1, r_len2, r_len3, r_len4, r_len7, r_len8, r_for, r_iEnum, r_iList, r_iTup, r_iRng1, r_iRng2, r_exI1, r_exI2, r_exR, r_bm, r_bm0, r_ixS, r_ixL, r_ixT, r_cat, r_slL, r_append, r_exRl, r_intB, true_and, and_true, forall_const, Int.reduceLT, r_compG, r_setComp, r_yes, r_slT, r_inR, r_notInR, cxOf_K, wish_K, blk_K, r_blk1, r_blk2, List.map_cons, List.map_nil, List.getElem?_cons_zero, List.getElem?_cons_succ, Option.join_some, r_Vs, r_join, r_tyStr, r_dnewK, r_dput, r_exRp, r_gSub, List.set_cons_zero, List.set_cons_succ, r_midL, r_sfld, r_gfld, r_meth, r_make, r_iRev, r_listRev, r_listVals, r_slRev, r_dget2, r_listRng, r_kget1, r_iEnumT]
      exact ⟨s03, k, b', t', _, hV3, hk, e3, rfl⟩
    · rw [if_pos (by simpa using h1)]
      refine later ?_
      simp only [y_v0, r_g0, y_v1, r_g1, y_v2, r_g2, y_v3, r_g3, y_v4, r_g4, y_v5, r_g5, y_v6, r_g6, y_v7, r_g7, y_v8, r_g8, y_v9, r_g9, y_v10, r_g10, y_v11, r_g11, y_v12, r_g12, y_v13, r_g13, y_v14, r_g14, y_v15, r_g15, r_c, r_op, r_un, y_I0, y_I, y_U, r_eqI, r_eqS, r_neI, r_neS, r_exbl, r_exint, r_test, r_B, r_and, r_or, r_not, r_andV, r_orV, r_notV, r_if, r_next, r_seqL, r_brk, r_cont, r_drop, r_ret, r_retN, r_ifSL, r_asg, r_CB, r_nil, r_cons, r_call, r_tup, r_lst, r_p0, r_pS, r_disp, r_dget, r_sl, r_noPart, r_part, r_gNil, r_gCons, r_itF, r_nT, r_nF, r_len0, r_len1, r_len2, r_len3, r_len4, r_len7, r_len8, r_for, r_iEnum, r_iList, r_iTup, r_iRng1, r_iRng2, r_exI1, r_exI2, r_exR, r_bm, r_bm0, r_ixS, r_ixL, r_ixT, r_cat, r_slL, r_append, r_exRl, r_intB, true_and, and_true, forall_const, Int.reduceLT, r_compG, r_setComp, r_yes, r_slT, r_inR, r_notInR, cxOf_K, wish_K, blk_K, r_blk1, r_blk2, List.map_cons, List.map_nil, List.getElem?_cons_zero, List.getElem?_cons_succ, Option.join_some, r_Vs, r_join, r_tyStr, r_dnewK, r_dput, r_exRp, r_gSub, List.set_cons_zero, List.set_cons_succ, r_midL, r_sfld, r_gfld, r_meth, r_make, r_iRev, r_listRev, r_listVals, r_slRev, r_dget2, r_listRng, r_kget1, r_iEnumT]
      rw [← h3, ← h4] at hV3
      rw [h2] at q
      exact q H3 s03 hV3
  · rintro σ H1 ⟨s1, m, b, tt, o5, hV1, hl1, eR, rfl⟩
    rw [lx, List.drop_length, GA.runL_nil] at eR
    refine later ?_
    simp only [y_v0, r_g0, y_v1, r_g1, y_v2, r_g2, y_v3, r_g3, y_v4, r_g4, y_v5, r_g5, y_v6, r_g6, y_v7, r_g7, y_v8, r_g8, y_v9, r_g9, y_v10, r_g10, y_v11, r_g11, y_v12, r_g12, y_v13, r_g13, y_v14, r_g14, y_v15, r_g15, r_c, r_op, r_un, y_I0, y_I, y_U, r_eqI, r_eqS, r_neI, r_neS, r_exbl, r_exint, r_test, r_B, r_and, r_or, r_not, r_andV, r_orV, r_notV, r_if, r_next, r_seqL, r_brk, r_cont, r_drop, r_ret, r_retN, r_ifSL, r_asg, r_CB, r_nil, r_cons, r_call, r_tup, r_lst, r_p0, r_pS, r_disp, r_dget, r_sl, r_noPart, r_part, r_gNil, r_gCons, r_itF, r_nT, r_nF, r_len0, r_len1, r_len2, r_len3, r_len4, r_len7, r_len8, r_for, r_iEnum, r_iList, r_iTup, r_iRng1, r_iRng2, r_exI1, r_exI2, r_exR, r_bm, r_bm0, r_ixS, r_ixL, r_ixT, r_cat, r_slL, r_append, r_exRl, r_intB, true_and, and_true, forall_const, Int.reduceLT, r_compG, r_setComp, r_yes, r_slT, r_inR, r_notInR, cxOf_K, wish_K, blk_K, r_blk1, r_blk2, List.map_cons, List.map_nil, List.getElem?_cons_zero, List.getElem?_cons_succ, Option.join_some, r_Vs, r_join, r_tyStr, r_dnewK, r_dput, r_exRp, r_gSub, List.set_cons_zero, List.set_cons_succ, r_midL, r_sfld, r_gfld, r_meth, r_make, r_iRev, r_listRev, r_listVals, r_slRev, r_dget2, r_listRng, r_kget1, r_iEnumT]
    rw [eR] at q
    exact q H1 s1 hV1
theorem ok_lthr (T : Txt K mg t) : ∀ d, FnOk P w K mg base CX0 (d + 3) t.f__law_through t.e__law_through ["_law_rows", "_law_boxes", "_law_said", "_law_width", "_law_left"] (sp_lthr K d)
  | 0 => ⟨fun vs H Q E h => by obtain ⟨_, _, _, _, _, _, _, _, _, _, _, _, _, _, _, _, _, _, h, _⟩ := h; omega, fun _ _ _ _ _ _ _ _ _ _ _ _ _ h => by obtain ⟨_, _, _, _, _, _, _, _, _, _, _, _, _, _, _, _, _, _, h, _⟩ := h; omega⟩
  | d + 1 => lthr_step T d (ok_lthr T d)
end
end K22
set_option maxHeartbeats 4000000
namespace K22
open PySem L2 PyProof.Rows FD FB FS FO FR FG
structure WdsV (H : Hp) (c : Addr) (ws : Bx) (ins : List Str) (w : Int) : Prop where
  hd : H c = some (.dK ws)
  isI : IntD ws
  has : ∀ n ∈ ins, ∃ x, wsOf ws n = some x ∧ 0 ≤ x ∧ x < 2 ^ w.toNat
  no : ∀ n, n ∉ ins → wsOf ws n = none
theorem WdsV.same {H H' : Hp} {c : Addr} {ws : Bx} {ins : List Str} {w : Int} (h : WdsV H c ws ins w) (s : Same H H') : WdsV H' c ws ins w := ⟨s _ _ h.hd, h.isI, h.has, h.no⟩
theorem WdsV.get {H : Hp} {c : Addr} {ws : Bx} {ins : List Str} {w : Int} (h : WdsV H c ws ins w) : ∀ n ∈ ins, 0 ≤ bxGet ws n ∧ bxGet ws n < 2 ^ w.toNat := fun n hn => by
  obtain ⟨x, e, h0, h1⟩ := h.has n hn
  unfold bxGet; rw [e]; exact ⟨h0, h1⟩
theorem WdsV.first {H : Hp} {c : Addr} {ws : Bx} {ins : List Str} {w : Int} (h : WdsV H c ws ins w) {ns : List Str} (hl : ns.length ≤ 1000) : BxG ns w (firstB ins ws ns) := by
  obtain ⟨h1, h2, h3⟩ := firstB_ok h.get _ ns rfl
  exact ⟨h1, by omega, h3⟩
theorem IntD.getD {kvs : List (Key × V)} (h : IntD kvs) {n : Str} : (valV kvs (.inr n)).getD (.int 0) = .int (bxGet kvs n) := by
  unfold bxGet wsOf
  cases e : valV kvs (.inr n) with
  | none => rfl
  | some v =>
    have e' := e
    unfold valV at e'
    obtain ⟨kv, h1, rfl⟩ := Option.map_eq_some_iff.mp e'
    obtain ⟨i, hi⟩ := h.nums kv (List.mem_of_find?_eq_some h1)
    rw [hi]; rfl
noncomputable def bd_begun (K : PySem.W.Frag) (q c : Addr) (H : Hp) (Q : VK) : Prop := ∃ (wd : Int) (ins oth : List Str) (pr : Addr) (ws : Bx), DrN K H q wd ins oth pr ∧ WdsV H c ws ins wd ∧
  ∀ l H', Same H H' → H l = none → H' l = some (.dK (firstB ins ws (ins ++ oth))) → Q (.ref l) H'
theorem mk_begun {K : PySem.W.Frag} {q c : Addr} {H : Hp} {Q : VK}  (wd : Int) (ins oth : List Str) (pr : Addr) (ws : Bx) (h_0 : DrN K H q wd ins oth pr) (h_1 : WdsV H c ws ins wd) (h_2 : ∀ l H', Same H H' → H l = none → H' l = some (.dK (firstB ins ws (ins ++ oth))) → Q (.ref l) H') : bd_begun K q c H Q := ⟨wd, ins, oth, pr, ws, h_0, h_1, h_2⟩
noncomputable def sp_begun (K : PySem.W.Frag) : Sp := fun vs H Q _ => ∃ q c : Addr, vs = [.ref q, .ref c] ∧ bd_begun K q c H Q
section
variable {P : Program} {w : World} {K : PySem.W.Frag} {mg : Str → Option Value} {base : Heap} {t : Ad}
theorem r_begun {q c : Addr} {H : Hp} {Q : VK} {E : XK} : sp_begun K [.ref q, .ref c] H Q E = bd_begun K q c H Q := propext ⟨by rintro ⟨_, _, e, q⟩; cases e; exact q, fun q => ⟨_, _, rfl, q⟩⟩
theorem ok_begun (T : Txt K mg t) : FnOk P w K mg base CX0 1 t.f__law_begun t.e__law_begun ["_law_drawn_here", "_law_words_here"] (sp_begun K) := by
  refine T.d__law_begun.F.ok sc__law_begun (fun vs H Q E h => by obtain ⟨_, _, rfl, _⟩ := h; rfl) (fun cdv A outer s H vs Q E hr h => ?_)
  obtain ⟨p, c, rfl, wd, ins, oth, pr, ws, hD, hW, q⟩ := h
  have hu := hu_of hr
  refine ⟨_,
      (XSs.h
      (xpss_cons
        (xps_set (i := 2) sc__law_begun.nd rfl ll xpe_dnewK)
      (xpss_cons
        (xps_for PassesOwn.never rfl (xpi_list (xpe_op op_cat (xpe_ix ix_tup (yqv 0 vl) xpe_int (fun _ _ => rfl)) (xpe_ix ix_tup (yqv 0 vl) xpe_int (fun _ _ => rfl)))) (xpg_name (i := 3) sc__law_begun.nd rfl ll)
          (xpss_one
            (xps_dput hu (yqv 2 vl) (yqv 3 vl) (xpe_dget2 hu (yqv 1 vl) (yqv 3 vl) xpe_int ⟨rfl, rfl, rfl, rfl⟩) rfl)))
      (xpss_one
        (xps_ret (yqv 2 vl)))))), ?_⟩
  rw [show start _ [V.ref p, V.ref c] = [some (.ref p), some (.ref c), none, none] from rfl]
  simp_arith [r_listRng, r_kget1, r_iEnumT]
  intro l hl0
  have s1 : Same H (upd H l (.dK [])) := Same.upd hl0
  obtain ⟨pi, po, hq, hi, ho⟩ := hD.ex
  have hfew := hD.few
  rw [List.length_append] at hfew
  refine ⟨_, _, s1.seqT hq, rfl, _, _, s1.seqT hq, rfl, pi, po, _, _, rfl, rfl, s1 _ _ hi, s1 _ _ ho, by rw [List.length_map, List.length_map, sizeLine_eq]; omega, fun pn hpn => ?_⟩
  have t1 := Same.upd (o := .lst (ins.map V.str ++ oth.map V.str)) hpn
  have en : upd (upd H l (.dK [])) pn (.lst (ins.map V.str ++ oth.map V.str)) pn = some (.lst ((ins ++ oth).map V.str)) := by rw [upd_same, List.map_append]
  have el : upd (upd H l (.dK [])) pn (.lst (ins.map V.str ++ oth.map V.str)) l = some (.dK []) := t1 _ _ upd_same
  have npl : pn ≠ l := fun z => by rw [z, upd_same] at hpn; cases hpn
  generalize upd (upd H l (.dK [])) pn _ = H1 at t1 en el ⊢
  have s01 := s1.trans t1
  refine ⟨pn, rfl, ⟨_, SqL.of en⟩, ?_⟩
  refine fw_list (xs := (ins ++ oth).map V.str) (fun i σ H' => Same H H' ∧ H' pn = some (.lst ((ins ++ oth).map V.str)) ∧ H' l = some (.dK (firstB ins ws ((ins ++ oth).take i))) ∧ ∃ o, σ = [some (.ref p), some (.ref c), some (.ref l), o])
    ⟨s01, en, el, _, rfl⟩ (fun i σ H' _ h => SqL.of h.2.1) ?_ ?_
  · rintro i x σ H' hx ⟨sm, en', hd, o, rfl⟩
    rw [List.getElem?_map] at hx
    obtain ⟨n, hn, rfl⟩ := Option.map_eq_some_iff.mp hx
    obtain ⟨hi, hne⟩ := List.getElem?_eq_some_iff.mp hn
    simp_arith [r_listRng, r_kget1, r_iEnumT]
    have en : firstB ins ws ((ins ++ oth).take (i + 1)) = putK (firstB ins ws ((ins ++ oth).take i)) (.inr n) (.int (if n ∈ ins then bxGet ws n else 0)) := by
      rw [List.take_succ_eq_append_getElem hi, hne, firstB_snoc]
    have eb : (if n ∈ ins then bxGet ws n else 0) = bxGet ws n := by
      split
      · rfl
      · next h => unfold bxGet; rw [hW.no n h]; rfl
    rw [eb] at en
    have lb : (firstB ins ws ((ins ++ oth).take i)).length < sizeLine := by
      have := (firstB_ok hW.get _ ((ins ++ oth).take i) rfl).2.1
      rw [List.length_take, List.length_append] at this
      rw [sizeLine_eq]; omega
    have hW2 : Rd H' c (.dK ws) := .inl (sm _ _ hW.hd)
    refine ⟨.inl ⟨ws, hW2⟩, _, .inl ⟨ws, .inr n, hW2, rfl, rfl⟩, ?_⟩
    rw [IntD.getD hW.isI]
    refine ⟨_, DPut.k (k := .inr n) hd lb, sm.updM hl0, by rw [upd_ne npl]; exact en', ?_, _, rfl⟩
    rw [upd_same, en]
  · rintro σ H' ⟨sm, _, hd, o, rfl⟩
    rw [List.length_map, List.take_length] at hd
    simp_arith [r_listRng, r_kget1, r_iEnumT]
    exact q l H' sm hl0 hd
end
end K22
set_option maxHeartbeats 4000000
namespace K22
open PySem L2 PyProof.Rows FD FB FS FO FR FG
theorem DrV.same {K : PySem.W.Frag} {H H' H2 : Hp} {q : Addr} {wd : Int} {ins oth : List Str} {ss : List Stm} {pi po pr : Addr} {xs : List V} {g : List Addr} {many : Nat} (h : DrV K H H' q wd ins oth ss pi po pr xs g many) (s : Same H' H2) : DrV K H H2 q wd ins oth ss pi po pr xs g many :=
  ⟨s _ _ h.tup, s _ _ h.ia, s _ _ h.oa, s _ _ h.ra, h.st.same s, h.gd, h.dp, h.mn, h.w1, h.w8, h.pos, h.few, h.fr, h.nf⟩
theorem DrV.n {K : PySem.W.Frag} {H H' : Hp} {q : Addr} {wd : Int} {ins oth : List Str} {ss : List Stm} {pi po pr : Addr} {xs : List V} {g : List Addr} {many : Nat} (h : DrV K H H' q wd ins oth ss pi po pr xs g many) : DrN K H' q wd ins oth pr := ⟨⟨pi, po, SqT.of h.tup, h.ia, h.oa⟩, h.few, h.w1, h.w8⟩
theorem SameB.out {H H1 H2 : Hp} {bx td : Addr} (s : Same H H1) (sb : SameB bx td H1 H2) (hb : H bx = none) (ht : H td = none) : Same H H2 := fun c o e => sb c o (s _ _ e) (ne_of_none e hb) (ne_of_none e ht)
noncomputable def bd_lrun (K : PySem.W.Frag) (q c : Addr) (m : Int) (H : Hp) (Q : VK) : Prop := ∃ (H0 : Hp) (wd : Int) (ins oth : List Str) (ss : List Stm) (pi po pr : Addr) (xs : List V) (g : List Addr) (many : Nat) (ws : Bx) (n : Nat), m = n ∧ n ≤ 3000 ∧ DrV K H0 H q wd ins oth ss pi po pr xs g many ∧ WdsV H c ws ins wd ∧
  ∀ p td bx H', Same H H' → H' p = some (.tup [.ref td, .ref bx, .int (GA.runL wd n ⟨ss, firstB ins ws (ins ++ oth), []⟩).1]) → BtV H' bx td (ins ++ oth) wd (GA.runL wd n ⟨ss, firstB ins ws (ins ++ oth), []⟩).2.bx (GA.runL wd n ⟨ss, firstB ins ws (ins ++ oth), []⟩).2.told → Q (.ref p) H'
theorem mk_lrun {K : PySem.W.Frag} {q c : Addr} {m : Int} {H : Hp} {Q : VK}  (H0 : Hp) (wd : Int) (ins oth : List Str) (ss : List Stm) (pi po pr : Addr) (xs : List V) (g : List Addr) (many : Nat) (ws : Bx) (n : Nat) (h_0 : m = n) (h_1 : n ≤ 3000) (h_2 : DrV K H0 H q wd ins oth ss pi po pr xs g many) (h_3 : WdsV H c ws ins wd) (h_4 : ∀ p td bx H', Same H H' → H' p = some (.tup [.ref td, .ref bx, .int (GA.runL wd n ⟨ss, firstB ins ws (ins ++ oth), []⟩).1]) → BtV H' bx td (ins ++ oth) wd (GA.runL wd n ⟨ss, firstB ins ws (ins ++ oth), []⟩).2.bx (GA.runL wd n ⟨ss, firstB ins ws (ins ++ oth), []⟩).2.told → Q (.ref p) H') : bd_lrun K q c m H Q := ⟨H0, wd, ins, oth, ss, pi, po, pr, xs, g, many, ws, n, h_0, h_1, h_2, h_3, h_4⟩
noncomputable def sp_lrun (K : PySem.W.Frag) : Sp := fun vs H Q _ => ∃ (q c : Addr) (m : Int), vs = [.ref q, .ref c, .int m] ∧ bd_lrun K q c m H Q
noncomputable def nxtI (b : Bx) (e : FZ.Ed) : Int := match GA.nxt b e with
  | none => -1
  | some j => (j : Int)
noncomputable def bd_lnext (K : PySem.W.Frag) (e bx : Addr) (H : Hp) (Q : VK) : Prop := ∃ (ed : FZ.Ed) (b : Bx) (ns : List Str) (w : Int), SqT K H e (edVs ed) ∧ H bx = some (.dK b) ∧ BxG ns w b ∧ (∀ n i j, ed = .choose n i j → n ∈ ns) ∧ Q (.int (nxtI b ed)) H
theorem mk_lnext {K : PySem.W.Frag} {e bx : Addr} {H : Hp} {Q : VK}  (ed : FZ.Ed) (b : Bx) (ns : List Str) (w : Int) (h_0 : SqT K H e (edVs ed)) (h_1 : H bx = some (.dK b)) (h_2 : BxG ns w b) (h_3 : (∀ n i j, ed = .choose n i j → n ∈ ns)) (h_4 : Q (.int (nxtI b ed)) H) : bd_lnext K e bx H Q := ⟨ed, b, ns, w, h_0, h_1, h_2, h_3, h_4⟩
noncomputable def sp_lnext (K : PySem.W.Frag) : Sp := fun vs H Q _ => ∃ e bx : Addr, vs = [.ref e, .ref bx] ∧ bd_lnext K e bx H Q
section
variable {P : Program} {w : World} {K : PySem.W.Frag} {mg : Str → Option Value} {base : Heap} {t : Ad}
theorem r_lrun {q c : Addr} {m : Int} {H : Hp} {Q : VK} {E : XK} : sp_lrun K [.ref q, .ref c, .int m] H Q E = bd_lrun K q c m H Q := propext ⟨by rintro ⟨_, _, _, e, q⟩; cases e; exact q, fun q => ⟨_, _, _, rfl, q⟩⟩
theorem r_lnext {e bx : Addr} {H : Hp} {Q : VK} {E : XK} : sp_lnext K [.ref e, .ref bx] H Q E = bd_lnext K e bx H Q := propext ⟨by rintro ⟨_, _, e, q⟩; cases e; exact q, fun q => ⟨_, _, rfl, q⟩⟩
theorem ok_lrun (T : Txt K mg t) : FnOk P w K mg base CX0 8 t.f__law_run t.e__law_run ["_law_drawn_here", "_law_words_here", "_law_most"] (sp_lrun K) := by
  have G__law_begun := ok_begun (P := P) (w := w) (base := base) T
  have G__law_through := ok_lthr (P := P) (w := w) (base := base) T 4
  refine T.d__law_run.F.ok sc__law_run (fun vs H Q E h => by obtain ⟨_, _, _, rfl, _⟩ := h; rfl) (fun cdv A outer s H vs Q E hr h => ?_)
  obtain ⟨p, c, m, rfl, H0, wd, ins, oth, ss, pi, po, pr, xs, g, many, ws, n, rfl, hn, hD, hW, q⟩ := h
  refine ⟨_,
      (XSs.h
      (xpss_cons
        (xps_set (i := 3) sc__law_run.nd rfl ll (xqe_callD T.d__law_begun G__law_begun (hr.mono (by first | decide | omega)) (xpa_cons (yqv 0 vl) (xpa_cons (yqv 1 vl) xpa_nil)) gl))
      (xpss_cons
        (xps_set (i := 4) sc__law_run.nd rfl ll (xpe_lst xpa_nil))
      (xpss_cons
        (xps_set (i := 5) sc__law_run.nd rfl ll (xqe_callD T.d__law_through G__law_through (hr.mono (by first | decide | omega)) (xpa_cons (xpe_ix ix_tup (yqv 0 vl) xpe_int (fun _ _ => rfl)) (xpa_cons (yqv 3 vl) (xpa_cons (yqv 4 vl) (xpa_cons (xpe_ix ix_tup (yqv 0 vl) xpe_int (fun _ _ => rfl)) (xpa_cons (yqv 2 vl) xpa_nil))))) gl))
      (xpss_one
        (xps_ret (xpe_tup (xpa_cons (yqv 4 vl) (xpa_cons (yqv 3 vl) (xpa_cons (yqv 5 vl) xpa_nil)))))))))), ?_⟩
  rw [show start _ [V.ref p, V.ref c, V.int n] = [some (.ref p), some (.ref c), some (.int n), none, none, none] from rfl]
  simp_arith [r_listRng, r_kget1, r_iEnumT, r_begun, r_lthr]
  refine (mk_begun (wd) (ins) (oth) (pr) (ws) (hD.n) (hW) (fun bx H1 s1 hbx0 hbx td htd => ?_))
  have t1 := Same.upd (o := .lst []) htd
  have s2 := s1.trans t1
  have htd0 := s1.free htd
  have hfew := hD.few
  have hdp := hD.dp
  refine ⟨_, _, SqT.of (s2 _ _ hD.tup), rfl, _, _, SqT.of (s2 _ _ hD.tup), rfl, ?_⟩
  rw [r_lthr]
  refine (mk_lthr (xs) (ss) (g) (firstB ins ws (ins ++ oth)) (ins ++ oth) ([]) (n) (rfl) (s2 _ _ hD.ra) (hD.st.same s2) (ne_of_none hD.ra htd0) (fun z => ?_) (by omega) (hD.gd) (⟨t1 _ _ hbx, upd_same, hW.first (by omega)⟩) (by simp; omega) (hD.w1) (hD.w8) (fun H3 s3 hV3 => ?_))
  · obtain ⟨zs, hz⟩ := hD.st.tracked td z
    rw [htd0] at hz; cases hz
  intro pt hpt
  have t3 := Same.upd (o := .tup [V.ref td, V.ref bx, V.int (GA.runL wd n ⟨ss, firstB ins ws (ins ++ oth), []⟩).1]) hpt
  exact q pt td bx _ ((SameB.out s2 s3 hbx0 htd0).trans t3) upd_same ⟨t3 _ _ hV3.hb, t3 _ _ hV3.ht, hV3.gd⟩
theorem ok_lnext (T : Txt K mg t) : FnOk P w K mg base CX0 1 t.f__law_next t.e__law_next ["_law_ending", "_law_boxes"] (sp_lnext K) := by
  refine T.d__law_next.F.ok sc__law_next (fun vs H Q E h => by obtain ⟨_, _, rfl, _⟩ := h; rfl) (fun cdv A outer s H vs Q E hr h => ?_)
  obtain ⟨e, bx, rfl, ed, b, ns, w, hq, hb, hG, hn, q⟩ := h
  have hu := hu_of hr
  refine ⟨_,
      (XSs.h
      (xpss_cons
        (xps_if (xpt_cmpR op_eq (xpe_ix ix_tup (yqv 0 vl) xpe_int (fun _ _ => rfl)) xpe_str (nomark _))
          (xpss_one
            (xps_ret (xpe_ix ix_tup (yqv 0 vl) xpe_int (fun _ _ => rfl))))
          xpss_nil)
      (xpss_cons
        (xps_if (xpt_cmpR op_eq (xpe_ix ix_tup (yqv 0 vl) xpe_int (fun _ _ => rfl)) xpe_str (nomark _))
          (xpss_one
            (xps_ret (xpe_ix ix_tup (yqv 0 vl) (xpe_op yop_add xpe_int (xqe_callTy call_int1 gl T.z_int boot_int (xpa_cons (xpe_cmpR op_eq (xpe_dget hu (yqv 1 vl) (xpe_ix ix_tup (yqv 0 vl) xpe_int (fun _ _ => rfl)) (fun _ _ => rfl)) xpe_int (nomark _)) xpa_nil))) (fun _ _ => rfl))))
          xpss_nil)
      (xpss_one
        (xps_ret (xpe_un yun_neg xpe_int)))))), ?_⟩
  rw [show start _ [V.ref e, V.ref bx] = [some (.ref e), some (.ref bx)] from rfl]
  simp_arith [r_listRng, r_kget1, r_iEnumT]
  cases ed with
  | stop =>
    refine ⟨_, _, hq, rfl, ?_⟩
    simp_arith [r_listRng, r_kget1, r_iEnumT]
    refine ite_dec (fun z => absurd z (by decide +kernel)) (fun _ => ⟨_, _, hq, rfl, rfl, _, rfl, ?_⟩)
    refine ite_dec (fun z => absurd z (by decide +kernel)) (fun _ => q)
  | go i =>
    refine ⟨_, _, hq, rfl, ?_⟩
    simp_arith [r_listRng, r_kget1, r_iEnumT]
    exact ite_dec (fun _ => ⟨_, _, hq, rfl, q⟩) (fun z => absurd trivial z)
  | choose n i j =>
    refine ⟨_, _, hq, rfl, ?_⟩
    simp_arith [r_listRng, r_kget1, r_iEnumT]
    refine ite_dec (fun z => absurd z (by decide +kernel)) (fun _ => ⟨_, _, hq, rfl, rfl, _, rfl, ?_⟩)
    refine ite_dec (fun _ => ⟨_, _, hq, rfl, bx, _, rfl, .inl ⟨b, .inr n, .inl hb, rfl, (hG.val (hn n i j rfl)).symm⟩, rfl, .inr ⟨_, rfl, ?_⟩⟩) (fun z => absurd rfl z)
    have e : nxtI b (.choose n i j) = if bxGet b n = 0 then (j : Int) else i := by
      unfold nxtI GA.nxt
      dsimp only
      by_cases h : bxGet b n = 0
      · rw [if_pos h, if_neg (fun z => z h)]
      · rw [if_neg h, if_pos h]
    rw [e] at q
    by_cases h : bxGet b n = 0
    · rw [if_pos h] at q
      exact ⟨_, .int j, hq, by rw [decide_eq_true (by rw [h])]; rfl, q⟩
    · rw [if_neg h] at q
      exact ⟨_, .int i, hq, by rw [decide_eq_false (fun z => h (V.int.inj z))]; rfl, q⟩
end
end K22
set_option maxHeartbeats 4000000
namespace K22
open PySem L2 PyProof.Rows FD FB FS FO FR FG
noncomputable def bd_lbr (K : PySem.W.Frag) (bl q c : Addr) (m : Int) (H : Hp) (Q : VK) : Prop := ∃ (N : Addr → Prop) (xs : List V) (B : List FZ.Blk) (wd : Int) (ins oth : List Str) (pr : Addr) (ws : Bx) (n : Nat), m = n ∧ n ≤ 300 ∧ H bl = some (.lst xs) ∧ Paired (BlkV K N H bl) xs B ∧ FZ.AllG (ins ++ oth) wd B.length B ∧ 0 < B.length ∧ DrN K H q wd ins oth pr ∧ WdsV H c ws ins wd ∧
  ∀ p td bx H', Same H H' → H' p = some (.tup [.ref td, .ref bx, .bl (GA.bRun B wd n 0 (firstB ins ws (ins ++ oth), [])).2]) → BtV H' bx td (ins ++ oth) wd (GA.bRun B wd n 0 (firstB ins ws (ins ++ oth), [])).1.1 (GA.bRun B wd n 0 (firstB ins ws (ins ++ oth), [])).1.2 → (GA.bRun B wd n 0 (firstB ins ws (ins ++ oth), [])).1.2.length ≤ 8 * n → Q (.ref p) H'
theorem mk_lbr {K : PySem.W.Frag} {bl q c : Addr} {m : Int} {H : Hp} {Q : VK}  (N : Addr → Prop) (xs : List V) (B : List FZ.Blk) (wd : Int) (ins oth : List Str) (pr : Addr) (ws : Bx) (n : Nat) (h_0 : m = n) (h_1 : n ≤ 300) (h_2 : H bl = some (.lst xs)) (h_3 : Paired (BlkV K N H bl) xs B) (h_4 : FZ.AllG (ins ++ oth) wd B.length B) (h_5 : 0 < B.length) (h_6 : DrN K H q wd ins oth pr) (h_7 : WdsV H c ws ins wd) (h_8 : ∀ p td bx H', Same H H' → H' p = some (.tup [.ref td, .ref bx, .bl (GA.bRun B wd n 0 (firstB ins ws (ins ++ oth), [])).2]) → BtV H' bx td (ins ++ oth) wd (GA.bRun B wd n 0 (firstB ins ws (ins ++ oth), [])).1.1 (GA.bRun B wd n 0 (firstB ins ws (ins ++ oth), [])).1.2 → (GA.bRun B wd n 0 (firstB ins ws (ins ++ oth), [])).1.2.length ≤ 8 * n → Q (.ref p) H') : bd_lbr K bl q c m H Q := ⟨N, xs, B, wd, ins, oth, pr, ws, n, h_0, h_1, h_2, h_3, h_4, h_5, h_6, h_7, h_8⟩
noncomputable def sp_lbr (K : PySem.W.Frag) : Sp := fun vs H Q _ => ∃ (bl q c : Addr) (m : Int), vs = [.ref bl, .ref q, .ref c, .int m] ∧ bd_lbr K bl q c m H Q
theorem nxt_tg {b : Bx} {e : FZ.Ed} {j : Nat} (h : GA.nxt b e = some j) : j ∈ e.tg := by
  cases e with
  | stop => cases h
  | go i => cases h; exact List.mem_singleton.mpr rfl
  | choose n x y =>
    unfold GA.nxt at h
    cases h
    show (if bxGet b n ≠ 0 then x else y) ∈ [x, y]
    split <;> simp
section
variable {P : Program} {w : World} {K : PySem.W.Frag} {mg : Str → Option Value} {base : Heap} {t : Ad}
theorem r_lbr {bl q c : Addr} {m : Int} {H : Hp} {Q : VK} {E : XK} : sp_lbr K [.ref bl, .ref q, .ref c, .int m] H Q E = bd_lbr K bl q c m H Q := propext ⟨by rintro ⟨_, _, _, _, e, q⟩; cases e; exact q, fun q => ⟨_, _, _, _, rfl, q⟩⟩
theorem ok_lbr (T : Txt K mg t) : FnOk P w K mg base CX0 3 t.f__law_blocks_run t.e__law_blocks_run ["_law_found", "_law_drawn_here", "_law_words_here", "_law_most"] (sp_lbr K) := by
  have G__law_begun := ok_begun (P := P) (w := w) (base := base) T
  have G__law_do := ok_ldo (P := P) (w := w) (base := base) T
  have G__law_next := ok_lnext (P := P) (w := w) (base := base) T
  refine T.d__law_blocks_run.F.ok sc__law_blocks_run (fun vs H Q E h => by obtain ⟨_, _, _, _, rfl, _⟩ := h; rfl) (fun cdv A outer s H vs Q E hr h => ?_)
  obtain ⟨bl, p, c, m, rfl, N, xs, B, wd, ins, oth, pr, ws, n, rfl, hn, hbl, hxs, hG, hB, hD, hW, q⟩ := h
  have hu := hu_of hr
  refine ⟨_,
      (XSs.h
      (xpss_cons
        (xps_set (i := 4) sc__law_blocks_run.nd rfl ll (xqe_callD T.d__law_begun G__law_begun (hr.mono (by first | decide | omega)) (xpa_cons (yqv 1 vl) (xpa_cons (yqv 2 vl) xpa_nil)) gl))
      (xpss_cons
        (xps_set (i := 5) sc__law_blocks_run.nd rfl ll (xpe_lst xpa_nil))
      (xpss_cons
        (xps_set (i := 6) sc__law_blocks_run.nd rfl ll xpe_int)
      (xpss_cons
        (xps_for PassesOwn.never rfl (xpi_range1 gl T.z_range (xpa_cons (yqv 3 vl) xpa_nil)) (xpg_name (i := 7) sc__law_blocks_run.nd rfl ll)
          (xpss_mid
            (xps_for PassesOwn.never rfl (xpi_list (xpe_ix ix_tup (xpe_ix ix_list (yqv 0 vl) (yqv 6 vl) (fun _ _ => rfl)) xpe_int (fun _ _ => rfl))) (xpg_name (i := 8) sc__law_blocks_run.nd rfl ll)
              (xpss_one
                (xps_expr (xqe_callD T.d__law_do G__law_do (hr.mono (by first | decide | omega)) (xpa_cons (yqv 8 vl) (xpa_cons (yqv 4 vl) (xpa_cons (yqv 4 vl) (xpa_cons (yqv 5 vl) (xpa_cons (xpe_ix ix_tup (yqv 1 vl) xpe_int (fun _ _ => rfl)) xpa_nil))))) gl))))
          (xpss_cons
            (xps_set (i := 6) sc__law_blocks_run.nd rfl ll (xqe_callD T.d__law_next G__law_next (hr.mono (by first | decide | omega)) (xpa_cons (xpe_ix ix_tup (xpe_ix ix_list (yqv 0 vl) (yqv 6 vl) (fun _ _ => rfl)) xpe_int (fun _ _ => rfl)) (xpa_cons (yqv 4 vl) xpa_nil)) gl))
          (xpss_one
            (xps_if (xpt_cmpR yop_lt (yqv 6 vl) xpe_int (nomark _))
              (xpss_one
                (xps_ret (xpe_tup (xpa_cons (yqv 5 vl) (xpa_cons (yqv 4 vl) (xpa_cons xpe_bl xpa_nil))))))
              xpss_nil)))))
      (xpss_one
        (xps_ret (xpe_tup (xpa_cons (yqv 5 vl) (xpa_cons (yqv 4 vl) (xpa_cons xpe_bl xpa_nil))))))))))), ?_⟩
  rw [show start _ [V.ref bl, V.ref p, V.ref c, V.int n] = [some (.ref bl), some (.ref p), some (.ref c), some (.int n), none, none, none, none, none] from rfl]
  simp_arith [r_listRng, r_kget1, r_iEnumT, r_begun, r_ldo, r_lnext]
  refine (mk_begun (wd) (ins) (oth) (pr) (ws) (hD) (hW) (fun bx H1 s1 hbx0 hbx td htd => ?_))
  have t1 := Same.upd (o := .lst []) htd
  have s2 := s1.trans t1
  have htd0 := s1.free htd
  have hfew := hD.few
  have w1 := hD.w1
  have w8 := hD.w8
  obtain ⟨pi, po, hq, _, _⟩ := hD.ex
  generalize hR : GA.bRun B wd n 0 (firstB ins ws (ins ++ oth), []) = R at q
  refine ⟨by omega, by omega, ?_⟩
  rw [Int.toNat_natCast]
  refine fw_range0 (n := n) (fun k σ H' => Same H H' ∧ ∃ (b : Bx) (tl : List Int) (i : Nat) (o7 o8 : Option V), BtV H' bx td (ins ++ oth) wd b tl ∧ tl.length ≤ 8 * k ∧ i < B.length ∧ R = GA.bRun B wd (n - k) i (b, tl) ∧ σ = [some (.ref bl), some (.ref p), some (.ref c), some (.int n), some (.ref bx), some (.ref td), some (.int i), o7, o8])
    ⟨s2, _, [], 0, _, _, ⟨t1 _ _ hbx, upd_same, hW.first (by omega)⟩, Nat.zero_le _, hB, by rw [Nat.sub_zero]; exact hR.symm, rfl⟩ ?_ ?_
  · rintro k σ H2 hk ⟨s2, b, tl, i, o7, o8, hV, hl, hi, eR, rfl⟩
    obtain ⟨blk, hblk⟩ : ∃ blk, B[i]? = some blk := ⟨_, List.getElem?_eq_getElem hi⟩
    have hg := hG blk (List.mem_of_getElem? hblk)
    have lx := hxs.length
    obtain ⟨x, hx⟩ : ∃ x, xs[i]? = some x := ⟨_, List.getElem?_eq_getElem (by omega)⟩
    obtain ⟨blk', hb', hbv⟩ := Paired.get hxs hx
    rw [hblk] at hb'
    cases hb'
    rw [show n - k = n - (k + 1) + 1 by omega, GA.bRun_succ hblk] at eR
    obtain ⟨qb, ab, eb, vs, rfl, v1, v2, v3, v4, v5, v6⟩ := hbv
    have hlen := GA.dos_len (w := wd) (ds := blk.ds) (s := (b, tl))
    have h8 := hg.len
    dsimp only at hlen
    simp_arith [r_listRng, r_kget1, r_iEnumT, r_ldo, r_lnext]
    refine ⟨fun σ H' => Same H H' ∧ BtV H' bx td (ins ++ oth) wd (GA.dos wd blk.ds (b, tl)).1 (GA.dos wd blk.ds (b, tl)).2 ∧ ∃ o8, σ = [some (.ref bl), some (.ref p), some (.ref c), some (.int n), some (.ref bx), some (.ref td), some (.int i), some (.int k), o8], ?_, ?_⟩
    · refine ⟨_, _, SqL.of (s2 _ _ hbl), atI_nat hx, ?_⟩
      simp_arith [r_listRng, r_kget1, r_iEnumT]
      refine ⟨_, _, SqT.of (s2 _ _ v1), rfl, _, rfl, ⟨_, SqL.of (s2 _ _ v2)⟩, ?_⟩
      refine fw_list (xs := vs) (fun j σ H' => Same H H' ∧ BtV H' bx td (ins ++ oth) wd (GA.dos wd (blk.ds.take j) (b, tl)).1 (GA.dos wd (blk.ds.take j) (b, tl)).2 ∧ ∃ o8, σ = [some (.ref bl), some (.ref p), some (.ref c), some (.int n), some (.ref bx), some (.ref td), some (.int i), some (.int k), o8])
        ⟨s2, hV, _, rfl⟩ (fun j σ H' _ h => SqL.of (h.1 _ _ v2)) ?_ ?_
      · rintro j y σ H4 hy ⟨s4, hV4, o8, rfl⟩
        obtain ⟨d, hd, q0, rfl, hq0, hf⟩ := Paired.get v3 hy
        have hgd := hg.gd d (List.mem_of_getElem? hd)
        have hl4 := GA.dos_len (w := wd) (ds := blk.ds.take j) (s := (b, tl))
        have lt : (blk.ds.take j).length ≤ blk.ds.length := by rw [List.length_take]; exact Nat.min_le_right ..
        dsimp only at hl4
        simp_arith [r_listRng, r_kget1, r_iEnumT, r_ldo]
        refine ⟨_, _, s4.seqT hq, rfl, ?_⟩
        rw [r_ldo]
        refine (mk_ldo (d) (_) (ins ++ oth) (_) (s4.seqT hq0) (hf) (hgd) (hV4.hb) (hV4.gd) (hV4.ht) (by omega) (w1) (w8) (fun H5 s5 e1 e2 => ⟨SameB.out s4 s5 hbx0 htd0, ?_, _, rfl⟩))
        rw [GA.dos_take hd]
        exact ⟨e1, e2, hV4.gd.doB hgd w1⟩
      · rintro σ H4 ⟨s4, hV4, o8, rfl⟩
        rw [v3.length, List.take_length] at hV4
        exact ⟨s4, hV4, _, rfl⟩
    rintro σ H4 ⟨s4, hV4, o8, rfl⟩
    simp_arith [r_listRng, r_kget1, r_iEnumT, r_lnext]
    refine ⟨_, _, SqL.of (s4 _ _ hbl), atI_nat hx, ?_⟩
    simp_arith [r_listRng, r_kget1, r_iEnumT]
    refine ⟨_, _, SqT.of (s4 _ _ v1), rfl, ?_⟩
    rw [r_lnext]
    refine (mk_lnext (blk.ed) (_) (ins ++ oth) (wd) (SqT.of (s4 _ _ v4)) (hV4.hb) (hV4.gd) (hg.nm) (?_))
    unfold GA.bR at eR
    cases e : GA.nxt (GA.dos wd blk.ds (b, tl)).1 blk.ed with
    | none =>
      rw [e] at eR
      simp_arith [r_listRng, r_kget1, r_iEnumT, nxtI, e]
      rw [if_pos (by decide)]
      intro pt hpt
      subst eR
      have t4 := Same.upd (o := .tup [V.ref td, V.ref bx, V.bl true]) hpt
      exact q pt td bx _ (s4.trans t4) upd_same ⟨t4 _ _ hV4.hb, t4 _ _ hV4.ht, hV4.gd⟩ (by dsimp only; omega)
    | some j =>
      rw [e] at eR
      simp_arith [r_listRng, r_kget1, r_iEnumT, nxtI, e]
      rw [if_neg (by simp)]
      exact ⟨s4, _, _, j, _, _, hV4, by omega, hg.tg j (nxt_tg e), eR, rfl⟩
  · rintro σ H2 ⟨s2, b, tl, i, o7, o8, hV, hl, hi, eR, rfl⟩
    rw [Nat.sub_self] at eR
    have eR : R = ((b, tl), false) := eR
    subst eR
    simp_arith [r_listRng, r_kget1, r_iEnumT]
    intro pt hpt
    have t4 := Same.upd (o := .tup [V.ref td, V.ref bx, V.bl false]) hpt
    exact q pt td bx _ (s2.trans t4) upd_same ⟨t4 _ _ hV.hb, t4 _ _ hV.ht, hV.gd⟩ hl
end
end K22
set_option maxHeartbeats 4000000
namespace K22
open PySem L2 PyProof.Rows FD FB FS FO FR FG
noncomputable def ChV (H : Hp) (l : List Str) (w : Int) (k : Nat) (xs : List V) : Prop := ∀ x ∈ xs, ∃ c ws, x = .ref c ∧ WdsV H c ws l w ∧ ws.length ≤ k
theorem ChV.same {H H' : Hp} {l : List Str} {w : Int} {k : Nat} {xs : List V} (h : ChV H l w k xs) (s : Same H H') : ChV H' l w k xs := fun x hx => let ⟨c, ws, e, hw, hl⟩ := h x hx; ⟨c, ws, e, hw.same s, hl⟩
theorem WdsV.put {H H' : Hp} {c c' : Addr} {ws : Bx} {l : List Str} {w x : Int} {n : Str} (h : WdsV H c ws l w) (hc : H' c' = some (.dK (putK ws (.inr n) (.int x)))) (h0 : 0 ≤ x) (h1 : x < 2 ^ w.toNat) : WdsV H' c' (putK ws (.inr n) (.int x)) (l ++ [n]) w :=
  ⟨hc, h.isI.put _ _, fun m hm => by
    rw [wsOf_put]
    by_cases e : m = n
    · rw [if_pos e]; exact ⟨x, rfl, h0, h1⟩
    · rw [if_neg e]
      rcases List.mem_append.mp hm with z | z
      · exact h.has m z
      · exact absurd (List.mem_singleton.mp z) e, fun m hm => by
    rw [wsOf_put, if_neg (fun z => hm (by rw [z]; simp))]
    exact h.no m fun z => hm (List.mem_append_left _ z)⟩
theorem ChV.upd {H : Hp} {l : List Str} {w : Int} {k : Nat} {xs : List V} {lg : Addr} {ys zs : List V} (h : ChV H l w k xs) (hg : H lg = some (.lst ys)) : ChV (L2.upd H lg (.lst zs)) l w k xs := fun x hx => by
  obtain ⟨c, ws, e, hw, hl⟩ := h x hx
  exact ⟨c, ws, e, ⟨by rw [upd_ne (fun z => by rw [← z, hw.hd] at hg; cases hg)]; exact hw.hd, hw.isI, hw.has, hw.no⟩, hl⟩
noncomputable def bd_choices (K : PySem.W.Frag) (pi : Addr) (top : Int) (H : Hp) (Q : VK) : Prop := ∃ (ins : List Str) (wd : Int), H pi = some (.lst (ins.map V.str)) ∧ ins.length ≤ 4 ∧ top = 1 * 2 ^ wd.toNat ∧ 1 ≤ wd ∧ wd ≤ 2 ∧
  ∀ p xs H', Same H H' → H p = none → H' p = some (.lst xs) → ChV H' ins wd 8 xs → Q (.ref p) H'
noncomputable def sp_choices (K : PySem.W.Frag) : Sp := fun vs H Q _ => ∃ (pi : Addr) (top : Int), vs = [.ref pi, .int top] ∧ bd_choices K pi top H Q
section
variable {P : Program} {w : World} {K : PySem.W.Frag} {mg : Str → Option Value} {base : Heap} {t : Ad}
theorem r_choices {pi : Addr} {top : Int} {H : Hp} {Q : VK} {E : XK} : sp_choices K [.ref pi, .int top] H Q E = bd_choices K pi top H Q := propext ⟨by rintro ⟨_, _, e, q⟩; cases e; exact q, fun q => ⟨_, _, rfl, q⟩⟩
theorem ok_choices (T : Txt K mg t) : FnOk P w K mg base CX0 1 t.f__law_choices t.e__law_choices ["_law_ins", "_law_top"] (sp_choices K) := by
  refine T.d__law_choices.F.ok sc__law_choices (fun vs H Q E h => by obtain ⟨_, _, rfl, _⟩ := h; rfl) (fun cdv A outer s H vs Q E hr h => ?_)
  obtain ⟨pi, top, rfl, ins, wd, hi, hl, htop, w1, w2, q⟩ := h
  have hu := hu_of hr
  have t4 : ∃ m : Nat, top = m ∧ 0 < m ∧ m ≤ 4 ∧ (m : Int) = 2 ^ wd.toNat := by
    have : wd = 1 ∨ wd = 2 := by omega
    rcases this with rfl | rfl
    · exact ⟨2, htop, by decide, by decide, rfl⟩
    · exact ⟨4, htop, by decide, by decide, rfl⟩
  obtain ⟨m, rfl, m0, m4, hm⟩ := t4
  refine ⟨_,
      (XSs.h
      (xpss_cons
        (xps_set (i := 2) sc__law_choices.nd rfl ll (xpe_lst (xpa_cons xpe_dnewK xpa_nil)))
      (xpss_cons
        (xps_for PassesOwn.never rfl (xpi_list (yqv 0 vl)) (xpg_name (i := 3) sc__law_choices.nd rfl ll)
          (xpss_cons
            (xps_set (i := 4) sc__law_choices.nd rfl ll (xpe_lst xpa_nil))
          (xpss_cons
            (xps_for PassesOwn.never rfl (xpi_list (yqv 2 vl)) (xpg_name (i := 5) sc__law_choices.nd rfl ll)
              (xpss_one
                (xps_for PassesOwn.never rfl (xpi_range1 gl T.z_range (xpa_cons (yqv 1 vl) xpa_nil)) (xpg_name (i := 6) sc__law_choices.nd rfl ll)
                  (xpss_cons
                    (xps_set (i := 7) sc__law_choices.nd rfl ll (xpe_bm0 PySem.F.plainAttrs_dict PySem.F.slot_dict_copy PySem.F.type_dict_copy mt_dcopy (yqv 5 vl)))
                  (xpss_cons
                    (xps_dput hu (yqv 7 vl) (yqv 3 vl) (yqv 6 vl) rfl)
                  (xpss_one
                    (xps_expr (xpe_bm PySem.F.plainAttrs_list PySem.F.slot_list_append PySem.F.type_list_append mt_append (yqv 4 vl) (xpa_cons (yqv 7 vl) xpa_nil)))))))))
          (xpss_one
            (xps_set (i := 2) sc__law_choices.nd rfl ll (yqv 4 vl))))))
      (xpss_one
        (xps_ret (yqv 2 vl)))))), ?_⟩
  rw [show start _ [V.ref pi, V.int m] = [some (.ref pi), some (.int m), none, none, none, none, none, none] from rfl]
  simp_arith [r_listRng, r_kget1, r_iEnumT]
  intro p0 hp0 l0 hl0
  have s1 := Same.upd (o := .dK []) hp0
  have s2 := s1.trans (Same.upd (o := .lst [V.ref p0]) hl0)
  refine ⟨⟨_, SqL.of (s2 _ _ hi)⟩, ?_⟩
  refine fw_list (xs := ins.map V.str) (fun i σ H' => Same H H' ∧ ∃ (lf : Addr) (xs : List V) (o3 o4 o5 o6 o7 : Option V), H lf = none ∧ H' lf = some (.lst xs) ∧ xs.length ≤ 4 ^ i ∧ ChV H' (ins.take i) wd i xs ∧ σ = [some (.ref pi), some (.int m), some (.ref lf), o3, o4, o5, o6, o7])
    ⟨s2, l0, _, _, _, _, _, _, s1.free hl0, upd_same, by simp, ?_, rfl⟩ (fun i σ H' _ h => SqL.of (h.1 _ _ hi)) ?_ ?_
  · intro x hx
    rw [List.mem_singleton.mp hx]
    exact ⟨p0, [], rfl, ⟨Same.upd hl0 _ _ upd_same, IntD.nil, fun n hn => by simp at hn, fun n _ => rfl⟩, Nat.le_refl _⟩
  · rintro i x σ H1 hx ⟨sm, lf, xs, o3, o4, o5, o6, o7, hlf0, hlf, lxs, hC, rfl⟩
    rw [List.getElem?_map] at hx
    obtain ⟨n, hn, rfl⟩ := Option.map_eq_some_iff.mp hx
    obtain ⟨hil, hne⟩ := List.getElem?_eq_some_iff.mp hn
    have i3 : i < 4 := by omega
    have p4 : 4 ^ i ≤ 64 := by
      have : i = 0 ∨ i = 1 ∨ i = 2 ∨ i = 3 := by omega
      rcases this with rfl | rfl | rfl | rfl <;> decide
    have etk : ins.take (i + 1) = ins.take i ++ [n] := by rw [List.take_succ_eq_append_getElem hil, hne]
    simp_arith [r_listRng, r_kget1, r_iEnumT]
    intro lg hlg
    have t1 := Same.upd (o := .lst []) hlg
    have hlg0 := sm.free hlg
    have hlf1 := t1 _ _ hlf
    refine ⟨⟨_, SqL.of hlf1⟩, ?_⟩
    refine fw_list (xs := xs) (fun j σ H' => Same H1 H' ∧ ∃ (ys : List V) (o5 o6 o7 : Option V), H' lg = some (.lst ys) ∧ ys.length ≤ m * j ∧ ChV H' (ins.take i ++ [n]) wd (i + 1) ys ∧ σ = [some (.ref pi), some (.int m), some (.ref lf), some (.str n), some (.ref lg), o5, o6, o7])
      ⟨t1, [], _, _, _, upd_same, by simp, (fun x hx => by cases hx), rfl⟩ (fun j σ H' _ h => SqL.of (h.1 _ _ hlf)) ?_ ?_
    · rintro j x σ H2 hxj ⟨s12, ys, o5, o6, o7, hys, lys, hCy, rfl⟩
      have hjl := (List.getElem?_eq_some_iff.mp hxj).1
      obtain ⟨c, ws, rfl, hW, lws⟩ := hC x (List.mem_of_getElem? hxj)
      have hmj : m * j ≤ 4 * 64 := Nat.mul_le_mul m4 (by omega)
      simp_arith [r_listRng, r_kget1, r_iEnumT]
      refine ⟨by omega, by omega, ?_⟩
      rw [Int.toNat_natCast]
      refine fw_range0 (n := m) (fun k σ H' => Same H1 H' ∧ ∃ (ys : List V) (o6 o7 : Option V), H' lg = some (.lst ys) ∧ ys.length ≤ m * j + k ∧ ChV H' (ins.take i ++ [n]) wd (i + 1) ys ∧ σ = [some (.ref pi), some (.int m), some (.ref lf), some (.str n), some (.ref lg), some (.ref c), o6, o7])
        ⟨s12, ys, _, _, hys, lys, hCy, rfl⟩ ?_ ?_
      · rintro k σ H3 hk ⟨s13, ys, o6, o7, hys, lys, hCy, rfl⟩
        simp_arith [r_listRng, r_kget1, r_iEnumT]
        have hW3 := hW.same s13
        refine ⟨.inr (.inr (.inl ⟨rfl, .inl ⟨ws, hW3.hd⟩⟩)), c, ws, rfl, rfl, .inl hW3.hd, fun pm hpm => ?_⟩
        have s34 : Same H3 (upd (upd H3 pm (.dK ws)) pm (.dK (putK ws (.inr n) (.int k)))) := (Same.upd hpm).updM hpm
        have npl : lg ≠ pm := ne_of_none hys hpm
        refine ⟨pm, _, rfl, DPut.k (k := .inr n) upd_same (by rw [sizeLine_eq]; omega), .inl ⟨rfl, _, SqL.of (s34 _ _ hys)⟩, ys, s34 _ _ hys, by rw [sizeLine_eq]; omega, (s13.trans s34).updM hlg, _, _, _, upd_same, by rw [List.length_append, List.length_singleton]; omega, ?_, rfl⟩
        refine ChV.upd (fun x hx => ?_) (s34 _ _ hys)
        rcases List.mem_append.mp hx with z | z
        · exact (hCy.same s34) x z
        · rw [List.mem_singleton.mp z]
          exact ⟨pm, _, rfl, hW.put upd_same (by omega) (by rw [← hm]; omega), Nat.le_trans (length_putK ws (.inr n) (.int k)) (by omega)⟩
      · rintro σ H3 ⟨s13, ys, o6, o7, hys, lys, hCy, rfl⟩
        exact ⟨s13, ys, _, _, _, hys, by rw [Nat.mul_succ]; exact lys, hCy, rfl⟩
    · rintro σ H2 ⟨s12, ys, o5, o6, o7, hys, lys, hCy, rfl⟩
      simp_arith [r_listRng, r_kget1, r_iEnumT]
      refine ⟨sm.trans s12, lg, ys, _, _, _, _, _, hlg0, hys, ?_, by rw [etk]; exact hCy, rfl⟩
      have := Nat.mul_le_mul m4 lxs
      rw [Nat.pow_succ, Nat.mul_comm]
      omega
  · rintro σ H1 ⟨sm, lf, xs, o3, o4, o5, o6, o7, hlf0, hlf, lxs, hC, rfl⟩
    rw [List.length_map, List.take_length] at hC
    simp_arith [r_listRng, r_kget1, r_iEnumT]
    exact q lf xs H1 sm hlf0 hlf fun x hx => let ⟨c, ws, e, hw, hl⟩ := hC x hx; ⟨c, ws, e, hw, by omega⟩
end
end K22
set_option maxHeartbeats 4000000
namespace K22
open PySem L2 PyProof.Rows FD FB FS FO FR FG
section
variable {P : Program} {w : World} {K : PySem.W.Frag} {mg : Str → Option Value} {base : Heap} {t : Ad}
theorem r_init {C p a0 b0 r0 : Addr} {d : Nat} {wd : Int} {H : Hp} {Q : VK} {E : XK} : sp_init K C d [.ref p, .int wd, .ref a0, .ref b0, .ref r0] H Q E = bd_init K C d p a0 b0 r0 wd H Q := propext ⟨by rintro ⟨_, _, _, _, _, e, q⟩; cases e; exact q, fun q => ⟨_, _, _, _, _, rfl, q⟩⟩
theorem rq_ints {H : Hp} {n : Nat} {a b : Addr} {xs : List Int} (ha : SqL K H a (xs.map V.int)) (hb : SqL K H b (xs.map V.int)) : Rq K H n (.ref a) (.ref b) true := by
  have z := Rq.lists (n := n) (fun _ => true) ha hb rfl fun j x y hx hy => by
    rw [hx] at hy
    cases hy
    rw [List.getElem?_map] at hx
    obtain ⟨i, hi, rfl⟩ := Option.map_eq_some_iff.mp hx
    have e : true = eqV (.int i) (.int i) := by simp [eqV]
    rw [e]
    exact .flat rfl rfl
  rwa [show ((List.range (xs.map V.int).length).all fun _ => true) = true by simp] at z
theorem ok_law (T : Txt K mg t) : FnOk P w K mg base CX0 40 t.f_law t.e_law ["_law_script"] (sp_law K) := by
  have G__law_mixed := ok_mixed (P := P) (w := w) (base := base) T
  have G__law_at := ok_at (P := P) (w := w) (base := base) T
  have G__law_names := ok_names (P := P) (w := w) (base := base) T
  have G__law_folds := ok_folds (P := P) (w := w) (base := base) T
  have G__law_statements := ok_stmts (P := P) (w := w) (base := base) T 4
  have G_Program___init__ := ok_init (P := P) (w := w) (base := base) T 4
  have G_blocks_of := ok_blocks (P := P) (w := w) (base := base) T 4
  have G__law_fine := ok_fine (P := P) (w := w) (base := base) T
  have G__law_choices := ok_choices (P := P) (w := w) (base := base) T
  have G__law_run := ok_lrun (P := P) (w := w) (base := base) T
  have G__law_blocks_run := ok_lbr (P := P) (w := w) (base := base) T
  refine T.d_law.F.ok sc_law (fun vs H Q E h => by obtain ⟨_, _, rfl, _⟩ := h; rfl) (fun cdv A outer s H vs Q E hr h => ?_)
  obtain ⟨a, ns, rfl, ha, hlen, hb, q⟩ := h
  have hu := hu_of hr
  refine ⟨_,
      (XSs.h
      (xpss_cons
        (xps_set (i := 1) sc_law.nd rfl ll (xqe_callD T.d__law_mixed G__law_mixed (hr.mono (by first | decide | omega)) (xpa_cons (xqe_callD T.d__law_at G__law_at (hr.mono (by first | decide | omega)) (xpa_cons (yqv 0 vl) (xpa_cons xpe_int xpa_nil)) gl) (xpa_cons xpe_int xpa_nil)) gl))
      (xpss_cons
        (xps_set (i := 2) sc_law.nd rfl ll (xqe_callD T.d__law_names G__law_names (hr.mono (by first | decide | omega)) (xpa_cons (xpe_op yop_fdivB (yqv 1 vl) xpe_int) (xpa_cons (xpe_op yop_add xpe_int (xpe_op yop_mod (xpe_op yop_fdivB (yqv 1 vl) xpe_int) xpe_int)) xpa_nil)) gl))
      (xpss_cons
        (xps_set (i := 3) sc_law.nd rfl ll (xpe_op yop_add xpe_int (xpe_op yop_mod (yqv 1 vl) xpe_int)))
      (xpss_cons
        (xps_set (i := 4) sc_law.nd rfl ll (xpe_slice sl_list (yqv 2 vl) xpo_none (xpo_some (xpe_op yop_mod (xpe_op yop_fdivB (yqv 1 vl) xpe_int) xpe_int))))
      (xpss_cons
        (xps_set (i := 5) sc_law.nd rfl ll (xqe_callD T.d__law_statements G__law_statements (hr.mono (by first | decide | omega)) (xpa_cons (xpe_slice sl_list (xqe_callD T.d__law_folds G__law_folds (hr.mono (by first | decide | omega)) (xpa_cons (yqv 0 vl) (xpa_const (by rfl))) gl) xpo_none (xpo_some (xpe_op yop_mod (xqe_callD T.d__law_at G__law_at (hr.mono (by first | decide | omega)) (xpa_cons (yqv 0 vl) (xpa_cons xpe_int xpa_nil)) gl) xpe_int))) (xpa_cons (yqv 2 vl) (xpa_cons (xpe_op yop_shl xpe_int (yqv 3 vl)) (xpa_cons xpe_int xpa_nil)))) gl))
      (xpss_cons
        (xps_set (i := 6) sc_law.nd rfl ll (xpe_tup (xpa_cons (yqv 3 vl) (xpa_cons (yqv 4 vl) (xpa_cons (xpe_slice sl_list (yqv 2 vl) (xpo_some (xqe_callB call_len_seq gl T.z_len PySem.boot_len (xpa_cons (yqv 4 vl) xpa_nil))) xpo_none) (xpa_cons (yqv 5 vl) xpa_nil))))))
      (xpss_cons
        (xps_set (i := 7) sc_law.nd rfl ll (xqe_callD T.d_blocks_of G_blocks_of (hr.mono (by first | decide | omega)) (xpa_cons (xqe_makeD T.c_Program T.d_Program___init__ G_Program___init__ (hr.mono (by first | decide | omega)) (xpa_cons (yqv 3 vl) (xpa_cons (yqv 4 vl) (xpa_cons (xpe_ix ix_tup (yqv 6 vl) xpe_int (fun _ _ => rfl)) (xpa_cons (yqv 5 vl) xpa_nil)))) gl) xpa_nil) gl))
      (xpss_cons
        (xps_if (xpt_not (xpt_val (xqe_callD T.d__law_fine G__law_fine (hr.mono (by first | decide | omega)) (xpa_cons (yqv 7 vl) (xpa_cons (yqv 6 vl) xpa_nil)) gl)))
          (xpss_one
            (xps_ret xpe_bl))
          xpss_nil)
      (xpss_cons
        (xps_for PassesOwn.never rfl (xpi_list (xqe_callD T.d__law_choices G__law_choices (hr.mono (by first | decide | omega)) (xpa_cons (yqv 4 vl) (xpa_cons (xpe_op yop_shl xpe_int (yqv 3 vl)) xpa_nil)) gl)) (xpg_name (i := 8) sc_law.nd rfl ll)
          (xpss_cons
            (xps_asg (xqe_callD T.d__law_run G__law_run (hr.mono (by first | decide | omega)) (xpa_cons (yqv 6 vl) (xpa_cons (yqv 8 vl) (xpa_cons xpe_int xpa_nil))) gl) (xpg_tup rfl (xpgs_cons (xpg_name (i := 9) sc_law.nd rfl ll) (xpgs_cons (xpg_name (i := 10) sc_law.nd rfl ll) (xpgs_cons (xpg_name (i := 11) sc_law.nd rfl ll) xpgs_nil)))))
          (xpss_cons
            (xps_asg (xqe_callD T.d__law_blocks_run G__law_blocks_run (hr.mono (by first | decide | omega)) (xpa_cons (yqv 7 vl) (xpa_cons (yqv 6 vl) (xpa_cons (yqv 8 vl) (xpa_cons xpe_int xpa_nil)))) gl) (xpg_tup rfl (xpgs_cons (xpg_name (i := 12) sc_law.nd rfl ll) (xpgs_cons (xpg_name (i := 13) sc_law.nd rfl ll) (xpgs_cons (xpg_name (i := 14) sc_law.nd rfl ll) xpgs_nil)))))
          (xpss_one
            (xps_if (xPW_pt (xpw_or (xpt_cmpR (op_neD (n := 0) (hu_n (by decide) hr)) (xpe_slice sl_list (yqv 12 vl) xpo_none (xpo_some (xqe_callB call_len_seq gl T.z_len PySem.boot_len (xpa_cons (yqv 9 vl) xpa_nil)))) (yqv 9 vl) (nomark _)) (xpw_or1 (xPW_pt (xpw_and (xpt_cmpR yop_ge (yqv 11 vl) xpe_int (nomark _)) (xpw_and1 (xPW_pt (xpw_or (xpt_not (xpt_val (yqv 14 vl))) (xpw_or (xpt_cmpR (op_neD (n := 0) (hu_n (by decide) hr)) (yqv 12 vl) (yqv 9 vl) (nomark _)) (xpw_or1 (xpt_cmpR (op_neDict hr.units0) (yqv 13 vl) (yqv 10 vl) (nomark _))))))))))))
              (xpss_one
                (xps_ret xpe_bl))
              xpss_nil)))))
      (xpss_one
        (xps_ret xpe_bl)))))))))))), ?_⟩
  rw [show start _ [V.ref a] = [some (.ref a), none, none, none, none, none, none, none, none, none, none, none, none, none, none] from rfl]
  simp only [y_v0, r_g0, y_v1, r_g1, y_v2, r_g2, y_v3, r_g3, y_v4, r_g4, y_v5, r_g5, y_v6, r_g6, y_v7, r_g7, y_v8, r_g8, y_v9, r_g9, y_v10, r_g10, y_v11, r_g11, y_v12, r_g12, y_v13, r_g13, y_v14, r_g14, y_v15, r_g15, r_c, r_op, r_un, y_I0, y_I, y_U, r_eqI, r_eqS, r_neI, r_neS, r_exbl, r_exint, r_test, r_B, r_and, r_or, r_not, r_andV, r_orV, r_notV, r_if, r_next, r_seqL, r_brk, r_cont, r_drop, r_ret, r_retN, r_ifS, r_asg, r_CB, r_nil, r_cons, r_call, r_tup, r_lst, r_p0, r_pS, r_disp, r_dget, r_sl, r_noPart, r_part, r_gNil, r_gCons, r_itF, r_nT, r_nF, r_len0, r_len1, r_len2, r_len3, r_len4, r_len7, r_len8, r_for, r_iEnum, r_iList, r_iTup, r_iRng1, r_iRng2, r_exI1, r_exI2, r_exR, r_bm, r_bm0, r_ixS, r_ixL, r_ixT, r_cat, r_slL, r_append, r_exRl, r_intB, true_and, and_true, forall_const, Int.reduceLT, r_compG, r_setComp, r_yes, r_slT, r_inR, r_notInR, cxOf_K, wish_K, blk_K, r_blk1, r_blk2, List.map_cons, List.map_nil, List.getElem?_cons_zero, List.getElem?_cons_succ, Option.join_some, r_Vs, r_join, r_tyStr, r_dnewK, r_dput, r_exRp, r_gSub, List.set_cons_zero, List.set_cons_succ, r_midL, r_sfld, r_gfld, r_meth, r_make, r_iRev, r_listRev, r_listVals, r_slRev, r_dget2, r_listRng, r_kget1, r_iEnumT, r_mixed, r_at]
  have hn0 := mixed_nn (atF ns 0) 2
  have hbb : Builtin.Int.intBits (atF ns 0) ≤ 2 ^ 20 := atF_bits hb
  refine ⟨ns, ha, by decide, hbb, by decide, by decide, ?_⟩
  generalize mixed (atF ns 0) 2 = nb at hn0 ⊢
  refine later ?_
  simp only [y_v0, r_g0, y_v1, r_g1, y_v2, r_g2, y_v3, r_g3, y_v4, r_g4, y_v5, r_g5, y_v6, r_g6, y_v7, r_g7, y_v8, r_g8, y_v9, r_g9, y_v10, r_g10, y_v11, r_g11, y_v12, r_g12, y_v13, r_g13, y_v14, r_g14, y_v15, r_g15, r_c, r_op, r_un, y_I0, y_I, y_U, r_eqI, r_eqS, r_neI, r_neS, r_exbl, r_exint, r_test, r_B, r_and, r_or, r_not, r_andV, r_orV, r_notV, r_if, r_next, r_seqL, r_brk, r_cont, r_drop, r_ret, r_retN, r_ifS, r_asg, r_CB, r_nil, r_cons, r_call, r_tup, r_lst, r_p0, r_pS, r_disp, r_dget, r_sl, r_noPart, r_part, r_gNil, r_gCons, r_itF, r_nT, r_nF, r_len0, r_len1, r_len2, r_len3, r_len4, r_len7, r_len8, r_for, r_iEnum, r_iList, r_iTup, r_iRng1, r_iRng2, r_exI1, r_exI2, r_exR, r_bm, r_bm0, r_ixS, r_ixL, r_ixT, r_cat, r_slL, r_append, r_exRl, r_intB, true_and, and_true, forall_const, Int.reduceLT, r_compG, r_setComp, r_yes, r_slT, r_inR, r_notInR, cxOf_K, wish_K, blk_K, r_blk1, r_blk2, List.map_cons, List.map_nil, List.getElem?_cons_zero, List.getElem?_cons_succ, Option.join_some, r_Vs, r_join, r_tyStr, r_dnewK, r_dput, r_exRp, r_gSub, List.set_cons_zero, List.set_cons_succ, r_midL, r_sfld, r_gfld, r_meth, r_make, r_iRev, r_listRev, r_listVals, r_slRev, r_dget2, r_listRng, r_kget1, r_iEnumT, r_names]
  have w0 : 0 ≤ nb % 2 := Int.emod_nonneg _ (by decide)
  have w7 : nb % 2 < 2 := Int.emod_lt_of_pos _ (by decide)
  have u0 : 0 ≤ nb / 64 % 4 := Int.emod_nonneg _ (by decide)
  have u7 : nb / 64 % 4 < 4 := Int.emod_lt_of_pos _ (by decide)
  have k0 : 0 ≤ nb / 1024 % 3 := Int.emod_nonneg _ (by decide)
  have k7 : nb / 1024 % 3 < 3 := Int.emod_lt_of_pos _ (by decide)
  refine ⟨CDivB.small (by decide) (by decide), CDivB.small (by decide) (by decide), Int.ediv_nonneg hn0 (by decide), by omega, by omega, fun pn H1 s1 hpn en => ?_⟩
  refine later ?_
  simp only [y_v0, r_g0, y_v1, r_g1, y_v2, r_g2, y_v3, r_g3, y_v4, r_g4, y_v5, r_g5, y_v6, r_g6, y_v7, r_g7, y_v8, r_g8, y_v9, r_g9, y_v10, r_g10, y_v11, r_g11, y_v12, r_g12, y_v13, r_g13, y_v14, r_g14, y_v15, r_g15, r_c, r_op, r_un, y_I0, y_I, y_U, r_eqI, r_eqS, r_neI, r_neS, r_exbl, r_exint, r_test, r_B, r_and, r_or, r_not, r_andV, r_orV, r_notV, r_if, r_next, r_seqL, r_brk, r_cont, r_drop, r_ret, r_retN, r_ifS, r_asg, r_CB, r_nil, r_cons, r_call, r_tup, r_lst, r_p0, r_pS, r_disp, r_dget, r_sl, r_noPart, r_part, r_gNil, r_gCons, r_itF, r_nT, r_nF, r_len0, r_len1, r_len2, r_len3, r_len4, r_len7, r_len8, r_for, r_iEnum, r_iList, r_iTup, r_iRng1, r_iRng2, r_exI1, r_exI2, r_exR, r_bm, r_bm0, r_ixS, r_ixL, r_ixT, r_cat, r_slL, r_append, r_exRl, r_intB, true_and, and_true, forall_const, Int.reduceLT, r_compG, r_setComp, r_yes, r_slT, r_inR, r_notInR, cxOf_K, wish_K, blk_K, r_blk1, r_blk2, List.map_cons, List.map_nil, List.getElem?_cons_zero, List.getElem?_cons_succ, Option.join_some, r_Vs, r_join, r_tyStr, r_dnewK, r_dput, r_exRp, r_gSub, List.set_cons_zero, List.set_cons_succ, r_midL, r_sfld, r_gfld, r_meth, r_make, r_iRev, r_listRev, r_listVals, r_slRev, r_dget2, r_listRng, r_kget1, r_iEnumT]
  refine later ?_
  simp only [y_v0, r_g0, y_v1, r_g1, y_v2, r_g2, y_v3, r_g3, y_v4, r_g4, y_v5, r_g5, y_v6, r_g6, y_v7, r_g7, y_v8, r_g8, y_v9, r_g9, y_v10, r_g10, y_v11, r_g11, y_v12, r_g12, y_v13, r_g13, y_v14, r_g14, y_v15, r_g15, r_c, r_op, r_un, y_I0, y_I, y_U, r_eqI, r_eqS, r_neI, r_neS, r_exbl, r_exint, r_test, r_B, r_and, r_or, r_not, r_andV, r_orV, r_notV, r_if, r_next, r_seqL, r_brk, r_cont, r_drop, r_ret, r_retN, r_ifS, r_asg, r_CB, r_nil, r_cons, r_call, r_tup, r_lst, r_p0, r_pS, r_disp, r_dget, r_sl, r_noPart, r_part, r_gNil, r_gCons, r_itF, r_nT, r_nF, r_len0, r_len1, r_len2, r_len3, r_len4, r_len7, r_len8, r_for, r_iEnum, r_iList, r_iTup, r_iRng1, r_iRng2, r_exI1, r_exI2, r_exR, r_bm, r_bm0, r_ixS, r_ixL, r_ixT, r_cat, r_slL, r_append, r_exRl, r_intB, true_and, and_true, forall_const, Int.reduceLT, r_compG, r_setComp, r_yes, r_slT, r_inR, r_notInR, cxOf_K, wish_K, blk_K, r_blk1, r_blk2, List.map_cons, List.map_nil, List.getElem?_cons_zero, List.getElem?_cons_succ, Option.join_some, r_Vs, r_join, r_tyStr, r_dnewK, r_dput, r_exRp, r_gSub, List.set_cons_zero, List.set_cons_succ, r_midL, r_sfld, r_gfld, r_meth, r_make, r_iRev, r_listRev, r_listVals, r_slRev, r_dget2, r_listRng, r_kget1, r_iEnumT]
  refine ⟨CDivB.small (by decide) (by decide), ?_⟩
  have lnm : (namesB (nb / 8) (1 + nb / 64 % 4).toNat).length = (1 + nb / 64 % 4).toNat := namesB_length (by omega)
  generalize namesB (nb / 8) (1 + nb / 64 % 4).toNat = nms at en lnm
  refine ⟨_, SqL.of en, fun pi hpi => ?_⟩
  rw [cutV_to k0, ← List.map_take]
  generalize hki : nms.take (nb / 1024 % 3).toNat = ins
  have ti := Same.upd (o := .lst (ins.map V.str)) hpi
  have s1i := s1.trans ti
  refine later ?_
  simp only [y_v0, r_g0, y_v1, r_g1, y_v2, r_g2, y_v3, r_g3, y_v4, r_g4, y_v5, r_g5, y_v6, r_g6, y_v7, r_g7, y_v8, r_g8, y_v9, r_g9, y_v10, r_g10, y_v11, r_g11, y_v12, r_g12, y_v13, r_g13, y_v14, r_g14, y_v15, r_g15, r_c, r_op, r_un, y_I0, y_I, y_U, r_eqI, r_eqS, r_neI, r_neS, r_exbl, r_exint, r_test, r_B, r_and, r_or, r_not, r_andV, r_orV, r_notV, r_if, r_next, r_seqL, r_brk, r_cont, r_drop, r_ret, r_retN, r_ifS, r_asg, r_CB, r_nil, r_cons, r_call, r_tup, r_lst, r_p0, r_pS, r_disp, r_dget, r_sl, r_noPart, r_part, r_gNil, r_gCons, r_itF, r_nT, r_nF, r_len0, r_len1, r_len2, r_len3, r_len4, r_len7, r_len8, r_for, r_iEnum, r_iList, r_iTup, r_iRng1, r_iRng2, r_exI1, r_exI2, r_exR, r_bm, r_bm0, r_ixS, r_ixL, r_ixT, r_cat, r_slL, r_append, r_exRl, r_intB, true_and, and_true, forall_const, Int.reduceLT, r_compG, r_setComp, r_yes, r_slT, r_inR, r_notInR, cxOf_K, wish_K, blk_K, r_blk1, r_blk2, List.map_cons, List.map_nil, List.getElem?_cons_zero, List.getElem?_cons_succ, Option.join_some, r_Vs, r_join, r_tyStr, r_dnewK, r_dput, r_exRp, r_gSub, List.set_cons_zero, List.set_cons_succ, r_midL, r_sfld, r_gfld, r_meth, r_make, r_iRev, r_listRev, r_listVals, r_slRev, r_dget2, r_listRng, r_kget1, r_iEnumT, r_folds, r_at]
  refine ⟨ns, 12, rfl, by decide, by decide, by decide, by decide, s1i.seq ha, hb, fun pf fs H2 s2 hpf ef lf => ?_⟩
  have s12 := s1i.trans s2
  simp only [y_v0, r_g0, y_v1, r_g1, y_v2, r_g2, y_v3, r_g3, y_v4, r_g4, y_v5, r_g5, y_v6, r_g6, y_v7, r_g7, y_v8, r_g8, y_v9, r_g9, y_v10, r_g10, y_v11, r_g11, y_v12, r_g12, y_v13, r_g13, y_v14, r_g14, y_v15, r_g15, r_c, r_op, r_un, y_I0, y_I, y_U, r_eqI, r_eqS, r_neI, r_neS, r_exbl, r_exint, r_test, r_B, r_and, r_or, r_not, r_andV, r_orV, r_notV, r_if, r_next, r_seqL, r_brk, r_cont, r_drop, r_ret, r_retN, r_ifS, r_asg, r_CB, r_nil, r_cons, r_call, r_tup, r_lst, r_p0, r_pS, r_disp, r_dget, r_sl, r_noPart, r_part, r_gNil, r_gCons, r_itF, r_nT, r_nF, r_len0, r_len1, r_len2, r_len3, r_len4, r_len7, r_len8, r_for, r_iEnum, r_iList, r_iTup, r_iRng1, r_iRng2, r_exI1, r_exI2, r_exR, r_bm, r_bm0, r_ixS, r_ixL, r_ixT, r_cat, r_slL, r_append, r_exRl, r_intB, true_and, and_true, forall_const, Int.reduceLT, r_compG, r_setComp, r_yes, r_slT, r_inR, r_notInR, cxOf_K, wish_K, blk_K, r_blk1, r_blk2, List.map_cons, List.map_nil, List.getElem?_cons_zero, List.getElem?_cons_succ, Option.join_some, r_Vs, r_join, r_tyStr, r_dnewK, r_dput, r_exRp, r_gSub, List.set_cons_zero, List.set_cons_succ, r_midL, r_sfld, r_gfld, r_meth, r_make, r_iRev, r_listRev, r_listVals, r_slRev, r_dget2, r_listRng, r_kget1, r_iEnumT, r_stmts]
  refine ⟨ns, s12.seq ha, by decide, _, SqL.of ef, fun pc hpc => ?_⟩
  have c0 : 0 ≤ atF ns 1 % 13 := Int.emod_nonneg _ (by decide)
  rw [cutV_to c0, ← List.map_take]
  have tc := Same.upd (o := .lst ((fs.take (atF ns 1 % 13).toNat).map V.int)) hpc
  have lc : (fs.take (atF ns 1 % 13).toNat).length ≤ 12 := by rw [List.length_take, lf]; exact Nat.min_le_right ..
  generalize fs.take (atF ns 1 % 13).toNat = cs at tc lc ⊢
  have s1c := s12.trans tc
  have en3 := (ti.trans (s2.trans tc)) _ _ en
  refine ⟨⟨by omega, by omega, by decide⟩, ?_⟩
  refine (mk_stmts (nms) (1 + nb % 2) (cs) (3) (rfl) (⟨SqL.of en3, by omega, by omega, by omega, by omega⟩) (rfl) (by decide) (SqL.of upd_same) (by omega) (fun pr xs ss g H3 s3 fr nf er v3 gd dp my => ?_))
  have s13 := s1c.trans s3
  have ei3 := s3 _ _ (tc _ _ (s2 _ _ (show upd H1 pi (.lst (ins.map V.str)) pi = some (.lst (ins.map V.str)) from upd_same)))
  refine later ?_
  simp only [y_v0, r_g0, y_v1, r_g1, y_v2, r_g2, y_v3, r_g3, y_v4, r_g4, y_v5, r_g5, y_v6, r_g6, y_v7, r_g7, y_v8, r_g8, y_v9, r_g9, y_v10, r_g10, y_v11, r_g11, y_v12, r_g12, y_v13, r_g13, y_v14, r_g14, y_v15, r_g15, r_c, r_op, r_un, y_I0, y_I, y_U, r_eqI, r_eqS, r_neI, r_neS, r_exbl, r_exint, r_test, r_B, r_and, r_or, r_not, r_andV, r_orV, r_notV, r_if, r_next, r_seqL, r_brk, r_cont, r_drop, r_ret, r_retN, r_ifS, r_asg, r_CB, r_nil, r_cons, r_call, r_tup, r_lst, r_p0, r_pS, r_disp, r_dget, r_sl, r_noPart, r_part, r_gNil, r_gCons, r_itF, r_nT, r_nF, r_len0, r_len1, r_len2, r_len3, r_len4, r_len7, r_len8, r_for, r_iEnum, r_iList, r_iTup, r_iRng1, r_iRng2, r_exI1, r_exI2, r_exR, r_bm, r_bm0, r_ixS, r_ixL, r_ixT, r_cat, r_slL, r_append, r_exRl, r_intB, true_and, and_true, forall_const, Int.reduceLT, r_compG, r_setComp, r_yes, r_slT, r_inR, r_notInR, cxOf_K, wish_K, blk_K, r_blk1, r_blk2, List.map_cons, List.map_nil, List.getElem?_cons_zero, List.getElem?_cons_succ, Option.join_some, r_Vs, r_join, r_tyStr, r_dnewK, r_dput, r_exRp, r_gSub, List.set_cons_zero, List.set_cons_succ, r_midL, r_sfld, r_gfld, r_meth, r_make, r_iRev, r_listRev, r_listVals, r_slRev, r_dget2, r_listRng, r_kget1, r_iEnumT]
  refine ⟨_, .inl (SqL.of ei3), _, SqL.of (s3 _ _ en3), fun po hpo q0 hq0 => ?_⟩
  have eo : cutV (nms.map V.str) (some (((ins.map V.str).length : Nat) : Int)) none = (nms.drop ins.length).map V.str := by
    rw [cutV_from (by omega), Int.toNat_natCast, List.length_map, List.map_drop]
  rw [eo] at hq0 ⊢
  have to_ := Same.upd (o := .lst ((nms.drop ins.length).map V.str)) hpo
  have tq := Same.upd (o := .tup [V.int (1 + nb % 2), V.ref pi, V.ref po, V.ref pr]) hq0
  have li : ins.length ≤ 2 := by rw [← hki, List.length_take]; omega
  have sall : ins ++ nms.drop ins.length = nms := by
    rw [← hki, List.length_take]
    by_cases h : (nb / 1024 % 3).toNat ≤ nms.length
    · rw [Nat.min_eq_left h, List.take_append_drop]
    · rw [Nat.min_eq_right (by omega), List.take_of_length_le (by omega), List.drop_length, List.append_nil]
  have s14 := (s13.trans to_).trans tq
  have hD : DrV K H (upd (upd H3 po (.lst ((nms.drop ins.length).map V.str))) q0 (.tup [V.int (1 + nb % 2), V.ref pi, V.ref po, V.ref pr])) q0 (1 + nb % 2) ins (nms.drop ins.length) ss pi po pr xs g 12 :=
    ⟨upd_same, tq _ _ (to_ _ _ ei3), tq _ _ upd_same, tq _ _ (to_ _ _ er), (v3.same to_).same tq, by rw [sall]; exact gd, dp, by omega, by omega, by omega, by rw [sall]; omega, by rw [sall]; omega, fun c hc => s1c.free (fr c hc), nf⟩
  have w2 : 1 + nb % 2 ≤ 2 := by omega
  clear sall eo tq to_ ei3 en3 s13 my dp gd v3 er nf fr s3 tc lc hki
  generalize nms.drop ins.length = oth at hD ⊢
  generalize 1 + nb % 2 = wd at hD w2 ⊢
  generalize upd (upd H3 po _) q0 _ = H1 at hD s14 ⊢
  have s1 := s14
  clear s14
  have hdp := hD.dp
  have hmn := hD.mn
  have hfew := hD.few
  have hw1 := hD.w1
  have hw8 := hD.w8
  have hgd := hD.gd
  have hal := hD.few
  rw [List.length_append] at hfew
  refine later ?_
  simp only [y_v0, r_g0, y_v1, r_g1, y_v2, r_g2, y_v3, r_g3, y_v4, r_g4, y_v5, r_g5, y_v6, r_g6, y_v7, r_g7, y_v8, r_g8, y_v9, r_g9, y_v10, r_g10, y_v11, r_g11, y_v12, r_g12, y_v13, r_g13, y_v14, r_g14, y_v15, r_g15, r_c, r_op, r_un, y_I0, y_I, y_U, r_eqI, r_eqS, r_neI, r_neS, r_exbl, r_exint, r_test, r_B, r_and, r_or, r_not, r_andV, r_orV, r_notV, r_if, r_next, r_seqL, r_brk, r_cont, r_drop, r_ret, r_retN, r_ifS, r_asg, r_CB, r_nil, r_cons, r_call, r_tup, r_lst, r_p0, r_pS, r_disp, r_dget, r_sl, r_noPart, r_part, r_gNil, r_gCons, r_itF, r_nT, r_nF, r_len0, r_len1, r_len2, r_len3, r_len4, r_len7, r_len8, r_for, r_iEnum, r_iList, r_iTup, r_iRng1, r_iRng2, r_exI1, r_exI2, r_exR, r_bm, r_bm0, r_ixS, r_ixL, r_ixT, r_cat, r_slL, r_append, r_exRl, r_intB, true_and, and_true, forall_const, Int.reduceLT, r_compG, r_setComp, r_yes, r_slT, r_inR, r_notInR, cxOf_K, wish_K, blk_K, r_blk1, r_blk2, List.map_cons, List.map_nil, List.getElem?_cons_zero, List.getElem?_cons_succ, Option.join_some, r_Vs, r_join, r_tyStr, r_dnewK, r_dput, r_exRp, r_gSub, List.set_cons_zero, List.set_cons_succ, r_midL, r_sfld, r_gfld, r_meth, r_make, r_iRev, r_listRev, r_listVals, r_slRev, r_dget2, r_listRng, r_kget1, r_iEnumT]
  refine ⟨_, _, SqT.of hD.tup, rfl, ?_⟩
  intro pp dx hpp hdx hne
  simp only [y_v0, r_g0, y_v1, r_g1, y_v2, r_g2, y_v3, r_g3, y_v4, r_g4, y_v5, r_g5, y_v6, r_g6, y_v7, r_g7, y_v8, r_g8, y_v9, r_g9, y_v10, r_g10, y_v11, r_g11, y_v12, r_g12, y_v13, r_g13, y_v14, r_g14, y_v15, r_g15, r_c, r_op, r_un, y_I0, y_I, y_U, r_eqI, r_eqS, r_neI, r_neS, r_exbl, r_exint, r_test, r_B, r_and, r_or, r_not, r_andV, r_orV, r_notV, r_if, r_next, r_seqL, r_brk, r_cont, r_drop, r_ret, r_retN, r_ifS, r_asg, r_CB, r_nil, r_cons, r_call, r_tup, r_lst, r_p0, r_pS, r_disp, r_dget, r_sl, r_noPart, r_part, r_gNil, r_gCons, r_itF, r_nT, r_nF, r_len0, r_len1, r_len2, r_len3, r_len4, r_len7, r_len8, r_for, r_iEnum, r_iList, r_iTup, r_iRng1, r_iRng2, r_exI1, r_exI2, r_exR, r_bm, r_bm0, r_ixS, r_ixL, r_ixT, r_cat, r_slL, r_append, r_exRl, r_intB, true_and, and_true, forall_const, Int.reduceLT, r_compG, r_setComp, r_yes, r_slT, r_inR, r_notInR, cxOf_K, wish_K, blk_K, r_blk1, r_blk2, List.map_cons, List.map_nil, List.getElem?_cons_zero, List.getElem?_cons_succ, Option.join_some, r_Vs, r_join, r_tyStr, r_dnewK, r_dput, r_exRp, r_gSub, List.set_cons_zero, List.set_cons_succ, r_midL, r_sfld, r_gfld, r_meth, r_make, r_iRev, r_listRev, r_listVals, r_slRev, r_dget2, r_listRng, r_kget1, r_iEnumT, r_init, r_blocks]
  have s6 : Same H1 (upd (upd H1 dx (.own pp)) pp (.ins t.C_Program dx [])) := (Same.upd hdx).updM hpp
  refine (mk_init (dx) (ins) (oth) (xs) (ss) (g) (upd_same) (s6 _ _ hD.ia) (s6 _ _ hD.oa) (s6 _ _ hD.ra) (hD.st.same s6) (by omega) (by omega) (by omega) (by omega) (fun a' b' r' ys gg H7 sx hP _ _ => ?_))
  have s7 : Same H1 H7 := fun c' o' e => sx c' o' (s6 _ _ e) (ne_of_none e hpp)
  have hD7 := hD.same s7
  clear sx s6 hpp hdx hD s7
  refine ⟨rfl, ?_⟩
  refine (mk_blocks (wd) (ins) (oth) (ss) (a') (b') (r') (ys) (gg) (hP) (by omega) (by omega) (fun bl bs H8 s8 hbl0 hbl hbs => ?_))
  have lb := hbs.length
  have lB := FZ.blocksOf_len ss
  have hG := FZ.blocksOf_G hgd
  have hD8 := hD7.same s8
  refine later ?_
  simp only [y_v0, r_g0, y_v1, r_g1, y_v2, r_g2, y_v3, r_g3, y_v4, r_g4, y_v5, r_g5, y_v6, r_g6, y_v7, r_g7, y_v8, r_g8, y_v9, r_g9, y_v10, r_g10, y_v11, r_g11, y_v12, r_g12, y_v13, r_g13, y_v14, r_g14, y_v15, r_g15, r_c, r_op, r_un, y_I0, y_I, y_U, r_eqI, r_eqS, r_neI, r_neS, r_exbl, r_exint, r_test, r_B, r_and, r_or, r_not, r_andV, r_orV, r_notV, r_if, r_next, r_seqL, r_brk, r_cont, r_drop, r_ret, r_retN, r_ifS, r_asg, r_CB, r_nil, r_cons, r_call, r_tup, r_lst, r_p0, r_pS, r_disp, r_dget, r_sl, r_noPart, r_part, r_gNil, r_gCons, r_itF, r_nT, r_nF, r_len0, r_len1, r_len2, r_len3, r_len4, r_len7, r_len8, r_for, r_iEnum, r_iList, r_iTup, r_iRng1, r_iRng2, r_exI1, r_exI2, r_exR, r_bm, r_bm0, r_ixS, r_ixL, r_ixT, r_cat, r_slL, r_append, r_exRl, r_intB, true_and, and_true, forall_const, Int.reduceLT, r_compG, r_setComp, r_yes, r_slT, r_inR, r_notInR, cxOf_K, wish_K, blk_K, r_blk1, r_blk2, List.map_cons, List.map_nil, List.getElem?_cons_zero, List.getElem?_cons_succ, Option.join_some, r_Vs, r_join, r_tyStr, r_dnewK, r_dput, r_exRp, r_gSub, List.set_cons_zero, List.set_cons_succ, r_midL, r_sfld, r_gfld, r_meth, r_make, r_iRev, r_listRev, r_listVals, r_slRev, r_dget2, r_listRng, r_kget1, r_iEnumT, r_fine]
  refine (mk_fine (_) (bs) (FZ.blocksOf ss) (wd) (ins) (oth) (pr) (hbl) (hbs) (hG) (lB.2) (by omega) (hD8.n) (fun H9 s9 => ⟨_, rfl, ?_⟩))
  rw [if_neg (by decide)]
  have hD9 := hD8.same s9
  refine later ?_
  simp only [y_v0, r_g0, y_v1, r_g1, y_v2, r_g2, y_v3, r_g3, y_v4, r_g4, y_v5, r_g5, y_v6, r_g6, y_v7, r_g7, y_v8, r_g8, y_v9, r_g9, y_v10, r_g10, y_v11, r_g11, y_v12, r_g12, y_v13, r_g13, y_v14, r_g14, y_v15, r_g15, r_c, r_op, r_un, y_I0, y_I, y_U, r_eqI, r_eqS, r_neI, r_neS, r_exbl, r_exint, r_test, r_B, r_and, r_or, r_not, r_andV, r_orV, r_notV, r_if, r_next, r_seqL, r_brk, r_cont, r_drop, r_ret, r_retN, r_ifS, r_asg, r_CB, r_nil, r_cons, r_call, r_tup, r_lst, r_p0, r_pS, r_disp, r_dget, r_sl, r_noPart, r_part, r_gNil, r_gCons, r_itF, r_nT, r_nF, r_len0, r_len1, r_len2, r_len3, r_len4, r_len7, r_len8, r_for, r_iEnum, r_iList, r_iTup, r_iRng1, r_iRng2, r_exI1, r_exI2, r_exR, r_bm, r_bm0, r_ixS, r_ixL, r_ixT, r_cat, r_slL, r_append, r_exRl, r_intB, true_and, and_true, forall_const, Int.reduceLT, r_compG, r_setComp, r_yes, r_slT, r_inR, r_notInR, cxOf_K, wish_K, blk_K, r_blk1, r_blk2, List.map_cons, List.map_nil, List.getElem?_cons_zero, List.getElem?_cons_succ, Option.join_some, r_Vs, r_join, r_tyStr, r_dnewK, r_dput, r_exRp, r_gSub, List.set_cons_zero, List.set_cons_succ, r_midL, r_sfld, r_gfld, r_meth, r_make, r_iRev, r_listRev, r_listVals, r_slRev, r_dget2, r_listRng, r_kget1, r_iEnumT]
  refine ⟨⟨by omega, by omega, by decide⟩, ?_⟩
  rw [r_choices]
  refine ⟨ins, wd, hD9.ia, by omega, rfl, hw1, w2, fun pc cx H10 s10 _ hpc hC => ⟨pc, rfl, ⟨_, SqL.of hpc⟩, ?_⟩⟩
  have hD10 := hD9.same s10
  have hbl10 := s10 _ _ (s9 _ _ hbl)
  have hbs10 := FL.Paired.imp hbs (fun _ _ _ _ h => h.same (s9.trans s10))
  clear hbs hbl hD9 hD8 hD7 hP
  refine fw_list (xs := cx) (fun i σ H' => Same H10 H' ∧ ∃ o8 o9 o10 o11 o12 o13 o14, σ = [some (.ref a), some (.int nb), some (.ref pn), some (.int wd), some (.ref pi), some (.ref pr), some (.ref q0), some (.ref bl), o8, o9, o10, o11, o12, o13, o14]) ⟨Same.refl _, _, _, _, _, _, _, _, rfl⟩ (fun i σ H' _ h => SqL.of (h.1 _ _ hpc)) ?_ ?_
  · rintro i x σ H11 hx ⟨s11, o8, o9, o10, o11, o12, o13, o14, rfl⟩
    obtain ⟨c, ws, rfl, hW0, _⟩ := hC x (List.mem_of_getElem? hx)
    have hW := hW0.same s11
    have hD11 := hD10.same s11
    simp only [y_v0, r_g0, y_v1, r_g1, y_v2, r_g2, y_v3, r_g3, y_v4, r_g4, y_v5, r_g5, y_v6, r_g6, y_v7, r_g7, y_v8, r_g8, y_v9, r_g9, y_v10, r_g10, y_v11, r_g11, y_v12, r_g12, y_v13, r_g13, y_v14, r_g14, y_v15, r_g15, r_c, r_op, r_un, y_I0, y_I, y_U, r_eqI, r_eqS, r_neI, r_neS, r_exbl, r_exint, r_test, r_B, r_and, r_or, r_not, r_andV, r_orV, r_notV, r_if, r_next, r_seqL, r_brk, r_cont, r_drop, r_ret, r_retN, r_ifS, r_asg, r_CB, r_nil, r_cons, r_call, r_tup, r_lst, r_p0, r_pS, r_disp, r_dget, r_sl, r_noPart, r_part, r_gNil, r_gCons, r_itF, r_nT, r_nF, r_len0, r_len1, r_len2, r_len3, r_len4, r_len7, r_len8, r_for, r_iEnum, r_iList, r_iTup, r_iRng1, r_iRng2, r_exI1, r_exI2, r_exR, r_bm, r_bm0, r_ixS, r_ixL, r_ixT, r_cat, r_slL, r_append, r_exRl, r_intB, true_and, and_true, forall_const, Int.reduceLT, r_compG, r_setComp, r_yes, r_slT, r_inR, r_notInR, cxOf_K, wish_K, blk_K, r_blk1, r_blk2, List.map_cons, List.map_nil, List.getElem?_cons_zero, List.getElem?_cons_succ, Option.join_some, r_Vs, r_join, r_tyStr, r_dnewK, r_dput, r_exRp, r_gSub, List.set_cons_zero, List.set_cons_succ, r_midL, r_sfld, r_gfld, r_meth, r_make, r_iRev, r_listRev, r_listVals, r_slRev, r_dget2, r_listRng, r_kget1, r_iEnumT, r_lrun]
    refine (mk_lrun (H) (wd) (ins) (oth) (ss) (pi) (po) (pr) (xs) (g) (12) (ws) (40) (rfl) (by decide) (hD11) (hW) (fun p1 td bx H12 s12 e12 hV12 => ?_))
    have f1 := GA.runL_runS (w := wd) (n := 40) (s := ⟨ss, firstB ins ws (ins ++ oth), []⟩)
    have f2 := GA.blocks_pre (ss := ss) (w := wd) (b := firstB ins ws (ins ++ oth)) (t := []) (n := 40) (m := 123) (by decide)
    have f3 := fun h => GA.blocks_end (ss := ss) (w := wd) (b := firstB ins ws (ins ++ oth)) (t := []) (n := 40) (m := 123) h (by decide)
    rw [← f1.1] at f2 f3
    replace f3 := fun h => f3 (by rw [f1.1]; exact f1.2.mp h)
    clear f1
    generalize GA.runL wd 40 ⟨ss, firstB ins ws (ins ++ oth), []⟩ = R1 at *
    refine ⟨_, _, rfl, SqT.of e12, rfl, ?_⟩
    simp only [y_v0, r_g0, y_v1, r_g1, y_v2, r_g2, y_v3, r_g3, y_v4, r_g4, y_v5, r_g5, y_v6, r_g6, y_v7, r_g7, y_v8, r_g8, y_v9, r_g9, y_v10, r_g10, y_v11, r_g11, y_v12, r_g12, y_v13, r_g13, y_v14, r_g14, y_v15, r_g15, r_c, r_op, r_un, y_I0, y_I, y_U, r_eqI, r_eqS, r_neI, r_neS, r_exbl, r_exint, r_test, r_B, r_and, r_or, r_not, r_andV, r_orV, r_notV, r_if, r_next, r_seqL, r_brk, r_cont, r_drop, r_ret, r_retN, r_ifS, r_asg, r_CB, r_nil, r_cons, r_call, r_tup, r_lst, r_p0, r_pS, r_disp, r_dget, r_sl, r_noPart, r_part, r_gNil, r_gCons, r_itF, r_nT, r_nF, r_len0, r_len1, r_len2, r_len3, r_len4, r_len7, r_len8, r_for, r_iEnum, r_iList, r_iTup, r_iRng1, r_iRng2, r_exI1, r_exI2, r_exR, r_bm, r_bm0, r_ixS, r_ixL, r_ixT, r_cat, r_slL, r_append, r_exRl, r_intB, true_and, and_true, forall_const, Int.reduceLT, r_compG, r_setComp, r_yes, r_slT, r_inR, r_notInR, cxOf_K, wish_K, blk_K, r_blk1, r_blk2, List.map_cons, List.map_nil, List.getElem?_cons_zero, List.getElem?_cons_succ, Option.join_some, r_Vs, r_join, r_tyStr, r_dnewK, r_dput, r_exRp, r_gSub, List.set_cons_zero, List.set_cons_succ, r_midL, r_sfld, r_gfld, r_meth, r_make, r_iRev, r_listRev, r_listVals, r_slRev, r_dget2, r_listRng, r_kget1, r_iEnumT]
    refine later ?_
    simp only [y_v0, r_g0, y_v1, r_g1, y_v2, r_g2, y_v3, r_g3, y_v4, r_g4, y_v5, r_g5, y_v6, r_g6, y_v7, r_g7, y_v8, r_g8, y_v9, r_g9, y_v10, r_g10, y_v11, r_g11, y_v12, r_g12, y_v13, r_g13, y_v14, r_g14, y_v15, r_g15, r_c, r_op, r_un, y_I0, y_I, y_U, r_eqI, r_eqS, r_neI, r_neS, r_exbl, r_exint, r_test, r_B, r_and, r_or, r_not, r_andV, r_orV, r_notV, r_if, r_next, r_seqL, r_brk, r_cont, r_drop, r_ret, r_retN, r_ifS, r_asg, r_CB, r_nil, r_cons, r_call, r_tup, r_lst, r_p0, r_pS, r_disp, r_dget, r_sl, r_noPart, r_part, r_gNil, r_gCons, r_itF, r_nT, r_nF, r_len0, r_len1, r_len2, r_len3, r_len4, r_len7, r_len8, r_for, r_iEnum, r_iList, r_iTup, r_iRng1, r_iRng2, r_exI1, r_exI2, r_exR, r_bm, r_bm0, r_ixS, r_ixL, r_ixT, r_cat, r_slL, r_append, r_exRl, r_intB, true_and, and_true, forall_const, Int.reduceLT, r_compG, r_setComp, r_yes, r_slT, r_inR, r_notInR, cxOf_K, wish_K, blk_K, r_blk1, r_blk2, List.map_cons, List.map_nil, List.getElem?_cons_zero, List.getElem?_cons_succ, Option.join_some, r_Vs, r_join, r_tyStr, r_dnewK, r_dput, r_exRp, r_gSub, List.set_cons_zero, List.set_cons_succ, r_midL, r_sfld, r_gfld, r_meth, r_make, r_iRev, r_listRev, r_listVals, r_slRev, r_dget2, r_listRng, r_kget1, r_iEnumT, r_lbr]
    have hD12 := hD11.same s12
    have hW12 := hW.same s12
    refine (mk_lbr (_) (bs) (FZ.blocksOf ss) (wd) (ins) (oth) (pr) (ws) (123) (rfl) (by decide) (s12 _ _ (s11 _ _ hbl10)) (FL.Paired.imp hbs10 (fun _ _ _ _ h => h.same (s11.trans s12))) (hG) (lB.2) (hD12.n) (hW12) (fun p2 td2 bx2 H13 s13 e13 hV13 l13 => ?_))
    generalize GA.bRun (FZ.blocksOf ss) wd 123 0 (firstB ins ws (ins ++ oth), []) = R2 at *
    refine ⟨_, _, rfl, SqT.of e13, rfl, ?_⟩
    simp only [y_v0, r_g0, y_v1, r_g1, y_v2, r_g2, y_v3, r_g3, y_v4, r_g4, y_v5, r_g5, y_v6, r_g6, y_v7, r_g7, y_v8, r_g8, y_v9, r_g9, y_v10, r_g10, y_v11, r_g11, y_v12, r_g12, y_v13, r_g13, y_v14, r_g14, y_v15, r_g15, r_c, r_op, r_un, y_I0, y_I, y_U, r_eqI, r_eqS, r_neI, r_neS, r_exbl, r_exint, r_test, r_B, r_and, r_or, r_not, r_andV, r_orV, r_notV, r_if, r_next, r_seqL, r_brk, r_cont, r_drop, r_ret, r_retN, r_ifS, r_asg, r_CB, r_nil, r_cons, r_call, r_tup, r_lst, r_p0, r_pS, r_disp, r_dget, r_sl, r_noPart, r_part, r_gNil, r_gCons, r_itF, r_nT, r_nF, r_len0, r_len1, r_len2, r_len3, r_len4, r_len7, r_len8, r_for, r_iEnum, r_iList, r_iTup, r_iRng1, r_iRng2, r_exI1, r_exI2, r_exR, r_bm, r_bm0, r_ixS, r_ixL, r_ixT, r_cat, r_slL, r_append, r_exRl, r_intB, true_and, and_true, forall_const, Int.reduceLT, r_compG, r_setComp, r_yes, r_slT, r_inR, r_notInR, cxOf_K, wish_K, blk_K, r_blk1, r_blk2, List.map_cons, List.map_nil, List.getElem?_cons_zero, List.getElem?_cons_succ, Option.join_some, r_Vs, r_join, r_tyStr, r_dnewK, r_dput, r_exRp, r_gSub, List.set_cons_zero, List.set_cons_succ, r_midL, r_sfld, r_gfld, r_meth, r_make, r_iRev, r_listRev, r_listVals, r_slRev, r_dget2, r_listRng, r_kget1, r_iEnumT]
    refine later ?_
    simp only [y_v0, r_g0, y_v1, r_g1, y_v2, r_g2, y_v3, r_g3, y_v4, r_g4, y_v5, r_g5, y_v6, r_g6, y_v7, r_g7, y_v8, r_g8, y_v9, r_g9, y_v10, r_g10, y_v11, r_g11, y_v12, r_g12, y_v13, r_g13, y_v14, r_g14, y_v15, r_g15, r_c, r_op, r_un, y_I0, y_I, y_U, r_eqI, r_eqS, r_neI, r_neS, r_exbl, r_exint, r_test, r_B, r_and, r_or, r_not, r_andV, r_orV, r_notV, r_if, r_next, r_seqL, r_brk, r_cont, r_drop, r_ret, r_retN, r_ifS, r_asg, r_CB, r_nil, r_cons, r_call, r_tup, r_lst, r_p0, r_pS, r_disp, r_dget, r_sl, r_noPart, r_part, r_gNil, r_gCons, r_itF, r_nT, r_nF, r_len0, r_len1, r_len2, r_len3, r_len4, r_len7, r_len8, r_for, r_iEnum, r_iList, r_iTup, r_iRng1, r_iRng2, r_exI1, r_exI2, r_exR, r_bm, r_bm0, r_ixS, r_ixL, r_ixT, r_cat, r_slL, r_append, r_exRl, r_intB, true_and, and_true, forall_const, Int.reduceLT, r_compG, r_setComp, r_yes, r_slT, r_inR, r_notInR, cxOf_K, wish_K, blk_K, r_blk1, r_blk2, List.map_cons, List.map_nil, List.getElem?_cons_zero, List.getElem?_cons_succ, Option.join_some, r_Vs, r_join, r_tyStr, r_dnewK, r_dput, r_exRp, r_gSub, List.set_cons_zero, List.set_cons_succ, r_midL, r_sfld, r_gfld, r_meth, r_make, r_iRev, r_listRev, r_listVals, r_slRev, r_dget2, r_listRng, r_kget1, r_iEnumT]
    have ht := s13 _ _ hV12.ht
    have hb' := s13 _ _ hV12.hb
    refine ⟨_, .inl (SqL.of ht), _, SqL.of hV13.ht, fun p3 hp3 => ?_⟩
    rw [cutV_to (by omega), Int.toNat_natCast, List.length_map, ← List.map_take, ← List.prefix_iff_eq_take.mp f2]
    have t3 := Same.upd (o := .lst (R1.2.told.map V.int)) hp3
    refine ⟨true, rq_ints (SqL.of upd_same) (SqL.of (t3 _ _ ht)), _, rfl, ?_⟩
    rw [if_neg (by decide)]
    generalize upd H13 p3 _ = H14 at t3 ⊢
    have s14 := ((s11.trans s12).trans s13).trans t3
    by_cases e0 : 0 ≤ R1.1
    · rw [if_pos (by simpa using e0)]
      have f3' := f3 e0
      subst f3'
      rw [if_neg (show ¬ (!true) = true by decide)]
      refine ⟨true, rq_ints (SqL.of (t3 _ _ hV13.ht)) (SqL.of (t3 _ _ ht)), _, rfl, ?_⟩
      rw [if_neg (by decide)]
      refine ⟨bx2, bx, _, _, rfl, rfl, .inl (t3 _ _ hV13.hb), .inl (t3 _ _ hb'), hV13.gd.isI.flat, hV12.gd.isI.flat, ?_⟩
      rw [hV12.gd.isI.self]
      refine ⟨_, rfl, ?_⟩
      rw [if_neg (by decide)]
      exact ⟨s14, _, _, _, _, _, _, _, rfl⟩
    · rw [if_neg (by simpa using e0)]
      exact ⟨s14, _, _, _, _, _, _, _, rfl⟩
  · rintro σ H11 ⟨s11, o8, o9, o10, o11, o12, o13, o14, rfl⟩
    refine later ?_
    simp only [y_v0, r_g0, y_v1, r_g1, y_v2, r_g2, y_v3, r_g3, y_v4, r_g4, y_v5, r_g5, y_v6, r_g6, y_v7, r_g7, y_v8, r_g8, y_v9, r_g9, y_v10, r_g10, y_v11, r_g11, y_v12, r_g12, y_v13, r_g13, y_v14, r_g14, y_v15, r_g15, r_c, r_op, r_un, y_I0, y_I, y_U, r_eqI, r_eqS, r_neI, r_neS, r_exbl, r_exint, r_test, r_B, r_and, r_or, r_not, r_andV, r_orV, r_notV, r_if, r_next, r_seqL, r_brk, r_cont, r_drop, r_ret, r_retN, r_ifS, r_asg, r_CB, r_nil, r_cons, r_call, r_tup, r_lst, r_p0, r_pS, r_disp, r_dget, r_sl, r_noPart, r_part, r_gNil, r_gCons, r_itF, r_nT, r_nF, r_len0, r_len1, r_len2, r_len3, r_len4, r_len7, r_len8, r_for, r_iEnum, r_iList, r_iTup, r_iRng1, r_iRng2, r_exI1, r_exI2, r_exR, r_bm, r_bm0, r_ixS, r_ixL, r_ixT, r_cat, r_slL, r_append, r_exRl, r_intB, true_and, and_true, forall_const, Int.reduceLT, r_compG, r_setComp, r_yes, r_slT, r_inR, r_notInR, cxOf_K, wish_K, blk_K, r_blk1, r_blk2, List.map_cons, List.map_nil, List.getElem?_cons_zero, List.getElem?_cons_succ, Option.join_some, r_Vs, r_join, r_tyStr, r_dnewK, r_dput, r_exRp, r_gSub, List.set_cons_zero, List.set_cons_succ, r_midL, r_sfld, r_gfld, r_meth, r_make, r_iRev, r_listRev, r_listVals, r_slRev, r_dget2, r_listRng, r_kget1, r_iEnumT]
    exact q _
end
end K22
set_option maxHeartbeats 4000000
namespace K22
open PySem L2 PyProof.Rows FD FB FS FO FR FG
section
variable {P : Program} {w : World} {K : PySem.W.Frag} {mg : Str → Option Value} {base : Heap} {t : Ad}
theorem law_binds (T : Txt K mg t) : ∀ (s : Shared) (u : Value), BindsTo s t.e_law ⟨[u], []⟩ [("_law_script", u)] := by
  obtain ⟨oc, od, kV, doc, pm, an, cdv, ct, osl, e, _, _⟩ := T.d_law.F.ex
  intro s u
  rw [e]
  exact .of_eq rfl
end
theorem walk {l : PySem.W.OpenLaw} {q : Program} {loose : List Str} {XP : (Str → Option Value) → Heap → Prop} {YP : World → Heap → Prop} {d : DefRec} {K : Params → PySem.W.Frag} (hn : l.most = some 63) (hdf : d.params.defaults = []) (hd : d.name = "law")
    (hY : ∀ (w : World) (h : Heap), YP w h → (K w.params).In h)
    (F : ∀ (w : World) (mg : Str → Option Value) (h : Heap), (K w.params).In h → h.Ns mainGlobals mg → ∃ t, Txt (K w.params) mg t) :
    PySem.W.WalkO q loose XP YP l.row.toRowW d [] (fun f vs => PySem.call f vs) := by
  refine L2.walk_ofL (n := 63) (k := 100) (x := "_law_script") (CX := fun _ => CX0) (sp := fun w => sp_law (K w.params)) hn (by decide) hdf ⟨rfl, by decide, by decide⟩ hY (fun w mg fa h KX G hmg => ?_) (fun _ _ a ns hl hb _ hS => ⟨a, ns, rfl, hS, hl, hb, fun _ => rfl⟩) fun _ _ _ _ _ z => z
  obtain ⟨t, T⟩ := F w mg h KX G
  rw [hd] at hmg
  have e0 := hmg.symm.trans T.d_law.M
  cases e0
  exact ⟨t.e_law, law_binds T, fun base _ _ => (ok_law T).mono (by decide)⟩
end K22
set_option maxHeartbeats 4000000
open PySem PySem.W PyProof.Rows
set_option maxRecDepth 100000 in
set_option maxHeartbeats 0 in
theorem PySem.Challenge.cw_deedloom_k22_blocks_for_all_words_holds : PySem.Challenge.rw_deedloom_k22_blocks_for_all_words.Holds := by
  w_on; o_law; k_head; (case hw => w_witness2)
  k_fill
  refine K22.walk (l := PySem.Challenge.rw_deedloom_k22_blocks_for_all_words) rfl rfl rfl (fun w h Y => PySem.W.kIn_of Y) ?F
  case F =>
    intro w mg h KX G
    refine' K22.all_mk KX G ?aK_MOST_DEEDS ?aC_Parting ?pg_Parting ?hd_Parting ?po_Parting ?sa_Parting ?mk_Parting ?kc_Parting ?n_Parting_blocks ?aC_Program ?pg_Program ?hd_Program ?po_Program ?sa_Program ?mk_Program ?kc_Program ?n_Program_width ?n_Program_ins ?n_Program_boxes ?n_Program_rows ?a0 ?l0 ?c0 ?k0 ?a1 ?i1 ?l1 ?c1 ?k1 ?a2 ?i2 ?l2 ?c2 ?k2 ?a3 ?i3 ?l3 ?c3 ?k3 ?a4 ?i4 ?l4 ?c4 ?k4 ?a5 ?i5 ?l5 ?c5 ?k5 ?a6 ?i6 ?l6 ?c6 ?k6 ?a7 ?i7 ?l7 ?c7 ?k7 ?a8 ?i8 ?l8 ?c8 ?k8 ?a9 ?i9 ?l9 ?c9 ?k9 ?a10 ?l10 ?c10 ?k10 ?a11 ?l11 ?c11 ?k11 ?a12 ?l12 ?c12 ?k12 ?a13 ?l13 ?c13 ?k13 ?a14 ?l14 ?c14 ?k14 ?a15 ?l15 ?c15 ?k15 ?a16 ?l16 ?c16 ?k16 ?a17 ?l17 ?c17 ?k17 ?a18 ?l18 ?c18 ?k18 ?a19 ?l19 ?c19 ?k19 ?a20 ?l20 ?c20 ?k20 ?a21 ?l21 ?c21 ?k21 ?a22 ?l22 ?c22 ?k22 ?a23 ?l23 ?c23 ?k23 ?a24 ?l24 ?c24 ?k24 ?a25 ?l25 ?c25 ?k25 ?a26 ?l26 ?c26 ?k26 ?a27 ?l27 ?c27 ?k27 ?a28 ?l28 ?c28 ?k28 ?a29 ?l29 ?c29 ?k29 ?a30 ?l30 ?c30 ?k30 ?a31 ?l31 ?c31 ?k31 ?a32 ?l32 ?c32 ?k32 ?a33 ?l33 ?c33 ?k33 ?z_range ?z_isinstance ?z_int ?z_bool ?z_len ?z_str ?z_tuple ?z_sum ?z_list ?z_min ?z_reversed
    (case aK_MOST_DEEDS => k_is)
    (case aC_Parting => k_is)
    (case pg_Parting => k_is)
    (case hd_Parting => k_is)
    (case po_Parting => k_is)
    (case sa_Parting => k_is)
    (case mk_Parting => k_is)
    (case kc_Parting => k_is)
    (case n_Parting_blocks => k_is)
    (case aC_Program => k_is)
    (case pg_Program => k_is)
    (case hd_Program => k_is)
    (case po_Program => k_is)
    (case sa_Program => k_is)
    (case mk_Program => k_is)
    (case kc_Program => k_is)
    (case n_Program_width => k_is)
    (case n_Program_ins => k_is)
    (case n_Program_boxes => k_is)
    (case n_Program_rows => k_is)
    (case a0 => k_is)
    (case l0 => k_is)
    (case c0 => k_is)
    (case k0 => k_is)
    (case a1 => k_is)
    (case i1 => k_is)
    (case l1 => k_is)
    (case c1 => k_is)
    (case k1 => k_is)
    (case a2 => k_is)
    (case i2 => k_is)
    (case l2 => k_is)
    (case c2 => k_is)
    (case k2 => k_is)
    (case a3 => k_is)
    (case i3 => k_is)
    (case l3 => k_is)
    (case c3 => k_is)
    (case k3 => k_is)
    (case a4 => k_is)
    (case i4 => k_is)
    (case l4 => k_is)
    (case c4 => k_is)
    (case k4 => k_is)
    (case a5 => k_is)
    (case i5 => k_is)
    (case l5 => k_is)
    (case c5 => k_is)
    (case k5 => k_is)
    (case a6 => k_is)
    (case i6 => k_is)
    (case l6 => k_is)
    (case c6 => k_is)
    (case k6 => k_is)
    (case a7 => k_is)
    (case i7 => k_is)
    (case l7 => k_is)
    (case c7 => k_is)
    (case k7 => k_is)
    (case a8 => k_is)
    (case i8 => k_is)
    (case l8 => k_is)
    (case c8 => k_is)
    (case k8 => k_is)
    (case a9 => k_is)
    (case i9 => k_is)
    (case l9 => k_is)
    (case c9 => k_is)
    (case k9 => k_is)
    (case a10 => k_is)
    (case l10 => k_is)
    (case c10 => k_is)
    (case k10 => k_is)
    (case a11 => k_is)
    (case l11 => k_is)
    (case c11 => k_is)
    (case k11 => k_is)
    (case a12 => k_is)
    (case l12 => k_is)
    (case c12 => k_is)
    (case k12 => k_is)
    (case a13 => k_is)
    (case l13 => k_is)
    (case c13 => k_is)
    (case k13 => k_is)
    (case a14 => k_is)
    (case l14 => k_is)
    (case c14 => k_is)
    (case k14 => k_is)
    (case a15 => k_is)
    (case l15 => k_is)
    (case c15 => k_is)
    (case k15 => k_is)
    (case a16 => k_is)
    (case l16 => k_is)
    (case c16 => k_is)
    (case k16 => k_is)
    (case a17 => k_is)
    (case l17 => k_is)
    (case c17 => k_is)
    (case k17 => k_is)
    (case a18 => k_is)
    (case l18 => k_is)
    (case c18 => k_is)
    (case k18 => k_is)
    (case a19 => k_is)
    (case l19 => k_is)
    (case c19 => k_is)
    (case k19 => k_is)
    (case a20 => k_is)
    (case l20 => k_is)
    (case c20 => k_is)
    (case k20 => k_is)
    (case a21 => k_is)
    (case l21 => k_is)
    (case c21 => k_is)
    (case k21 => k_is)
    (case a22 => k_is)
    (case l22 => k_is)
    (case c22 => k_is)
    (case k22 => k_is)
    (case a23 => k_is)
    (case l23 => k_is)
    (case c23 => k_is)
    (case k23 => k_is)
    (case a24 => k_is)
    (case l24 => k_is)
    (case c24 => k_is)
    (case k24 => k_is)
    (case a25 => k_is)
    (case l25 => k_is)
    (case c25 => k_is)
    (case k25 => k_is)
    (case a26 => k_is)
    (case l26 => k_is)
    (case c26 => k_is)
    (case k26 => k_is)
    (case a27 => k_is)
    (case l27 => k_is)
    (case c27 => k_is)
    (case k27 => k_is)
    (case a28 => k_is)
    (case l28 => k_is)
    (case c28 => k_is)
    (case k28 => k_is)
    (case a29 => k_is)
    (case l29 => k_is)
    (case c29 => k_is)
    (case k29 => k_is)
    (case a30 => k_is)
    (case l30 => k_is)
    (case c30 => k_is)
    (case k30 => k_is)
    (case a31 => k_is)
    (case l31 => k_is)
    (case c31 => k_is)
    (case k31 => k_is)
    (case a32 => k_is)
    (case l32 => k_is)
    (case c32 => k_is)
    (case k32 => k_is)
    (case a33 => k_is)
    (case l33 => k_is)
    (case c33 => k_is)
    (case k33 => k_is)
    (case z_range => k_is)
    (case z_isinstance => k_is)
    (case z_int => k_is)
    (case z_bool => k_is)
    (case z_len => k_is)
    (case z_str => k_is)
    (case z_tuple => k_is)
    (case z_sum => k_is)
    (case z_list => k_is)
    (case z_min => k_is)
    (case z_reversed => k_is)
